import PyProof.Rows.All
import Wide.All
import OpenK.AllK
import Wide.FinOn
import HandS.ForMost
import HandS.Wide
import HandS.Conv
import HandS.EndBits
import HandS.ForExc
import HandS.Style
import HandS.Codes
import HandS.Property
import HandS.MakeKwOnly
import HandS.IsInst
import HandS.TupAny
import HandS.Walk
import HandS.ExcInit
import HandS.ExcIs
import HandS.ExcField
import HandS.RaiseMore
import HandS.ExcOwn
import HandS.HotCalls
import HandS.Hot
import HandS.ExcValueHot
import HandS.Deep
import HandS.Text
import HandS.StrMore
import HandS.SuiteRaise
import HandS.RaiseFrom
import HandS.Replace
import HandS.ReplaceLit
import PyProof.Rows.StrDigitsNeg
import PyProof.StrLawsAffix
import HandS.Dict
import HandS.Finally
import HandS.Call
import HandS.FStr
import KE.IntTextText
import HandS.ExcInitHot
import PyProof.StrOps2
import PyProof.StrReplace2
import PyProof.MeetsStr3
import KE.KUnpackStar
import PyProof.Rows.MatchSeqLen
import PyProof.MakeMany
import HandS.Comp
import HandS.ExcCtx
import PySem.Challenge.RW_tightranges_k43_rules_in_texts
set_option Elab.async false
set_option linter.all false
set_option maxRecDepth 100000
namespace Gd
open PySem PySem.Spec PyProof.Rows L2

/-! ### a def called where no repr is under way -/
structure FnGd (P : Program) (w : World) (K : PySem.W.Frag) (mg : Str → Option Value)
    (base : Heap) (k : Nat) (f : Addr) (fd : FuncData) (ps : List Str) (sp : Sp) : Prop where
  len : ∀ vs H Q E, sp vs H Q E → vs.length = ps.length
  run : ∀ (A : Around) (out : List Env) (s : Shared) (H : Hp) (args : Args)
      (us : List Value) (vs : List V) (Q : VK) (E : XK),
      A.guards = some [] → Room k A → Env0 P w K mg base A out s H →
      BindsTo s fd args (ps.zip us) → Vals vs us → sp vs H Q E →
      codeAny (model P w) A (.call (.ref f) args) (CR CX0 out P w H s Q E) s

section
variable {P : Program} {w : World} {K : PySem.W.Frag} {mg : Str → Option Value} {base : Heap}

theorem okG {x qual : Str} {st : Stmt} {f : Addr} {fd : FuncData} {N ps : List Str} {k : Nat} {sp : Sp}
    (F : Fun K x qual st f fd) (S : FnScope N ps (defScope st))
    (len : ∀ vs H Q E, sp vs H Q E → vs.length = ps.length)
    (hb : ∀ (cdv : Value) (A : Around) (out : List Env) (s : Shared) (H : Hp) (vs : List V) (Q : VK) (E : XK),
      (A.deeper (envOfC qual (defScope st) s.heap.objs.size f cdv)).guards = some [] →
      Room k (A.deeper (envOfC qual (defScope st) s.heap.objs.size f cdv)) → sp vs H Q E →
      ∃ t, PSs (cxOf CX0 P w K mg base N qual (defScope st) f cdv A out s H E).nox (defBody st) t ∧
        t { nx := fun _ H' => Q .non H', rt := Q } (start N vs) H) :
    FnGd P w K mg base (k + 1) f fd ps sp := by
  obtain ⟨oc, od, kV, doc, pm, an, cdv, ct, osl, rfl, lk, cdok⟩ := F.ex
  constructor
  · exact len
  intro A out s H args us vs Q E gA rm env bnd rel pre
  have pl := len vs H Q E pre
  have keep : ∀ b o, base.get? b = some o → s.heap.get? b = some o := fun b o e => (env.bs b o e).1
  have kin := env.mod.kin.keeps keep
  have nol := env.mod.nolimit.keeps keep
  refine codeAny_call_function rm.depth (kin _ _ lk) rfl S.co S.gen rfl
    (PySem.W.codeRec_of kin cdok) (bnd _ _ _ _ ?_)
  refine wpAny_newFunctionEnv_cells S.kind ?_ fun en he s1 xx => ?_
  · rintro ⟨nm, val⟩ mem
    cases S.par nm (List.of_mem_zip mem).1 with
    | inl q => exact .inl q
    | inr q => exact .inr ⟨q, PySem.W.cellsFrom_some _ _ _ (.inl q)⟩
  subst he
  refine ⟨nol.keeps xx.toInCall.keep, codeAny_func ?_⟩
  obtain ⟨t, ht, hq⟩ := hb cdv A out s H vs Q E gA (rm.deeper _) pre
  have J0 := inv_start (CX := CX0) (E := E) (qual := qual) (f := f) (cd := cdv) S rm.hd env pl rel xx
  refine wpAny_mono (ht.nox.run [] s1 (start N vs) H _ J0 hq) ?_ (fun _ _ z => z)
  intro fl s' post
  cases fl with
  | next =>
    obtain ⟨_, H', J, q⟩ := post
    exact ⟨.non, H', J.os, J.bare, J.base, J.hok, rfl, q⟩
  | ret u =>
    obtain ⟨v, _, H', J, rv, q⟩ := post
    exact ⟨v, H', J.os, J.bare, J.base, J.hok, rv, q⟩
  | brk =>
    obtain ⟨_, _, _, no⟩ := post
    cases no
  | cont =>
    obtain ⟨_, _, _, no⟩ := post
    cases no

/-- the law's call at its own place: nothing is under way there -/
theorem lawG {mb : Str → Option Value} {k : Nat} {fa a : Addr} {fd : FuncData} {x : Str} {sp : Sp}
    {s : Shared} {vs : List Value} {ns : List Int}
    (kin : K.In s.heap) (glo : s.heap.Ns mainGlobals mg) (blt : s.heap.Ns builtinsNs mb)
    (boot : ∀ x : Str, x ≠ "__name__" → mb x = bootBuiltins x) (nol : s.heap.NoLimit) (gen : s.gens = #[])
    (obj : s.heap.get? a = some { cls := .type "list", data := .seq vs.toArray }) (insc : IntsAre vs ns)
    (short : ns.length ≤ sizeLine) (rm : Room k callerA)
    (F : ∀ base : Heap, K.In base → base.Ns mainGlobals mg → FnGd P w K mg base k fa fd [x] sp)
    (bnd : ∀ (s : Shared) (u : Value), BindsTo s fd ⟨[u], []⟩ [(x, u)])
    (pre : ∀ H : Hp, SqL K H a (ns.map V.int) → sp [.ref a] H (fun v _ => v = .bl true) E0) :
    codeAny (model P w) callerA (.call (.ref fa) ⟨[.ref a], []⟩)
      (fun r s' => r = .ok (.ret (.bool true)) ∧ OldK s.heap s'.heap ∧ s'.os = s.os ∧ AllBare s'.gens) s := by
  have rel : Vals (ns.map V.int) vs := vals_ints insc
  have cnt : vs.length = ns.length := insc.length
  let scr : Obj := { cls := .type "list", data := .seq vs.toArray }
  -- what is tracked at first: the script, unless the module knows it
  let H : Hp := fun b => if b = a ∧ K.lookup a = none then some (.frz scr (.lst (ns.map V.int))) else none
  have track : ∀ b u, H b = some u → b = a ∧ K.lookup a = none ∧ u = .frz scr (.lst (ns.map V.int)) := by
    intro b u e
    by_cases c : b = a ∧ K.lookup a = none
    · have e2 : some (HO.frz scr (.lst (ns.map V.int))) = some u := (if_pos c).symm.trans e
      exact ⟨c.1, c.2, (Option.some.inj e2).symm⟩
    · have e2 : (none : Option HO) = some u := (if_neg c).symm.trans e
      cases e2
  have isl : SqL K H a (ns.map V.int) := by
    cases q : K.lookup a with
    | none => exact .inl (.inr ⟨scr, if_pos ⟨rfl, q⟩⟩)
    | some o =>
      have o2 := kin a o q
      rw [obj] at o2
      cases o2
      exact .inr ⟨_, vs.toArray, _, q, rfl, rfl, rfl, by rw [List.size_toArray, cnt]; exact short, by simpa using rel⟩
  have hok : HOk P w H s.heap := by
    intro b u e
    obtain ⟨rfl, _, rfl⟩ := track b u e
    exact ⟨obj, by rw [List.length_map]; exact short, vs, _, rel, obj⟩
  have nodict : ∀ {b : Addr} {o : Obj} {es : Array DictEntry} {ep : Nat}, s.heap.get? b = some o → o.data = .dict es ep → H b = none := by
    intro b o es ep e d
    cases q : H b with
    | none => rfl
    | some u =>
      obtain ⟨rfl, _, _⟩ := track b u q
      rw [obj] at e
      cases e
      cases (show Data.seq vs.toArray _ = Data.dict es ep from d)
  have nspace : ∀ {b : Addr} {m : Str → Option Value}, s.heap.Ns b m → (hidT s.heap H).Ns b m := by
    rintro b m ⟨o, es, ep, e, d, r⟩
    exact ⟨o, es, ep, hidT_get e (nodict e d), d, r⟩
  have kin2 : K.In (hidT s.heap H) := by
    intro b o e
    refine hidT_get (kin b o e) ?_
    cases q : H b with
    | none => rfl
    | some u =>
      obtain ⟨rfl, n, _⟩ := track b u q
      rw [n] at e
      cases e
  have mod : Mod K mg (hidT s.heap H) := by
    refine ⟨kin2, nspace glo, ⟨mb, nspace blt, boot⟩, ?_⟩
    obtain ⟨mc, n1, n2⟩ := nol
    exact ⟨mc, nspace n1, n2⟩
  have env : Env0 P w K mg (hidT s.heap H) callerA [] s H := by
    refine ⟨rfl, mod, fun b o e => of_hidT e, Nat.le_of_eq (hidT_size _ _), trivial, ?_, hok, .of_eq gen⟩
    intro b m
    cases (show b ∈ ([] : List Addr) from m)
  have run := (F _ kin2 (nspace glo)).run callerA [] s H ⟨[.ref a], []⟩ [.ref a] [.ref a] _ _ rfl rm env
    (bnd s (.ref a)) (.cons rfl .nil) (pre H isl)
  refine codeAny_mono run ?_
  intro r s' post
  cases r with
  | error e => exact (post : False).elim
  | ok fl =>
    cases fl with
    | ret u =>
      obtain ⟨v, H', os, bare, un, hok', rv, vt⟩ := post
      have vt' : v = .bl true := vt
      subst vt'
      have ut : u = Value.bool true := rv
      subst ut
      refine ⟨rfl, OldK.of_keep ?_, os, bare⟩
      intro b o e
      cases q : H b with
      | none => exact un.keep b o e q (fun m => by cases (show b ∈ ([] : List Addr) from m)) (by simp)
      | some u2 =>
        obtain ⟨rfl, _, rfl⟩ := track b u2 q
        have stays := un.frzs b _ _ q
        have o1 := (hok b _ q).1
        have o2 := (hok' b _ stays).1
        rw [e] at o1
        cases o1
        exact o2
    | next => exact (post : False).elim
    | brk => exact (post : False).elim
    | cont => exact (post : False).elim
end

/-- the end of a law's proof -/
theorem walkG {l : PySem.W.OpenLaw} {n k : Nat} {q : Program} {loose : List Str} {XP : (Str → Option Value) → Heap → Prop}
    {YP : World → Heap → Prop} {d : DefRec} {K : Params → PySem.W.Frag} {sp : World → Sp} {x : Str}
    (most : l.most = some n) (small : n ≤ sizeLine) (plain : d.params.defaults = []) (rm : Room k callerA)
    (hY : ∀ (w : World) (h : Heap), YP w h → (K w.params).In h)
    (F : ∀ (w : World) (mg : Str → Option Value) (fa : Addr) (h : Heap),
      (K w.params).In h → h.Ns mainGlobals mg → mg d.name = some (.ref fa) →
      ∃ fd : FuncData, (∀ (s : Shared) (u : Value), BindsTo s fd ⟨[u], []⟩ [(x, u)]) ∧
        ∀ base : Heap, (K w.params).In base → base.Ns mainGlobals mg →
          FnGd l.prog w (K w.params) mg base k fa fd [x] (sp w))
    (pre : ∀ (w : World) (H : Hp) (a : Addr) (ns : List Int), ns.length ≤ n → (∀ z ∈ ns, Builtin.Int.intBits z ≤ 1048576) →
      SqL (K w.params) H a (ns.map V.int) → sp w [.ref a] H (fun v _ => v = .bl true) E0) :
    PySem.W.WalkO q loose XP YP l.row.toRowW d [] (fun f vs => PySem.call f vs) := by
  apply Att.attach_callB most plain
  intro w s0 s1 mg mb fa o pm cd doc a vs ns G Y _ _ _ named obj insc le bits gen
  obtain ⟨fd, bnd, all⟩ := F w mg fa _ (hY w _ Y) G.T.g named
  exact lawG (hY w _ Y) G.T.g G.T.b G.T.builtins G.T.nolimit gen obj insc (Nat.le_trans le small) rm all bnd
    fun H isl => pre w H a ns le bits isl

/-! ### rules -/
section
variable {X : Cx}
/-- repr of data -/
theorem call_repr {k : Nat} (gd : X.A.guards = some []) (hr : Room k X.A) : CallR X (.builtin "repr") (fun xs H Q => ∃ v d, xs = [v] ∧
    Dp X.K H v d ∧ d.hasDict = false ∧ d.showable = true ∧ d.depth ≤ 64 ∧ d.shown.length ≤ sizeLine ∧ (∃ a, v = .ref a) ∧ Q (.str d.shown) H) := by
  intro pins s σ H xs us Q I r h
  obtain ⟨v, d, rfl, dp, nod, sh, deep, fits, ⟨a, rfl⟩, q⟩ := h
  obtain ⟨u, rfl, ru⟩ := vals1 r
  cases ru
  obtain ⟨as, rd⟩ := Dp.reads I d _ _ dp rfl
  have room := hr.un
  refine repr_of_reads' rd sh (PyData.noDict_hsm nod) gd (by omega) (fun _ _ e => e) ?_ fits
  intro h' u tk keep
  exact ⟨.str _, H, I.kept keep, ⟨u, rfl⟩, q⟩
/-- i ** j, of great i -/
def CPowW (i j : Int) : Prop := 0 ≤ j ∧ (Builtin.Int.intBits i : Int) * j ≤ 2 ^ 27
theorem op_powW : OpR X (binaryOp .Pow) (rI CPowW fun i j => .int (i ^ j.toNat)) :=
  opI fun _ _ _ _ _ _ _ hc q => pow_int hc.1 hc.2 q
end
end Gd

set_option Elab.async false
set_option linter.all false
set_option maxRecDepth 100000
namespace Gd
open PySem PySem.Spec PyProof.Rows L2

/-! ### a def of the text, with all that a caller needs -/
structure Dn (P : Program) (w : World) (K : PySem.W.Frag) (mg : Str → Option Value) (base : Heap)
    (k : Nat) (x : Str) (st : Stmt) (ps : List Str) (sp : Sp) : Prop where
  ex : ∃ f fd, Fun K x x st f fd ∧ Binds K fd ps [] ∧ mg x = some (.ref f) ∧ FnOk P w K mg base CX0 k f fd ps sp
structure DnG (P : Program) (w : World) (K : PySem.W.Frag) (mg : Str → Option Value) (base : Heap)
    (k : Nat) (x : Str) (st : Stmt) (ps : List Str) (sp : Sp) : Prop where
  ex : ∃ f fd, Fun K x x st f fd ∧ Binds K fd ps [] ∧ mg x = some (.ref f) ∧ FnGd P w K mg base k f fd ps sp
section
variable {P : Program} {w : World} {K : PySem.W.Frag} {mg : Str → Option Value} {base : Heap}
/-- where a def stands -/
def At (K : PySem.W.Frag) (mg : Str → Option Value) (x : Str) (st : Stmt) (ps : List Str) : Prop :=
  ∃ f fd, Fun K x x st f fd ∧ Binds K fd ps [] ∧ mg x = some (.ref f)
theorem Dn.mk' {x : Str} {st : Stmt} {ps : List Str} {k : Nat} {sp : Sp} (h : At K mg x st ps)
    (ok : ∀ f fd, Fun K x x st f fd → FnOk P w K mg base CX0 k f fd ps sp) : Dn P w K mg base k x st ps sp := by
  obtain ⟨f, fd, F, b, g⟩ := h
  exact ⟨f, fd, F, b, g, ok f fd F⟩
theorem DnG.mk' {x : Str} {st : Stmt} {ps : List Str} {k : Nat} {sp : Sp} (h : At K mg x st ps)
    (ok : ∀ f fd, Fun K x x st f fd → FnGd P w K mg base k f fd ps sp) : DnG P w K mg base k x st ps sp := by
  obtain ⟨f, fd, F, b, g⟩ := h
  exact ⟨f, fd, F, b, g, ok f fd F⟩
end

/-- the reading of a call that raises nothing -/
def tCl (sp : Sp) (t : TA) : TE := fun σ H Q => t σ H fun vs H1 => sp vs H1 Q E0
def tClK (sp : Sp) (gV : List V → List V → List V) (t tk : TA) : TE := fun σ H Q => t σ H fun vs H1 => tk σ H1 fun zs H2 => sp (gV vs zs) H2 Q E0
section
variable {K : PySem.W.Frag} {x qual : Str} {st : Stmt} {f : Addr} {fd : FuncData} {ps ks : List Str}
theorem kb_of0 (n : Nat) (F : Fun K x qual st f fd) (g : {α : Type} → List α → List α → List α)
    (h : ∀ (kV doc pm : Value) (an : Option Addr) (cdv ct : Value) (us ws : List Value), us.length = n → ws.length = ks.length →
      bindArgs (PySem.W.fnOf x qual (defArgs st) (defBody st) (defScope st) .none kV doc pm an cdv ct) ⟨us, ks.zip ws⟩ = pure (ps.zip (g us ws))) :
    ∀ (s : Shared) (us ws : List Value), us.length = n → ws.length = ks.length → BindsTo s fd ⟨us, ks.zip ws⟩ (ps.zip (g us ws)) := by
  obtain ⟨oc, od, kV, doc, pm, an, cdv, ct, osl, rfl, lk, hcd⟩ := F.ex
  intro s us ws h1 h2
  exact .of_eq (h kV doc pm an cdv ct us ws h1 h2)
end
section
variable {X : Cx} {x : Str} {st : Stmt} {ps ks : List Str} {sp : Sp} {k j n : Nat} {e : Expr} {es : List Expr} {kws : List Keyword} {t tk : TA} {p pos : Pos}
/-- a call of a def that has its promise -/
theorem pe_c (D : Dn X.prog X.w X.K X.mg X.base k x st ps sp) (hr : Room j X.A) (hg : Gl X x) (ha : PA X (e :: es) t) (hk : k ≤ j := by decide)
    (hdb : (x == ("__debug__" : Str)) = false := by decide) (he : starEach (e :: es) X.env = (false, eval e X.env) :: starEach es X.env := by rfl)
    (hpl : (backTo pos (starEach es X.env)).any (·.1) = false := by rfl) :
    PE X (.Call (.Name x p) (e :: es) [] pos) (tCl sp t) := by
  obtain ⟨f, fd, F, b, g, ok⟩ := D.ex
  refine ⟨fun pins s σ H Q I h => ?_⟩
  refine wpAny_Call_Name_kw (ld_glob I hg g ?_ hdb)
  refine PySem.W.callWith_K (h₀ := X.base) I.ok.mod.kin F.kp (thn (ha.run pos pins s σ H _ I h) fun us s1 got => ?_) he hpl
  obtain ⟨vs, H1, I1, r1, q1⟩ := got
  refine ⟨I1.kIn, ?_⟩
  exact run_fn (dvs := []) ok (hr.mono hk) b .nil pass0 I1 r1 (by rw [List.append_nil]; exact q1)
theorem pe_cG (gd : X.A.guards = some []) (D : DnG X.prog X.w X.K X.mg X.base k x st ps sp) (hr : Room j X.A) (hg : Gl X x) (ha : PA X (e :: es) t) (hk : k ≤ j := by decide)
    (hdb : (x == ("__debug__" : Str)) = false := by decide) (he : starEach (e :: es) X.env = (false, eval e X.env) :: starEach es X.env := by rfl)
    (hpl : (backTo pos (starEach es X.env)).any (·.1) = false := by rfl) :
    PE X (.Call (.Name x p) (e :: es) [] pos) (tCl sp t) := by
  obtain ⟨f, fd, F, b, g, ok⟩ := D.ex
  refine ⟨fun pins s σ H Q I h => ?_⟩
  refine wpAny_Call_Name_kw (ld_glob I hg g ?_ hdb)
  refine PySem.W.callWith_K (h₀ := X.base) I.ok.mod.kin F.kp (thn (ha.run pos pins s σ H _ I h) fun us s1 got => ?_) he hpl
  obtain ⟨vs, H1, I1, r1, q2⟩ := got
  refine ⟨I1.kIn, ?_⟩
  have cnt : us.length = ps.length := by
    rw [← r1.length]
    exact ok.len _ _ _ _ q2
  have bnd : BindsTo s1 fd ⟨us, []⟩ (ps.zip us) := by
    have z := b s1 us I1.kIn (by simpa using cnt)
    simpa using z
  refine wpAny_call (codeAny_mono (ok.run X.A X.stack s1 H1 ⟨us, []⟩ us vs _ E0 gd (hr.mono hk) I1.env0 bnd r1 q2) ?_)
  intro r s' post
  cases r with
  | error e => exact (post : False).elim
  | ok fl =>
    cases fl with
    | ret u => exact I1.after post
    | next => exact (post : False).elim
    | brk => exact (post : False).elim
    | cont => exact (post : False).elim
/-- how the keywords bind -/
def KwTo (K : PySem.W.Frag) (x : Str) (st : Stmt) (ps ks : List Str) (n : Nat) (g : {α : Type} → List α → List α → List α) : Prop :=
  (∀ {vs zs : List V} {us ws : List Value}, vs.length = n → zs.length = ks.length → Vals vs us → Vals zs ws → Vals (g vs zs) (g us ws)) ∧
  ∀ f fd, Fun K x x st f fd → ∀ (s : Shared) (us ws : List Value), us.length = n → ws.length = ks.length → BindsTo s fd ⟨us, ks.zip ws⟩ (ps.zip (g us ws))
def tClN (n m : Nat) (sp : Sp) (gV : List V → List V → List V) (t tk : TA) : TE := fun σ H Q => t σ H fun vs H1 => tk σ H1 fun zs H2 => vs.length = n ∧ zs.length = m ∧ sp (gV vs zs) H2 Q E0
/-- f(k = v, ..) -/
theorem pe_cz {g : {α : Type} → List α → List α → List α} (D : Dn X.prog X.w X.K X.mg X.base k x st ps sp) (hr : Room j X.A) (kb : KwTo X.K x st ps ks 0 g) (hg : Gl X x) (hkw : PK X kws tk) (hk : k ≤ j := by decide)
    (hall : (backToKw pos (keywordEach kws X.env)).all (·.1.isSome) = true := by rfl) (hks : (backToKw pos (keywordEach kws X.env)).filterMap (·.1) = ks := by rfl)
    (hdb : (x == ("__debug__" : Str)) = false := by decide)
    (hpl : ((backTo pos (starEach [] X.env)).any (·.1) || (backToKw pos (keywordEach kws X.env)).any (·.1.isNone)) = false := by rfl) :
    PE X (.Call (.Name x p) [] kws pos) (tClN 0 ks.length sp g tNil tk) := by
  obtain ⟨f, fd, F, b, gg, ok⟩ := D.ex
  refine ⟨fun pins s σ H Q I h => ?_⟩
  refine wpAny_Call_Name_kw (ld_glob I hg gg ?_ hdb)
  refine PySem.W.callWith_KW0 (h₀ := X.base) I.ok.mod.kin F.kp hall ?_ hpl
  refine thn (hkw.run pos pins s σ H _ I h) fun ws s2 got => ?_
  obtain ⟨zs, H2, I2, rz, l1, l2, q2⟩ := got
  refine ⟨I2.kIn, ?_⟩
  rw [hks]
  have rel := kb.1 l1 l2 Paired.nil rz
  have bnd := kb.2 f fd F s2 [] ws rfl (rz.length.symm.trans l2)
  refine wpAny_call (codeAny_mono (ok.run X.A X.stack s2 H2 ⟨[], ks.zip ws⟩ _ _ _ E0 (hr.mono hk) I2.env0 bnd rel q2) ?_)
  intro r s' post
  cases r with
  | error e => exact (post : False).elim
  | ok fl =>
    cases fl with
    | ret u => exact I2.after post
    | next => exact (post : False).elim
    | brk => exact (post : False).elim
    | cont => exact (post : False).elim
end

/-! ### heaps: all but the draws' list stays -/
def Kp (a : Addr) (H H' : Hp) : Prop := ∀ b o, b ≠ a → H b = some o → H' b = some o
theorem Kp.refl {a : Addr} {H : Hp} : Kp a H H := fun _ _ _ e => e
theorem Kp.trans {a : Addr} {H H1 H2 : Hp} (x : Kp a H H1) (y : Kp a H1 H2) : Kp a H H2 := fun b o n e => y b o n (x b o n e)
theorem Kp.of {a : Addr} {H H' : Hp} (x : Same H H') : Kp a H H' := fun b o _ e => x b o e
theorem Kp.at {a : Addr} {H : Hp} {o : HO} : Kp a H (upd H a o) := fun b u n e => by rw [upd_ne n]; exact e
theorem Kp.new {a p : Addr} {H : Hp} {o : HO} (n : H p = none) : Kp a H (upd H p o) := fun b u _ e => by rw [upd_ne (ne_of_none e n)]; exact e
theorem Same.new {p : Addr} {H : Hp} {o : HO} (n : H p = none) : Same H (upd H p o) := fun b u e => by rw [upd_ne (ne_of_none e n)]; exact e
theorem SqT.same {K : PySem.W.Frag} {H H' : Hp} {b : Addr} {xs : List V} (k : Same H H') (h : SqT K H b xs) : SqT K H' b xs := by
  rcases h with (h | ⟨o, h⟩) | h
  · exact .inl (.inl (k _ _ h))
  · exact .inl (.inr ⟨o, k _ _ h⟩)
  · exact .inr h
/-- the draws' state: its list of three ints, after at most n draws -/
structure RS (n : Nat) (H : Hp) (a : Addr) : Prop where
  ok : ∃ d s t : Int, H a = some (.lst [.int d, .int s, .int t]) ∧ 0 ≤ d ∧ d.natAbs < 2 ^ 13000 ∧ 0 ≤ s ∧ s < 2305843009213693951 ∧ 0 ≤ t ∧ t ≤ n
theorem RS.mono {n m : Nat} {H : Hp} {a : Addr} (h : n ≤ m) (r : RS n H a) : RS m H a := by
  obtain ⟨d, s, t, e, h1, h2, h3, h4, h5, h6⟩ := r.ok
  exact ⟨d, s, t, e, h1, h2, h3, h4, h5, by omega⟩
theorem RS.same {n : Nat} {H H' : Hp} {a : Addr} (r : RS n H a) (k : Same H H') : RS n H' a := by
  obtain ⟨d, s, t, e, r⟩ := r.ok
  exact ⟨d, s, t, k _ _ e, r⟩
theorem RS.ne {n : Nat} {H : Hp} {a b : Addr} {o : HO} (r : RS n H a) (e : H b = some o) (no : ∀ xs, o ≠ .lst xs) : b ≠ a := by
  obtain ⟨d, s, t, e2, _⟩ := r.ok
  exact ne_of e e2 (no _)
theorem SqT.kp {K : PySem.W.Frag} {n : Nat} {H H' : Hp} {a b : Addr} {xs : List V} (r : RS n H a) (k : Kp a H H') (h : SqT K H b xs) : SqT K H' b xs := by
  rcases h with (h | ⟨o, h⟩) | h
  · exact .inl (.inl (k _ _ (r.ne h (fun _ z => by cases z)) h))
  · exact .inl (.inr ⟨o, k _ _ (r.ne h (fun _ z => by cases z)) h⟩)
  · exact .inr h

/-! ### ranges -/
abbrev Rg := Option (Option Int × Option Int)
def ov : Option Int → V
  | none => .non
  | some i => .int i
def RgV (K : PySem.W.Frag) (H : Hp) (v : V) : Rg → Prop
  | none => v = .non
  | some (l, h) => ∃ p, v = .ref p ∧ SqT K H p [ov l, ov h]
theorem RgV.same {K : PySem.W.Frag} {H H' : Hp} {v : V} {r : Rg} (k : Same H H') (h : RgV K H v r) : RgV K H' v r := by
  cases r with
  | none => exact h
  | some q =>
    obtain ⟨p, e, s⟩ := h
    exact ⟨p, e, SqT.same k s⟩
theorem RgV.kp {K : PySem.W.Frag} {n : Nat} {H H' : Hp} {a : Addr} {v : V} {r : Rg} (rs : RS n H a) (k : Kp a H H') (h : RgV K H v r) : RgV K H' v r := by
  cases r with
  | none => exact h
  | some q =>
    obtain ⟨p, e, s⟩ := h
    exact ⟨p, e, SqT.kp rs k s⟩
/-- Range check accepts it -/
def RgFit : Rg → Prop
  | some (some l, some h) => l ≤ h
  | _ => True
end Gd

set_option Elab.async false
set_option linter.all false
set_option maxRecDepth 100000
namespace Gd
open PySem PySem.Spec PyProof.Rows L2

theorem inV_ints (z : Int) : ∀ ns : List Int, inV (.int z) (ns.map V.int) = decide (z ∈ ns)
  | [] => rfl
  | n :: ns => by
    have ih := inV_ints z ns
    unfold inV at ih ⊢
    rw [List.map_cons, List.any_cons, ih]
    show ((n == z) || decide (z ∈ ns)) = decide (z ∈ n :: ns)
    by_cases h : n = z
    · subst h
      simp
    · have h2 : ¬ z = n := fun e => h e.symm
      simp [h, h2]
theorem flat_ints : ∀ ns : List Int, (ns.map V.int).all flatV = true
  | [] => rfl
  | _ :: ns => flat_ints ns
theorem dp_ints {K : PySem.W.Frag} {H : Hp} : ∀ ns : List Int, DpAll K H (ns.map V.int) (ns.map PyData.int)
  | [] => .nil
  | n :: ns => .cons (.int n) (dp_ints ns)
theorem canLay_ints : ∀ ns : List Int, PyData.canLayAll0 (ns.map PyData.int) = true
  | [] => rfl
  | n :: ns => by
    rw [List.map_cons]
    unfold PyData.canLayAll0
    rw [canLay_ints ns]
    rfl
theorem depth_ints : ∀ ns : List Int, PyData.depthAll (ns.map PyData.int) ≤ 1
  | [] => by simp [PyData.depthAll]
  | n :: ns => by
    have ih := depth_ints ns
    simp only [List.map_cons, PyData.depthAll, PyData.depth]
    omega
theorem shaped_ints (ns : List Int) : SeqAt.shaped (.list (ns.map PyData.int)) = true := by
  unfold SeqAt.shaped
  have h1 : PyData.canLay0 (.list (ns.map PyData.int)) = true := by
    have e : PyData.canLay0 (.list (ns.map PyData.int)) = PyData.canLayAll0 (ns.map PyData.int) := by simp [PyData.canLay0]
    rw [e]
    exact canLay_ints ns
  have h2 : PyData.depth (.list (ns.map PyData.int)) ≤ 64 := by
    have := depth_ints ns
    simp only [PyData.depth]
    omega
  rw [h1, decide_eq_true h2]
  rfl
theorem eqv_ints_nil (ns : List Int) : PyData.eqv (.list (ns.map PyData.int)) (.list []) = decide (ns = []) := by
  cases ns with
  | nil => simp [PyData.eqv, PyData.eqvAll]
  | cons n ns => simp [PyData.eqv, PyData.eqvAll]
/-- [x for x in xs if test] over ints, the test a function of the int -/
theorem lc_filter {K : PySem.W.Frag} {j : Nat} {tt : TT} {σ : L2.St} {H : Hp} {Qd : Hp → Prop} {a D : Addr} (ns : List Int) (p : Int → Bool)
    (hl : SqL K H a (ns.map V.int)) (hz : ns.length ≤ 100000) (nD : H D = none)
    (hw : ∀ z : Int, wipe ((wipe σ [j]).set j (some (.int z))) [j] = wipe σ [j])
    (hg : ∀ z : Int, ((wipe σ [j]).set j (some (.int z)))[j]? = some (some (.int z)))
    (ht : ∀ (z : Int) (H' : Hp) (R : Bool → Hp → Prop), Same H H' → R (p z) H' → tt ((wipe σ [j]).set j (some (.int z))) H' R)
    (q : Qd (upd H D (.lst ((ns.filter p).map V.int)))) :
    ∃ Z : Nat → Nat → Hp → Prop, (∃ m, Z 0 m (upd H D (.lst []))) ∧
      ∀ i m G, Z i m G →
        ((Itl K a).stop i G ∧ Qd G) ∨
        ((Itl K a).go i G ∧ ∃ N : Hp → Prop, (∀ G', N G' → ∃ m', m' < m ∧ Z (i + 1) m' G') ∧
          ∀ x G', (Itl K a).yld i G x G' →
            gName j x (wipe σ [j]) G' fun σ2 G2 =>
              wipe σ2 [j] = wipe σ [j] ∧
              tt σ2 G2 fun b G3 =>
                if b = true then
                  tVar j σ2 G3 fun y G4 =>
                    ∃ acc, G4 D = some (.lst acc) ∧ acc.length < sizeLine ∧
                      N (upd G4 D (.lst (acc ++ [y])))
                else N G3) := by
  refine lc_list (K := K) (a := a) (xs := ns.map V.int) (fun i H' => H' = upd H D (.lst (((ns.take i).filter p).map V.int))) rfl ?_ ?_ ?_
  · intro i H' _ e
    subst e
    exact (Same.new nD).seq hl
  · intro i x H' hx e
    subst e
    rw [List.getElem?_map] at hx
    cases c : ns[i]? with
    | none =>
      rw [c] at hx
      cases hx
    | some z =>
      rw [c] at hx
      have ex : V.int z = x := Option.some.inj hx
      subst ex
      have lt : i < ns.length := (List.getElem?_eq_some_iff.mp c).1
      have tk : (ns.take (i + 1)).filter p = (ns.take i).filter p ++ (if p z = true then [z] else []) := by
        rw [List.take_add_one, c]
        show ((ns.take i) ++ [z]).filter p = _
        rw [List.filter_append]
        by_cases c2 : p z = true
        · rw [if_pos c2]; simp [c2]
        · rw [if_neg c2]; simp [c2]
      refine ⟨hw z, ht z _ _ (Same.new nD) ?_⟩
      by_cases c2 : p z = true
      · rw [c2]
        refine iteT ⟨_, hg z, _, upd_same, ?_, ?_⟩
        · rw [List.length_map]
          have h1 : ((ns.take i).filter p).length ≤ (ns.take i).length := List.length_filter_le _ _
          have h2 : (ns.take i).length ≤ ns.length := List.length_take_le' ..
          exact Nat.lt_of_le_of_lt (Nat.le_trans (Nat.le_trans h1 h2) hz) (by decide)
        · rw [upd_upd, tk, if_pos c2, List.map_append]
          rfl
      · have c3 : p z = false := by simpa using c2
        rw [c3]
        refine iteF ?_
        show upd H D _ = upd H D _
        rw [tk, if_neg c2, List.append_nil]
  · intro H' e
    subst e
    rw [List.length_map, List.take_length]
    exact q
end Gd

set_option Elab.async false
set_option linter.all false
set_option maxRecDepth 100000
set_option autoImplicit false
namespace Gd
open PySem PySem.Spec PyProof.Rows L2

/-! ### data whose text is short -/
structure DOk (n k : Nat) (d : PyData) : Prop where
  short : d.leavesShort 72 = true
  bulk : d.bulk ≤ n
  nod : d.hasDict = false
  shw : d.showable = true
  lay : d.canLay0 = true
  deep : d.depth ≤ k
structure DAll (n k : Nat) (ds : List PyData) : Prop where
  short : PyData.leavesShortAll 72 ds = true
  bulk : PyData.bulkAll ds ≤ n
  nod : PyData.hasDictAll ds = false
  shw : PyData.showableAll ds = true
  lay : PyData.canLayAll0 ds = true
  deep : PyData.depthAll ds ≤ k
theorem DOk.mono {n m k j : Nat} {d : PyData} (h : DOk n k d) (a : n ≤ m) (b : k ≤ j) : DOk m j d :=
  ⟨h.short, Nat.le_trans h.bulk a, h.nod, h.shw, h.lay, Nat.le_trans h.deep b⟩
theorem DAll.mono {n m k j : Nat} {ds : List PyData} (h : DAll n k ds) (a : n ≤ m) (b : k ≤ j) : DAll m j ds :=
  ⟨h.short, Nat.le_trans h.bulk a, h.nod, h.shw, h.lay, Nat.le_trans h.deep b⟩
theorem DOk.none : DOk 0 1 .none := ⟨rfl, Nat.le_refl _, rfl, rfl, rfl, by simp [PyData.depth]⟩
theorem DOk.bool (b : Bool) : DOk 0 1 (.bool b) := ⟨rfl, Nat.le_refl _, rfl, rfl, rfl, by simp [PyData.depth]⟩
theorem DOk.int {i : Int} (h : i.natAbs < 10 ^ 60) : DOk 0 1 (.int i) := by
  refine ⟨?_, Nat.le_refl _, rfl, ?_, rfl, by simp [PyData.depth]⟩
  · have e := int_text_length_le10 (k := 60) (by decide) h
    unfold PyData.leavesShort
    refine decide_eq_true ?_
    show (Str.ofString (toString i)).length ≤ 72
    rw [PySem.ofString_length]
    omega
  · unfold PyData.showable
    refine decide_eq_true ?_
    have h2 : i.natAbs < 2 ^ 200 := Nat.lt_trans h (by decide)
    have := PySem.Flt.log2_lt_of (k := 200) (by decide) h2
    omega
theorem DOk.intL {i : Int} (h : i.natAbs < 10 ^ 68) : DOk 0 1 (.int i) := by
  refine ⟨?_, Nat.le_refl _, rfl, ?_, rfl, by simp [PyData.depth]⟩
  · have e := int_text_length_le10 (k := 68) (by decide) h
    unfold PyData.leavesShort
    refine decide_eq_true ?_
    show (Str.ofString (toString i)).length ≤ 72
    rw [PySem.ofString_length]
    omega
  · unfold PyData.showable
    refine decide_eq_true ?_
    have h2 : i.natAbs < 2 ^ 230 := Nat.lt_trans h (by decide)
    have := PySem.Flt.log2_lt_of (k := 230) (by decide) h2
    omega
theorem DOk.str {x : Str} (h1 : (x.cps.toList.all fun c => decide (c < 16 ^ 8)) = true) (h2 : x.cps.size ≤ 20) (h3 : PyData.canLay0 (.str x) = true) : DOk 20 1 (.str x) :=
  ⟨by unfold PyData.leavesShort; exact h1, by unfold PyData.bulk; exact h2, rfl, rfl, h3, by simp [PyData.depth]⟩
theorem DAll.nil : DAll 0 0 [] := ⟨rfl, Nat.le_refl _, rfl, rfl, rfl, by simp [PyData.depthAll]⟩
theorem DAll.cons {n m k j : Nat} {d : PyData} {ds : List PyData} (h : DOk n k d) (t : DAll m j ds) : DAll (n + 1 + m) (max k j) (d :: ds) := by
  refine ⟨?_, ?_, ?_, ?_, ?_, ?_⟩
  · unfold PyData.leavesShortAll; rw [h.short, t.short]; rfl
  · unfold PyData.bulkAll; have := h.bulk; have := t.bulk; omega
  · unfold PyData.hasDictAll; rw [h.nod, t.nod]; rfl
  · unfold PyData.showableAll; rw [h.shw, t.shw]; rfl
  · unfold PyData.canLayAll0; rw [h.lay, t.lay]; rfl
  · unfold PyData.depthAll; have := h.deep; have := t.deep; omega
theorem DOk.list {n k : Nat} {ds : List PyData} (t : DAll n k ds) : DOk n (k + 1) (.list ds) := by
  refine ⟨?_, ?_, ?_, ?_, ?_, ?_⟩
  · unfold PyData.leavesShort; exact t.short
  · unfold PyData.bulk; exact t.bulk
  · unfold PyData.hasDict; exact t.nod
  · unfold PyData.showable; exact t.shw
  · unfold PyData.canLay0; exact t.lay
  · unfold PyData.depth; have := t.deep; omega
theorem DOk.tuple {n k : Nat} {ds : List PyData} (t : DAll n k ds) : DOk n (k + 1) (.tuple ds) := by
  refine ⟨?_, ?_, ?_, ?_, ?_, ?_⟩
  · unfold PyData.leavesShort; exact t.short
  · unfold PyData.bulk; exact t.bulk
  · unfold PyData.hasDict; exact t.nod
  · unfold PyData.showable; exact t.shw
  · unfold PyData.canLay0; exact t.lay
  · unfold PyData.depth; have := t.deep; omega
theorem DOk.fits {n k : Nat} {d : PyData} (h : DOk n k d) (hn : n ≤ 200000) : d.shown.length ≤ sizeLine := by
  have e := PyData.shown_le_bulk 72 (by decide) d h.short
  have b := h.bulk
  have s : sizeLine = 16777216 := by decide
  omega
theorem DOk.shaped {n k : Nat} {d : PyData} (h : DOk n k d) (hk : k ≤ 64) : SeqAt.shaped d = true := by
  unfold SeqAt.shaped
  rw [h.lay, decide_eq_true (Nat.le_trans h.deep hk)]
  rfl
theorem DOk.eqv {n k : Nat} {d : PyData} (h : DOk n k d) : PyData.eqv d d = true := SeqAt.eqv_refl d h.lay
section
variable {X : Cx}
/-- repr of data that is short -/
theorem call_reprD {k : Nat} (gd : X.A.guards = some []) (hr : Room k X.A) : CallR X (.builtin "repr") (fun xs H Q => ∃ v d n k, xs = [v] ∧
    Dp X.K H v d ∧ DOk n k d ∧ n ≤ 200000 ∧ k ≤ 64 ∧ (∃ a, v = .ref a) ∧ Q (.str d.shown) H) := by
  intro pins s σ H xs us Q I r h
  obtain ⟨v, d, n, k, e, dp, ok, hn, hk, ex, q⟩ := h
  exact call_repr gd hr pins s σ H xs us Q I r ⟨v, d, e, dp, ok.nod, ok.shw, Nat.le_trans ok.deep hk, ok.fits hn, ex, q⟩
end

/-! ### draws -/
theorem RS.fresh {n : Nat} {H : Hp} {g p : Addr} (r : RS n H g) (np : H p = none) : p ≠ g := fun z => by
  obtain ⟨_, _, _, e, _⟩ := r.ok
  rw [← z, np] at e
  cases e
theorem pick_mem {xs : List V} {d : Int} (h0 : 0 ≤ d) (h1 : d < (xs.length : Int)) : ∃ v, atI xs d = some v ∧ v ∈ xs := by
  have lt : d.toNat < xs.length := by omega
  refine ⟨xs[d.toNat], ?_, List.getElem_mem lt⟩
  exact at_of (j := d.toNat) (by omega) (List.getElem?_eq_getElem lt)
theorem Kp.lst {K : PySem.W.Frag} {H H' : Hp} {g b : Addr} {xs : List V} (k : Kp g H H') (h : b ≠ g) (l : SqL K H b xs) : SqL K H' b xs := by
  rcases l with (h2 | ⟨o, h2⟩) | h2
  · exact .inl (.inl (k _ _ h h2))
  · exact .inl (.inr ⟨o, k _ _ h h2⟩)
  · exact .inr h2
/-- [e for x in xs] over a list; each e is a value of its own (told by f), no matter what else the heap bears -/
theorem lc_map {K : PySem.W.Frag} {j : Nat} {te : TE} {σ : L2.St} {H : Hp} {Qd : Hp → Prop} {a D : Addr} {xs : List V} (f : V → V)
    (hl : SqL K H a xs) (hz : xs.length ≤ 100000) (nD : H D = none)
    (hw : ∀ z : V, wipe ((wipe σ [j]).set j (some z)) [j] = wipe σ [j])
    (he : ∀ (z : V) (H' : Hp) (R : VK), z ∈ xs → Same H H' → R (f z) H' → te ((wipe σ [j]).set j (some z)) H' R)
    (q : Qd (upd H D (.lst (xs.map f)))) :
    ∃ Z : Nat → Nat → Hp → Prop, (∃ m, Z 0 m (upd H D (.lst []))) ∧
      ∀ i m G, Z i m G →
        ((Itl K a).stop i G ∧ Qd G) ∨
        ((Itl K a).go i G ∧ ∃ N : Hp → Prop, (∀ G', N G' → ∃ m', m' < m ∧ Z (i + 1) m' G') ∧
          ∀ x G', (Itl K a).yld i G x G' →
            gName j x (wipe σ [j]) G' fun σ2 G2 =>
              wipe σ2 [j] = wipe σ [j] ∧
              tYes σ2 G2 fun b G3 =>
                if b = true then
                  te σ2 G3 fun y G4 =>
                    ∃ acc, G4 D = some (.lst acc) ∧ acc.length < sizeLine ∧
                      N (upd G4 D (.lst (acc ++ [y])))
                else N G3) := by
  refine lc_list (K := K) (a := a) (xs := xs) (fun i H' => H' = upd H D (.lst ((xs.take i).map f))) rfl ?_ ?_ ?_
  · intro i H' _ e
    subst e
    exact (Same.new nD).seq hl
  · intro i x H' hx e
    subst e
    have lt : i < xs.length := (List.getElem?_eq_some_iff.mp hx).1
    have tk : (xs.take (i + 1)).map f = (xs.take i).map f ++ [f x] := by
      rw [List.take_add_one, hx]
      simp
    refine ⟨hw x, ?_⟩
    refine he x _ _ (List.mem_of_getElem? hx) (Same.new nD) ⟨_, upd_same, ?_, ?_⟩
    · rw [List.length_map]
      exact Nat.lt_of_le_of_lt (Nat.le_trans (List.length_take_le' ..) hz) (by decide)
    · rw [upd_upd, tk]
  · intro H' e
    subst e
    rw [List.take_length]
    exact q
/-- [e for x in xs] over a list; e may make objects; each is told by Out of its place -/
theorem lc_rel {K : PySem.W.Frag} {j : Nat} {te : TE} {σ : L2.St} {H : Hp} {Qd : Hp → Prop} {a D : Addr} {xs : List V} (Out : Nat → Hp → V → Prop)
    (hl : SqL K H a xs) (hz : xs.length ≤ 100000) (nD : H D = none)
    (st : ∀ i G G' y acc, Kp D G G' → G D = some (.lst acc) → Out i G y → Out i G' y)
    (hw : ∀ z : V, wipe ((wipe σ [j]).set j (some z)) [j] = wipe σ [j])
    (he : ∀ (i : Nat) (z : V) (G : Hp) (R : VK), xs[i]? = some z → Same H G → (∀ y G', Same G G' → Out i G' y → R y G') → te ((wipe σ [j]).set j (some z)) G R)
    (q : ∀ G ys, Same H G → G D = some (.lst ys) → ys.length = xs.length → (∀ (i : Nat) y, ys[i]? = some y → Out i G y) → Qd G) :
    ∃ Z : Nat → Nat → Hp → Prop, (∃ m, Z 0 m (upd H D (.lst []))) ∧
      ∀ i m G, Z i m G →
        ((Itl K a).stop i G ∧ Qd G) ∨
        ((Itl K a).go i G ∧ ∃ N : Hp → Prop, (∀ G', N G' → ∃ m', m' < m ∧ Z (i + 1) m' G') ∧
          ∀ x G', (Itl K a).yld i G x G' →
            gName j x (wipe σ [j]) G' fun σ2 G2 =>
              wipe σ2 [j] = wipe σ [j] ∧
              tYes σ2 G2 fun b G3 =>
                if b = true then
                  te σ2 G3 fun y G4 =>
                    ∃ acc, G4 D = some (.lst acc) ∧ acc.length < sizeLine ∧
                      N (upd G4 D (.lst (acc ++ [y])))
                else N G3) := by
  refine lc_list (K := K) (a := a) (xs := xs) (fun i G => Same H G ∧ ∃ ys, G D = some (.lst ys) ∧ ys.length = i ∧ ∀ (k : Nat) y, ys[k]? = some y → Out k G y)
    ⟨Same.new nD, [], upd_same, rfl, fun k y e => by simp at e⟩ ?_ ?_ ?_
  · intro i G _ e
    exact e.1.seq hl
  · rintro i x G hx ⟨sm, ys, oD, ly, ok⟩
    have lt : i < xs.length := (List.getElem?_eq_some_iff.mp hx).1
    refine ⟨hw x, ?_⟩
    refine he i x G _ hx sm fun y G' sm' oy => ⟨ys, sm' _ _ oD, Nat.lt_of_le_of_lt (by omega : ys.length ≤ 100000) (by decide), ?_⟩
    have kp : Kp D G' (upd G' D (.lst (ys ++ [y]))) := Kp.at
    refine ⟨fun b o e => ?_, ys ++ [y], upd_same, by rw [List.length_append, ly]; rfl, ?_⟩
    · rw [upd_ne (ne_of_none e nD)]
      exact sm' _ _ (sm _ _ e)
    · intro k y' ey
      by_cases c : k < ys.length
      · rw [List.getElem?_append_left c] at ey
        exact st _ _ _ _ _ kp (sm' _ _ oD) (st _ _ _ _ _ (Kp.of sm') oD (ok k y' ey))
      · have kl : k < (ys ++ [y]).length := (List.getElem?_eq_some_iff.mp ey).1
        rw [List.length_append] at kl
        have kk : k = i := by
          have : ([y] : List V).length = 1 := rfl
          omega
        subst kk
        rw [List.getElem?_append_right (by omega), ly, Nat.sub_self] at ey
        have e1 : y = y' := Option.some.inj ey
        subst e1
        exact st _ _ _ _ _ kp (sm' _ _ oD) oy
  · rintro G ⟨sm, ys, oD, ly, ok⟩
    exact q G ys sm oD ly ok
theorem SqT.kpl {K : PySem.W.Frag} {H H' : Hp} {a b : Addr} {xs ys : List V} (k : Kp a H H') (l : H a = some (.lst ys)) (h : SqT K H b xs) : SqT K H' b xs := by
  rcases h with (h | ⟨o, h⟩) | h
  · exact .inl (.inl (k _ _ (ne_of h l (fun z => by cases z)) h))
  · exact .inl (.inr ⟨o, k _ _ (ne_of h l (fun z => by cases z)) h⟩)
  · exact .inr h
theorem RgV.kpl {K : PySem.W.Frag} {H H' : Hp} {a : Addr} {v : V} {r : Rg} {ys : List V} (k : Kp a H H') (l : H a = some (.lst ys)) (h : RgV K H v r) : RgV K H' v r := by
  match r, h with
  | none, h => exact h
  | some q, ⟨p, e, s⟩ => exact ⟨p, e, SqT.kpl k l s⟩
/-! ### data of any size, for == -/
structure Ly (k : Nat) (d : PyData) : Prop where
  lay : d.canLay0 = true
  deep : d.depth ≤ k
structure LyAll (k : Nat) (ds : List PyData) : Prop where
  lay : PyData.canLayAll0 ds = true
  deep : PyData.depthAll ds ≤ k
theorem Ly.mono {k j : Nat} {d : PyData} (h : Ly k d) (a : k ≤ j) : Ly j d := ⟨h.lay, Nat.le_trans h.deep a⟩
theorem LyAll.mono {k j : Nat} {d : List PyData} (h : LyAll k d) (a : k ≤ j) : LyAll j d := ⟨h.lay, Nat.le_trans h.deep a⟩
theorem Ly.none : Ly 1 .none := ⟨rfl, by simp [PyData.depth]⟩
theorem Ly.bool (b : Bool) : Ly 1 (.bool b) := ⟨rfl, by simp [PyData.depth]⟩
theorem Ly.int (i : Int) : Ly 1 (.int i) := ⟨rfl, by simp [PyData.depth]⟩
theorem LyAll.nil : LyAll 0 [] := ⟨rfl, by simp [PyData.depthAll]⟩
theorem LyAll.cons {k j : Nat} {d : PyData} {ds : List PyData} (h : Ly k d) (t : LyAll j ds) : LyAll (max k j) (d :: ds) := by
  refine ⟨?_, ?_⟩
  · unfold PyData.canLayAll0; rw [h.lay, t.lay]; rfl
  · unfold PyData.depthAll; have := h.deep; have := t.deep; omega
theorem Ly.list {k : Nat} {ds : List PyData} (t : LyAll k ds) : Ly (k + 1) (.list ds) := by
  refine ⟨?_, ?_⟩
  · unfold PyData.canLay0; exact t.lay
  · unfold PyData.depth; have := t.deep; omega
theorem Ly.tuple {k : Nat} {ds : List PyData} (t : LyAll k ds) : Ly (k + 1) (.tuple ds) := by
  refine ⟨?_, ?_⟩
  · unfold PyData.canLay0; exact t.lay
  · unfold PyData.depth; have := t.deep; omega
theorem Ly.shaped {k : Nat} {d : PyData} (h : Ly k d) (hk : k ≤ 64 := by decide) : SeqAt.shaped d = true := by
  unfold SeqAt.shaped
  rw [h.lay, decide_eq_true (Nat.le_trans h.deep hk)]
  rfl
theorem Ly.eqv {k : Nat} {d : PyData} (h : Ly k d) : PyData.eqv d d = true := SeqAt.eqv_refl d h.lay
/-- [e for x in t] over a tuple -/
theorem lc_relT {K : PySem.W.Frag} {j : Nat} {te : TE} {σ : L2.St} {H : Hp} {Qd : Hp → Prop} {a D : Addr} {xs : List V} (Out : Nat → Hp → V → Prop)
    (hl : SqT K H a xs) (hz : xs.length ≤ 100000) (nD : H D = none)
    (st : ∀ i G G' y acc, Kp D G G' → G D = some (.lst acc) → Out i G y → Out i G' y)
    (hw : ∀ z : V, wipe ((wipe σ [j]).set j (some z)) [j] = wipe σ [j])
    (he : ∀ (i : Nat) (z : V) (G : Hp) (R : VK), xs[i]? = some z → Same H G → (∀ y G', Same G G' → Out i G' y → R y G') → te ((wipe σ [j]).set j (some z)) G R)
    (q : ∀ G ys, Same H G → G D = some (.lst ys) → ys.length = xs.length → (∀ (i : Nat) y, ys[i]? = some y → Out i G y) → Qd G) :
    ∃ Z : Nat → Nat → Hp → Prop, (∃ m, Z 0 m (upd H D (.lst []))) ∧
      ∀ i m G, Z i m G →
        ((Itt K a).stop i G ∧ Qd G) ∨
        ((Itt K a).go i G ∧ ∃ N : Hp → Prop, (∀ G', N G' → ∃ m', m' < m ∧ Z (i + 1) m' G') ∧
          ∀ x G', (Itt K a).yld i G x G' →
            gName j x (wipe σ [j]) G' fun σ2 G2 =>
              wipe σ2 [j] = wipe σ [j] ∧
              tYes σ2 G2 fun b G3 =>
                if b = true then
                  te σ2 G3 fun y G4 =>
                    ∃ acc, G4 D = some (.lst acc) ∧ acc.length < sizeLine ∧
                      N (upd G4 D (.lst (acc ++ [y])))
                else N G3) := by
  refine lc_tup (K := K) (a := a) (xs := xs) (fun i G => Same H G ∧ ∃ ys, G D = some (.lst ys) ∧ ys.length = i ∧ ∀ (k : Nat) y, ys[k]? = some y → Out k G y)
    ⟨Same.new nD, [], upd_same, rfl, fun k y e => by simp at e⟩ ?_ ?_ ?_
  · intro i G _ e
    exact SqT.same e.1 hl
  · rintro i x G hx ⟨sm, ys, oD, ly, ok⟩
    have lt : i < xs.length := (List.getElem?_eq_some_iff.mp hx).1
    refine ⟨hw x, ?_⟩
    refine he i x G _ hx sm fun y G' sm' oy => ⟨ys, sm' _ _ oD, Nat.lt_of_le_of_lt (by omega : ys.length ≤ 100000) (by decide), ?_⟩
    have kp : Kp D G' (upd G' D (.lst (ys ++ [y]))) := Kp.at
    refine ⟨fun b o e => ?_, ys ++ [y], upd_same, by rw [List.length_append, ly]; rfl, ?_⟩
    · rw [upd_ne (ne_of_none e nD)]
      exact sm' _ _ (sm _ _ e)
    · intro k y' ey
      by_cases c : k < ys.length
      · rw [List.getElem?_append_left c] at ey
        exact st _ _ _ _ _ kp (sm' _ _ oD) (st _ _ _ _ _ (Kp.of sm') oD (ok k y' ey))
      · have kl : k < (ys ++ [y]).length := (List.getElem?_eq_some_iff.mp ey).1
        rw [List.length_append] at kl
        have kk : k = i := by
          have : ([y] : List V).length = 1 := rfl
          omega
        subst kk
        rw [List.getElem?_append_right (by omega), ly, Nat.sub_self] at ey
        have e1 : y = y' := Option.some.inj ey
        subst e1
        exact st _ _ _ _ _ kp (sm' _ _ oD) oy
  · rintro G ⟨sm, ys, oD, ly, ok⟩
    exact q G ys sm oD ly ok
end Gd

set_option Elab.async false
set_option linter.all false
set_option maxRecDepth 100000
set_option autoImplicit false
namespace Gd
open PySem PySem.Spec PyProof.Rows L2

/-! ### data stays -/
mutual
theorem dp_same {K : PySem.W.Frag} {H H' : Hp} (k : Same H H') : ∀ {v : V} {d : PyData}, Dp K H v d → Dp K H' v d
  | _, _, .non => .non
  | _, _, .bl b => .bl b
  | _, _, .int i => .int i
  | _, _, .str x => .str x
  | _, _, .lst s a => .lst (k.seq s) (dpa_same k a)
  | _, _, .tup s a => .tup (SqT.same k s) (dpa_same k a)
theorem dpa_same {K : PySem.W.Frag} {H H' : Hp} (k : Same H H') : ∀ {v : List V} {d : List PyData}, DpAll K H v d → DpAll K H' v d
  | _, _, .nil => .nil
  | _, _, .cons a b => .cons (dp_same k a) (dpa_same k b)
end
/-- no list in it -/
inductive NoL : PyData → Prop
  | non : NoL .none
  | bl (b : Bool) : NoL (.bool b)
  | int (i : Int) : NoL (.int i)
  | str (x : Str) : NoL (.str x)
  | tup {ds : List PyData} : (∀ d ∈ ds, NoL d) → NoL (.tuple ds)
/-- the only list that may change stands at a -/
def Kl (a : Addr) (H H' : Hp) : Prop := (∃ ys, H a = some (.lst ys)) ∧ Kp a H H'
mutual
theorem dp_kl {K : PySem.W.Frag} {H H' : Hp} {a : Addr} (k : Kl a H H') : ∀ {v : V} {d : PyData}, Dp K H v d → NoL d → Dp K H' v d
  | _, _, .non, _ => .non
  | _, _, .bl b, _ => .bl b
  | _, _, .int i, _ => .int i
  | _, _, .str x, _ => .str x
  | _, _, .tup s x, n => .tup (let ⟨⟨_, o⟩, kp⟩ := k; SqT.kpl kp o s) (dpa_kl k x (match n with | .tup h => h))
  | _, _, .lst s x, n => nomatch n
theorem dpa_kl {K : PySem.W.Frag} {H H' : Hp} {a : Addr} (k : Kl a H H') : ∀ {v : List V} {d : List PyData}, DpAll K H v d → (∀ x ∈ d, NoL x) → DpAll K H' v d
  | _, _, .nil, _ => .nil
  | _, _, .cons x y, n => .cons (dp_kl k x (n _ (by simp))) (dpa_kl k y fun z m => n z (by simp [m]))
end
theorem RS.kl {n : Nat} {H H' : Hp} {g : Addr} (r : RS n H g) (k : Kp g H H') : Kl g H H' := by
  obtain ⟨_, _, _, e, _⟩ := r.ok
  exact ⟨⟨_, e⟩, k⟩
theorem dpa_len {K : PySem.W.Frag} {H : Hp} : ∀ {v : List V} {d : List PyData}, DpAll K H v d → v.length = d.length
  | _, _, .nil => rfl
  | _, _, .cons _ b => by rw [List.length_cons, List.length_cons, dpa_len b]
theorem dpa_get {K : PySem.W.Frag} {H : Hp} : ∀ {v : List V} {d : List PyData} {i : Nat} {x : V}, DpAll K H v d → v[i]? = some x → ∃ y, d[i]? = some y ∧ Dp K H x y
  | _, _, _, _, .nil, e => by simp at e
  | _, _, 0, _, .cons a _, e => by
    have e' := Option.some.inj e
    subst e'
    exact ⟨_, rfl, a⟩
  | _, _, i + 1, x, .cons _ b, e => by
    obtain ⟨y, e2, h⟩ := dpa_get (i := i) (x := x) b (by simpa using e)
    exact ⟨y, by simpa using e2, h⟩
theorem dpa_app {K : PySem.W.Frag} {H : Hp} : ∀ {v w : List V} {d e : List PyData}, DpAll K H v d → DpAll K H w e → DpAll K H (v ++ w) (d ++ e)
  | _, _, _, _, .nil, y => y
  | _, _, _, _, .cons a b, y => .cons a (dpa_app b y)
theorem dpa_one {K : PySem.W.Frag} {H : Hp} {v : V} {d : PyData} (h : Dp K H v d) : DpAll K H [v] [d] := .cons h .nil
theorem dpa_take {K : PySem.W.Frag} {H : Hp} : ∀ {v : List V} {d : List PyData} (n : Nat), DpAll K H v d → DpAll K H (v.take n) (d.take n)
  | _, _, 0, _ => .nil
  | _, _, _ + 1, .nil => .nil
  | _, _, n + 1, .cons a b => .cons a (dpa_take n b)
theorem dpa_drop {K : PySem.W.Frag} {H : Hp} : ∀ {v : List V} {d : List PyData} (n : Nat), DpAll K H v d → DpAll K H (v.drop n) (d.drop n)
  | _, _, 0, r => r
  | _, _, _ + 1, .nil => .nil
  | _, _, n + 1, .cons _ b => dpa_drop n b
theorem dpa_rev {K : PySem.W.Frag} {H : Hp} : ∀ {v : List V} {d : List PyData}, DpAll K H v d → DpAll K H v.reverse d.reverse
  | _, _, .nil => .nil
  | _, _, .cons a b => by
    rw [List.reverse_cons, List.reverse_cons]
    exact dpa_app (dpa_rev b) (dpa_one a)
theorem dpa_strs {K : PySem.W.Frag} {H : Hp} : ∀ ns : List Str, DpAll K H (ns.map V.str) (ns.map PyData.str)
  | [] => .nil
  | n :: ns => .cons (.str n) (dpa_strs ns)

/-! ### an own class: its methods, len, == -/
/-- where a method stands -/
def AtM (K : PySem.W.Frag) (C : Addr) (m qual : Str) (st : Stmt) (ps : List Str) : Prop :=
  ∃ f fd, PySem.W.findIn K (.ref C) m = some (some (.ref f)) ∧ PySem.W.isFn K (.ref f) = true ∧ Fun K m qual st f fd ∧ Binds K fd ps []
/-- where a property's getter stands -/
def AtP (K : PySem.W.Frag) (C : Addr) (m qual : Str) (st : Stmt) (ps : List Str) : Prop :=
  ∃ p f fd, PropOf K C m p f ∧ Fun K m qual st f fd ∧ Binds K fd ps []
structure Mt (P : Program) (w : World) (K : PySem.W.Frag) (mg : Str → Option Value) (base : Heap)
    (k : Nat) (C : Addr) (m qual : Str) (st : Stmt) (ps : List Str) (sp : Sp) : Prop where
  ex : ∃ f fd, PySem.W.findIn K (.ref C) m = some (some (.ref f)) ∧ PySem.W.isFn K (.ref f) = true ∧ Fun K m qual st f fd ∧ Binds K fd ps [] ∧ FnOk P w K mg base CX0 k f fd ps sp
structure Pt (P : Program) (w : World) (K : PySem.W.Frag) (mg : Str → Option Value) (base : Heap)
    (k : Nat) (C : Addr) (m qual : Str) (st : Stmt) (ps : List Str) (sp : Sp) : Prop where
  ex : ∃ p f fd, PropOf K C m p f ∧ Fun K m qual st f fd ∧ Binds K fd ps [] ∧ FnOk P w K mg base CX0 k f fd ps sp
/-- an own class -/
structure Ck (K : PySem.W.Frag) (mg : Str → Option Value) (C : Addr) (x : Str) : Prop where
  cl : Cls K C
  mks : PySem.W.makesIn K C = true
  kp : PySem.W.keepIn K (.ref C) = true
  mg_ : mg x = some (.ref C)
section
variable {P : Program} {w : World} {K : PySem.W.Frag} {mg : Str → Option Value} {base : Heap}
theorem Mt.mk' {C : Addr} {m qual : Str} {st : Stmt} {ps : List Str} {k : Nat} {sp : Sp} (h : AtM K C m qual st ps)
    (ok : ∀ f fd, Fun K m qual st f fd → FnOk P w K mg base CX0 k f fd ps sp) : Mt P w K mg base k C m qual st ps sp := by
  obtain ⟨f, fd, a, i, F, b⟩ := h
  exact ⟨f, fd, a, i, F, b, ok f fd F⟩
theorem Pt.mk' {C : Addr} {m qual : Str} {st : Stmt} {ps : List Str} {k : Nat} {sp : Sp} (h : AtP K C m qual st ps)
    (ok : ∀ f fd, Fun K m qual st f fd → FnOk P w K mg base CX0 k f fd ps sp) : Pt P w K mg base k C m qual st ps sp := by
  obtain ⟨p, f, fd, a, F, b⟩ := h
  exact ⟨p, f, fd, a, F, b, ok f fd F⟩
end
section
variable {X : Cx} {x m qual : Str} {st : Stmt} {ps ks : List Str} {sp : Sp} {k j n : Nat} {e o : Expr} {es : List Expr} {kws : List Keyword} {ta : TE} {t tk : TA} {p pos apos : Pos} {C : Addr}
/-- C(e, ..) -/
theorem pe_new (T : Ck X.K X.mg C x) (D : Mt X.prog X.w X.K X.mg X.base k C "__init__" qual st ps sp) (hr : Room j X.A) (hg : Gl X x) (ha : PA X (e :: es) t) (hk : k + 1 ≤ j := by decide)
    (hdb : (x == ("__debug__" : Str)) = false := by decide) (he : starEach (e :: es) X.env = (false, eval e X.env) :: starEach es X.env := by rfl)
    (hpl : (backTo pos (starEach es X.env)).any (·.1) = false := by rfl) :
    PE X (.Call (.Name x p) (e :: es) [] pos) (tMake C sp [] E0 t) := by
  obtain ⟨f, fd, a, i, F, b, ok⟩ := D.ex
  exact pe_make ⟨T.mks, a, i, T.kp⟩ ok (hr.mono hk) hg T.mg_ b .nil pass0 ha hdb he hpl
/-- e.f, a property -/
theorem pe_p (T : Ck X.K X.mg C x) (D : Pt X.prog X.w X.K X.mg X.base k C m qual st ps sp) (hr : Room j X.A) (he : PE X e ta) (hk : k + 1 ≤ j := by decide)
    (hab : attributeBase e m X.env (eval e X.env) = eval e X.env := by rfl) : PE X (.Attribute e m pos) (tProp C sp [] E0 ta) := by
  obtain ⟨p, f, fd, a, F, b, ok⟩ := D.ex
  exact pe_prop he T.cl a ok (hr.mono hk) b .nil pass0 hab
/-- len(o), o with its own __len__ -/
theorem call_lenO (D : Mt X.prog X.w X.K X.mg X.base k C "__len__" qual st ps sp) (hr : Room j X.A) (hk : k + 1 ≤ j := by decide) :
    CallR X (.builtin "len") (fun xs H Q => ∃ a dx fs, xs = [.ref a] ∧ H a = some (.ins C dx fs) ∧ sp [.ref a] H (fun v H' => ∃ n : Int, v = .int n ∧ 0 ≤ n ∧ n < 2 ^ 63 ∧ Q (.int n) H') E0) := by
  intro pins s σ H xs us Q I r h
  obtain ⟨a, dx, fs, rfl, ha, q⟩ := h
  obtain ⟨f, fd, at_, i, F, b, ok⟩ := D.ex
  obtain ⟨u, rfl, ru⟩ := vals1 r
  cases ru
  obtain ⟨mA, J, _⟩ := ins_get I.hok ha
  obtain ⟨od, J, _⟩ := J.look
  obtain ⟨m, hF⟩ := I.fr
  refine PySem.W.len_K hF I.ok.mod.kin J at_ i ?_
  have cnt : ([Value.ref a] : List Value).length = ps.length := by
    have := ok.len _ _ _ _ q
    exact this
  have bnd : BindsTo s fd ⟨[.ref a], []⟩ (ps.zip [.ref a]) := by
    have z := b s [.ref a] I.kIn (by simpa using cnt)
    simpa using z
  have hr' := hr.mono hk
  refine wpAny_call (codeAny_mono (ok.run X.A.in1 X.stack s H ⟨[.ref a], []⟩ [.ref a] [.ref a] _ E0 hr'.in1 I.env0.in1 bnd (.cons rfl .nil) q) ?_)
  intro r' s' post
  cases r' with
  | error e => exact (post : False).elim
  | ok fl =>
    cases fl with
    | ret u =>
      obtain ⟨v, H', I2, rv, n, ev, n0, n1, q2⟩ := I.after post
      subst ev
      obtain ⟨tk, rfl⟩ := rv
      exact ⟨⟨n0, n1⟩, .int n, H', I2.tok _, ⟨s'.toks, rfl⟩, q2⟩
    | next => exact (post : False).elim
    | brk => exact (post : False).elim
    | cont => exact (post : False).elim
/-- o == y, o with its own __eq__, which tells True or False -/
theorem op_eqO (D : Mt X.prog X.w X.K X.mg X.base k C "__eq__" qual st ps sp) (hr : Room j X.A) (hk : k ≤ j := by decide) :
    OpR X (compareOp .Eq) (fun x y H Q => ∃ a dx fs t, x = .ref a ∧ H a = some (.ins C dx fs) ∧ TyX X.K H y t ∧ PySem.W.notFirst X.K C t = true ∧
      sp [.ref a, y] H (fun v H' => ∃ b : Bool, v = .bl b ∧ Q (.bl b) H') E0) := by
  intro pins s σ H x y v u Q I rx ry h
  obtain ⟨a, dx, fs, t, rfl, ha, ty, nf, q⟩ := h
  obtain ⟨f, fd, at_, i, F, b, ok⟩ := D.ex
  cases rx
  obtain ⟨mA, J, _⟩ := ins_get I.hok ha
  obtain ⟨od, J, _⟩ := J.look
  obtain ⟨m, hF⟩ := I.fr
  obtain ⟨Pk, kit, pk, _⟩ := kit_of I ry ty
  have hr' := hr.mono hk
  show wpAny (model X.prog X.w) X.A (richCompare .Eq (.ref a) u) (EP X pins σ Q) X.xe s
  refine PySem.W.cmp_K (op := .Eq) (tb := t) hr'.units0 hF I.ok.mod.kin J (kit.ty _ _ I.kIn pk) nf at_ i ?_
  have cnt : ([Value.ref a, u] : List Value).length = ps.length := by
    have := ok.len _ _ _ _ q
    exact this
  have bnd : BindsTo s fd ⟨[.ref a, u], []⟩ (ps.zip [.ref a, u]) := by
    have z := b s [.ref a, u] I.kIn (by simpa using cnt)
    simpa using z
  refine wpAny_call (codeAny_mono (ok.run X.A X.stack s H ⟨[.ref a, u], []⟩ [.ref a, u] [.ref a, y] _ E0 hr' I.env0 bnd (.cons rfl (.cons ry .nil)) q) ?_)
  intro r' s' post
  cases r' with
  | error e => exact (post : False).elim
  | ok fl =>
    cases fl with
    | ret w =>
      obtain ⟨v, H', I2, rv, n, ev, q2⟩ := I.after post
      subst ev
      have ew : w = Value.bool n := rv
      subst ew
      exact ⟨.bl n, H', I2, rfl, q2⟩
    | next => exact (post : False).elim
    | brk => exact (post : False).elim
    | cont => exact (post : False).elim
/-- C(k = v, ..) -/
theorem pe_newk {g : {α : Type} → List α → List α → List α} (T : Ck X.K X.mg C x) (D : Mt X.prog X.w X.K X.mg X.base k C "__init__" qual st ps sp) (hr : Room j X.A)
    (kb : ∀ f fd, Fun X.K "__init__" qual st f fd → KBn X.K fd ps 1 ks g g) (hg : Gl X x) (hkw : PK X kws tk) (hk : k + 1 ≤ j := by decide)
    (hall : (backToKw pos (keywordEach kws X.env)).all (·.1.isSome) = true := by rfl) (hks : (backToKw pos (keywordEach kws X.env)).filterMap (·.1) = ks := by rfl) (hdb : (x == ("__debug__" : Str)) = false := by decide)
    (hpl : ((backTo pos (starEach [] X.env)).any (·.1) || (backToKw pos (keywordEach kws X.env)).any (·.1.isNone)) = false := by rfl) :
    PE X (.Call (.Name x p) [] kws pos) (tMakeK C 0 ks.length sp g E0 tNil tk) := by
  obtain ⟨f, fd, a, i, F, b, ok⟩ := D.ex
  exact pe_makeK0 ⟨T.mks, a, i, T.kp⟩ ok (hr.mono hk) hg T.mg_ (kb f fd F) pass0 hkw hall hks hdb hpl
end
end Gd

set_option Elab.async false
set_option linter.all false
set_option maxRecDepth 100000
set_option autoImplicit false
namespace Gd
open PySem PySem.Spec PyProof.Rows L2

/-! ### t[::-1], t a tuple -/
theorem adjust_rev (n : Nat) : Builtin.Slice.sliceAdjust none none (-1) (n : Int) = ((n : Int) - 1, -1) := by
  simp [Builtin.Slice.sliceAdjust]
theorem places_rev (n : Nat) : Builtin.Slice.slicePlaces ((n : Int) - 1) (-1) (-1) = n := by
  unfold Builtin.Slice.slicePlaces
  rw [if_neg (by decide)]
  by_cases h : (n : Int) - 1 > -1
  · rw [if_pos h]
    have e : (- (-1) : Int) = 1 := by decide
    rw [e, Int.ediv_one]
    omega
  · rw [if_neg h]
    omega
theorem fm_congr {α β : Type} {f g : α → Option β} : ∀ l : List α, (∀ x ∈ l, f x = g x) → l.filterMap f = l.filterMap g
  | [], _ => rfl
  | a :: l, h => by
    rw [List.filterMap_cons, List.filterMap_cons, h a (by simp), fm_congr l fun x m => h x (by simp [m])]
theorem pick_rev (xs : Array Value) : ((List.range xs.size).filterMap fun (k : Nat) => xs[(((xs.size : Int) - 1) + (k : Int) * (-1)).toNat]?).toArray = xs.toList.reverse.toArray := by
  have e : ((List.range xs.size).filterMap fun (k : Nat) => xs[(((xs.size : Int) - 1) + (k : Int) * (-1)).toNat]?) = ((List.range xs.size).map fun k => xs.size - 1 - k).filterMap (xs[·]?) := by
    rw [List.filterMap_map]
    refine fm_congr _ fun k hk => ?_
    have := List.mem_range.mp hk
    show xs[(((xs.size : Int) - 1) + (k : Int) * (-1)).toNat]? = xs[xs.size - 1 - k]?
    congr 1
    omega
  rw [e, PySem.W.krv_range, List.filterMap_reverse, PySem.W.krv_all]
section
variable {prog : Program} {w : World} {A : Around} {E : Value → Shared → Prop} {s : Shared}
theorem applied_rev {sl : Addr} {vl vu vs : Value} {n : Nat} {Q : Int × Int × Nat → Shared → Prop} (hs : s.heap.IsSliceOf sl vl vu vs) (pl : IsPart vl none) (pu : IsPart vu none) (ps : IsPart vs (some (-1)))
    (h : Q ((n : Int) - 1, -1, n) s) : wpAny (model prog w) A (Builtin.Slice.sliceApplied (.ref sl) (pure (n : Int))) Q E s := by
  obtain ⟨os, hos, hcs, hds⟩ := id hs
  unfold Builtin.Slice.sliceApplied Builtin.Slice.sliceFields
  refine wpAny_bind (wpAny_bind (wpAny_field hos hds (x := vl) rfl (wpAny_bind (wpAny_field hos hds (x := vu) rfl (wpAny_bind (wpAny_field hos hds (x := vs) rfl (wpAny_pure ?_)))))))
  refine wpAny_bind (HT.slicePart_ ps ?_)
  show wpAny _ _ (if ((-1 : Int) == 0) = true then _ else _) _ _ s
  rw [if_neg (by decide)]
  refine wpAny_bind (HT.slicePart_ pl (wpAny_bind (HT.slicePart_ pu (wpAny_bind (wpAny_pure ?_)))))
  show wpAny _ _ (match Builtin.Slice.sliceAdjust none none (-1) (n : Int) with | (lo, hi) => pure (lo, (-1 : Int), Builtin.Slice.slicePlaces lo hi (-1))) _ _ s
  rw [adjust_rev n]
  show wpAny _ _ (pure ((n : Int) - 1, (-1 : Int), Builtin.Slice.slicePlaces ((n : Int) - 1) (-1) (-1))) _ _ s
  rw [places_rev]
  exact wpAny_pure h
theorem getItem_rev {t sl : Addr} {items : Array Value} {vl vu vs : Value} {Q : Value → Shared → Prop} (ht : IsTup s.heap t items) (hs : s.heap.IsSliceOf sl vl vu vs) (pl : IsPart vl none) (pu : IsPart vu none) (ps : IsPart vs (some (-1)))
    (h : Q (.ref s.heap.objs.size) { s with heap := s.heap.push { cls := .type "tuple", data := .seq items.toList.reverse.toArray } })
    (hsz : items.size ≤ sizeLine) : wpAny (model prog w) A (getItem (.ref t) (.ref sl)) Q E s := by
  have hok : sizeOk (.seq items.toList.reverse.toArray) := by
    show items.toList.reverse.toArray.size ≤ sizeLine
    rw [List.size_toArray, List.length_reverse, Array.length_toList]
    exact hsz
  obtain ⟨os, hos, hcs, hds⟩ := id hs
  have hTs : s.TypeIs (.ref sl) "slice" := ⟨os, hos, hcs⟩
  unfold getItem
  try with_reducible refine wpAny_holding ?_
  first | refine wpAny_bind (wpAny_pure ?_) | skip
  refine wpAny_bind (wpAny_sequenceKey ht.typeIs (by decide) ?_)
  refine wpAny_bind (wpAny_callSpecial?_slot (name := Str.ofString "__getitem__") ht.typeIs PyProof.Rows.slot_tuple_getitem
    (wpAny_call_entry PyProof.Rows.slot_tuple_getitem ht.typeIs entry_tuple_getitem ?_ (args_tuple_getitem _ _)))
  show wpAny _ _ (Builtin.Tuple.tupleItemsOf (.ref t) >>= _) _ _ s
  refine wpAny_bind (tupleItemsOf_ ht ?_)
  refine wpAny_bind (wpAny_typeOf hTs ?_)
  rw [if_pos (by decide)]
  refine wpAny_bind (applied_rev hs pl pu ps ?_)
  have hno : ¬ (((((items.size : Int) - 1) == 0) && ((-1 : Int) == 1) && (items.size == items.size)) = true) := by
    intro q
    rw [Bool.and_eq_true, Bool.and_eq_true] at q
    exact absurd (eq_of_beq q.1.2) (by decide)
  show wpAny _ _ (if ((((items.size : Int) - 1) == 0) && ((-1 : Int) == 1) && (items.size == items.size)) = true then _ else _) _ _ s
  rw [if_neg hno, pick_rev]
  first
    | exact wpAny_bind (m := Builtin.Tuple.tupleExact _) (wpAny_newObj_type (wpAny_pure ⟨_, rfl, wpAny_pure h⟩) hok)
    | exact wpAny_bind (m := Builtin.Tuple.tupleExact _) (wpAny_newObj_type (wpAny_bind (wpAny_pure (wpAny_pure ⟨_, rfl, wpAny_pure h⟩))) hok)
    | exact wpAny_bind (wpAny_bind (m := Builtin.Tuple.tupleExact _) (wpAny_newObj_type (wpAny_pure (wpAny_pure ⟨_, rfl, wpAny_pure h⟩)) hok))
    | exact wpAny_bind (wpAny_bind (m := Builtin.Tuple.tupleExact _) (wpAny_newObj_type (wpAny_pure ⟨_, rfl, wpAny_pure h⟩) hok))
end
section
variable {X : Cx}
def tRevT (K : PySem.W.Frag) (te : TE) : TE := fun σ H Q => te σ H fun x H1 => ∃ a xs, x = .ref a ∧ SqT K H1 a xs ∧ ∀ p, H1 p = none → Q (.ref p) (upd H1 p (.tup xs.reverse))
theorem pe_revT {e : Expr} {te : TE} {k : Nat} {p1 p2 p3 pos : Pos} (he : PE X e te) : PE X (.Subscript e (.Slice none none (some (.UnaryOp .USub (.Constant (.int 1) k p1) p2)) p3) pos) (tRevT X.K te) := by
  refine ⟨fun pins s σ H Q I h => ?_⟩
  refine Subscript_ (thn (he.run pins s σ H _ I h) fun v s1 ⟨x, H1, I1, r1, q1⟩ => ?_)
  obtain ⟨a, xs, ex, hx, q⟩ := q1
  subst ex
  cases r1
  have hst : PO X (some (.UnaryOp .USub (.Constant (.int 1) k p1) p2)) (tPart (tUn (rU fun i => .int (-i)) (tC (.int 1)))) := po_some (pe_un un_neg pe_int)
  refine wpAny_Slice (thn (po_none.run pins s1 σ H1 (fun o H2 => o = none ∧ H2 = H1) I1 ⟨rfl, rfl⟩) fun vl s2 ⟨l, H2, I2, pl, el, e2⟩ => ?_)
  subst el e2
  refine thn (po_none.run pins s2 σ H2 (fun o H3 => o = none ∧ H3 = H2) I2 ⟨rfl, rfl⟩) fun vu s3 ⟨u, H3, I3, pu, eu, e3⟩ => ?_
  subst eu e3
  refine thn (hst.run pins s3 σ H3 (fun o H4 => o = some (-1) ∧ H4 = H3) I3 ⟨1, rfl, -1, rfl, rfl, rfl⟩) fun vs s4 ⟨o, H4, I4, ps, eo, e4⟩ => ?_
  subst eo e4
  have I5 : Inv X pins σ H4 { s4 with heap := s4.heap.push { cls := .type "slice", data := .fields #[vl, vu, vs] } } := I4.kept (t' := s4.toks) fun b ob q => Heap.get?_push_of_some _ q
  obtain ⟨its, r, ht, hz⟩ := I5.tuple hx
  have hlen := r.length
  show wpAny (model X.prog X.w) X.A (subscriptTail e (.Slice none none (some (.UnaryOp .USub (.Constant (.int 1) k p1) p2)) p3) (.ref a) (.ref s4.heap.objs.size)) (EP X pins σ Q) X.xe { s4 with heap := s4.heap.push { cls := .type "slice", data := .fields #[vl, vu, vs] } }
  refine tail_any (ops := [.ref a, .ref s4.heap.objs.size]) ht.typeIs (PyProof.Rows.slot_tuple_getitem.lookup) ?_ (by with_unfolding_all rfl)
  refine getItem_rev ht (Heap.IsSliceOf.new _ vl vu vs) pl pu ps ?_ (by rw [List.size_toArray]; omega)
  refine ⟨.ref _, _, I5.laid (t' := s4.toks) (o := .tup xs.reverse) (fun b ob q => Heap.get?_push_of_some _ q) (Nat.le_refl _) ?_, rfl, q _ (I5.hok.fresh (Nat.le_refl _))⟩
  refine ⟨by rw [List.length_reverse]; omega, its.reverse, r.reverse, _, Heap.get?_push_size _ rfl, rfl, 0, rfl⟩
end
end Gd

set_option Elab.async false
set_option linter.all false
set_option maxRecDepth 100000
set_option autoImplicit false
namespace Gd
open PySem PySem.Spec PyProof.Rows L2

/-! ### methods of an own class, called -/
section
variable {X : Cx} {x m qual : Str} {st : Stmt} {ps ks : List Str} {sp : Sp} {k j : Nat} {e o : Expr} {es : List Expr} {kws : List Keyword} {ta : TE} {t tk : TA} {p pos apos : Pos} {C : Addr}
/-- o.m(e, ..) -/
theorem pe_m {pl : Sem Bool} (T : Ck X.K X.mg C x) (D : Mt X.prog X.w X.K X.mg X.base k C m qual st ps sp) (hr : Room j X.A) (he : PE X o ta) (ha : PA X (e :: es) t) (hk : k ≤ j := by decide)
    (hst : starEach (e :: es) X.env = (false, eval e X.env) :: starEach es X.env := by rfl) (hpl : (backTo pos (starEach es X.env)).any (·.1) = false := by rfl)
    (ht : eval (.Call (.Attribute o m apos) (e :: es) [] pos) X.env = (do
      let ov ← eval o X.env
      standAt apos.atName
      let (f, first) ← holding [ov] (getMethod ov m pl)
      callWith pos f first (backTo pos (starEach (e :: es) X.env)) (backToKw pos (keywordEach [] X.env))) := by rfl) :
    PE X (.Call (.Attribute o m apos) (e :: es) [] pos) (tMeth C m sp [] E0 ta t) := by
  obtain ⟨f, fd, at_, i, F, b, ok⟩ := D.ex
  exact pe_meth he T.cl ⟨at_, i, F.kp⟩ ok (hr.mono hk) b .nil pass0 ha hst hpl ht
/-- o.m() -/
theorem pe_m0 {pl : Sem Bool} (T : Ck X.K X.mg C x) (D : Mt X.prog X.w X.K X.mg X.base k C m qual st ps sp) (hr : Room j X.A) (he : PE X o ta) (hk : k ≤ j := by decide)
    (ht : eval (.Call (.Attribute o m apos) [] [] pos) X.env = (do
      let ov ← eval o X.env
      standAt apos.atName
      let (f, first) ← holding [ov] (getMethod ov m pl)
      callWith pos f first (backTo pos (starEach [] X.env)) (backToKw pos (keywordEach [] X.env))) := by rfl) :
    PE X (.Call (.Attribute o m apos) [] [] pos) (tMeth C m sp [] E0 ta tNil) := by
  obtain ⟨f, fd, at_, i, F, b, ok⟩ := D.ex
  exact pe_meth0 he T.cl ⟨at_, i, F.kp⟩ ok (hr.mono hk) b .nil pass0 ht
/-- the reading of o == y, o with its own __eq__ -/
def rEqO (K : PySem.W.Frag) (C : Addr) (sp : Sp) : R2 := fun x y H Q => ∃ a dx fs t, x = .ref a ∧ H a = some (.ins C dx fs) ∧ TyX K H y t ∧ PySem.W.notFirst K C t = true ∧
  sp [.ref a, y] H (fun v H' => ∃ b : Bool, v = .bl b ∧ Q (.bl b) H') E0
/-- the reading of o.m(k = v, ..) -/
def tMethK (C : Addr) (m : Str) (n : Nat) (sp : Sp) (gV : List V → List V → List V) (ta : TE) (tk : TA) : TE := fun σ H Q => ta σ H fun x H1 => ∃ a dx fs, x = .ref a ∧ H1 a = some (.ins C dx fs) ∧ fs.lookup m = none ∧
  tk σ H1 fun zs H2 => zs.length = n ∧ sp (gV [x] zs) H2 Q E0
/-- o.m(k = v, ..) -/
theorem pe_mk {pl : Sem Bool} {g : {α : Type} → List α → List α → List α} (T : Ck X.K X.mg C x) (D : Mt X.prog X.w X.K X.mg X.base k C m qual st ps sp) (hr : Room j X.A) (kb : ∀ f fd, Fun X.K m qual st f fd → KBn X.K fd ps 1 ks g g) (he : PE X o ta) (hkw : PK X kws tk) (hk : k ≤ j := by decide)
    (hall : (backToKw pos (keywordEach kws X.env)).all (·.1.isSome) = true := by rfl) (hks : (backToKw pos (keywordEach kws X.env)).filterMap (·.1) = ks := by rfl)
    (hpl : ((backTo pos (starEach [] X.env)).any (·.1) || (backToKw pos (keywordEach kws X.env)).any (·.1.isNone)) = false := by rfl)
    (ht : eval (.Call (.Attribute o m apos) [] kws pos) X.env = (do
      let ov ← eval o X.env
      standAt apos.atName
      let (f, first) ← holding [ov] (getMethod ov m pl)
      callWith pos f first (backTo pos (starEach [] X.env)) (backToKw pos (keywordEach kws X.env))) := by rfl) :
    PE X (.Call (.Attribute o m apos) [] kws pos) (tMethK C m ks.length sp g ta tk) := by
  obtain ⟨f, fd, at_, i, F, b, ok⟩ := D.ex
  refine ⟨fun pins s σ H Q I h => ?_⟩
  refine PySem.W.methodCall_KW (pl := pl) (thn (he.run pins s σ H _ I h) fun u s1 got => ?_) ht
  obtain ⟨x', H1, I1, rx, a, dx, fs, ex, ea, l, q⟩ := got
  subst ex
  obtain rfl : u = Value.ref a := rx
  refine getmeth_ok I1 ea T.cl ⟨at_, i, F.kp⟩ l ?_
  refine PySem.W.callWith_KW0 (first := [.ref a]) (h₀ := X.base) I.ok.mod.kin F.kp hall ?_ hpl
  refine thn (hkw.run pos pins s1 σ H1 _ I1 q) fun ws s2 got2 => ?_
  obtain ⟨zs, H2, I2, rz, l1, q2⟩ := got2
  refine ⟨I2.kIn, ?_⟩
  rw [hks]
  have kb' := kb f fd F
  have r1 : Vals [V.ref a] [Value.ref a] := .cons rfl .nil
  have rel := kb'.rel r1 rz
  have bnd := kb'.to s2 [.ref a] ws I2.kIn rfl (rz.length.symm.trans l1)
  show wpAny _ _ (call (.ref f) [.ref a] (ks.zip ws)) _ _ _
  refine wpAny_call (codeAny_mono (ok.run X.A X.stack s2 H2 ⟨[.ref a], ks.zip ws⟩ _ _ _ E0 (hr.mono hk) I2.env0 bnd rel q2) ?_)
  intro r s' post
  cases r with
  | error e => exact (post : False).elim
  | ok fl =>
    cases fl with
    | ret u => exact I2.after post
    | next => exact (post : False).elim
    | brk => exact (post : False).elim
    | cont => exact (post : False).elim
end
end Gd

set_option Elab.async false
set_option linter.all false
set_option maxRecDepth 100000
set_option autoImplicit false
namespace Gd
open PySem PySem.Spec PyProof.Rows L2

/-! ### a shown text has only signs that there are -/
def Sg (t : Str) : Prop := ∀ c ∈ t.cps.toList, c < 1114112
theorem Sg.ok {t : Str} (h : Sg t) : PyData.strOk t = true := by
  unfold PyData.strOk
  rw [← Array.all_toList, List.all_eq_true]
  exact fun c m => decide_eq_true (h c m)
theorem Sg.of {t : Str} (h : PyData.strOk t = true) : Sg t := by
  unfold PyData.strOk at h
  rw [← Array.all_toList, List.all_eq_true] at h
  exact fun c m => of_decide_eq_true (h c m)
theorem char_lt (c : Char) : c.toNat < 1114112 := by
  have h := c.valid
  have e : c.toNat = c.val.toNat := rfl
  rcases h with h | h
  · have h1 : c.val.toNat < 0xd800 := h
    omega
  · have h1 : c.val.toNat < 0x110000 := h.2
    omega
theorem Sg.lit (s : String) : Sg (Str.ofString s) := fun c m => by
  rw [signs_ofString] at m
  obtain ⟨ch, _, rfl⟩ := List.mem_map.mp m
  exact char_lt ch
theorem Sg.app {a b : Str} (ha : Sg a) (hb : Sg b) : Sg (a ++ b) := fun c m => by
  have e : (a ++ b).cps = a.cps ++ b.cps := rfl
  rw [e, Array.toList_append, List.mem_append] at m
  exact m.elim (ha c) (hb c)
theorem reprChar_lt {q c : Nat} (hq : q < 1114112) (hc : c < 1114112) : ∀ d ∈ PySem.Builtin.Str.reprChar q c, d < 1114112 := by
  intro d m
  have hex : ∀ n, d ∈ List.replicate n 48 ++ (Nat.toDigits 16 c).map Char.toNat → d < 1114112 := fun n m => by
    rcases List.mem_append.mp m with m | m
    · have := (List.mem_replicate.mp m).2
      omega
    · obtain ⟨ch, _, rfl⟩ := List.mem_map.mp m
      exact char_lt ch
  unfold PySem.Builtin.Str.reprChar at m
  simp only at m
  split at m
  · simp only [List.mem_cons, List.not_mem_nil, or_false] at m
    omega
  split at m
  · simp only [List.mem_cons, List.not_mem_nil, or_false] at m
    omega
  split at m
  · simp only [List.mem_cons, List.not_mem_nil, or_false] at m
    omega
  split at m
  · simp only [List.mem_cons, List.not_mem_nil, or_false] at m
    omega
  split at m
  · simp only [List.mem_cons, List.not_mem_nil, or_false] at m
    omega
  split at m
  · rcases List.mem_append.mp m with m | m
    · simp only [List.mem_cons, List.not_mem_nil, or_false] at m
      omega
    · exact hex _ m
  split at m
  · rcases List.mem_append.mp m with m | m
    · simp only [List.mem_cons, List.not_mem_nil, or_false] at m
      omega
    · exact hex _ m
  · rcases List.mem_append.mp m with m | m
    · simp only [List.mem_cons, List.not_mem_nil, or_false] at m
      omega
    · exact hex _ m
theorem foldl_lt {q : Nat} (hq : q < 1114112) : ∀ (l : List Nat) (acc : Array Nat), (∀ c ∈ l, c < 1114112) → (∀ c ∈ acc.toList, c < 1114112) → ∀ c ∈ (l.foldl (fun out c => out ++ (PySem.Builtin.Str.reprChar q c).toArray) acc).toList, c < 1114112
  | [], acc, _, ha => ha
  | c :: l, acc, hl, ha => by
    refine foldl_lt hq l _ (fun d m => hl d (List.mem_cons_of_mem _ m)) fun d m => ?_
    rw [Array.toList_append, List.mem_append] at m
    rcases m with m | m
    · exact ha d m
    · exact reprChar_lt hq (hl c List.mem_cons_self) d m
theorem quote_lt (x : Str) : reprQuote x < 1114112 := by
  unfold reprQuote
  split <;> decide
theorem Sg.repr {x : Str} (h : Sg x) : Sg (reprText x) := by
  intro c m
  have e : (reprText x).cps = (x.cps.foldl (fun out c => out ++ (PySem.Builtin.Str.reprChar (reprQuote x) c).toArray) #[reprQuote x]).push (reprQuote x) := rfl
  rw [e, Array.toList_push, List.mem_append] at m
  rcases m with m | m
  · rw [← Array.foldl_toList] at m
    refine foldl_lt (quote_lt x) _ _ h (fun d md => ?_) c m
    have : d = reprQuote x := by simpa using md
    rw [this]
    exact quote_lt x
  · have : c = reprQuote x := by simpa using m
    rw [this]
    exact quote_lt x
theorem Sg.text : ∀ (ts : List Str) (k : Nat) (acc : Str), Sg acc → (∀ t ∈ ts, Sg t) → Sg (textFrom k acc ts)
  | [], _, _, ha, _ => ha
  | t :: ts, k, acc, ha, ht => by
    refine Sg.text ts (k + 1) _ (Sg.app (Sg.app ha ?_) (ht t List.mem_cons_self)) fun u m => ht u (List.mem_cons_of_mem _ m)
    split
    · exact Sg.lit _
    · exact Sg.lit _
theorem Sg.join {sep : Str} (hs : Sg sep) : ∀ (ts : List Str), (∀ t ∈ ts, Sg t) → Sg (Str.join sep ts)
  | [], _ => fun c m => by
    have : c ∈ ([] : List Nat) := m
    simp at this
  | [x], h => h x List.mem_cons_self
  | x :: y :: r, h => Sg.app (Sg.app (h x List.mem_cons_self) hs) (Sg.join hs (y :: r) fun t m => h t (List.mem_cons_of_mem _ m))
mutual
theorem shown_sg : ∀ d : PyData, d.canLay0 = true → Sg d.shown
  | .none, _ => by
    rw [PyData.shown_none]
    exact Sg.lit _
  | .bool b, _ => by
    rw [PyData.shown_bool]
    split <;> exact Sg.lit _
  | .int i, _ => by
    rw [PyData.shown_int]
    exact Sg.lit _
  | .str x, h => by
    have h' : PyData.strOk x = true := by simpa [PyData.canLay0] using h
    have e : (PyData.str x).shown = reprText x := by simp [PyData.shown]
    rw [e]
    exact Sg.repr (Sg.of h')
  | .list xs, h => by
    have h' : PyData.canLayAll0 xs = true := by simpa [PyData.canLay0] using h
    have e : (PyData.list xs).shown = listText (PyData.shownAll xs) := by simp [PyData.shown]
    rw [e]
    exact Sg.app (Sg.text _ _ _ (Sg.lit _) (shownAll_sg xs h')) (Sg.lit _)
  | .tuple xs, h => by
    have h' : PyData.canLayAll0 xs = true := by simpa [PyData.canLay0] using h
    have e : (PyData.tuple xs).shown = tupleText (PyData.shownAll xs) := by simp [PyData.shown]
    rw [e]
    refine Sg.app (Sg.app (Sg.lit _) (Sg.join (Sg.lit _) _ (shownAll_sg xs h'))) ?_
    split <;> exact Sg.lit _
  | .dict _, h => by simp [PyData.canLay0] at h
theorem shownAll_sg : ∀ xs : List PyData, PyData.canLayAll0 xs = true → ∀ t ∈ PyData.shownAll xs, Sg t
  | [], _, t, m => by
    rw [PyData.shownAll_nil] at m
    simp at m
  | x :: xs, h, t, m => by
    have h' : x.canLay0 = true ∧ PyData.canLayAll0 xs = true := by simpa [PyData.canLayAll0] using h
    rw [PyData.shownAll_cons, List.mem_cons] at m
    rcases m with rfl | m
    · exact shown_sg x h'.1
    · exact shownAll_sg xs h'.2 t m
end
theorem shown_ok {d : PyData} (h : d.canLay0 = true) : PyData.strOk d.shown = true := (shown_sg d h).ok
end Gd

set_option Elab.async false
set_option linter.all false
set_option maxRecDepth 100000
set_option autoImplicit false
namespace Gd
open PySem PySem.Spec PyProof.Rows L2

/-! ### dicts of text keys -/
mutual
theorem reads_noL {h : Heap} : ∀ (d : PyData) {v : Value} {as : List Addr}, Reads h v d as → NoL d → as = []
  | .none, _, _, r, _ => by cases r; rfl
  | .bool _, _, _, r, _ => by cases r; rfl
  | .int _, _, _, r, _ => by cases r; rfl
  | .str _, _, _, r, _ => by cases r; rfl
  | .list _, _, _, _, n => by cases n
  | .tuple ds, _, _, r, n => by
    cases r with
    | tuple h1 h2 h3 ra => exact readsAll_noL ds ra (by cases n with | tup f => exact f)
  | .dict _, _, _, _, n => by cases n
theorem readsAll_noL {h : Heap} : ∀ (ds : List PyData) {vs : List Value} {as : List Addr}, ReadsAll h vs ds as → (∀ d ∈ ds, NoL d) → as = []
  | [], _, _, r, _ => by cases r; rfl
  | d :: ds, _, _, r, n => by
    cases r with
    | cons r1 r2 =>
      rw [reads_noL d r1 (n d (by simp)), readsAll_noL ds r2 (fun x m => n x (by simp [m]))]
      rfl
end
/-- the pairs of a dict -/
abbrev kvOf (ks : List Str) (vs : List V) : List (Key × V) := (ks.map Sum.inr).zip vs
/-- at a: a dict from the texts ks to values of the data ds -/
structure Dct (K : PySem.W.Frag) (H : Hp) (a : Addr) (ks : List Str) (ds : List PyData) : Prop where
  ex : ∃ vs : List V, vs.length = ks.length ∧ H a = some (.dK (kvOf ks vs)) ∧ DpAll K H vs ds
  nol : ∀ d ∈ ds, NoL d
theorem keys_reads {P : Program} {w : World} {h : Heap} : ∀ {es : List DictEntry} {kvs : List (Key × Value)} {ks : List Str}, Pairs (mixKind P w) es kvs → kvs.map (·.1) = ks.map Sum.inr → ReadsAll h (es.map (·.key)) (ks.map PyData.str) []
  | [], _, ks, .nil, e => by
    have : ks = [] := by simpa using e.symm
    subst this
    exact .nil
  | _ :: _, _, [], .cons _ _ _, e => by simp at e
  | d :: es, kv :: kvs, k :: ks, .cons h1 h2 h3, e => by
    simp only [List.map_cons, List.cons.injEq] at e
    have h1' : keyIs kv.1 d.key = true := h1
    rw [e.1] at h1'
    rcases keyIs_shape h1' with ⟨i, t, q, _⟩ | ⟨x, t, q, q2⟩
    · cases q
    · cases q
      have := keys_reads (h := h) h3 e.2
      simp only [List.map_cons]
      rw [q2]
      exact ReadsAll.cons (.str k t) this
theorem vals_of_pairs {P : Program} {w : World} : ∀ {es : List DictEntry} {kvs : List (Key × Value)}, Pairs (mixKind P w) es kvs → es.map (·.val) = kvs.map (·.2)
  | _, _, .nil => rfl
  | _, _, .cons _ h2 h3 => by
    simp only [List.map_cons]
    rw [h2, vals_of_pairs h3]
theorem kv_vals {α : Type} : ∀ {kvs : List (α × V)} {us : List (α × Value)}, KV kvs us → Vals (kvs.map (·.2)) (us.map (·.2))
  | _, _, .nil => .nil
  | _, _, .cons h t => .cons h.2 (kv_vals t)
theorem kv_keys {α : Type} : ∀ {kvs : List (α × V)} {us : List (α × Value)}, KV kvs us → kvs.map (·.1) = us.map (·.1)
  | _, _, .nil => rfl
  | _, _, .cons h t => by
    simp only [List.map_cons]
    rw [h.1, kv_keys t]
theorem kvOf_keys : ∀ {ks : List Str} {vs : List V}, vs.length = ks.length → (kvOf ks vs).map (·.1) = ks.map Sum.inr
  | [], [], _ => rfl
  | k :: ks, v :: vs, l => by
    show Sum.inr k :: (kvOf ks vs).map (·.1) = _
    rw [kvOf_keys (by simpa using l)]
    rfl
theorem kvOf_vals : ∀ {ks : List Str} {vs : List V}, vs.length = ks.length → (kvOf ks vs).map (·.2) = vs
  | [], [], _ => rfl
  | k :: ks, v :: vs, l => by
    show v :: (kvOf ks vs).map (·.2) = _
    rw [kvOf_vals (by simpa using l)]
/-- the data of such a dict -/
def dctD (ks : List Str) (ds : List PyData) : PyData := .dict ((ks.map PyData.str).zip ds)
/-- a dict whose text is short -/
structure DctOk (n k : Nat) (ks : List Str) (ds : List PyData) : Prop where
  ks_ : ∀ x ∈ ks, DOk 20 1 (.str x)
  ds_ : ∀ d ∈ ds, DOk n k d
  len : ds.length = ks.length
  few : ks.length ≤ 100
theorem zip_facts {n k : Nat} : ∀ {ks : List Str} {ds : List PyData}, ds.length = ks.length → (∀ x ∈ ks, DOk 20 1 (.str x)) → (∀ d ∈ ds, DOk n k d) → 1 ≤ k →
    PyData.leavesShortKv 72 ((ks.map PyData.str).zip ds) = true ∧ PyData.bulkKv ((ks.map PyData.str).zip ds) ≤ ks.length * (n + 22) ∧ PyData.showableKv ((ks.map PyData.str).zip ds) = true ∧ PyData.depthKv ((ks.map PyData.str).zip ds) ≤ k
  | [], [], _, _, _, _ => ⟨rfl, by simp [PyData.bulkKv], rfl, by simp [PyData.depthKv]⟩
  | x :: ks, d :: ds, l, hk, hd, k1 => by
    obtain ⟨a1, a2, a3, a4⟩ := zip_facts (ks := ks) (ds := ds) (by simpa using l) (fun y m => hk y (by simp [m])) (fun y m => hd y (by simp [m])) k1
    have X := hk x (by simp)
    have D := hd d (by simp)
    simp only [List.map_cons, List.zip_cons_cons]
    refine ⟨?_, ?_, ?_, ?_⟩
    · unfold PyData.leavesShortKv
      rw [X.short, D.short, a1]
      rfl
    · unfold PyData.bulkKv
      have := X.bulk
      have := D.bulk
      rw [List.length_cons, Nat.succ_mul]
      omega
    · unfold PyData.showableKv
      rw [X.shw, D.shw, a3]
      rfl
    · unfold PyData.depthKv
      have := X.deep
      have := D.deep
      omega
theorem reads_dct {X : Cx} {pins : List (Addr × Obj)} {σ : L2.St} {H : Hp} {s : Shared} {a : Addr} {ks : List Str} {ds : List PyData} (I : Inv X pins σ H s) (h : Dct X.K H a ks ds) : Reads s.heap (.ref a) (dctD ks ds) [a] ∧ a ≠ sysModules := by
  obtain ⟨vs, lv, e, da⟩ := h.ex
  obtain ⟨_, hs, us, kv, o, es, ep, ho, ex, hdat, _, prs, _⟩ := dk_of I.hok e
  have k1 : ReadsAll s.heap (es.toList.map (·.key)) (ks.map PyData.str) [] := keys_reads prs (by rw [← kv_keys kv, kvOf_keys lv])
  have rv : Vals vs (us.map (·.2)) := by
    have z := kv_vals kv
    rw [kvOf_vals lv] at z
    exact z
  obtain ⟨as, k2⟩ := Dp.readsAll I ds vs (us.map (·.2)) da rv
  have z := readsAll_noL ds k2 h.nol
  subst z
  rw [← vals_of_pairs prs] at k2
  have l1 : (ks.map PyData.str).length = ds.length := by rw [List.length_map, ← lv, dpa_len da]
  have e1 : ((ks.map PyData.str).zip ds).map (·.1) = ks.map PyData.str := by
    rw [List.map_fst_zip]
    omega
  have e2 : ((ks.map PyData.str).zip ds).map (·.2) = ds := by
    rw [List.map_snd_zip]
    omega
  refine ⟨?_, fun z => ?_⟩
  · have := Reads.dict (kvs := (ks.map PyData.str).zip ds) ho ex.1 hdat (by rw [e1]; exact k1) (by rw [e2]; exact k2)
    exact this
  · rw [z] at hs
    simp at hs
section
variable {X : Cx}
/-- repr of a dict that is short -/
theorem call_reprDct {k : Nat} (gd : X.A.guards = some []) (hr : Room k X.A) : CallR X (.builtin "repr") (fun xs H Q => ∃ a ks ds n j, xs = [.ref a] ∧
    Dct X.K H a ks ds ∧ DctOk n j ks ds ∧ n ≤ 1000 ∧ 1 ≤ j ∧ j ≤ 60 ∧ Q (.str (dctD ks ds).shown) H) := by
  intro pins s σ H xs us Q I r h
  obtain ⟨a, ks, ds, n, j, rfl, dc, ok, hn, j1, hj, q⟩ := h
  obtain ⟨u, rfl, ru⟩ := vals1 r
  cases ru
  obtain ⟨rd, ns⟩ := reads_dct I dc
  obtain ⟨f1, f2, f3, f4⟩ := zip_facts ok.len ok.ks_ ok.ds_ j1
  have room := hr.un
  have dd : (dctD ks ds).depth ≤ 61 := by
    unfold dctD PyData.depth
    omega
  have fits : (dctD ks ds).shown.length ≤ sizeLine := by
    have e := PyData.shown_le_bulk 72 (by decide) (dctD ks ds) (by unfold dctD PyData.leavesShort; exact f1)
    have b : (dctD ks ds).bulk ≤ ks.length * (n + 22) := by
      unfold dctD PyData.bulk
      exact f2
    have c : ks.length * (n + 22) ≤ 100 * 1022 := Nat.mul_le_mul ok.few (by omega)
    have s : sizeLine = 16777216 := by decide
    omega
  refine repr_of_reads' rd (by unfold dctD PyData.showable; exact f3) (fun _ z => ?_) gd (by omega) (fun _ _ e => e) ?_ fits
  · have : sysModules = a := by simpa using z
    exact ns this.symm
  · intro h' u tk keep
    exact ⟨.str _, H, I.kept keep, ⟨u, rfl⟩, q⟩
end

/-! ### what stands at a key -/
theorem valV_kv {ks : List Str} (nd : ks.Nodup) : ∀ {vs : List V} {i : Nat} {x : Str} {v : V}, ks[i]? = some x → vs[i]? = some v → valV (kvOf ks vs) (.inr x) = some v := by
  induction ks with
  | nil => intro vs i x v e; simp at e
  | cons k ks ih =>
    intro vs i x v e1 e2
    cases vs with
    | nil => simp at e2
    | cons u vs =>
      have nd' := List.nodup_cons.mp nd
      show valV ((Sum.inr k, u) :: kvOf ks vs) (.inr x) = some v
      cases i with
      | zero =>
        have a : k = x := by simpa using e1
        have b : u = v := by simpa using e2
        subst a b
        exact valV_pos rfl
      | succ i =>
        have m : x ∈ ks := List.mem_of_getElem? (by simpa using e1)
        have ne : ¬ (Sum.inr k : Key) = Sum.inr x := fun z => by
          cases z
          exact nd'.1 m
        rw [valV_neg ne]
        exact ih nd'.2 (by simpa using e1) (by simpa using e2)
theorem valV_no {x : Str} : ∀ {ks : List Str} {vs : List V}, x ∉ ks → valV (kvOf ks vs) (.inr x) = none
  | [], _, _ => rfl
  | _ :: _, [], _ => rfl
  | k :: ks, v :: vs, h => by
    show valV ((Sum.inr k, v) :: kvOf ks vs) (.inr x) = none
    rw [valV_neg (fun z => by cases z; exact h (by simp))]
    exact valV_no (fun m => h (by simp [m]))
theorem kvOf_snoc {ks : List Str} {vs : List V} {k : Str} {v : V} (l : vs.length = ks.length) : kvOf ks vs ++ [(Sum.inr k, v)] = kvOf (ks ++ [k]) (vs ++ [v]) := by
  unfold kvOf
  rw [List.map_append, List.zip_append (by rw [List.length_map, l])]
  rfl
theorem Dct.same {K : PySem.W.Frag} {H H' : Hp} {a : Addr} {ks : List Str} {ds : List PyData} (k : Same H H') (h : Dct K H a ks ds) : Dct K H' a ks ds := by
  obtain ⟨vs, l, e, d⟩ := h.ex
  exact ⟨⟨vs, l, k _ _ e, dpa_same k d⟩, h.nol⟩
theorem Dct.kl {K : PySem.W.Frag} {H H' : Hp} {a g : Addr} {ks : List Str} {ds : List PyData} (k : Kl g H H') (h : Dct K H a ks ds) : Dct K H' a ks ds := by
  obtain ⟨vs, l, e, d⟩ := h.ex
  obtain ⟨ys, eg⟩ := k.1
  exact ⟨⟨vs, l, k.2 _ _ (ne_of e eg (fun z => by cases z)) e, dpa_kl k d h.nol⟩, h.nol⟩
end Gd

set_option Elab.async false
set_option linter.all false
set_option maxRecDepth 100000
set_option maxHeartbeats 2000000
set_option autoImplicit false
namespace Gd
open PySem PySem.Spec PyProof.Rows L2

/-! ### own exceptions with the __init__ of their base: made as values -/
/-- where that __init__ stands -/
def AtI (K : PySem.W.Frag) (fI : Addr) (qual : Str) (st : Stmt) (ps : List Str) : Prop := ∃ fd, Fun K "__init__" qual st fI fd ∧ Binds K fd ps []
structure DnI (P : Program) (w : World) (K : PySem.W.Frag) (mg : Str → Option Value) (base : Heap) (k : Nat) (fI : Addr) (qual : Str) (st : Stmt) (ps : List Str) (sp : Sp) : Prop where
  ex : ∃ fd, Fun K "__init__" qual st fI fd ∧ Binds K fd ps [] ∧ FnOk P w K mg base CX0 k fI fd ps sp
theorem DnI.mk' {P : Program} {w : World} {K : PySem.W.Frag} {mg : Str → Option Value} {base : Heap} {fI : Addr} {qual : Str} {st : Stmt} {ps : List Str} {k : Nat} {sp : Sp} (h : AtI K fI qual st ps)
    (ok : ∀ f fd, Fun K "__init__" qual st f fd → FnOk P w K mg base CX0 k f fd ps sp) : DnI P w K mg base k fI qual st ps sp := by
  obtain ⟨fd, F, b⟩ := h
  exact ⟨fd, F, b, ok fI fd F⟩
/-- what the top has left of such a class -/
structure ExT (K : PySem.W.Frag) (mg : Str → Option Value) (C fI : Addr) (x : Str) : Prop where
  ox : OexC K C
  mg_ : mg x = some (.ref C)
  iC : PySem.W.findIn K (.ref C) "__init__" = some (some (.ref fI))
  tI : PySem.W.typeIn K (.ref fI) = some (.type "function")
  nV : PySem.W.findIn K (.ref C) "value" = some none
  hg : PySem.W.findIn K (.ref C) "__getattribute__" = some (some (.builtin "BaseException.__getattribute__"))
  hk : PySem.W.findIn K (.ref C) "__getattr__" = some none
  hd : PySem.W.hasDictIn K C = true
  ha : PySem.W.findIn K (.ref C) "__class__" = some (some (.builtin "object.__class__"))
  hn : PySem.W.specialIn K (.builtin "object.__class__") "__get__" = some (some (.builtin "getset_descriptor.__get__"))
  ht : PySem.W.takesIn K (.builtin "object.__class__") = some true
  hm : PySem.W.mroIn K C (.type "object") = some true
/-- at a: an exception of the class at C that bears v -/
def ErrAt (H : Hp) (C : Addr) (a : Addr) (v : V) : Prop := ∃ d, H a = some (exo a C (some d)) ∧ H d = some (exd d [("value", v)])
theorem ErrAt.same {H H' : Hp} {C a : Addr} {v : V} (k : Same H H') (h : ErrAt H C a v) : ErrAt H' C a v := by
  obtain ⟨d, h1, h2⟩ := h
  exact ⟨d, k _ _ h1, k _ _ h2⟩
/-- the promise of __init__ -/
def spIni (K : PySem.W.Frag) : Sp := fun vs H Q _ => ∃ a C v, vs = [.ref a, v] ∧ OexC K C ∧ PySem.W.findIn K (.ref C) "value" = some none ∧ H a = some (exo a C none) ∧
  ∀ dx, H dx = none → dx ≠ a → Q .non (upd (upd H dx (exd dx [("value", v)])) a (exo a C (some dx)))
/-- C(e, ..), as a value -/
def tMkV (C : Addr) (sp : Sp) (ta : TA) : TE := fun σ H Q => ta σ H fun vs H1 => vs.length ≤ 1000 ∧ ∀ a, H1 a = none → sp (.ref a :: vs) (upd H1 a (exo a C none)) (fun v H2 => v = .non ∧ Q (.ref a) H2) E0
section
variable {X : Cx} {x qual : Str} {st : Stmt} {ps : List Str} {sp : Sp} {k j : Nat} {e : Expr} {es : List Expr} {ta : TA} {p pos : Pos} {C fI : Addr}
theorem pe_mkE (T : ExT X.K X.mg C fI x) (D : DnI X.prog X.w X.K X.mg X.base k fI qual st ps sp) (hr : Room j X.A) (hg : Gl X x) (ha : PA X (e :: es) ta) (hk : k + 1 ≤ j := by decide)
    (hdb : (x == ("__debug__" : Str)) = false := by decide) (he : starEach (e :: es) X.env = (false, eval e X.env) :: starEach es X.env := by rfl)
    (hpl : (backTo pos (starEach es X.env)).any (·.1) = false := by rfl) :
    PE X (.Call (.Name x p) (e :: es) [] pos) (tMkV C sp ta) := by
  obtain ⟨fd, F, b, ok⟩ := D.ex
  have hr' := hr.mono hk
  refine ⟨fun pins s σ H Q I h => ?_⟩
  obtain ⟨nm, q, N, bs, bm, sn, sub, ab, col, dd, k0, k1, k2, k3, k5, hC, hbm⟩ := T.ox.cls
  refine wpAny_Call_Name_kw (ld_glob I hg T.mg_ ?_ hdb)
  refine PySem.W.callWith_K (h₀ := X.base) I.ok.mod.kin T.ox.kC (thn (ha.run pos pins s σ H _ I h) fun us s1 got => ?_) he hpl
  obtain ⟨vs, H1, I1, r1, hz, q1⟩ := got
  refine ⟨I1.kIn, ?_⟩
  show wpAny _ _ (call (.ref C) us) _ _ _
  obtain ⟨hp, g, dr, tk, os⟩ := s1
  have big : hp.objs.size ≤ hp.objs.size + 1 := Nat.le_succ _
  have new : H1 (hp.objs.size + 1) = none := I1.hok.fresh big
  have hq := q1 (hp.objs.size + 1) new
  have grow : ∀ b o, hp.get? b = some o → ((hp.push (PySem.W.kdv_tup us)).push (PySem.HandSPX.excO C hp.objs.size)).get? b = some o := fun b o z => Heap.get?_push_of_some _ (Heap.get?_push_of_some _ z)
  have there : ((hp.push (PySem.W.kdv_tup us)).push (PySem.HandSPX.excO C hp.objs.size)).get? (hp.objs.size + 1) = some (PySem.HandSPX.excO C hp.objs.size) := by heap_get
  have I2 : Inv X pins σ (upd H1 (hp.objs.size + 1) (exo (hp.objs.size + 1) C none)) ⟨(hp.push (PySem.W.kdv_tup us)).push (PySem.HandSPX.excO C hp.objs.size), g, dr, tk, os⟩ := I1.laid (t' := tk) grow big (exo_ok there)
  have r2 : Vals (V.ref (hp.objs.size + 1) :: vs) (Value.ref (hp.objs.size + 1) :: us) := .cons rfl r1
  have cnt : (Value.ref (hp.objs.size + 1) :: us).length = ps.length := by
    rw [← r2.length]
    exact ok.len _ _ _ _ hq
  have bnd : BindsTo ⟨(hp.push (PySem.W.kdv_tup us)).push (PySem.HandSPX.excO C hp.objs.size), g, dr, tk, os⟩ fd ⟨Value.ref (hp.objs.size + 1) :: us, []⟩ (ps.zip (Value.ref (hp.objs.size + 1) :: us)) := by
    have z := b _ (Value.ref (hp.objs.size + 1) :: us) I2.kIn (by simpa using cnt)
    simpa using z
  have few : us.length ≤ sizeLine := by
    rw [← Paired.length r1, sizeLine_eq]
    omega
  refine wpAny_call (PySem.HandSPX.call_own PySem.F.excBase_ValueError (fun Y => PySem.HandSPX.refsVE_contains Y bm hbm) (I1.kIn _ _ hC) (PySem.W.looks_findIn I1.kIn T.iC) (fun self => PySem.W.bind_fn I1.kIn self T.tI) few ?_)
  refine codeAny_mono (ok.run _ X.stack _ _ ⟨Value.ref (hp.objs.size + 1) :: us, []⟩ (Value.ref (hp.objs.size + 1) :: us) _ _ E0 (hr'.make C us []) (I2.env0.make C us []) bnd r2 hq) fun r s' post => ?_
  cases r with
  | error er => exact (post : False).elim
  | ok fl =>
    cases fl with
    | ret u =>
      obtain ⟨v, H3, I3, rv, ev, q3⟩ := I2.after post
      subst ev
      exact ⟨rv, .ref (hp.objs.size + 1), H3, I3, rfl, q3⟩
    | next => exact (post : False).elim
    | brk => exact (post : False).elim
    | cont => exact (post : False).elim
end
/-- an exception is made -/
theorem mk_err {K : PySem.W.Frag} {C : Addr} {H1 : Hp} {v : V} {Q : Addr → Hp → Prop} {E : XK} (T : OexC K C) (n : PySem.W.findIn K (.ref C) "value" = some none)
    (q : ∀ a H', Same H1 H' → H1 a = none → ErrAt H' C a v → Q a H') :
    ∀ a, H1 a = none → spIni K (.ref a :: [v]) (upd H1 a (exo a C none)) (fun u H2 => u = .non ∧ Q a H2) E := by
  intro a na
  refine ⟨a, C, v, rfl, T, n, upd_same, fun dx nd ne => ⟨rfl, ?_⟩⟩
  have nd1 : H1 dx = none := by rw [upd_ne ne] at nd; exact nd
  refine q a _ (fun b o e => ?_) na ⟨dx, upd_same, ?_⟩
  · rw [upd_ne (ne_of_none e na), upd_ne (ne_of_none e nd1), upd_ne (ne_of_none e na)]
    exact e
  · rw [upd_ne ne, upd_same]
/-! ### e.value -/
def tVal (ta : TE) (C : Addr → Prop) : TE := fun σ H Q => ta σ H fun x H1 => ∃ a c v, x = .ref a ∧ C c ∧ ErrAt H1 c a v ∧ Q v H1
theorem err_inst {X : Cx} {pins : List (Addr × Obj)} {σ : L2.St} {H : Hp} {s : Shared} {C a : Addr} {v : V} (I : Inv X pins σ H s) (h : ErrAt H C a v) :
    ∃ (oe od : Obj) (u : Value), PySem.W.InstAt s.heap a oe C (some od) ∧ RelV v u ∧ PySem.W.lookIn "value" od = some (some u) := by
  obtain ⟨d, e1, e2⟩ := h
  obtain ⟨t1, he⟩ := exo_at I.hok e1
  obtain ⟨mA, ns, rel⟩ := exd_at I.hok e2
  obtain ⟨od, ho, hl⟩ := lookIn_ns ns
  have l : List.lookup ("value" : Str) [(("value" : Str), v)] = some v := by simp [List.lookup]
  obtain ⟨u, hu, ru⟩ := RelO.some_of (v := v) (o := mA "value") (by rw [← l]; exact rel "value")
  exact ⟨_, od, u, ⟨he, rfl, rfl, ho⟩, ru, by rw [hl, hu]⟩
theorem pe_val {X : Cx} {e : Expr} {te : TE} {pos : Pos} {S : Addr → Prop} (T : ∀ c, S c → ∃ fI x, ExT X.K X.mg c fI x) (he : PE X e te) (hb : attributeBase e "value" X.env (eval e X.env) = eval e X.env := by rfl) :
    PE X (.Attribute e "value" pos) (tVal te S) := by
  refine ⟨fun pins s σ H Q I h => ?_⟩
  refine attr_of hb (thn (he.run pins s σ H _ I h) fun u s1 got => ?_)
  obtain ⟨x, H1, I1, rx, a, c, v, ex, sc, ea, q⟩ := got
  subst ex
  obtain rfl : u = Value.ref a := rx
  obtain ⟨fI, y, T⟩ := T c sc
  obtain ⟨oe, od, w, J, ru, hl⟩ := err_inst I1 ea
  exact HandSPX.exc_get I1.kIn J T.hg T.hk T.ox.exC (PySem.W.findObj_own T.hd T.nV rfl hl) (handed_of ru) ⟨v, H1, I1.tok _, ru, q⟩
/-! ### isinstance(e, D) of such an exception -/
end Gd
namespace PySem.W
open PySem PySem.Spec PySem.Calls PyProof.Rows
section
variable {prog : Program} {w : World} {A : Around} {E : Value → Shared → Prop} {s : Shared} {K : Frag} {x D : Addr} {ox : Obj} {od : Option Obj}
theorem gd_findCls (c : (clsIn K D).isSome = true) {a g : Value} {n : Str} (f : findIn K (.ref D) n = some (some a)) (gt : specialIn K a "__get__" = some (some g)) (tk : takesIn K a = some true) : findObj K D od n = some (.bind g a) := by
  obtain ⟨cd, e⟩ := Option.isSome_iff_exists.mp c
  simp [findObj, e, f, gt, tk]
theorem gd_readCls {Q : Option Value → Shared → Prop} (ga : findIn K (.ref D) "__getattribute__" = some (some (.builtin "BaseException.__getattribute__"))) (gg : findIn K (.ref D) "__getattr__" = some none)
    (isE : subIn K (.ref D) (.type "BaseException") = some true) (c : (clsIn K D).isSome = true) (fc : findIn K (.ref D) "__class__" = some (some (.builtin "object.__class__")))
    (gt : specialIn K (.builtin "object.__class__") "__get__" = some (some (.builtin "getset_descriptor.__get__"))) (tk : takesIn K (.builtin "object.__class__") = some true) (mo : mroIn K D (.type "object") = some true)
    (Y : K.In s.heap) (J : InstAt s.heap x ox D od) (q : Q (some (.ref D)) { s with toks := s.toks + 1 }) : wpAny (model prog w) A (getAttr? (.ref x) "__class__") Q E s := by
  obtain ⟨hp, g, d, t, os⟩ := s
  have own : Looks (model prog w) hp (typeOf (.ref x)) (.ref D) := J.type
  have lga := looks_findIn (M := model prog w) Y ga
  have lgg := looks_findIn (M := model prog w) Y gg
  have lfc := looks_find (M := model prog w) Y J (gd_findCls (od := od) c fc gt tk)
  have exc : Looks (model prog w) hp (isInstance (.ref x) (.type "BaseException")) true := own.andThen (looks_subIn Y isE)
  have ne : (Value.builtin "BaseException.__getattribute__" == Value.builtin "object.__getattribute__") = false := by decide +kernel
  unfold getAttr? getAttrBy? getAttrBy
  refine wpAny_bind (wpAny_mkText (wpAny_bind (wpAny_attempt (wpAny_holding (wpAny_bind (own.at (wpAny_bind (lga.at ?_))))))))
  show wpAny _ _ (if (onTheHeap (Value.ref D) && (Value.builtin "BaseException.__getattribute__" == Value.builtin "object.__getattribute__")) = true then _ else _) _ _ _
  rw [ne, Bool.and_false, if_neg Bool.false_ne_true]
  unfold getAttrByItsOwn hookBefore
  refine wpAny_bind ?_
  rw [if_pos (show onTheHeap (Value.ref D) = true by rfl)]
  refine lgg.at (wpAny_bind (wpAny_attempt (wpAny_holding ?_)))
  unfold callGetattribute boundAndCalled
  rw [if_neg (by decide), PySem.F.excAttr_ValueError.ga.bind (.ref x)]
  refine wpAny_bind (wpAny_pure ?_)
  show wpAny _ _ (call (.builtin "BaseException.__getattribute__") [.ref x, .str "__class__" t]) _ _ _
  refine wpAny_call (codeAny_call_builtin PySem.F.excAttr_ValueError.ga.plain PySem.F.entry_bexc_ga ?_)
  refine @check_slot (model prog w) _ _ ⟨hp, g, d, t + 1, os⟩ "BaseException.__getattribute__" "BaseException" "__getattribute__" (.ref x) [.str "__class__" t] [] _ (by decide +kernel) (by decide +kernel) exc (PySem.F.args_bexc_ga (.ref x) (.str "__class__" t)) ?_
  unfold Builtin.«object.__getattribute__»
  refine wpAny_bind (wpAny_of_eq (a := ((Value.ref x : Value), [Value.str "__class__" t])) (by first | rfl | (simp only [slotArgs]; rfl)) (wpAny_bind (wpAny_pure (wpAny_bind (own.at (wpAny_bind (lfc.at ?_)))))))
  show wpAny _ _ (holding [Value.builtin "object.__class__"] (call (.builtin "getset_descriptor.__get__") [.builtin "object.__class__", .ref x, .ref D]) >>= ret) _ _ _
  refine wpAny_bind (wpAny_holding (wpAny_call (class_get (s := ⟨hp, g, d, t + 1, os⟩) (ox := ox) (od := od) Y J mo (wpAny_pure ?_))))
  show wpAny _ _ (handedOut (.ref D)) _ _ _
  rw [handedOut_of (v := .ref D) rfl]
  first
    | exact wpAny_pure (wpAny_pure q)
    | exact wpAny_pure q
    | exact wpAny_pure (wpAny_bind (wpAny_pure (wpAny_pure q)))
end
end PySem.W
namespace Gd
open PySem PySem.Spec PyProof.Rows L2
theorem err_kit {K : PySem.W.Frag} {mg : Str → Option Value} {C fI a : Addr} {x : Str} (T : ExT K mg C fI x) : PySem.W.KitX K (.ref a) (.ref C) (fun h => ∃ ox od, PySem.W.InstAt h a ox C od) where
  ty := fun _ _ _ ⟨_, _, J⟩ => J.type
  it := fun M h Y _ => by
    obtain ⟨nm, q, N, bs, bm, sn, sub, ab, col, dd, k0, k1, k2, k3, k5, hC, _⟩ := T.ox.cls
    intro A Q E s k z
    unfold isType loadHead
    exact wpAny_bind (wpAny_loadPart (k _ _ (Y _ _ hC)) (wpAny_pure z))
  ne := fun h tp dd its n sl Y e => by
    obtain ⟨nm, q, N, bs, bm, sn, sub, ab, col, dd, k0, k1, k2, k3, k5, hC, _⟩ := T.ox.cls
    refine Bool.eq_false_iff.mpr fun z => ?_
    have z2 : C = tp := Value.ref.inj (beq_iff_eq.mp z)
    subst z2
    have z3 : Value.type "type" = Value.type "tuple" := congrArg Obj.cls (Option.some.inj ((Y _ _ hC).symm.trans e))
    exact absurd (Value.type.inj z3) (by decide)
  ca := fun Y ⟨_, _, J⟩ k => by
    obtain ⟨cd, hc, _⟩ := PySem.W.any_some T.hd
    exact PySem.W.gd_readCls T.hg T.hk T.ox.exC (by rw [hc]; rfl) T.ha T.hn T.ht T.hm Y J k
/-- isinstance(e, c) -/
def rIsX (K : PySem.W.Frag) (S : Addr → Prop) : List V → Hp → VK → Prop := fun xs H Q => ∃ (a C : Addr) (v c : V) (cv : Value) (b : Bool), xs = [.ref a, c] ∧ S C ∧ ErrAt H C a v ∧ (∀ u, RelV c u → u = cv) ∧ PySem.W.kitOne K (.ref C) cv = some b ∧ Q (.bl b) H
theorem call_isX {X : Cx} {S : Addr → Prop} (T : ∀ c, S c → ∃ fI x, ExT X.K X.mg c fI x) : CallR X (.builtin "isinstance") (rIsX X.K S) := by
  intro pins s σ H xs us Q I r h
  obtain ⟨a, C, v, c, cv, b, rfl, sc, ea, hcv, e, q⟩ := h
  cases r with
  | cons rx rr =>
    cases rr with
    | cons rt rr =>
      cases rr
      cases rx
      have ec := hcv _ rt
      subst ec
      obtain ⟨fI, y, T⟩ := T C sc
      obtain ⟨oe, od, w, J, _⟩ := err_inst I ea
      exact PySem.W.kia_one (err_kit T) I.kIn ⟨_, _, J⟩ e (fun z => nomatch z) fun tk => ⟨.bl b, H, I.kept (t' := tk) fun _ _ z => z, rfl, q⟩
end Gd

set_option Elab.async false
set_option linter.all false
set_option maxRecDepth 100000
set_option maxHeartbeats 4000000
set_option autoImplicit false
namespace PySem
namespace HandSPX
open PySem.W PySem.Calls PyProof.Rows
section
variable {prog : Program} {w : World} {A : Around} {E : Value → Shared → Prop} {R : Result → Shared → Prop} {h : Heap} {g : Array GenState} {d : Drawn} {t : Nat} {os : OsState}
variable {nm q : Str} {C N : Addr} {bs bm bmB : List Value} {hdct : Bool} {sn : List Str} {sub : List Value} {ab : Bool} {col : Option Bool} {dd : Option Addr} {k0 k1 k2 k3 k5 : Option Value} {B newId initId : String} {n : Str} {u : Value}
theorem gd_checkK (V : ExcBaseFacts B newId initId bmB) (hT : ∀ X : String, bm.contains (.type X) = bmB.contains (.type X)) {Q : Unit → Shared → Prop}
    (hC : h.get? C = some (excClassObj nm q C N bs bm hdct sn sub ab col dd k0 k1 k2 k3 k5 newId)) (hq : Q () ⟨h, g, d, t, os⟩) : wpAny (model prog w) A (checkBuiltinCall newId ⟨[.ref C], [(n, u)]⟩) Q E ⟨h, g, d, t, os⟩ := by
  have has : (Value.ref C :: bm).contains (.type B) = true := by rw [List.contains_cons, hT, V.hasB, Bool.or_true]
  have star := V.noStar
  simp only [checkBuiltinCall, V.newKind, V.newSplit, V.newRow]
  repeat (first | refine wpAny_loadPart_at hC ?_ | (refine wpAny_isSubtype_exc hC ?_; rw [has]) | refine wpAny_staticBase_exc hC ?_ | refine wpAny_madeBy_exc hC ?_ | simp only [bne_self_eq_false, Bool.false_eq_true, if_false] | wp_step)
  exact hq
theorem gd_newK (V : ExcBaseFacts B newId initId bmB) (hT : ∀ X : String, bm.contains (.type X) = bmB.contains (.type X))
    (hC : h.get? C = some (excClassObj nm q C N bs bm hdct sn sub ab col dd k0 k1 k2 k3 k5 newId))
    (hq : R (.ok (.ret (.ref (h.objs.size + 1)))) ⟨(h.push (W.kdv_tup [])).push (excO C h.objs.size), g, d, t, os⟩) :
    codeAny (model prog w) A (.builtin newId ⟨[.ref C], [(n, u)]⟩) R ⟨h, g, d, t, os⟩ := by
  have ends := V.ends
  have has : (Value.ref C :: bm).contains (.type B) = true := by rw [List.contains_cons, hT, V.hasB, Bool.or_true]
  have noA : (Value.ref C :: bm).contains (.type "AttributeError") = false := by rw [List.contains_cons, hT, V.noAttr]; rfl
  have noN : (Value.ref C :: bm).contains (.type "NameError") = false := by rw [List.contains_cons, hT, V.noName]; rfl
  have few : ([] : List Value).length ≤ sizeLine := Nat.zero_le _
  refine codeAny_builtinAt V.entry ?_
  unfold Builtin.«BaseException.__new__»
  refine wpAt_bind ?_
  show wpAt _ _ _ (stack >>= _) _ _ _
  refine wpAt_bind (wpAt_stack fun p below => wpAt_of_wpAny ?_)
  wp_walk
  refine wpAt_of_wpAny ?_
  rw [V.owner]
  repeat (first | with_reducible refine wpAny_madeHere_exc V.canon hC ?_ | with_reducible refine wpAny_loadPart_at hC ?_ | (with_reducible refine wpAny_isSubtype_exc hC ?_; first | rw [has] | rw [noA] | rw [noN]) | wp_step)
  show R _ _
  rw [Heap.size_push]
  exact hq
theorem gd_typeCallK (V : ExcBaseFacts B newId initId bmB) (hT : ∀ X : String, bm.contains (.type X) = bmB.contains (.type X)) {fI : Addr} {Q : Fin → Shared → Prop}
    (hC : h.get? C = some (excClassObj nm q C N bs bm hdct sn sub ab col dd k0 k1 k2 k3 k5 newId))
    (hi : W.Looks (model prog w) h (typeLookup (.ref C) "__init__") (some (.ref fI))) (hb : ∀ self, W.Looks (model prog w) h (bindSpecial (.ref fI) self) (.ref fI, [self]))
    (hq : codeAny (model prog w) A (.call (.ref fI) ⟨[.ref (h.objs.size + 1)], [(n, u)]⟩)
      (fun r s' => match r with | .ok (.ret v) => v = .none ∧ Q (.done (.ret (.ref (h.objs.size + 1)))) s' | .ok _ => False | .error e => E e s')
      ⟨(h.push (W.kdv_tup [])).push (excO C h.objs.size), g, d, t, os⟩) :
    wpAny (model prog w) A (Builtin.«type.__call__» ⟨[.ref C], [(n, u)]⟩) Q E ⟨h, g, d, t, os⟩ := by
  repeat (first | with_reducible refine wpAny_loadPart_at hC ?_ | with_reducible refine wpAny_madeBy_exc hC ?_ | wp_step)
  refine codeAny_call_builtin_code (Code.quiet_builtin _ V.quiet) (gd_checkK V hT hC ?_)
  refine gd_newK V hT hC ?_
  show wpAny _ _ _ _ _ _
  have grow : ∀ b o, h.get? b = some o → ((h.push (W.kdv_tup [])).push (excO C h.objs.size)).get? b = some o := fun b o e => Heap.get?_push_of_some _ (Heap.get?_push_of_some _ e)
  have hC1 := grow _ _ hC
  have there : ((h.push (W.kdv_tup [])).push (excO C h.objs.size)).get? (h.objs.size + 1) = some (excO C h.objs.size) := by heap_get
  have self : (Value.ref C :: bm).contains (.ref C) = true := by simp
  have i1 := hi.keeps grow
  have b1 := (hb (.ref (h.objs.size + 1))).keeps grow
  unfold isInstance
  repeat (first | with_reducible refine wpAny_loadPart_at there ?_ | (with_reducible refine wpAny_isSubtype_exc hC1 ?_; rw [self]) | wp_step)
  show wpAny _ _ (typeLookup (.ref C) _) _ _ _
  refine i1.at (wpAny_holding (wpAny_bind (b1.at ?_)))
  refine wpAny_bind (wpAny_call (codeAny_mono hq fun r s' z => ?_))
  rcases r with e | (v | _ | _ | _) <;> first | exact z | exact z.elim | skip
  obtain ⟨rfl, z⟩ := z
  first
    | exact wpAny_pure (wpAny_pure z)
    | (wp_walk; exact z)
theorem gd_callK (V : ExcBaseFacts B newId initId bmB) (hT : ∀ X : String, bm.contains (.type X) = bmB.contains (.type X)) {fI : Addr}
    (hC : h.get? C = some (excClassObj nm q C N bs bm hdct sn sub ab col dd k0 k1 k2 k3 k5 newId))
    (hi : W.Looks (model prog w) h (typeLookup (.ref C) "__init__") (some (.ref fI))) (hb : ∀ self, W.Looks (model prog w) h (bindSpecial (.ref fI) self) (.ref fI, [self]))
    (hq : codeAny (model prog w) (A.under (.builtin "type.__call__" ⟨[.ref C], [(n, u)]⟩)) (.call (.ref fI) ⟨[.ref (h.objs.size + 1)], [(n, u)]⟩) (W.InitBack (h.objs.size + 1) R)
      ⟨(h.push (W.kdv_tup [])).push (excO C h.objs.size), g, d, t, os⟩) :
    codeAny (model prog w) A (.call (.ref C) ⟨[], [(n, u)]⟩) R ⟨h, g, d, t, os⟩ := by
  have f1 := tc_lookup
  have f2 := tc_bind (.ref C)
  have isT : (⟨h, g, d, t, os⟩ : Shared).TypeIs (.ref C) "type" := ⟨_, hC, rfl⟩
  refine codeAny_of_tree ?_
  show wpAny _ _ (callAny (.ref C) _) _ _ _
  repeat (any_goals (first | assumption | with_reducible refine wpAny_loadPart_at hC ?_ | wp_step))
  refine ⟨rfl, ?_⟩
  refine codeAny_call_builtin_at (Code.quiet_builtin _ (by decide +kernel)) entry_typeCall (wpAny_check_type_call_sub hC (gd_typeCallK V hT hC hi hb ?_))
  refine codeAny_mono hq fun r s' z => ?_
  rcases r with e | (v | _ | _ | _) <;> exact z
end
end HandSPX
end PySem
namespace Gd
open PySem PySem.Spec PyProof.Rows L2
/-- C(n = e), as a value -/
def tMkK (C : Addr) (sp : Sp) (tk : TA) : TE := fun σ H Q => tk σ H fun vs H1 => vs.length = 1 ∧ ∀ a, H1 a = none → sp (.ref a :: vs) (upd H1 a (exo a C none)) (fun v H2 => v = .non ∧ Q (.ref a) H2) E0
section
variable {X : Cx} {x qual n : Str} {st : Stmt} {ps : List Str} {sp : Sp} {k j : Nat} {kws : List Keyword} {tk : TA} {p pos : Pos} {C fI : Addr}
theorem pe_mkEk (T : ExT X.K X.mg C fI x) (D : DnI X.prog X.w X.K X.mg X.base k fI qual st ps sp) (hr : Room j X.A)
    (kb : ∀ fd, Fun X.K "__init__" qual st fI fd → ∀ (s : Shared) (a u : Value), BindsTo s fd ⟨[a], [(n, u)]⟩ (ps.zip [a, u])) (hg : Gl X x) (hkw : PK X kws tk) (hk : k + 1 ≤ j := by decide)
    (hall : (backToKw pos (keywordEach kws X.env)).all (·.1.isSome) = true := by rfl) (hks : (backToKw pos (keywordEach kws X.env)).filterMap (·.1) = [n] := by rfl)
    (hdb : (x == ("__debug__" : Str)) = false := by decide)
    (hpl : ((backTo pos (starEach [] X.env)).any (·.1) || (backToKw pos (keywordEach kws X.env)).any (·.1.isNone)) = false := by rfl) :
    PE X (.Call (.Name x p) [] kws pos) (tMkK C sp tk) := by
  obtain ⟨fd, F, b, ok⟩ := D.ex
  have hr' := hr.mono hk
  refine ⟨fun pins s σ H Q I h => ?_⟩
  obtain ⟨nm, q, N, bs, bm, sn, sub, ab, col, dd, k0, k1, k2, k3, k5, hC, hbm⟩ := T.ox.cls
  refine wpAny_Call_Name_kw (ld_glob I hg T.mg_ ?_ hdb)
  refine PySem.W.callWith_KW0 (h₀ := X.base) I.ok.mod.kin T.ox.kC hall ?_ hpl
  refine thn (hkw.run pos pins s σ H _ I h) fun us s1 got => ?_
  obtain ⟨vs, H1, I1, r1, hz, q1⟩ := got
  refine ⟨I1.kIn, ?_⟩
  rw [hks]
  match vs, us, r1, hz, q1 with
  | [v], [u], r1, hz, q1 =>
    show wpAny _ _ (call (.ref C) [] [(n, u)]) _ _ _
    obtain ⟨hp, g, dr, tkn, os⟩ := s1
    have big : hp.objs.size ≤ hp.objs.size + 1 := Nat.le_succ _
    have new : H1 (hp.objs.size + 1) = none := I1.hok.fresh big
    have hq := q1 (hp.objs.size + 1) new
    have grow : ∀ b o, hp.get? b = some o → ((hp.push (PySem.W.kdv_tup [])).push (PySem.HandSPX.excO C hp.objs.size)).get? b = some o := fun b o z => Heap.get?_push_of_some _ (Heap.get?_push_of_some _ z)
    have there : ((hp.push (PySem.W.kdv_tup [])).push (PySem.HandSPX.excO C hp.objs.size)).get? (hp.objs.size + 1) = some (PySem.HandSPX.excO C hp.objs.size) := by heap_get
    have I2 : Inv X pins σ (upd H1 (hp.objs.size + 1) (exo (hp.objs.size + 1) C none)) ⟨(hp.push (PySem.W.kdv_tup [])).push (PySem.HandSPX.excO C hp.objs.size), g, dr, tkn, os⟩ := I1.laid (t' := tkn) grow big (exo_ok there)
    have r2 : Vals [V.ref (hp.objs.size + 1), v] [Value.ref (hp.objs.size + 1), u] := .cons rfl r1
    have bnd := kb fd F ⟨(hp.push (PySem.W.kdv_tup [])).push (PySem.HandSPX.excO C hp.objs.size), g, dr, tkn, os⟩ (Value.ref (hp.objs.size + 1)) u
    refine wpAny_call (PySem.HandSPX.gd_callK PySem.F.excBase_ValueError (fun Y => PySem.HandSPX.refsVE_contains Y bm hbm) (I1.kIn _ _ hC) (PySem.W.looks_findIn I1.kIn T.iC) (fun self => PySem.W.bind_fn I1.kIn self T.tI) ?_)
    refine codeAny_mono (ok.run _ X.stack _ _ ⟨[Value.ref (hp.objs.size + 1)], [(n, u)]⟩ [Value.ref (hp.objs.size + 1), u] _ _ E0 (hr'.make C [] [(n, u)]) (I2.env0.make C [] [(n, u)]) bnd r2 hq) fun r s' post => ?_
    cases r with
    | error er => exact (post : False).elim
    | ok fl =>
      cases fl with
      | ret w =>
        obtain ⟨v3, H3, I3, rv, ev, q3⟩ := I2.after post
        subst ev
        exact ⟨rv, .ref (hp.objs.size + 1), H3, I3, rfl, q3⟩
      | next => exact (post : False).elim
      | brk => exact (post : False).elim
      | cont => exact (post : False).elim
end
/-- repr of anything short -/
theorem call_reprV {X : Cx} {k : Nat} (gd : X.A.guards = some []) (hr : Room k X.A) : CallR X (.builtin "repr") (fun xs H Q => ∃ v d n k, xs = [v] ∧ Dp X.K H v d ∧ DOk n k d ∧ n ≤ 200000 ∧ k ≤ 64 ∧ Q (.str d.shown) H) := by
  intro pins s σ H xs us Q I r h
  obtain ⟨v, d, n, j, rfl, dp, ok, hn, hj, q⟩ := h
  have fits := ok.fits hn
  cases dp with
  | non =>
    obtain ⟨u, rfl, ru⟩ := vals1 r
    cases ru
    rw [PyData.shown_none] at q
    exact PySem.P.repr_of_none ⟨.str "None", H, I.tok _, ⟨_, rfl⟩, q⟩
  | bl b =>
    obtain ⟨u, rfl, ru⟩ := vals1 r
    cases ru
    rw [PyData.shown_bool] at q
    exact PySem.P.repr_of_bool ⟨.str (if b then "True" else "False"), H, I.tok _, ⟨_, rfl⟩, by cases b <;> exact q⟩
  | int i =>
    obtain ⟨u, rfl, t, rfl⟩ := vals1 r
    have z : i.natAbs.log2 < 1920 := by simpa [PyData.showable] using ok.shw
    rw [PyData.shown_int] at q
    exact PySem.P.repr_of_int z ⟨.str _, H, I.tok _, ⟨_, rfl⟩, q⟩
  | str x =>
    obtain ⟨u, rfl, t, rfl⟩ := vals1 r
    have e : (PyData.str x).shown = reprText x := by simp [PyData.shown]
    rw [e] at q fits
    exact PySem.P.repr_of_str ⟨.str _, H, I.tok _, ⟨_, rfl⟩, q⟩ fits
  | lst a b => exact call_reprD gd hr pins s σ H _ us Q I r ⟨_, _, n, j, rfl, .lst a b, ok, hn, hj, ⟨_, rfl⟩, q⟩
  | tup a b => exact call_reprD gd hr pins s σ H _ us Q I r ⟨_, _, n, j, rfl, .tup a b, ok, hn, hj, ⟨_, rfl⟩, q⟩
end Gd
namespace Gd
open PySem PySem.Spec PyProof.Rows L2
/-! ### all own exceptions of a text: the base first, the others below it -/
def errB (K : PySem.W.Frag) (C fI : Addr) : Bool :=
  decide (PySem.W.findIn K (.ref C) "__setattr__" = some (some (.builtin "object.__setattr__"))) && (decide (PySem.W.subIn K (.ref C) (.type "BaseException") = some true) && (decide (PySem.W.typeIn K (.ref C) = some (.type "type")) && (PySem.W.keepIn K (.ref C) &&
  (decide (PySem.W.findIn K (.ref C) "__init__" = some (some (.ref fI))) && (decide (PySem.W.findIn K (.ref C) "value" = some none) && (decide (PySem.W.findIn K (.ref C) "__getattribute__" = some (some (.builtin "BaseException.__getattribute__"))) &&
  (decide (PySem.W.findIn K (.ref C) "__getattr__" = some none) && (PySem.W.hasDictIn K C && (decide (PySem.W.findIn K (.ref C) "__class__" = some (some (.builtin "object.__class__"))) && decide (PySem.W.mroIn K C (.type "object") = some true))))))))))
def initB (K : PySem.W.Frag) (fI : Addr) : Bool :=
  decide (PySem.W.typeIn K (.ref fI) = some (.type "function")) && (decide (PySem.W.specialIn K (.builtin "object.__class__") "__get__" = some (some (.builtin "getset_descriptor.__get__"))) && decide (PySem.W.takesIn K (.builtin "object.__class__") = some true))
def kitB (K : PySem.W.Frag) (C : Addr) (i : Nat) : Nat → List Addr → Bool
  | _, [] => decide (PySem.W.kitOne K (.ref C) (.type "ValueError") = some true)
  | j, D :: ds => decide (PySem.W.kitOne K (.ref C) (.ref D) = some (decide (i = j ∨ j = 0))) && kitB K C i (j + 1) ds
theorem kitB_at {K : PySem.W.Frag} {C : Addr} {i : Nat} : ∀ {j : Nat} {ds : List Addr}, kitB K C i j ds = true → (∀ (m : Nat) D, ds[m]? = some D → PySem.W.kitOne K (.ref C) (.ref D) = some (decide (i = j + m ∨ j + m = 0))) ∧ PySem.W.kitOne K (.ref C) (.type "ValueError") = some true
  | j, [], h => ⟨fun m D e => by simp at e, of_decide_eq_true h⟩
  | j, D :: ds, h => by
    obtain ⟨h1, h2⟩ := Bool.and_eq_true_iff.mp h
    obtain ⟨a, b⟩ := kitB_at h2
    refine ⟨fun m D' e => ?_, b⟩
    cases m with
    | zero =>
      have e' : D = D' := by simpa using e
      subst e'
      exact of_decide_eq_true h1
    | succ m =>
      have z := a m D' (by simpa using e)
      rw [show j + 1 + m = j + (m + 1) by omega] at z
      exact z
structure ErrT (K : PySem.W.Frag) (mg : Str → Option Value) (cs : List Addr) (ns : List Str) (fI : Addr) : Prop where
  t : ∀ (i : Nat) C x, cs[i]? = some C → ns[i]? = some x → ExT K mg C fI x
  sub : ∀ (i j : Nat) C D, cs[i]? = some C → cs[j]? = some D → PySem.W.kitOne K (.ref C) (.ref D) = some (decide (i = j ∨ j = 0))
  subV : ∀ (i : Nat) C, cs[i]? = some C → PySem.W.kitOne K (.ref C) (.type "ValueError") = some true
  len : cs.length = ns.length
theorem ErrT.all {K : PySem.W.Frag} {mg : Str → Option Value} {cs : List Addr} {ns : List Str} {fI : Addr} (T : ErrT K mg cs ns fI) : ∀ c, c ∈ cs → ∃ fI x, ExT K mg c fI x := by
  intro c m
  obtain ⟨i, l, e⟩ := List.getElem_of_mem m
  exact ⟨fI, ns[i]'(by rw [← T.len]; exact l), T.t i c _ (by rw [List.getElem?_eq_getElem l, e]) (List.getElem?_eq_getElem (by rw [← T.len]; exact l))⟩
theorem ext_mk {K : PySem.W.Frag} {mg : Str → Option Value} {C fI : Addr} {x : Str} (cls : ∃ nm q N bs bm sn sub ab col dd k0 k1 k2 k3 k5, K.lookup C = some (excClassObj nm q C N bs bm true sn sub ab col dd k0 k1 k2 k3 k5 "ValueError.__new__") ∧ PySem.HandSPX.refsVE bm = true)
    (g : mg x = some (.ref C)) (h : errB K C fI = true) (i : initB K fI = true) : ExT K mg C fI x := by
  obtain ⟨a1, h⟩ := Bool.and_eq_true_iff.mp h
  obtain ⟨a2, h⟩ := Bool.and_eq_true_iff.mp h
  obtain ⟨a3, h⟩ := Bool.and_eq_true_iff.mp h
  obtain ⟨a4, h⟩ := Bool.and_eq_true_iff.mp h
  obtain ⟨a5, h⟩ := Bool.and_eq_true_iff.mp h
  obtain ⟨a6, h⟩ := Bool.and_eq_true_iff.mp h
  obtain ⟨a7, h⟩ := Bool.and_eq_true_iff.mp h
  obtain ⟨a8, h⟩ := Bool.and_eq_true_iff.mp h
  obtain ⟨a9, h⟩ := Bool.and_eq_true_iff.mp h
  obtain ⟨b1, b2⟩ := Bool.and_eq_true_iff.mp h
  obtain ⟨i1, i⟩ := Bool.and_eq_true_iff.mp i
  obtain ⟨i2, i3⟩ := Bool.and_eq_true_iff.mp i
  exact ⟨⟨cls, of_decide_eq_true a1, of_decide_eq_true a2, of_decide_eq_true a3, a4⟩, g, of_decide_eq_true a5, of_decide_eq_true i1, of_decide_eq_true a6, of_decide_eq_true a7, of_decide_eq_true a8, a9, of_decide_eq_true b1, of_decide_eq_true i2, of_decide_eq_true i3, of_decide_eq_true b2⟩
end Gd

set_option Elab.async false
set_option linter.all false
set_option maxRecDepth 100000
set_option maxHeartbeats 4000000
set_option autoImplicit false
namespace Gd
open PySem PySem.Spec PyProof.Rows L2

/-! ### try: body / except C as n: y = n; the exception is kept as a value -/
/-- at a: an exception of the class cls, its dict d -/
def Kept (cls : Value) (d : Option Addr) (a : Addr) : HO := .ext fun h => ∃ (oe : Obj) (vs : Array Value), h.get? a = some oe ∧ oe.cls = cls ∧ oe.dict = d ∧ oe.data = .fields vs
theorem kept_ok {P : Program} {w : World} {H : Hp} {h : Heap} {a : Addr} {cls : Value} {d : Option Addr} {oe : Obj} {vs : Array Value} (e : h.get? a = some oe) (c : oe.cls = cls) (z : oe.dict = d) (f : oe.data = .fields vs) : ObjOk P w H h a (Kept cls d a) :=
  ⟨⟨oe, vs, e, c, z, f⟩, ⟨_, e⟩, fun h1 h2 x k => by
    obtain ⟨o, v, e1, r⟩ := x
    exact ⟨o, v, k _ e1, r⟩⟩
theorem kept_at {P : Program} {w : World} {H : Hp} {h : Heap} {a : Addr} {cls : Value} {d : Option Addr} (ok : HOk P w H h) (e : H a = some (Kept cls d a)) : ∃ (oe : Obj) (vs : Array Value), h.get? a = some oe ∧ oe.cls = cls ∧ oe.dict = d ∧ oe.data = .fields vs := by
  have z : ObjOk P w H h a (.ext fun h => ∃ (oe : Obj) (vs : Array Value), h.get? a = some oe ∧ oe.cls = cls ∧ oe.dict = d ∧ oe.data = .fields vs) := ok a _ e
  exact z.1
theorem kept_ne {cls : Value} {d : Option Addr} {a : Addr} {o : HO} (h : ∀ φ, o ≠ .ext φ) : Kept cls d a ≠ o := fun z => h _ z.symm
section
variable {X : Cx} {pins : List (Addr × Obj)} {σ : L2.St} {H : Hp} {s : Shared} {a : Addr} {oe : Obj} {vs : Array Value} {cls : Value} {d : Option Addr}
/-- a thing that stands there, and was not told of, is told of -/
theorem adopt (I : Inv X pins σ H s) (he : s.heap.get? a = some oe) (hc : oe.cls = cls) (hd : oe.dict = d) (hf : oe.data = .fields vs) (na : H a = none) (nL : a ≠ X.env.locals) (s0 : X.s_0.heap.get? a = none)
    (po : ∀ p ∈ X.pn ++ pins, p.1 ≠ a) : Inv X pins σ (upd H a (Kept cls d a)) s := by
  have old : ∀ {b : Addr} {o : HO}, H b = some o → upd H a (Kept cls d a) b = some o := fun {b o} e => by rw [upd_ne (ne_of_none e na)]; exact e
  have cel : ∀ y c, X.env.cells.lookup y = some c → c ≠ a := fun y c e z => by
    obtain ⟨v, hv⟩ := I.cell y c e
    obtain ⟨o, ho, hx⟩ := hv
    rw [z, he] at ho
    cases ho
    first
      | (rw [hf] at hx; cases hx)
      | (obtain ⟨_, hx⟩ := hx; rw [hf] at hx; cases hx)
  refine ⟨I.ok, I.os, I.bare, ⟨I.base.keep, I.base.slot, fun b o e n hx => ?_, I.base.there, fun b xs e => old (I.base.tups b xs e), fun b o u e => old (I.base.frzs b o u e), fun b ps e => ?_⟩, I.loc, I.cell, ?_, fun y c e => ?_, fun p hp => ?_, fun b o e => ?_, I.len⟩
  · rw [upd_ne (fun z => by rw [z, s0] at e; cases e)]
    exact I.base.free b o e n hx
  · obtain ⟨more, z⟩ := I.base.tbls b ps e
    exact ⟨more, old z⟩
  · rw [upd_ne (Ne.symm nL)]
    exact I.free
  · rw [upd_ne (cel y c e)]
    exact I.freeC y c e
  · obtain ⟨x1, x2, x3⟩ := I.pin p hp
    exact ⟨x1, by rw [upd_ne (po p hp)]; exact x2, x3⟩
  · by_cases z : b = a
    · subst z
      rw [upd_same] at e
      cases e
      exact kept_ok he hc hd hf
    · rw [upd_ne z] at e
      exact (I.hok b o e).stay (fun _ _ _ q => q) (fun c hx => old hx) fun c xs hx => old hx
end
/-- what the clause wishes -/
def wKeep (K : PySem.W.Frag) (c : Value) (i j : Nat) (Wout : WX) (D : Ends) : WX := fun cls d σ H =>
  ∃ b, PySem.W.exmOne K cls c = some b ∧ (b = true → ∀ a, H a = none → D.nx (((σ.set i (some (.ref a))).set j (some (.ref a))).set i none) (upd H a (Kept cls d a))) ∧ (b = false → Wout cls d σ H)
section
variable {X : Cx} {x n y : Str} {c : Value} {i j : Nat} {body : List Stmt} {np p1 p2 p3 pos pos' : Pos} {tb : WX → TS} {Wout : WX}
theorem ps_try_keep (hs : X.stack = X.env :: X.outer) (hf : X.env.frame = some X.env.locals) (hex : X.ex = []) (hN : X.N.Nodup) (hi : X.N[i]? = some n) (hln : X.env.kindOf n = some .local) (hj : X.N[j]? = some y) (hly : X.env.scope.names.lookup y = some .local) (hc : Names X x c) (tk : Takes X Wout)
    (hv : ∀ (a : Addr) (pn : List (Addr × Obj)), PS (X.suite a pn) (.Assign [.Name y p1] (.Name n p2) p3) (tAsg (tVar i) (gName j)))
    (hb : ∀ (W : WX) (pn : List (Addr × Obj)) (xe : Value → Shared → Prop), Takes (X.tr pn xe) W → PassesOwn (model X.prog X.w) X.A X.env xe → PSs (X.tr pn xe) body (tb W)) :
    PS X (.Try body [.ExceptHandler (some (.Name x np)) (some n) [.Assign [.Name y p1] (.Name n p2) p3] pos'] [] [] pos) (fun D σ H => tb (wKeep X.K c i j Wout D) D σ H) := by
  refine ⟨fun pins s σ H D I q0 => ?_⟩
  have ok := I.ok
  have fr : X.A.frames = some (X.env :: X.outer) := by rw [ok.frames, hs]
  have lc : Loc X.env.scope n := .inl hln
  have run := (hb (wKeep X.K c i j Wout D) (X.pn ++ pins) (fun e s1 => wpAny (model X.prog X.w) X.A (noteFrame e X.env) (fun _ s2 => wpAny (model X.prog X.w) X.A (setFlight e none) (fun _ s3 =>
    wpAny (model X.prog X.w) X.A (handleBy e X.env [.ExceptHandler (some (.Name x np)) (some n) [.Assign [.Name y p1] (.Name n p2) p3] pos']) (SP X pins D) X.xe s3) X.xe s2) X.xe s1) ?caught PassesOwn.looking).run [] s σ H D (I.toTry _) q0
  · refine wpAny_Try_except (wpAny_mono run (fun fl s1 z => ?_) fun _ _ z => z)
    cases fl with
    | next =>
      obtain ⟨σ1, H1, J, q⟩ := z
      exact wpAny_execs_nil ⟨σ1, H1, J.ofTry ok, q⟩
    | brk =>
      obtain ⟨σ1, H1, J, q⟩ := z
      exact ⟨σ1, H1, J.ofTry ok, q⟩
    | cont =>
      obtain ⟨σ1, H1, J, q⟩ := z
      exact ⟨σ1, H1, J.ofTry ok, q⟩
    | ret u =>
      obtain ⟨v, σ1, H1, J, r, q⟩ := z
      exact ⟨v, σ1, H1, J.ofTry ok, r, q⟩
  · intro u s' air
    obtain ⟨a, G, sI, pins', σ', H', cls, d, rfl, J', nb, up, sky, na, os, ag, b, exm, yes, no⟩ := air
    have J : Inv X pins σ' H' sI := J'.ofTry ok
    have sky2 : Sky G (X.env :: X.outer) a (Zc cls d) X.env.locals s'.heap := by rw [← hs]; exact sky
    show wpAny (model X.prog X.w) X.A (noteFrame (.ref a) X.env) _ _ _
    refine Sky.land Zc.steady fr hf sky2 fun h3 fl3 up3 => ?_
    have I3 : Inv X pins σ' H' { s' with heap := h3 } := J.landed nb fl3.1 (up.trans up3) os ag
    obtain ⟨o3, v3, e3, z3, d3⟩ := fl3.there
    have nfr : a ∉ frs (X.env :: X.outer) := fun m => by
      obtain ⟨_, o, eo, nf⟩ := fl3.2.2.1.mem m
      rw [e3] at eo
      cases eo
      exact nf _ d3
    have gone : sI.heap.get? a = none := by
      cases g : sI.heap.get? a with
      | none => rfl
      | some o =>
        have := nb a o g (by rw [hs]; exact nfr)
        rw [fl3.2.1] at this
        cases this
    have nL : a ≠ X.env.locals := fun z => nfr (List.mem_filterMap.mpr ⟨X.env, List.mem_cons_self, by rw [hf, z]⟩)
    have s0 : X.s_0.heap.get? a = none := by
      cases g : X.s_0.heap.get? a with
      | none => rfl
      | some o =>
        obtain ⟨o2, g2⟩ := J.base.there a o g (by rw [hex]; exact List.not_mem_nil)
        rw [gone] at g2
        cases g2
    have po : ∀ p ∈ X.pn ++ pins, p.1 ≠ a := fun p hp z => by
      have := (J.pin p hp).1
      rw [z, gone] at this
      cases this
    have calmless : ∀ {σ : L2.St} {H : Hp} {s : Shared}, Inv X pins σ H s → Inv (X.suite a (X.pn ++ pins)) [] σ H s := fun {σ H s} Y =>
      ⟨Y.ok.suite _ _, Y.os, Y.bare, Y.base, Y.loc, Y.cell, Y.free, Y.freeC, fun p hp => Y.pin p (by rw [List.append_nil] at hp; exact hp), Y.hok, Y.len⟩
    have back : ∀ {σ : L2.St} {H : Hp} {s : Shared}, Inv (X.suite a (X.pn ++ pins)) [] σ H s → Inv X pins σ H s := fun {σ H s} Y =>
      ⟨ok, Y.os, Y.bare, Y.base, Y.loc, Y.cell, Y.free, Y.freeC, fun p hp => Y.pin p (List.mem_append_left _ hp), Y.hok, Y.len⟩
    refine wpAny_handleBy_cons (codeAny_handlers_test ?_) (by intro q; cases q)
    have LT : PySem.W.Looks (model X.prog X.w) h3 (typeOf (.ref a)) cls := fun A' Q' E' s4 k q => wpAny_typeOf_ref (k _ _ e3) (by rw [z3.1]; exact q)
    have LM := PySem.W.exm_one (M := model X.prog X.w) I3.kIn LT exm
    have test : ∀ {Q : Value → Shared → Prop} {E : Value → Shared → Prop}, Q c { s' with heap := h3 } → wpAny (model X.prog X.w) (X.A.mark (some (.ref a))) (eval (.Name x np) X.env) Q E { s' with heap := h3 } := fun {Q E} q => by
      obtain ⟨gl, dbg, g | ⟨g, v, nn⟩⟩ := hc
      · exact ld_glob (X := X.suite a (X.pn ++ pins)) (calmless I3) gl g q dbg
      · exact ld_blt (X := X.suite a (X.pn ++ pins)) (calmless I3) gl g v q nn dbg
    refine test (LM.here ?_)
    cases b with
    | true =>
      refine codeAny_handlers_suite_as (HandSPX.lands_againZ fl3 fun h4 fl4 up4 => ?_)
      have I4 : Inv X pins σ' H' { s' with heap := h4 } := J.landed nb fl4.1 ((up.trans up3).trans up4) os ag
      obtain ⟨o4, v4, e4, z4, d4⟩ := fl4.there
      have I5 := adopt I4 e4 z4.1 z4.2 d4 na nL s0 po
      refine store_ok (X := X.suite a (X.pn ++ pins)) (v := .ref a) (calmless I5) hN hi lc rfl (fun s5 Y5 => ?_) (.inr hln)
      have li : i < σ'.length := by
        rw [J.len]
        exact (List.getElem?_eq_some_iff.mp hi).1
      have fin : ∀ {σ6 : L2.St} {H6 : Hp} {s6 : Shared} {Q : Shared → Prop}, Inv (X.suite a (X.pn ++ pins)) [] σ6 H6 s6 → (∀ s7, Inv X pins (σ6.set i none) H6 s7 → Q s7) →
          wpAny (model X.prog X.w) X.A (do bindName X.env n .none; unbindBehindTheSuite X.env n pos') (fun _ s7 => Q s7) X.xe s6 := fun {σ6 H6 s6 Q} Y q => gone_ok (back Y) hN hi hln q
      refine wpAny_mono ((pss_one (hv a (X.pn ++ pins))).run [] s5 _ _ { nx := fun σ1 H1 => D.nx (σ1.set i none) H1, rt := D.rt, bk := fun σ1 H1 => D.bk (σ1.set i none) H1, ct := fun σ1 H1 => D.ct (σ1.set i none) H1 } Y5 ⟨.ref a, List.getElem?_set_self li, yes rfl a na⟩) (fun fl s6 z => ?_) fun _ _ z => False.elim z
      cases fl with
      | next =>
        obtain ⟨σ6, H6, Y6, q6⟩ := z
        exact fin Y6 fun s7 J7 => ⟨_, _, J7, q6⟩
      | brk =>
        obtain ⟨σ6, H6, Y6, q6⟩ := z
        exact fin Y6 fun s7 J7 => ⟨_, _, J7, q6⟩
      | cont =>
        obtain ⟨σ6, H6, Y6, q6⟩ := z
        exact fin Y6 fun s7 J7 => ⟨_, _, J7, q6⟩
      | ret u =>
        obtain ⟨v6, σ6, H6, Y6, r6, q6⟩ := z
        exact fin Y6 fun s7 J7 => ⟨_, _, _, J7, r6, q6⟩
    | false =>
      show wpAny _ X.A (handleBy (.ref a) X.env []) _ _ _
      refine wpAny_handleBy_nil ?_
      obtain ⟨k1, k2, k3, oe, vs, T, oT, ts, he, hz, hd, h1, hr⟩ := id fl3
      unfold PySem.passOn
      refine wpAny_bind (wpAny_field he hd h1 ?_)
      rw [if_neg (show ¬ ((Value.ref T == Value.none) = true) from by simp)]
      have out : wpAny (model X.prog X.w) X.A (setFlight (.ref a) X.env.frame) (fun _ s4 => wpAny (model X.prog X.w) X.A (throw (.ref a) : Sem Flow) (SP X pins D) X.xe s4) X.xe { s' with heap := h3 } := by
        rw [hf]
        refine HandSPX.setFlight_upZ fl3 fun h4 hh4 up4 => wpAny_throw (tk _ _ ?_)
        exact ⟨a, G, sI, pins, σ', H', cls, d, rfl, J, nb, (up.trans up3).trans up4, .inr (.inr (by rw [hs]; exact hh4)), na, os, ag, no rfl⟩
      first
        | exact wpAny_bind (wpAny_pure (wpAny_bind out))
        | exact wpAny_bind out
end
end Gd

set_option Elab.async false
set_option linter.all false
set_option maxRecDepth 100000
set_option maxHeartbeats 4000000
set_option autoImplicit false
namespace Gd
open PySem PySem.Spec PyProof.Rows L2

/-! ### defs that may raise -/
structure DnX (P : Program) (w : World) (K : PySem.W.Frag) (mg : Str → Option Value) (base : Heap)
    (k : Nat) (x : Str) (st : Stmt) (ps : List Str) (sp : Sp) : Prop where
  ex : ∃ f fd, Fun K x x st f fd ∧ Binds K fd ps [] ∧ mg x = some (.ref f) ∧ FnOk P w K mg base (L2.CX P w) k f fd ps sp
theorem DnX.mk' {P : Program} {w : World} {K : PySem.W.Frag} {mg : Str → Option Value} {base : Heap} {x : Str} {st : Stmt} {ps : List Str} {k : Nat} {sp : Sp} (h : At K mg x st ps)
    (ok : ∀ f fd, Fun K x x st f fd → FnOk P w K mg base (L2.CX P w) k f fd ps sp) : DnX P w K mg base k x st ps sp := by
  obtain ⟨f, fd, F, b, g⟩ := h
  exact ⟨f, fd, F, b, g, ok f fd F⟩
/-- what a raise leaves -/
theorem mk_raise {K : PySem.W.Frag} {C : Addr} {H1 : Hp} {v : V} {Q : Value → Option Addr → Hp → Prop} {E : XK} (T : OexC K C) (n : PySem.W.findIn K (.ref C) "value" = some none)
    (q : ∀ d H', Same H1 H' → H1 d = none → H' d = some (.xd [("value", v)]) → Q (.ref C) (some d) H') :
    ∀ a, H1 a = none → spIni K (.ref a :: ([v] ++ [])) (upd H1 a (exo a C none))
      (fun u H2 => u = .non ∧ ∃ (d : Addr) (fs : List (Str × V)), H2 a = some (exo a C (some d)) ∧ H2 d = some (exd d fs) ∧ H1 d = none ∧ Q (.ref C) (some d) (upd (del H2 a) d (.xd fs))) E := by
  intro a na
  refine ⟨a, C, v, rfl, T, n, upd_same, fun dx nd ne => ⟨rfl, ?_⟩⟩
  have nd1 : H1 dx = none := by rw [upd_ne ne] at nd; exact nd
  refine ⟨dx, [("value", v)], upd_same, by rw [upd_ne ne, upd_same], nd1, q dx _ (fun b o e => ?_) nd1 upd_same⟩
  have ba : b ≠ a := ne_of_none e na
  have bd : b ≠ dx := ne_of_none e nd1
  rw [upd_ne bd, del_ne ba, upd_ne ba, upd_ne bd, upd_ne ba]
  exact e
section
variable {X : Cx} {W : WX} {x qual : Str} {st : Stmt} {ps : List Str} {sp : Sp} {k j : Nat} {e : Expr} {es : List Expr} {ta t : TA} {p pos pos2 : Pos} {C fI : Addr}
theorem pe_cX (tk : Takes X W) (D : DnX X.prog X.w X.K X.mg X.base k x st ps sp) (hr : Room j X.A) (hg : Gl X x) (ha : PA X (e :: es) t) (hk : k ≤ j := by decide)
    (hdb : (x == ("__debug__" : Str)) = false := by decide) (he : starEach (e :: es) X.env = (false, eval e X.env) :: starEach es X.env := by rfl)
    (hpl : (backTo pos (starEach es X.env)).any (·.1) = false := by rfl) :
    PE X (.Call (.Name x p) (e :: es) [] pos) (tCallS sp (WE W) t) := by
  obtain ⟨f, fd, F, b, g, ok⟩ := D.ex
  exact pe_callS ok (hr.mono hk) hg g F.kp b (fun σ => passAt tk σ) ha hdb he hpl
theorem ps_raiseE (hc : X.calm = true) (T : ExT X.K X.mg C fI x) (D : DnI X.prog X.w X.K X.mg X.base k fI qual st ps sp) (hr : Room j X.A) (tk : Takes X W) (hg : Gl X x) (ha : PA X (e :: es) ta) (hk : k + 1 ≤ j := by decide)
    (hdb : (x == ("__debug__" : Str)) = false := by decide) (he : starEach (e :: es) X.env = (false, eval e X.env) :: starEach es X.env := by rfl)
    (hpl : (backTo pos (starEach es X.env)).any (·.1) = false := by rfl) :
    PS X (.Raise (some (.Call (.Name x p) (e :: es) [] pos)) none pos2) (fun _ σ H => tMkO C sp [] ta σ H fun cls d H' => W cls d σ H') := by
  obtain ⟨fd, F, b, ok⟩ := D.ex
  exact ps_raise hc tk (pmk_oex T.ox T.iC T.tI ok (hr.mono hk) b .nil pass0 hg T.mg_ ha hdb he hpl)
end

/-! ### a kept exception -/
def ErrK (H : Hp) (C a : Addr) (v : V) : Prop := ∃ d, H a = some (Kept (.ref C) (some d) a) ∧ H d = some (.xd [("value", v)])
theorem ErrK.same {H H' : Hp} {C a : Addr} {v : V} (k : Same H H') (h : ErrK H C a v) : ErrK H' C a v := by
  obtain ⟨d, h1, h2⟩ := h
  exact ⟨d, k _ _ h1, k _ _ h2⟩
theorem errK_inst {X : Cx} {pins : List (Addr × Obj)} {σ : L2.St} {H : Hp} {s : Shared} {C a : Addr} {v : V} (I : Inv X pins σ H s) (h : ErrK H C a v) :
    ∃ (oe od : Obj) (u : Value), PySem.W.InstAt s.heap a oe C (some od) ∧ RelV v u ∧ PySem.W.lookIn "value" od = some (some u) := by
  obtain ⟨d, e1, e2⟩ := h
  obtain ⟨oe, vs, he, hc, hd, hf⟩ := kept_at I.hok e1
  have z : ObjOk X.prog X.w H s.heap d (.xd [("value", v)]) := I.hok d _ e2
  obtain ⟨mA, ns, rel⟩ := z
  obtain ⟨od, ho, hl⟩ := lookIn_ns ns
  have l : List.lookup ("value" : Str) [(("value" : Str), v)] = some v := by simp [List.lookup]
  obtain ⟨u, hu, ru⟩ := RelO.some_of (v := v) (o := mA "value") (by rw [← l]; exact rel "value")
  exact ⟨oe, od, u, ⟨he, hc, by unfold PySem.W.notCls; rw [hf] <;> rfl, by rw [hd]; exact ho⟩, ru, by rw [hl, hu]⟩
def tValK (ta : TE) (S : Addr → Prop) : TE := fun σ H Q => ta σ H fun x H1 => ∃ a c v, x = .ref a ∧ S c ∧ ErrK H1 c a v ∧ Q v H1
theorem pe_valK {X : Cx} {e : Expr} {te : TE} {pos : Pos} {S : Addr → Prop} (T : ∀ c, S c → ∃ fI x, ExT X.K X.mg c fI x) (he : PE X e te) (hb : attributeBase e "value" X.env (eval e X.env) = eval e X.env := by rfl) :
    PE X (.Attribute e "value" pos) (tValK te S) := by
  refine ⟨fun pins s σ H Q I h => ?_⟩
  refine attr_of hb (thn (he.run pins s σ H _ I h) fun u s1 got => ?_)
  obtain ⟨x, H1, I1, rx, a, c, v, ex, sc, ea, q⟩ := got
  subst ex
  obtain rfl : u = Value.ref a := rx
  obtain ⟨fI, y, T⟩ := T c sc
  obtain ⟨oe, od, w, J, ru, hl⟩ := errK_inst I1 ea
  exact HandSPX.exc_get I1.kIn J T.hg T.hk T.ox.exC (PySem.W.findObj_own T.hd T.nV rfl hl) (handed_of ru) ⟨v, H1, I1.tok _, ru, q⟩
def rIsXK (K : PySem.W.Frag) (S : Addr → Prop) : List V → Hp → VK → Prop := fun xs H Q => ∃ (a C : Addr) (v c : V) (cv : Value) (b : Bool), xs = [.ref a, c] ∧ S C ∧ ErrK H C a v ∧ (∀ u, RelV c u → u = cv) ∧ PySem.W.kitOne K (.ref C) cv = some b ∧ Q (.bl b) H
theorem call_isXK {X : Cx} {S : Addr → Prop} (T : ∀ c, S c → ∃ fI x, ExT X.K X.mg c fI x) : CallR X (.builtin "isinstance") (rIsXK X.K S) := by
  intro pins s σ H xs us Q I r h
  obtain ⟨a, C, v, c, cv, b, rfl, sc, ea, hcv, e, q⟩ := h
  obtain ⟨u1, u2, rfl, r1, r2⟩ := vals2 r
  cases (show u1 = Value.ref a from r1)
  have ec := hcv _ r2
  subst ec
  obtain ⟨fI, y, T⟩ := T C sc
  obtain ⟨oe, od, w, J, _⟩ := errK_inst I ea
  exact PySem.W.kia_one (err_kit T) I.kIn ⟨_, _, J⟩ e (fun z => nomatch z) fun tk => ⟨.bl b, H, I.tok tk, rfl, q⟩
/-- isinstance(e, (C, ..)) -/
def rIsXT (K : PySem.W.Frag) (S : Addr → Prop) : List V → Hp → VK → Prop := fun xs H Q => ∃ (a C tp : Addr) (v : V) (cs : List V) (us : List Value) (b : Bool), xs = [.ref a, .ref tp] ∧ S C ∧ ErrK H C a v ∧ H tp = some (.tup cs) ∧
  (∀ ws, Vals cs ws → ws = us) ∧ PySem.W.kitAny K (.ref C) us = some b ∧ Q (.bl b) H
theorem call_isXT {X : Cx} {S : Addr → Prop} (T : ∀ c, S c → ∃ fI x, ExT X.K X.mg c fI x) : CallR X (.builtin "isinstance") (rIsXT X.K S) := by
  intro pins s σ H xs us Q I r h
  obtain ⟨a, C, tp, v, cs, ws, b, rfl, sc, ea, ht, hcs, e, q⟩ := h
  obtain ⟨u1, u2, rfl, r1, r2⟩ := vals2 r
  cases (show u1 = Value.ref a from r1)
  cases (show u2 = Value.ref tp from r2)
  obtain ⟨fI, y, T⟩ := T C sc
  obtain ⟨oe, od, w, J, _⟩ := errK_inst I ea
  obtain ⟨_, its, rv, o, h1, h2, n, h3⟩ := (show ObjOk X.prog X.w H s.heap tp (.tup cs) from I.hok tp _ ht)
  have e3 := hcs _ rv
  subst e3
  obtain ⟨oc, od2, dt, sl⟩ := o
  simp only at h2 h3
  subst h2 h3
  exact PySem.W.kia_tup (err_kit T) I.kIn ⟨_, _, J⟩ h1 e (fun z => nomatch z) fun tk => ⟨.bl b, H, I.tok tk, rfl, q⟩
theorem vals_refs : ∀ {cs : List Addr} {ws : List Value}, Vals (cs.map V.ref) ws → ws = cs.map Value.ref
  | [], _, .nil => rfl
  | c :: cs, _, .cons a b => by
    cases (show _ = Value.ref c from a)
    rw [vals_refs b]
    rfl
end Gd

set_option Elab.async false
set_option linter.all false
set_option maxRecDepth 100000
set_option maxHeartbeats 4000000
set_option autoImplicit false
namespace Gd
open PySem PySem.Spec PyProof.Rows L2

/-! ### the end of a list's walk where an exception is handled -/
theorem next_list_endH {prog : Program} {w : World} {A : Around} {E : Value → Shared → Prop} {s : Shared} {it l x1 : Addr} {i : Nat} {items : Array Value} {Q : Option Value → Shared → Prop}
    (hot : HotX.HotAt A x1 s.heap) (ne : x1 ≠ it) (hit : s.heap.IsListIter it l i) (hl : s.heap.IsList l items) (hx : items[i]? = none)
    (hQ : ∀ h', Heap.ExtBut it s.heap h' → Q none { heap := h', gens := s.gens, drawn := s.drawn, toks := s.toks, os := s.os }) :
    wpAny (model prog w) A (pyNext (.ref it)) Q E s := by
  obtain ⟨o, ho, hc, hd⟩ := id hit
  obtain ⟨ol, hol, hcl, nl, hdl⟩ := id hl
  obtain ⟨hh, o1, vs1, h1, d1, c1⟩ := hot
  unfold pyNext
  refine wpAny_bind (wpAny_attempt (wpAny_callSpecial?_slot (Heap.IsListIter.typeIs hit) slot_listiter_next (wpAny_call_entry slot_listiter_next (Heap.IsListIter.typeIs hit) entry_listiter_next ?_)))
  refine wpAny_bind (wpAny_of_eq rfl (wpAny_bind (wpAny_field ho hd rfl ?_)))
  dsimp only
  rw [if_neg (by simp)]
  refine wpAny_bind (wpAny_field ho hd rfl ?_)
  refine wpAny_bind (wpAny_seqItems hol hdl ?_)
  dsimp only
  rw [show ((i : Int).toNat) = i from rfl, hx]
  dsimp only
  refine wpAny_bind (wpAny_rule (wpAny_bind (wpAny_setField ho hd (by simp) ?_)))
  have k1 : (s.heap.update it (Obj.mapFields fun x => x.setIfInBounds 0 .none)).get? x1 = some o1 := by
    rw [Heap.get?_update_other _ _ ne.symm]
    exact h1
  refine wpAny_bind (wpAny_bind (wpAny_newObj_type (wpAny_bind (wpAny_of_eq (Eq.refl (firstArgMember (.type "StopIteration") [])) (wpAny_newObj_type ?_)))))
  have get2 := Heap.get?_push_size (((s.heap.update it (Obj.mapFields fun x => x.setIfInBounds 0 .none)).push { cls := .type "tuple", data := .seq #[] }))
    (o := { cls := .type "StopIteration", data := .fields (#[.ref (s.heap.update it (Obj.mapFields fun x => x.setIfInBounds 0 .none)).objs.size, .none, .none, .none, .bool false, .none] ++ ownMembersOf (.type "StopIteration") []) }) rfl
  have k2 := Heap.get?_push_of_some { cls := .type "tuple", data := .seq #[] } k1
  refine HotX.raiseNew_hot ⟨hh, o1, vs1, Heap.get?_push_of_some _ k2, d1, c1⟩ (Nat.ne_of_lt (Heap.lt_size k2)) get2 rfl (by simp; omega) ?_
  refine wpAny_bind (wpAny_isInstance (T := "StopIteration") ⟨_, Heap.get?_update_self _ get2 rfl, rfl⟩ isSubtype_stop ?_)
  refine wpAny_pure (hQ _ fun b ob nb eb => ?_)
  have nb2 := Heap.lt_size (Heap.get?_push_of_some { cls := .type "tuple", data := .seq #[] } ((Heap.get?_update_other s.heap (Obj.mapFields fun x => x.setIfInBounds 0 .none) nb.symm).trans eb))
  show Heap.get? _ b = some ob
  rw [Heap.get?_update_other _ _ (Nat.ne_of_lt nb2).symm]
  exact Heap.get?_push_of_some _ (Heap.get?_push_of_some _ ((Heap.get?_update_other _ _ nb.symm).trans eb))
/-! ### the end of a tuple's walk, and a tuple unpacked, there -/
theorem next_tuple_endH {prog : Program} {w : World} {A : Around} {E : Value → Shared → Prop} {s : Shared} {it l x1 : Addr} {i : Nat} {items : Array Value} {Q : Option Value → Shared → Prop}
    (hot : HotX.HotAt A x1 s.heap) (ne : x1 ≠ it) (hit : s.heap.IsTupleIter it l i) (hl : IsTup s.heap l items) (hx : items[i]? = none)
    (hQ : ∀ h', Heap.ExtBut it s.heap h' → Q none { heap := h', gens := s.gens, drawn := s.drawn, toks := s.toks, os := s.os }) :
    wpAny (model prog w) A (pyNext (.ref it)) Q E s := by
  obtain ⟨o, ho, hc, hd⟩ := id hit
  obtain ⟨ol, hol, hcl, nl, hdl⟩ := id hl
  obtain ⟨hh, o1, vs1, h1, d1, c1⟩ := hot
  unfold pyNext
  refine wpAny_bind (wpAny_attempt (wpAny_callSpecial?_slot (Heap.IsTupleIter.typeIs hit) F.slot_tuple_iterator_next (wpAny_call_entry F.slot_tuple_iterator_next (Heap.IsTupleIter.typeIs hit) F.entry_tuple_iterator_next ?_)))
  refine wpAny_bind (wpAny_of_eq rfl (wpAny_bind (wpAny_field ho hd rfl ?_)))
  dsimp only
  rw [if_neg (by simp)]
  refine wpAny_bind (wpAny_field ho hd rfl ?_)
  refine wpAny_bind (wpAny_seqItems hol hdl ?_)
  dsimp only
  rw [show ((i : Int).toNat) = i from rfl, hx]
  dsimp only
  refine wpAny_bind (wpAny_rule (wpAny_bind (wpAny_setField ho hd (by simp) ?_)))
  have k1 : (s.heap.update it (Obj.mapFields fun x => x.setIfInBounds 0 .none)).get? x1 = some o1 := by
    rw [Heap.get?_update_other _ _ ne.symm]
    exact h1
  refine wpAny_bind (wpAny_bind (wpAny_newObj_type (wpAny_bind (wpAny_of_eq (Eq.refl (firstArgMember (.type "StopIteration") [])) (wpAny_newObj_type ?_)))))
  have get2 := Heap.get?_push_size (((s.heap.update it (Obj.mapFields fun x => x.setIfInBounds 0 .none)).push { cls := .type "tuple", data := .seq #[] }))
    (o := { cls := .type "StopIteration", data := .fields (#[.ref (s.heap.update it (Obj.mapFields fun x => x.setIfInBounds 0 .none)).objs.size, .none, .none, .none, .bool false, .none] ++ ownMembersOf (.type "StopIteration") []) }) rfl
  have k2 := Heap.get?_push_of_some { cls := .type "tuple", data := .seq #[] } k1
  refine HotX.raiseNew_hot ⟨hh, o1, vs1, Heap.get?_push_of_some _ k2, d1, c1⟩ (Nat.ne_of_lt (Heap.lt_size k2)) get2 rfl (by simp; omega) ?_
  refine wpAny_bind (wpAny_isInstance (T := "StopIteration") ⟨_, Heap.get?_update_self _ get2 rfl, rfl⟩ isSubtype_stop ?_)
  refine wpAny_pure (hQ _ fun b ob nb eb => ?_)
  have nb2 := Heap.lt_size (Heap.get?_push_of_some { cls := .type "tuple", data := .seq #[] } ((Heap.get?_update_other s.heap (Obj.mapFields fun x => x.setIfInBounds 0 .none) nb.symm).trans eb))
  show Heap.get? _ b = some ob
  rw [Heap.get?_update_other _ _ (Nat.ne_of_lt nb2).symm]
  exact Heap.get?_push_of_some _ (Heap.get?_push_of_some _ ((Heap.get?_update_other _ _ nb.symm).trans eb))

theorem unpackItemsH {prog : Program} {w : World} {A : Around} {E : Value → Shared → Prop} {s : Shared} {t x1 : Addr} {items : Array Value} {Q : List Value → Shared → Prop}
    (hot : HotX.HotAt A x1 s.heap) (ht : IsTup s.heap t items)
    (hQ : ∀ h', Heap.ExtBut s.heap.objs.size s.heap h' → Q items.toList { heap := h', gens := s.gens, drawn := s.drawn, toks := s.toks, os := s.os }) :
    wpAny (model prog w) A (unpackItems (.ref t) items.size none) Q E s := by
  obtain ⟨hh, o1, vs1, h1, d1, c1⟩ := hot
  have lx : x1 < s.heap.objs.size := Heap.lt_size h1
  have hlt : t ≠ s.heap.objs.size := by
    obtain ⟨o, ho, _⟩ := ht
    exact Nat.ne_of_lt (Heap.lt_size ho)
  unfold unpackItems notIterableAtAll
  refine wpAny_bind (wpAny_bind (wpAny_specialOf (IsTup.typeIs ht) slot_tuple_iter.lookup (wpAny_pure ?_)))
  dsimp only
  rw [if_neg (by simp)]
  refine wpAny_bind (wpAny_holding (iter_tuple ht (wpAny_bind (wpAny_holding (draw_tuple hlt items.size 0 _ _ ⟨_, Heap.get?_push_size s.heap rfl, rfl, rfl⟩ (IsTup.push ht _) (by omega) fun h2 hit2 hs2 => ?_)))))
  have hall : List.take items.size (List.drop 0 items.toList) = items.toList := by
    rw [List.drop_zero]
    exact List.take_of_length_le (by simp)
  rw [hall, if_neg (by simp)]
  have g2 : ∀ b ob, s.heap.get? b = some ob → h2.get? b = some ob := fun b ob e => by
    have nb : b ≠ s.heap.objs.size := Nat.ne_of_lt (Heap.lt_size e)
    rw [hs2.2 b nb]
    exact Heap.get?_push_of_some _ e
  refine wpAny_bind (wpAny_holding (next_tuple_endH (x1 := x1) ⟨hh, o1, vs1, g2 _ _ h1, d1, c1⟩ (Nat.ne_of_lt lx) hit2 (IsTup.extBut (IsTup.push ht _) hs2.extBut hlt) (by simp) fun h3 e3 => ?_))
  exact wpAny_pure (hQ _ fun b ob nb e => e3 b ob nb (g2 b ob e))
theorem pg_tupH {X : Cx} {pos : Pos} {es : List Expr} {k : Nat} {t : TGs} {n : Nat} (hot : ∀ pins s σ H, Inv X pins σ H s → ∃ x1, HotX.HotAt X.A x1 s.heap) (h : PGs X es t)
    (hn : (assignEach es X.env).length = n := by rfl) (hp : List.findIdx? (fun x => x.1) (assignEach es X.env) = none := by rfl) : PG X (.Tuple es k pos) (gTup X.K n t) := by
  refine ⟨fun pins s σ H v u Q I r q => ?_⟩
  obtain ⟨a, xs, rfl, sq, ln, q⟩ := q
  cases (show u = Value.ref a from r)
  obtain ⟨its, rv, tp, sz⟩ := I.tuple sq
  obtain ⟨x1, hx⟩ := hot _ _ _ _ I
  have sx : its.toArray.size = n := by rw [List.size_toArray, ← ln]; exact (Paired.length rv).symm
  rw [assign_Tuple]
  refine wpAny_bind (wpAny_standAt ?_)
  unfold unpack
  rw [hp, hn, ← sx]
  refine wpAny_bind (wpAny_holding (unpackItemsH hx tp fun h' e => ?_))
  refine h.run pins _ σ H xs its Q ?_ rv q
  exact I.kept fun b ob e2 => e b ob (Nat.ne_of_lt (Heap.lt_size e2)) e2
end Gd

set_option Elab.async false
set_option linter.all false
set_option maxRecDepth 100000
set_option maxHeartbeats 4000000
set_option autoImplicit false
namespace Gd
open PySem PySem.Spec PyProof.Rows L2

/-! ### a list comprehension over a list where an exception is handled -/
theorem lc_coreH {X : Cx} {p : Addr × Obj} {pins : List (Addr × Obj)} {s : Shared} {σ : L2.St} {H : Hp} {Q : VK} {elt tg iter : Expr} {ifs : List Expr} {scope : Scope} {own : List (Str × Nat)} {pos pos' : Pos} {ti : TE} {g : TG} {tt : TT} {te : TE}
    {use : Option (Value → Sem Unit)} {Qf : Value → Shared → Prop}
    (h1 : L2H.Hot1 X.A p) (hp : p ∈ X.pn) (hN : X.N.Nodup) (I : Inv X pins σ H s) (hi : PE X iter ti) (ok : BlkOk X.N X.env.scope scope own)
    (hg : ∀ (s : Shared) (H : Hp) (C : Addr) (cl : List (Str × Addr)) (fp : List Addr),
      (∀ pins s' σ H', Inv (X.blk s H scope (compEnvC scope cl C X.env) fp) pins σ H' s' → ∃ x1, HotX.HotAt X.A x1 s'.heap) → PG (X.blk s H scope (compEnvC scope cl C X.env) fp) tg g)
    (ht : ∀ (s : Shared) (H : Hp) (C : Addr) (cl : List (Str × Addr)) (fp : List Addr), PTs (X.blk s H scope (compEnvC scope cl C X.env) fp) ifs tt)
    (he : ∀ (s : Shared) (H : Hp) (C : Addr) (cl : List (Str × Addr)) (fp : List Addr), PE (X.blk s H scope (compEnvC scope cl C X.env) fp) elt te)
    (hs : ∀ x, foldedSetIterable iter X.env x = pure x) (h : tLc (iList X.K ti) g tt te (own.map (·.2)) σ H Q)
    (hRR : ∀ (D C : Addr) (s' : Shared) (m : Str → Option Value) (H' : Hp), Inv X pins σ H' s' → Q (V.ref D) H' → s'.heap.Ns C m → FpOk X pins H' C → compPost (model X.prog X.w) X.A X.xe use Qf (.ref D) C (.ok .next) s') :
    wpAny (model X.prog X.w) X.A (comprehension (elt.ListComp [{ target := tg, iter := iter, ifs := ifs, is_async := 0 }] scope pos) scope X.env pos' (newList []) false (eval iter X.env) use) Qf X.xe s := by
  have hfree : ∀ y ∈ scope.names, y.2 = .free → ∃ c, X.env.cells.lookup y.1 = some c := fun y hy e => (ok.free y hy e).elim (fun k => I.ok.has y.1 (.inl k)) (fun k => I.ok.has y.1 (.inr k))
  refine wpAny_comprehension_free (cl := cloFrom X.env.cells scope.names []) rfl hs (closure_ok hfree) ok.kind (fun y hy e => by rw [ok.uniq y hy, e]) ?_
  refine thn (hi.run pins s σ H _ I h) fun u s1 got => ?_
  obtain ⟨xv, H1, I1, rx, a, rfl, ⟨xs0, sq0⟩, q⟩ := got
  cases (show u = Value.ref a from rx)
  obtain ⟨its0, rv0, pl0, sz0⟩ := I1.list sq0
  obtain ⟨gp, hpn, pL, pfs, pnc⟩ := I1.pin p (List.mem_append_left _ hp)
  refine wpAny_pyIter_list pl0.isList ?_
  have pit : p.1 < s1.heap.objs.size := Heap.lt_size gp
  have nit : H1 s1.heap.objs.size = none := I1.hok.fresh (Nat.le_refl _)
  have I2 := I1.kept (t' := s1.toks) (h' := s1.heap.push { cls := .type "list_iterator", data := .fields #[.ref a, .int 0 0] }) fun b o e => Heap.get?_push_of_some _ e
  have fp1 : ∀ H', H' s1.heap.objs.size = none → FpOk X pins H' s1.heap.objs.size := fun H' e => Inv.fpOk I1 (Nat.le_refl _) e
  have li2 : (s1.heap.push { cls := .type "list_iterator", data := .fields #[.ref a, .int 0 0] }).IsListIter s1.heap.objs.size a 0 := ⟨_, Heap.get?_push_size _ rfl, rfl, rfl⟩
  have sz2 : s1.heap.objs.size < (s1.heap.push { cls := .type "list_iterator", data := .fields #[.ref a, .int 0 0] }).objs.size := by rw [Heap.size_push]; exact Nat.lt_succ_self _
  have gp2 : (s1.heap.push { cls := .type "list_iterator", data := .fields #[.ref a, .int 0 0] }).get? p.1 = some p.2 := Heap.get?_push_of_some _ gp
  generalize hit : s1.heap.objs.size = it at *
  generalize hh2 : s1.heap.push { cls := .type "list_iterator", data := .fields #[.ref a, .int 0 0] } = h2 at *
  refine wpAny_newObj_type (newEnv_comp ?_)
  have hDn : H1 h2.objs.size = none := I2.hok.fresh (Nat.le_refl _)
  obtain ⟨W, ⟨m0, w0⟩, turn⟩ := q h2.objs.size hDn
  have I3 := I2.laid (t' := s1.toks) (h' := h2.push { cls := .type "list", data := .seq #[] }) (a := h2.objs.size) (o := .lst []) (fun b o e => Heap.get?_push_of_some _ e) (Nat.le_refl _)
    ⟨Nat.zero_le _, [], 0, .nil, Heap.get?_push_size _ rfl⟩
  have itD : it ≠ h2.objs.size := Nat.ne_of_lt sz2
  have f3 : ∀ b ∈ [it], FpOk X pins (upd H1 h2.objs.size (.lst [])) b ∧ b < (h2.push { cls := .type "list", data := .seq #[] }).objs.size := fun b hb => by
    obtain rfl : b = it := by simpa using hb
    refine ⟨fp1 _ (by rw [upd_ne itD]; exact nit), ?_⟩
    rw [Heap.size_push]
    exact Nat.lt_succ_of_lt sz2
  have I4 := block_start I3 ok hN f3
  have gp3 : (h2.push { cls := .type "list", data := .seq #[] }).get? p.1 = some p.2 := Heap.get?_push_of_some _ gp2
  have li3 : (h2.push { cls := .type "list", data := .seq #[] }).IsListIter it a 0 := by
    obtain ⟨o, e, r⟩ := li2
    exact ⟨o, Heap.get?_push_of_some _ e, r⟩
  have pD : p.1 ≠ h2.objs.size := Nat.ne_of_lt (Heap.lt_size gp2)
  have pst : p.1 ∉ frs X.stack := by
    rcases I.ok.stk with e | ⟨e, f⟩
    · rw [e]; exact pfs
    · rw [e]
      intro m
      rcases List.mem_filterMap.mp m with ⟨en, me, ee⟩
      rcases List.mem_cons.mp me with rfl | me
      · rw [f] at ee
        exact pL (Option.some.inj ee).symm
      · exact pfs (List.mem_filterMap.mpr ⟨en, me, ee⟩)
  have h3p : upd H1 h2.objs.size (.lst []) p.1 = none := by rw [upd_ne pD]; exact hpn
  have itp : p.1 ≠ it := Nat.ne_of_lt pit
  have nCx : ∀ H', H' (h2.push { cls := .type "list", data := .seq #[] }).objs.size = none → FpOk X pins H' (h2.push { cls := .type "list", data := .seq #[] }).objs.size := fun H' e => Inv.fpOk I3 (Nat.le_refl _) e
  generalize hD : h2.objs.size = D at *
  generalize hh3 : h2.push { cls := .type "list", data := .seq #[] } = h3 at *
  have f3' := fun b hb => (f3 b hb).1
  have st4 : (pushCells (h3.push { cls := .type "dict", data := .dict #[] }) scope.names).IsListIter it a 0 := by
    obtain ⟨o, e, r⟩ := li3
    exact ⟨o, pushCells_keeps _ _ _ _ (Heap.get?_push_of_some _ e), r⟩
  have hotB : ∀ pins' s' σ' H', Inv (X.blk { heap := h3, gens := s1.gens, drawn := s1.drawn, toks := s1.toks, os := s1.os } (upd H1 D (.lst [])) scope (compEnvC scope (cellsFrom (h3.objs.size + 1) scope.names (cloFrom X.env.cells scope.names [])) h3.objs.size X.env) [it]) pins' σ' H' s' → HotX.HotAt X.A p.1 s'.heap := fun pins' s' σ' H' J => by
    obtain ⟨hh, vs, e1, c1⟩ := h1
    refine ⟨hh, p.2, vs, J.base.keep p.1 p.2 gp3 h3p pst ?_, e1, c1⟩
    simpa using itp
  have pg := hg { heap := h3, gens := s1.gens, drawn := s1.drawn, toks := s1.toks, os := s1.os } (upd H1 D (.lst [])) h3.objs.size (cellsFrom (h3.objs.size + 1) scope.names (cloFrom X.env.cells scope.names [])) [it] (fun _ _ _ _ J => ⟨_, hotB _ _ _ _ J⟩)
  have pt := ht { heap := h3, gens := s1.gens, drawn := s1.drawn, toks := s1.toks, os := s1.os } (upd H1 D (.lst [])) h3.objs.size (cellsFrom (h3.objs.size + 1) scope.names (cloFrom X.env.cells scope.names [])) [it]
  have pe := he { heap := h3, gens := s1.gens, drawn := s1.drawn, toks := s1.toks, os := s1.os } (upd H1 D (.lst [])) h3.objs.size (cellsFrom (h3.objs.size + 1) scope.names (cloFrom X.env.cells scope.names [])) [it]
  generalize hcl : cellsFrom (h3.objs.size + 1) scope.names (cloFrom X.env.cells scope.names []) = cl at *
  have loop := compLoop_any (prog := X.prog) (w := X.w) (A := X.A) (elt := elt) (target := tg) (iter := iter) (ifs := ifs) (scope := scope) (pos := pos) (it := .ref it) (acc := .ref D) (env := compEnvC scope cl h3.objs.size X.env)
    (R := compPost (model X.prog X.w) X.A X.xe use Qf (.ref D) h3.objs.size)
    (fun n s' => ∃ i H', Inv (X.blk { heap := h3, gens := s1.gens, drawn := s1.drawn, toks := s1.toks, os := s1.os } (upd H1 D (.lst [])) scope (compEnvC scope cl h3.objs.size X.env) [it]) [] (wipe σ (own.map (·.2))) H' s' ∧ s'.heap.IsListIter it a i ∧ H' it = none ∧ W i n H') ?step m0
    ⟨0, _, I4, st4, by rw [upd_ne itD]; exact nit, w0⟩
  · refine codeAny_compStart_list loop (wpAny_pyIter_listiter st4 loop)
  · rintro n s5 ⟨i, H5, I5, st5, n5, w5⟩
    have exI : ∀ {b}, b ∈ [it] → b = it := fun {b} hb => by simpa using hb
    have itL : it ≠ (compEnvC scope cl h3.objs.size X.env).locals := (I5.ok.exf it (by simp)).1
    have itC : ∀ (x : Str) (c : Addr), (compEnvC scope cl h3.objs.size X.env).cells.lookup x = some c → c ≠ it := (I5.ok.exf it (by simp)).2
    rcases turn i n H5 w5 with ⟨stop, qq⟩ | ⟨go, Nx, hNx, step⟩
    · obtain ⟨xs, sq, le⟩ := stop
      obtain ⟨its, rv, pl, sz⟩ := I5.list sq
      refine next_list_endH (hotB _ _ _ _ I5) itp st5 pl.isList (by simp; rw [← Paired.length rv]; exact le) fun h' eb => ?_
      have I6 := I5.turned (t' := s5.toks) (h' := h') (it := it) eb n5 itL (.inl (by simp)) itC (fun q hq => by simp at hq)
      have I7 := Inv.call' I3 I6.os I6.base I6.hok I6.bare (fun b hb => by
        have F := f3' b hb
        exact ⟨F.2.2.2.1, F.2.1, F.2.2.2.2.1, F.2.2.2.2.2⟩)
      obtain ⟨m, hn, _⟩ := I6.loc
      have nC : H5 h3.objs.size = none := I6.free
      exact hRR D h3.objs.size _ m H5 I7 qq hn (nCx H5 nC)
    · obtain ⟨xs, x, sq, ex⟩ := go
      obtain ⟨its, rv, pl, sz⟩ := I5.list sq
      obtain ⟨u, eu, ru⟩ := rv.get ex
      refine wpAny_pyNext_list_item st5 pl.isList (x := u) (by simpa using eu) fun h' it' sb => ?_
      have I6 := I5.turned (t' := s5.toks) (h' := h') (it := it) (fun b o nb e => (sb.2 b nb).trans e) n5 itL (.inl (by simp)) itC (fun q hq => by simp at hq)
      obtain ⟨o6, g6, c6, d6⟩ := id it'
      dsimp only
      refine go_of (n := "list_iterator") (vs := #[.ref a, .int ((i + 1 : Nat) : Int) 0]) g6 c6 d6 (by decide) ?_
      have d0 := step x H5 ⟨rfl, fun xs' sq' => by rw [I5.list_inj sq' sq]; exact ex⟩
      have I7 := I6.pinned (fp := [it]) (fun b hb => by
        obtain rfl := exI hb
        exact ⟨n5, itL, I5.ok.exfs b (by simp), .inl (by simp), itC, fun q hq => by simp at hq⟩) (fun b hb => by
        obtain rfl := exI hb
        exact ⟨o6, g6, fun v z => by rw [d6] at z; cases z⟩)
      refine thnF (pg.run _ _ _ _ x u _ I7 ru d0) fun _ s8 got8 => ?_
      obtain ⟨σ2, H8, I8, wz, q8⟩ := got8
      have fin : ∀ s' H', Inv (X.blk { heap := h3, gens := s1.gens, drawn := s1.drawn, toks := s1.toks, os := s1.os } (upd H1 D (.lst [])) scope (compEnvC scope cl h3.objs.size X.env) [it]) ([] ++ pinsAt [it] h') σ2 H' s' → Nx H' →
          ∃ m, m < n ∧ ∃ i H', Inv (X.blk { heap := h3, gens := s1.gens, drawn := s1.drawn, toks := s1.toks, os := s1.os } (upd H1 D (.lst [])) scope (compEnvC scope cl h3.objs.size X.env) [it]) [] (wipe σ (own.map (·.2))) H' s' ∧ s'.heap.IsListIter it a i ∧ H' it = none ∧ W i m H' := fun s' H' J nx => by
        obtain ⟨m', lt, w'⟩ := hNx _ nx
        obtain ⟨g7, n7, _⟩ := J.pin (it, o6) (List.mem_append_right _ (List.mem_append_right _ (mem_pinsAt (by simp) g6)))
        refine ⟨m', lt, i + 1, H', (Inv.unpinned J).weak ?_ (fun k v e => ?_), ⟨o6, g7, c6, d6⟩, n7, w'⟩
        · rw [← wz, wipe_length]
        · rw [← wz] at e
          exact (wipe_some e).1
      refine thnF (pt.run _ _ _ _ _ I8 q8) fun b s9 got9 => ?_
      obtain ⟨H9, I9, q9⟩ := got9
      cases b with
      | false => exact fin _ _ I9 q9
      | true =>
        refine thnF (pe.run _ _ _ _ _ I9 q9) fun y s10 got10 => ?_
        obtain ⟨yv, H10, I10, ry, acc, eD, szA, nx⟩ := got10
        exact app_ok (X := X.blk { heap := h3, gens := s1.gens, drawn := s1.drawn, toks := s1.toks, os := s1.os } (upd H1 D (.lst [])) scope (compEnvC scope cl h3.objs.size X.env) [it]) I10 eD szA ry fun s11 I11 => fin _ _ I11 nx
theorem pe_lcH {X : Cx} {p : Addr × Obj} {elt tg iter : Expr} {ifs : List Expr} {scope : Scope} {own : List (Str × Nat)} {pos : Pos} {ti : TE} {g : TG} {tt : TT} {te : TE}
    (h1 : L2H.Hot1 X.A p) (hp : p ∈ X.pn) (hN : X.N.Nodup) (hi : PE X iter ti) (ok : BlkOk X.N X.env.scope scope own)
    (hg : ∀ (s : Shared) (H : Hp) (C : Addr) (cl : List (Str × Addr)) (fp : List Addr),
      (∀ pins s' σ H', Inv (X.blk s H scope (compEnvC scope cl C X.env) fp) pins σ H' s' → ∃ x1, HotX.HotAt X.A x1 s'.heap) → PG (X.blk s H scope (compEnvC scope cl C X.env) fp) tg g)
    (ht : ∀ (s : Shared) (H : Hp) (C : Addr) (cl : List (Str × Addr)) (fp : List Addr), PTs (X.blk s H scope (compEnvC scope cl C X.env) fp) ifs tt)
    (he : ∀ (s : Shared) (H : Hp) (C : Addr) (cl : List (Str × Addr)) (fp : List Addr), PE (X.blk s H scope (compEnvC scope cl C X.env) fp) elt te)
    (hs : ∀ x, foldedSetIterable iter X.env x = pure x := by intro x; rfl) :
    PE X (.ListComp elt [{ target := tg, iter := iter, ifs := ifs, is_async := 0 }] scope pos) (tLc (iList X.K ti) g tt te (own.map (·.2))) := by
  refine ⟨fun pins s σ H Q I h => ?_⟩
  rw [eval_ListComp]
  refine lc_coreH h1 hp hN I hi ok hg ht he hs h fun D C s' m H' I' q hn f => ⟨m, hn, fun h'' sb => ?_⟩
  exact ⟨.ref D, H', I'.turned (fun b o nb e => (sb.2 b nb).trans e) f.1 f.2.1 f.2.2.2.1 f.2.2.2.2.1 f.2.2.2.2.2, rfl, q⟩
theorem ps_setLcH {X : Cx} {p : Addr × Obj} {i : Nat} {y : Str} {py : Pos} {elt tg iter : Expr} {ifs : List Expr} {scope : Scope} {own : List (Str × Nat)} {pos spos : Pos} {ti : TE} {g : TG} {tt : TT} {te : TE}
    (h1 : L2H.Hot1 X.A p) (hp : p ∈ X.pn) (hN : X.N.Nodup) (hy : X.N[i]? = some y) (hyl : X.env.scope.names.lookup y = some .local)
    (hsw : swapsWith (elt.ListComp [{ target := tg, iter := iter, ifs := ifs, is_async := 0 }] scope pos) (some (.Name y py)) spos.line X.env = pure true) (hi : PE X iter ti) (ok : BlkOk X.N X.env.scope scope own)
    (hg : ∀ (s : Shared) (H : Hp) (C : Addr) (cl : List (Str × Addr)) (fp : List Addr),
      (∀ pins s' σ H', Inv (X.blk s H scope (compEnvC scope cl C X.env) fp) pins σ H' s' → ∃ x1, HotX.HotAt X.A x1 s'.heap) → PG (X.blk s H scope (compEnvC scope cl C X.env) fp) tg g)
    (ht : ∀ (s : Shared) (H : Hp) (C : Addr) (cl : List (Str × Addr)) (fp : List Addr), PTs (X.blk s H scope (compEnvC scope cl C X.env) fp) ifs tt)
    (he : ∀ (s : Shared) (H : Hp) (C : Addr) (cl : List (Str × Addr)) (fp : List Addr), PE (X.blk s H scope (compEnvC scope cl C X.env) fp) elt te)
    (hs : ∀ x, foldedSetIterable iter X.env x = pure x := by intro x; rfl) :
    PS X (.Assign [.Name y py] (elt.ListComp [{ target := tg, iter := iter, ifs := ifs, is_async := 0 }] scope pos) spos) (tAsg (tLc (iList X.K ti) g tt te (own.map (·.2))) (gName i)) := by
  refine ⟨fun pins s σ H D I h => ?_⟩
  rw [exec_Assign_Name_used y py _ spos hsw]
  refine wpAny_bind (wpAny_standAt (wpAny_bind (wpAny_bind (thn (lc_coreH h1 hp hN I hi ok hg ht he hs h fun L C s' m H' I' q hn f => ?_) fun x s' hq => wpAny_pure (wpAny_pure hq)))))
  refine wpAny_assign_Name (store_ok2 (v := .ref L) I' hN hy (.inl hyl) rfl (fun s2 I2 x => ?_) (.inr hyl))
  obtain ⟨a, sb, ha⟩ := x
  obtain ⟨f0, f1, f2, f3, f4, f5⟩ := f
  have haC : C ≠ a := ha.elim (fun z => by rw [z]; exact f1) fun z e => f4 y a z e.symm
  refine ⟨m, Heap.Ns.sameBut hn sb haC, fun h3 sb3 => ⟨_, _, I2.turned (fun b o hb e => (sb3.2 b hb).trans e) f0 f1 f3 f4 f5, q⟩⟩
end Gd

set_option Elab.async false
set_option linter.all false
set_option maxRecDepth 100000
set_option maxHeartbeats 4000000
set_option autoImplicit false
namespace Gd
open PySem PySem.Spec PyProof.Rows L2

/-! ### raising what has no chain -/
theorem takes0N {X : Cx} : L2N.Takes X (fun _ _ _ _ => False) := fun u s' h => by
  obtain ⟨_, _, _, _, _, _, _, _, _, _, _, _, _, _, _, _, no⟩ := h
  exact no.elim
section
variable {X : Cx} {x qual : Str} {st : Stmt} {ps : List Str} {sp : Sp} {k j : Nat} {e : Expr} {es : List Expr} {ta t : TA} {p pos pos2 : Pos} {C fI : Addr} {W : WX}
theorem pmk_oexN (T : ExT X.K X.mg C fI x) (D : DnI X.prog X.w X.K X.mg X.base k fI qual st ps sp) (hr : Room j X.A) (hg : Gl X x) (ha : PA X (e :: es) ta) (hk : k + 1 ≤ j := by decide)
    (hdb : (x == ("__debug__" : Str)) = false := by decide) (he : starEach (e :: es) X.env = (false, eval e X.env) :: starEach es X.env := by rfl)
    (hpl : (backTo pos (starEach es X.env)).any (·.1) = false := by rfl) :
    L2N.PMk X (.Call (.Name x p) (e :: es) [] pos) (tMkO C sp [] ta) := by
  obtain ⟨fd, F, b, ok⟩ := D.ex
  have hr' := hr.mono hk
  intro pins s σ H Q I h
  obtain ⟨nm, q, N, bs, bm, sn, sub, ab, col, dd, k0, k1, k2, k3, k5, hC, hbm⟩ := T.ox.cls
  refine wpAny_Call_Name_kw (ld_glob I hg T.mg_ ?_ hdb)
  refine PySem.W.callWith_K (h₀ := X.base) I.ok.mod.kin T.ox.kC (thn (ha.run pos pins s σ H _ I h) fun us s1 got => ?_) he hpl
  obtain ⟨vs, H1, I1, r1, hz, q1⟩ := got
  refine ⟨I1.kIn, ?_⟩
  show wpAny _ _ (call (.ref C) us) _ _ _
  obtain ⟨hp, g, dr, tk, os⟩ := s1
  have big : hp.objs.size ≤ hp.objs.size + 1 := Nat.le_succ _
  have new : H1 (hp.objs.size + 1) = none := I1.hok.fresh big
  have hq := q1 (hp.objs.size + 1) new
  rw [List.append_nil] at hq
  have grow : ∀ b o, hp.get? b = some o → ((hp.push (PySem.W.kdv_tup us)).push (PySem.HandSPX.excO C hp.objs.size)).get? b = some o := fun b o z => Heap.get?_push_of_some _ (Heap.get?_push_of_some _ z)
  have there : ((hp.push (PySem.W.kdv_tup us)).push (PySem.HandSPX.excO C hp.objs.size)).get? (hp.objs.size + 1) = some (PySem.HandSPX.excO C hp.objs.size) := by heap_get
  have I2 : Inv X pins σ (upd H1 (hp.objs.size + 1) (exo (hp.objs.size + 1) C none)) ⟨(hp.push (PySem.W.kdv_tup us)).push (PySem.HandSPX.excO C hp.objs.size), g, dr, tk, os⟩ := I1.laid (t' := tk) grow big (exo_ok there)
  have r2 : Vals (V.ref (hp.objs.size + 1) :: vs) (Value.ref (hp.objs.size + 1) :: us) := .cons rfl r1
  have cnt : (Value.ref (hp.objs.size + 1) :: us).length = ps.length := by
    rw [← r2.length]
    exact ok.len _ _ _ _ hq
  have bnd : BindsTo ⟨(hp.push (PySem.W.kdv_tup us)).push (PySem.HandSPX.excO C hp.objs.size), g, dr, tk, os⟩ fd ⟨Value.ref (hp.objs.size + 1) :: us, []⟩ (ps.zip (Value.ref (hp.objs.size + 1) :: us)) := by
    have z := b _ (Value.ref (hp.objs.size + 1) :: us) I2.kIn (by simpa using cnt)
    simpa using z
  have few : us.length ≤ sizeLine := by
    rw [← Paired.length r1, sizeLine_eq]
    omega
  refine wpAny_call (PySem.HandSPX.call_own PySem.F.excBase_ValueError (fun Y => PySem.HandSPX.refsVE_contains Y bm hbm) (I1.kIn _ _ hC) (PySem.W.looks_findIn I1.kIn T.iC) (fun self => PySem.W.bind_fn I1.kIn self T.tI) few ?_)
  refine codeAny_mono (ok.run _ X.stack _ _ ⟨Value.ref (hp.objs.size + 1) :: us, []⟩ (Value.ref (hp.objs.size + 1) :: us) _ _ E0 (hr'.make C us []) (I2.env0.make C us []) bnd r2 hq) fun r s' post => ?_
  cases r with
  | error er => exact (post : False).elim
  | ok fl =>
    cases fl with
    | ret u =>
      obtain ⟨v, H2, os2, bare2, un2, hok2, rv, ev, d, fs, ea, ed, hd1, q2⟩ := post
      subst ev
      obtain ⟨h2, g2, d2, t2, os'⟩ := s'
      refine ⟨rv, ?_⟩
      obtain ⟨t0, G, IG, gk, ga, gx, na⟩ := mk_end0 (d2 := d2) (t2 := t2) I1 big grow un2 hok2 os2 bare2 ea ed hd1
      exact ⟨_, _, _, _, _, _, _, rfl, IG, gk, ga, gx, ⟨rfl, rfl, fun vs z => by cases z; rfl⟩, rfl, rfl, na, rfl, bare2, raises_own T.ox.exC T.ox.tyC, q2⟩
    | next => exact (post : False).elim
    | brk => exact (post : False).elim
    | cont => exact (post : False).elim
theorem ps_raiseN (hc : X.calm = true) (T : ExT X.K X.mg C fI x) (D : DnI X.prog X.w X.K X.mg X.base k fI qual st ps sp) (hr : Room j X.A) (tk : L2N.Takes X W) (hg : Gl X x) (ha : PA X (e :: es) ta) (hk : k + 1 ≤ j := by decide)
    (hdb : (x == ("__debug__" : Str)) = false := by decide) (he : starEach (e :: es) X.env = (false, eval e X.env) :: starEach es X.env := by rfl)
    (hpl : (backTo pos (starEach es X.env)).any (·.1) = false := by rfl) :
    PS X (.Raise (some (.Call (.Name x p) (e :: es) [] pos)) none pos2) (fun _ σ H => tMkO C sp [] ta σ H fun cls d H' => W cls d σ H') :=
  L2N.ps_raise hc tk (pmk_oexN T D hr hg ha hk hdb he hpl)
/-- defs that may raise so -/
structure DnN (P : Program) (w : World) (K : PySem.W.Frag) (mg : Str → Option Value) (base : Heap)
    (k : Nat) (x : Str) (st : Stmt) (ps : List Str) (sp : Sp) : Prop where
  ex : ∃ f fd, Fun K x x st f fd ∧ Binds K fd ps [] ∧ mg x = some (.ref f) ∧ FnOk P w K mg base (L2N.CX P w) k f fd ps sp
theorem DnN.mk' {P : Program} {w : World} {K : PySem.W.Frag} {mg : Str → Option Value} {base : Heap} {x : Str} {st : Stmt} {ps : List Str} {k : Nat} {sp : Sp} (h : At K mg x st ps)
    (ok : ∀ f fd, Fun K x x st f fd → FnOk P w K mg base (L2N.CX P w) k f fd ps sp) : DnN P w K mg base k x st ps sp := by
  obtain ⟨f, fd, F, b, g⟩ := h
  exact ⟨f, fd, F, b, g, ok f fd F⟩
theorem okN {P : Program} {w : World} {K : PySem.W.Frag} {mg : Str → Option Value} {base : Heap} {x qual : Str} {st : Stmt} {f : Addr} {fd : FuncData} {N ps : List Str} {k : Nat} {sp : Sp}
    (F : Fun K x qual st f fd) (S : FnScope N ps (defScope st)) (len : ∀ vs H Q E, sp vs H Q E → vs.length = ps.length)
    (hb : ∀ (cdv : Value) (A : Around) (outer : List Env) (s : Shared) (H : Hp) (vs : List V) (Q : VK) (E : XK), Room k (A.deeper (envOfC qual (defScope st) s.heap.objs.size f cdv)) → sp vs H Q E →
      ∃ t, PSs (cxOf (L2N.CX P w) P w K mg base N qual (defScope st) f cdv A outer s H E) (defBody st) t ∧ t { nx := fun _ H' => Q .non H', rt := Q } (start N vs) H) :
    FnOk P w K mg base (L2N.CX P w) (k + 1) f fd ps sp := by
  obtain ⟨oc, od, kV, doc, pm, an, cdv, ct, osl, rfl, lk, cdok⟩ := F.ex
  exact fn_of lk cdok S len fun A outer s H vs Q E rm h => hb cdv A outer s H vs Q E rm h
theorem pe_cN (tk : L2N.Takes X W) (D : DnN X.prog X.w X.K X.mg X.base k x st ps sp) (hr : Room j X.A) (hg : Gl X x) (ha : PA X (e :: es) t) (hk : k ≤ j := by decide)
    (hdb : (x == ("__debug__" : Str)) = false := by decide) (he : starEach (e :: es) X.env = (false, eval e X.env) :: starEach es X.env := by rfl)
    (hpl : (backTo pos (starEach es X.env)).any (·.1) = false := by rfl) :
    PE X (.Call (.Name x p) (e :: es) [] pos) (tCallS sp (WE W) t) := by
  obtain ⟨f, fd, F, b, g, ok⟩ := D.ex
  exact pe_callS ok (hr.mono hk) hg g F.kp b (fun σ => L2N.passAt tk σ) ha hdb he hpl
end

/-! ### a def called in an except suite: what it knows of the exception -/
abbrev SpE := Addr → Value → Option Addr → Sp
structure FnE (P : Program) (w : World) (K : PySem.W.Frag) (mg : Str → Option Value) (base : Heap) (k : Nat) (f : Addr) (fd : FuncData) (ps : List Str) (sp : SpE) : Prop where
  len : ∀ a cls d vs H Q E, sp a cls d vs H Q E → vs.length = ps.length
  run : ∀ (A : Around) (outer : List Env) (s : Shared) (H : Hp) (args : Args) (us : List Value) (vs : List V) (Q : VK) (E : XK) (p : Addr × Obj),
    L2H.RoomH k A → L2H.Hot1 A p → L2H.PinOk outer H s p → Env0 P w K mg base A outer s H → BindsTo s fd args (ps.zip us) → Vals vs us →
    sp p.1 p.2.cls p.2.dict vs H Q E → codeAny (model P w) A (.call (.ref f) args) (CR CX0 outer P w H s Q E) s
structure DnE (P : Program) (w : World) (K : PySem.W.Frag) (mg : Str → Option Value) (base : Heap)
    (k : Nat) (x : Str) (st : Stmt) (ps : List Str) (sp : SpE) : Prop where
  ex : ∃ f fd, Fun K x x st f fd ∧ Binds K fd ps [] ∧ mg x = some (.ref f) ∧ FnE P w K mg base k f fd ps sp
theorem DnE.mk' {P : Program} {w : World} {K : PySem.W.Frag} {mg : Str → Option Value} {base : Heap} {x : Str} {st : Stmt} {ps : List Str} {k : Nat} {sp : SpE} (h : At K mg x st ps)
    (ok : ∀ f fd, Fun K x x st f fd → FnE P w K mg base k f fd ps sp) : DnE P w K mg base k x st ps sp := by
  obtain ⟨f, fd, F, b, g⟩ := h
  exact ⟨f, fd, F, b, g, ok f fd F⟩
theorem okE {P : Program} {w : World} {K : PySem.W.Frag} {mg : Str → Option Value} {base : Heap} {x qual : Str} {st : Stmt} {f : Addr} {fd : FuncData} {N ps : List Str} {k : Nat} {sp : SpE}
    (F : Fun K x qual st f fd) (S : FnScope N ps (defScope st))
    (len : ∀ a cls d vs H Q E, sp a cls d vs H Q E → vs.length = ps.length)
    (hb : ∀ (cdv : Value) (A : Around) (out : List Env) (s : Shared) (H : Hp) (vs : List V) (Q : VK) (E : XK) (p : Addr × Obj),
      L2H.Hot1 A p → L2H.RoomH k (A.deeper (envOfC qual (defScope st) s.heap.objs.size f cdv)) → sp p.1 p.2.cls p.2.dict vs H Q E →
      ∃ t, PSs (L2H.cxH CX0 P w K mg base N qual (defScope st) f cdv A out s H E p).nox (defBody st) t ∧ t { nx := fun _ H' => Q .non H', rt := Q } (start N vs) H) :
    FnE P w K mg base (k + 1) f fd ps sp := by
  obtain ⟨oc, od, kV, doc, pm, an, cdv, ct, osl, rfl, lk, cdok⟩ := F.ex
  constructor
  · exact len
  intro A out s H args us vs Q E p rm hot pin env bnd rel pre
  have pl := len _ _ _ vs H Q E pre
  have keep : ∀ b o, base.get? b = some o → s.heap.get? b = some o := fun b o e => (env.bs b o e).1
  have kin := env.mod.kin.keeps keep
  have nol := env.mod.nolimit.keeps keep
  refine codeAny_call_function rm.depth (kin _ _ lk) rfl S.co S.gen rfl (PySem.W.codeRec_of kin cdok) (bnd _ _ _ _ ?_)
  refine wpAny_newFunctionEnv_cells S.kind ?_ fun en he s1 xx => ?_
  · rintro ⟨nm, val⟩ mem
    cases S.par nm (List.of_mem_zip mem).1 with
    | inl q => exact .inl q
    | inr q => exact .inr ⟨q, PySem.W.cellsFrom_some _ _ _ (.inl q)⟩
  subst he
  refine ⟨nol.keeps xx.toInCall.keep, codeAny_func ?_⟩
  obtain ⟨t, ht, hq⟩ := hb cdv A out s H vs Q E p hot (rm.deeper _) pre
  have J0 := L2H.inv_startH (CX := CX0) (E := E) (qual := qual) (f := f) (cd := cdv) S pin env pl rel xx
  refine wpAny_mono (ht.nox.run [] s1 (start N vs) H _ J0 hq) ?_ (fun _ _ z => z)
  intro fl s' post
  cases fl with
  | next =>
    obtain ⟨_, H', J, q⟩ := post
    exact ⟨.non, H', J.os, J.bare, J.base, J.hok, rfl, q⟩
  | ret u =>
    obtain ⟨v, _, H', J, rv, q⟩ := post
    exact ⟨v, H', J.os, J.bare, J.base, J.hok, rv, q⟩
  | brk =>
    obtain ⟨_, _, _, no⟩ := post
    cases no
  | cont =>
    obtain ⟨_, _, _, no⟩ := post
    cases no
theorem pe_cE {X : Cx} {x : Str} {st : Stmt} {ps : List Str} {sp : SpE} {k j : Nat} {e : Expr} {es : List Expr} {t : TA} {p pos : Pos} {a : Addr} {oe : Obj} {cls : Value} {d : Option Addr}
    (hx : X.A.handled = some (.ref a)) (hm : (a, oe) ∈ X.pn) (zn : L2N.Zn cls d oe) (fl : ∃ vs, oe.data = .fields vs)
    (D : DnE X.prog X.w X.K X.mg X.base k x st ps sp) (hr : L2H.RoomH j X.A) (hg : Gl X x) (ha : PA X (e :: es) t) (hk : k ≤ j := by decide)
    (hdb : (x == ("__debug__" : Str)) = false := by decide) (he : starEach (e :: es) X.env = (false, eval e X.env) :: starEach es X.env := by rfl)
    (hpl : (backTo pos (starEach es X.env)).any (·.1) = false := by rfl) :
    PE X (.Call (.Name x p) (e :: es) [] pos) (tCl (sp a cls d) t) := by
  obtain ⟨f, fd, F, b, g, ok⟩ := D.ex
  obtain ⟨rfl, rfl, zc⟩ := zn
  obtain ⟨fvs, fe⟩ := fl
  refine ⟨fun pins s σ H Q I h => ?_⟩
  refine wpAny_Call_Name_kw (ld_glob I hg g ?_ hdb)
  refine PySem.W.callWith_K (h₀ := X.base) I.ok.mod.kin F.kp (thn (ha.run pos pins s σ H _ I h) fun us s1 got => ?_) he hpl
  obtain ⟨vs, H1, I1, r1, q2⟩ := got
  refine ⟨I1.kIn, ?_⟩
  have cnt : us.length = ps.length := by
    rw [← r1.length]
    exact ok.len _ _ _ _ _ _ _ q2
  have bnd : BindsTo s1 fd ⟨us, []⟩ (ps.zip us) := by
    have z := b s1 us I1.kIn (by simpa using cnt)
    simpa using z
  have P1 := I1.pin (a, oe) (List.mem_append_left _ hm)
  have pin : L2H.PinOk X.stack H1 s1 (a, oe) := ⟨P1.1, P1.2.1, fun m => (List.mem_cons.mp (Inv.stkSub I1 a m)).elim P1.2.2.1 P1.2.2.2.1, P1.2.2.2.2⟩
  refine wpAny_call (codeAny_mono (ok.run X.A X.stack s1 H1 ⟨us, []⟩ us vs _ E0 (a, oe) (hr.mono hk) ⟨hx, fvs, fe, zc fvs fe⟩ pin I1.env0 bnd r1 q2) ?_)
  intro r s' post
  cases r with
  | error e => exact (post : False).elim
  | ok fl =>
    cases fl with
    | ret u => exact I1.after post
    | next => exact (post : False).elim
    | brk => exact (post : False).elim
    | cont => exact (post : False).elim

theorem unitsD {k : Nat} {A : Around} (h : Room k A) : A.units + 65 < cLine := by
  have := h.un
  omega
theorem roomS {k : Nat} {A : Around} {v : Option Value} (h : Room k A) : L2H.RoomH k (A.mark v) := ⟨(L2H.roomH_of h).dp, (L2H.roomH_of h).un⟩
/-! ### what is asked of it there -/
/-- what is known of the exception p: its class, its dict -/
def ErrP (H : Hp) (p : Addr × Obj) (C : Addr) (v : V) : Prop := ∃ d, p.2.cls = .ref C ∧ p.2.dict = some d ∧ H d = some (.xd [("value", v)])
theorem ErrP.same {H H' : Hp} {p : Addr × Obj} {C : Addr} {v : V} (k : Same H H') (h : ErrP H p C v) : ErrP H' p C v := by
  obtain ⟨d, h1, h2, h3⟩ := h
  exact ⟨d, h1, h2, k _ _ h3⟩
theorem errP_inst {X : Cx} {pins : List (Addr × Obj)} {σ : L2.St} {H : Hp} {s : Shared} {p : Addr × Obj} {C : Addr} {v : V} (I : Inv X pins σ H s) (hm : p ∈ X.pn) (h1 : L2H.Hot1 X.A p) (h : ErrP H p C v) :
    ∃ (od : Obj) (u : Value), PySem.W.InstAt s.heap p.1 p.2 C (some od) ∧ RelV v u ∧ PySem.W.lookIn "value" od = some (some u) := by
  obtain ⟨d, hc, hd, e2⟩ := h
  obtain ⟨_, vs, hf, _⟩ := h1
  have he := (I.pin p (List.mem_append_left _ hm)).1
  have z : ObjOk X.prog X.w H s.heap d (.xd [("value", v)]) := I.hok d _ e2
  obtain ⟨mA, ns, rel⟩ := z
  obtain ⟨od, ho, hl⟩ := lookIn_ns ns
  have l : List.lookup ("value" : Str) [(("value" : Str), v)] = some v := by simp [List.lookup]
  obtain ⟨u, hu, ru⟩ := RelO.some_of (v := v) (o := mA "value") (by rw [← l]; exact rel "value")
  exact ⟨od, u, ⟨he, hc, by unfold PySem.W.notCls; rw [hf] <;> rfl, by rw [hd]; exact ho⟩, ru, by rw [hl, hu]⟩
def tValP (ta : TE) (p : Addr × Obj) (S : Addr → Prop) : TE := fun σ H Q => ta σ H fun x H1 => ∃ c v, x = .ref p.1 ∧ S c ∧ ErrP H1 p c v ∧ Q v H1
theorem pe_valP {X : Cx} {p : Addr × Obj} {e : Expr} {te : TE} {pos : Pos} {S : Addr → Prop} (hm : p ∈ X.pn) (h1 : L2H.Hot1 X.A p) (T : ∀ c, S c → ∃ fI x, ExT X.K X.mg c fI x) (he : PE X e te) (hb : attributeBase e "value" X.env (eval e X.env) = eval e X.env := by rfl) :
    PE X (.Attribute e "value" pos) (tValP te p S) := by
  refine ⟨fun pins s σ H Q I h => ?_⟩
  refine attr_of hb (thn (he.run pins s σ H _ I h) fun u s1 got => ?_)
  obtain ⟨x, H1, I1, rx, c, v, ex, sc, ea, q⟩ := got
  subst ex
  obtain rfl : u = Value.ref p.1 := rx
  obtain ⟨fI, y, T⟩ := T c sc
  obtain ⟨od, w, J, ru, hl⟩ := errP_inst I1 hm h1 ea
  exact HandSPX.exc_get I1.kIn J T.hg T.hk T.ox.exC (PySem.W.findObj_own T.hd T.nV rfl hl) (handed_of ru) ⟨v, H1, I1.tok _, ru, q⟩
def rIsXP (K : PySem.W.Frag) (p : Addr × Obj) (S : Addr → Prop) : List V → Hp → VK → Prop := fun xs H Q => ∃ (C : Addr) (v c : V) (cv : Value) (b : Bool), xs = [.ref p.1, c] ∧ S C ∧ ErrP H p C v ∧ (∀ u, RelV c u → u = cv) ∧ PySem.W.kitOne K (.ref C) cv = some b ∧ Q (.bl b) H
theorem call_isXP {X : Cx} {p : Addr × Obj} {S : Addr → Prop} (hm : p ∈ X.pn) (h1 : L2H.Hot1 X.A p) (T : ∀ c, S c → ∃ fI x, ExT X.K X.mg c fI x) : CallR X (.builtin "isinstance") (rIsXP X.K p S) := by
  intro pins s σ H xs us Q I r h
  obtain ⟨C, v, c, cv, b, rfl, sc, ea, hcv, e, q⟩ := h
  obtain ⟨u1, u2, rfl, r1, r2⟩ := vals2 r
  cases (show u1 = Value.ref p.1 from r1)
  have ec := hcv _ r2
  subst ec
  obtain ⟨fI, y, T⟩ := T C sc
  obtain ⟨od, w, J, _⟩ := errP_inst I hm h1 ea
  exact PySem.W.kia_one (err_kit T) I.kIn ⟨_, _, J⟩ e (fun z => nomatch z) fun tk => ⟨.bl b, H, I.tok tk, rfl, q⟩
end Gd

set_option Elab.async false
set_option linter.all false
set_option maxRecDepth 100000
set_option maxHeartbeats 4000000
set_option autoImplicit false
namespace Gd
open PySem PySem.Spec PyProof.Rows L2

/-! ### an object of an own class made by an __init__ that may raise -/
structure MtN (P : Program) (w : World) (K : PySem.W.Frag) (mg : Str → Option Value) (base : Heap)
    (k : Nat) (C : Addr) (m qual : Str) (st : Stmt) (ps : List Str) (sp : Sp) : Prop where
  ex : ∃ f fd, PySem.W.findIn K (.ref C) m = some (some (.ref f)) ∧ PySem.W.isFn K (.ref f) = true ∧ Fun K m qual st f fd ∧ Binds K fd ps [] ∧ FnOk P w K mg base (L2N.CX P w) k f fd ps sp
theorem MtN.mk' {P : Program} {w : World} {K : PySem.W.Frag} {mg : Str → Option Value} {base : Heap} {C : Addr} {m qual : Str} {st : Stmt} {ps : List Str} {k : Nat} {sp : Sp} (h : AtM K C m qual st ps)
    (ok : ∀ f fd, Fun K m qual st f fd → FnOk P w K mg base (L2N.CX P w) k f fd ps sp) : MtN P w K mg base k C m qual st ps sp := by
  obtain ⟨f, fd, a, i, F, b⟩ := h
  exact ⟨f, fd, a, i, F, b, ok f fd F⟩
theorem run_makeS {X : Cx} {CX : CXT} {k : Nat} {f C : Addr} {fd : FuncData} {ps : List Str} {sp : Sp} {E : XK} {pins : List (Addr × Obj)} {σ : L2.St} {H : Hp} {s : Shared} {Q : VK} {us : List Value} {vs : List V}
    (M : Mk X.K C f) (F : FnOk X.prog X.w X.K X.mg X.base CX k f fd ps sp) (hr : Room (k + 1) X.A) (hb : Binds X.K fd ps []) (hx : PassesAt CX X σ E) (I : Inv X pins σ H s) (r : Vals vs us)
    (h : ∀ x dx, H x = none → H dx = none → dx ≠ x → sp (.ref x :: (vs ++ [])) (upd (upd H dx (.own x)) x (.ins C dx [])) (fun v H2 => v = .non ∧ Q (.ref x) H2) E) :
    wpAny (model X.prog X.w) X.A (call (.ref C) us) (EP X pins σ Q) X.xe s := by
  have hq := h (s.heap.objs.size + 1) s.heap.objs.size (I.hok.fresh (Nat.le_succ _)) (I.hok.fresh (Nat.le_refl _)) (Nat.ne_of_lt (Nat.lt_succ_self _))
  have I2 := Inv.made (C := C) I
  have r2 : Vals (V.ref (s.heap.objs.size + 1) :: (vs ++ [])) (Value.ref (s.heap.objs.size + 1) :: (us ++ [])) := .cons rfl (Vals.append r .nil)
  have hl : (Value.ref (s.heap.objs.size + 1) :: (us ++ [])).length = ps.length := by
    rw [← r2.length]
    exact F.len _ _ _ _ hq
  refine wpAny_call (make_map I.kIn M.makes M.init (beq_iff_eq.mp M.fn) (codeAny_mono (F.run (X.A.under (.builtin "type.__call__" ⟨.ref C :: us, []⟩)) X.stack _ _ ⟨.ref (s.heap.objs.size + 1) :: us, []⟩ _ _ _ E
    (hr.make C us []) (I2.env0.make C us []) (hb _ (.ref (s.heap.objs.size + 1) :: us) I2.kIn hl) r2 hq) fun r' s' hq' => ?_))
  cases r' with
  | error e => exact hx pins _ _ e s' I2 hq'
  | ok fl =>
    cases fl with
    | ret u =>
      obtain ⟨v, H', I3, rv, ev, q3⟩ := I2.after hq'
      subst ev
      exact ⟨rv, .ref (s.heap.objs.size + 1), H', I3, rfl, q3⟩
    | next => exact (hq' : False).elim
    | brk => exact (hq' : False).elim
    | cont => exact (hq' : False).elim
def tMakeS (C : Addr) (sp : Sp) (E : L2.St → XK) (t : TA) : TE := fun σ H Q => t σ H fun vs H1 => ∀ x dx, H1 x = none → H1 dx = none → dx ≠ x → sp (.ref x :: (vs ++ [])) (upd (upd H1 dx (.own x)) x (.ins C dx [])) (fun v H2 => v = .non ∧ Q (.ref x) H2) (E σ)
section
variable {X : Cx} {x m qual : Str} {st : Stmt} {ps : List Str} {sp : Sp} {k j : Nat} {e : Expr} {es : List Expr} {t : TA} {p pos : Pos} {C : Addr} {W : WX}
/-- C(e, ..) in a try, or where its errors go on -/
theorem pe_newN (tk : L2N.Takes X W) (T : Ck X.K X.mg C x) (D : MtN X.prog X.w X.K X.mg X.base k C "__init__" qual st ps sp) (hr : Room j X.A) (hg : Gl X x) (ha : PA X (e :: es) t) (hk : k + 1 ≤ j := by decide)
    (hdb : (x == ("__debug__" : Str)) = false := by decide) (he : starEach (e :: es) X.env = (false, eval e X.env) :: starEach es X.env := by rfl)
    (hpl : (backTo pos (starEach es X.env)).any (·.1) = false := by rfl) :
    PE X (.Call (.Name x p) (e :: es) [] pos) (tMakeS C sp (WE W) t) := by
  obtain ⟨f, fd, a, i, F, b, ok⟩ := D.ex
  have M : Mk X.K C f := ⟨T.mks, a, i, T.kp⟩
  refine ⟨fun pins s σ H Q I h => ?_⟩
  refine wpAny_Call_Name_kw (ld_glob I hg T.mg_ ?_ hdb)
  refine PySem.W.callWith_K (h₀ := X.base) I.ok.mod.kin M.kp (thn (ha.run pos pins s σ H _ I h) fun us s1 got => ?_) he hpl
  obtain ⟨vs, H1, I1, r, q⟩ := got
  exact ⟨I1.kIn, run_makeS M ok (hr.mono hk) b (L2N.passAt tk σ) I1 r q⟩
/-- o.m(e, ..) where its errors go on -/
def tMethS (C : Addr) (m : Str) (sp : Sp) (E : L2.St → XK) (ta : TE) (t : TA) : TE := fun σ H Q => ta σ H fun x H1 => ∃ a dx fs, x = .ref a ∧ H1 a = some (.ins C dx fs) ∧ List.lookup m fs = none ∧ t σ H1 fun vs H2 => sp (x :: vs) H2 Q (E σ)
theorem pe_mN {o : Expr} {apos : Pos} {ta : TE} {pl : Sem Bool} (tk : L2N.Takes X W) (T : Ck X.K X.mg C x) (D : MtN X.prog X.w X.K X.mg X.base k C m qual st ps sp) (hr : Room j X.A) (he : PE X o ta) (ha : PA X (e :: es) t) (hk : k ≤ j := by decide)
    (hst : starEach (e :: es) X.env = (false, eval e X.env) :: starEach es X.env := by rfl) (hpl : (backTo pos (starEach es X.env)).any (·.1) = false := by rfl)
    (ht : eval (.Call (.Attribute o m apos) (e :: es) [] pos) X.env = (do
      let ov ← eval o X.env
      standAt apos.atName
      let (f, first) ← holding [ov] (getMethod ov m pl)
      callWith pos f first (backTo pos (starEach (e :: es) X.env)) (backToKw pos (keywordEach [] X.env))) := by rfl) :
    PE X (.Call (.Attribute o m apos) (e :: es) [] pos) (tMethS C m sp (WE W) ta t) := by
  obtain ⟨f, fd, at_, i, F, b, ok⟩ := D.ex
  have hm : Meth X.K C m f := ⟨at_, i, F.kp⟩
  refine ⟨fun pins s σ H Q I h => ?_⟩
  refine PySem.W.methodCall_KW (thn (he.run pins s σ H _ I h) fun u s1 got => ?_) ht
  obtain ⟨x1, H1, I1, rx, a, dx, fs, ex, ea, l, q⟩ := got
  subst ex
  cases (show u = Value.ref a from rx)
  refine getmeth_ok I1 ea T.cl hm l (PySem.W.callWith_K I1.ok.mod.kin hm.kp (thn (ha.run pos pins s1 σ H1 _ I1 q) fun us s2 got2 => ?_) hst hpl)
  obtain ⟨vs, H2, I2, r, q2⟩ := got2
  exact ⟨I2.kIn, run_fnS (vs := V.ref a :: vs) ok (hr.mono hk) b (L2N.passAt tk σ) I2 (.cons rfl r) q2⟩
end
end Gd

set_option Elab.async false
set_option linter.all false
set_option autoImplicit false
namespace Gd
open PySem PySem.Spec PyProof.Rows L2
/-! ### e.value in the clause of a try itself -/
def tValZ (ta : TE) (a : Addr) (cls : Value) (d : Option Addr) (S : Addr → Prop) : TE := fun σ H Q => ta σ H fun x H1 => ∃ c v dd, x = .ref a ∧ S c ∧ cls = .ref c ∧ d = some dd ∧ H1 dd = some (.xd [("value", v)]) ∧ Q v H1
theorem pe_valZ {X : Cx} {a : Addr} {oe : Obj} {cls : Value} {d : Option Addr} {e : Expr} {te : TE} {pos : Pos} {S : Addr → Prop} (hx : X.A.handled = some (.ref a)) (hm : (a, oe) ∈ X.pn) (zn : L2N.Zn cls d oe) (fl : ∃ vs, oe.data = .fields vs) (T : ∀ c, S c → ∃ fI x, ExT X.K X.mg c fI x) (he : PE X e te) (hb : attributeBase e "value" X.env (eval e X.env) = eval e X.env := by rfl) :
    PE X (.Attribute e "value" pos) (tValZ te a cls d S) := by
  obtain ⟨rfl, rfl, zc⟩ := zn
  obtain ⟨fvs, fe⟩ := fl
  have h1 : L2H.Hot1 X.A (a, oe) := ⟨hx, fvs, fe, zc fvs fe⟩
  refine ⟨fun pins s σ H Q I h => ?_⟩
  refine attr_of hb (thn (he.run pins s σ H _ I h) fun u s1 got => ?_)
  obtain ⟨x, H1, I1, rx, c, v, dd, ex, sc, ec, ed, e2, q⟩ := got
  subst ex
  obtain rfl : u = Value.ref a := rx
  obtain ⟨fI, y, T⟩ := T c sc
  obtain ⟨od, w, J, ru, hl⟩ := errP_inst I1 hm h1 ⟨dd, ec, ed, e2⟩
  exact HandSPX.exc_get I1.kIn J T.hg T.hk T.ox.exC (PySem.W.findObj_own T.hd T.nV rfl hl) (handed_of ru) ⟨v, H1, I1.tok _, ru, q⟩
end Gd

set_option Elab.async false
set_option linter.all false
set_option maxRecDepth 100000
set_option maxHeartbeats 4000000
set_option autoImplicit false
namespace Gd
theorem mem_joinL {S : List Nat} {d : Nat} : ∀ (ps : List (List Nat)), d ∈ TL.joinL S ps → d ∈ S ∨ ∃ p ∈ ps, d ∈ p
  | [], h => by cases h
  | [p], h => .inr ⟨p, List.mem_cons_self, h⟩
  | p :: q :: r, h => by
    have h' : d ∈ p ++ (S ++ TL.joinL S (q :: r)) := h
    rcases List.mem_append.mp h' with h | h
    · exact .inr ⟨p, List.mem_cons_self, h⟩
    · rcases List.mem_append.mp h with h | h
      · exact .inl h
      · rcases mem_joinL (q :: r) h with h | ⟨u, mu, h⟩
        · exact .inl h
        · exact .inr ⟨u, List.mem_cons_of_mem _ mu, h⟩
end Gd
namespace PySem
open Builtin Builtin.Str
theorem gd_replace_count (x y z : Str) (t u v c : Tok) (hu : u ≠ 0) (hv : v ≠ 0) (huv : u ≠ v) (hyz : (y == z) = false) (hb : x.length + 2 * z.length ≤ 16777216) :
    ∃ m : Made, Gives («str.replace» ⟨[.str x t, .str y u, .str z v, .int 1 c], []⟩) m ∧ (∀ (Q : Value → Shared → Prop) (s : Shared), (∀ (r : Str) (t' : Tok) (k : Nat), r.length ≤ x.length + 2 * z.length → (∀ d ∈ TL.tl r, d ∈ TL.tl x ∨ d ∈ TL.tl z) → Q (.str r t') { s with toks := k }) → m.post Q s) := by
  have e0 : «str.replace» ⟨[.str x t, .str y u, .str z v, .int 1 c], []⟩ = (do
      let limit ← countLimit "str.replace" (some (.int 1 c)) (x.length + 1)
      if ((occurrences x y 0 x.length limit).isEmpty || (y.length == 0 && z.length == 0)) = true then (do rule "str.replace.nothing"; ret (.str x t)) else
          (do let same ← isSame (.str y u) (.str z v)
              if same = true then (do rule "str.replace.old-is-new"; ret (.str x t)) else
              if tooLong (x.length + (occurrences x y 0 x.length limit).length * z.length) = true then unsupported "str.replace:memory" else
              retStr (glued z (partsBetween x (occurrences x y 0 x.length limit) y.length)))) := by rfl
  rw [e0, countLimit_int "str.replace" 1 c (x.length + 1) (by decide)]
  have lim : (if (1 : Int) < 0 then x.length + 1 else (1 : Int).toNat) = 1 := by rw [if_neg (by decide)]; rfl
  rw [lim]
  have h1 := StrLaws.occ_length_le x y 0 x.length 1
  have hy : (glued y (partsBetween x (occurrences x y 0 x.length 1) y.length)).length = x.length := by rw [StrLaws.glued_between_self]
  rw [size_glued, length_partsBetween, Nat.add_sub_cancel] at hy
  have h2 : (occurrences x y 0 x.length 1).length * z.length ≤ 1 * z.length := Nat.mul_le_mul_right _ h1
  have hz : (glued z (partsBetween x (occurrences x y 0 x.length 1) y.length)).length ≤ x.length + 2 * z.length := by
    rw [size_glued, length_partsBetween, Nat.add_sub_cancel]
    omega
  have hm : ∀ d ∈ TL.tl (glued z (partsBetween x (occurrences x y 0 x.length 1) y.length)), d ∈ TL.tl x ∨ d ∈ TL.tl z := fun d hd => by
    rw [StrLaws.glued_eq_join, TL.tl_join] at hd
    rcases Gd.mem_joinL _ hd with h | ⟨p, mp, h⟩
    · exact .inr h
    · obtain ⟨q, mq, rfl⟩ := List.mem_map.mp mp
      unfold partsBetween at mq
      rw [List.mem_map] at mq
      obtain ⟨⟨i, j⟩, _, rfl⟩ := mq
      rw [TL.tl_strSub] at h
      exact .inl (List.mem_of_mem_drop (List.mem_of_mem_take h))
  cases hc : ((occurrences x y 0 x.length 1).isEmpty || (y.length == 0 && z.length == 0))
  · refine ⟨.str (glued z (partsBetween x (occurrences x y 0 x.length 1) y.length)), ?_, fun Q s q => ⟨by rw [sizeLine_eq]; omega, q _ _ _ hz hm⟩⟩
    have hl : tooLong (x.length + (occurrences x y 0 x.length 1).length * z.length) = false := by
      unfold tooLong
      rw [sizeLine_eq]
      exact decide_eq_false (by omega)
    show Gives (if ((occurrences x y 0 x.length 1).isEmpty || (y.length == 0 && z.length == 0)) = true then (do rule "str.replace.nothing"; ret (.str x t)) else
          (do let same ← isSame (.str y u) (.str z v)
              if same = true then (do rule "str.replace.old-is-new"; ret (.str x t)) else
              if tooLong (x.length + (occurrences x y 0 x.length 1).length * z.length) = true then unsupported "str.replace:memory" else
              retStr (glued z (partsBetween x (occurrences x y 0 x.length 1) y.length)))) _
    rw [hc]
    rw [isSame_str_other y z u v (by simp [hu, hv]) (by simp [huv]) hyz, hl]
    exact .of_eq rfl
  · refine ⟨.val (.str x t), ?_, fun Q s q => q x t s.toks (by omega) fun d h => .inl h⟩
    show Gives (if ((occurrences x y 0 x.length 1).isEmpty || (y.length == 0 && z.length == 0)) = true then (do rule "str.replace.nothing"; ret (.str x t)) else _) _
    rw [hc]
    exact .rule (.of_eq rfl)
end PySem

namespace Gd
open PySem PySem.Spec PyProof.Rows L2
section
variable {X : Cx}
theorem op_repS : OpR X (binaryOp .Mult) (fun x y H Q => ∃ (a : Str) (n : Int), x = .str a ∧ y = .int n ∧ 1 ≤ n ∧ n ≤ 1000 ∧ a.length ≤ 1000 ∧ ∀ r : Str, r.length = a.length * n.toNat → (∀ d ∈ TL.tl r, d ∈ TL.tl a) → Q (.str r) H) := by
  intro pins s σ H x y v u Q I rx ry h
  obtain ⟨a, n, rfl, rfl, h0, h1, hl, q⟩ := h
  obtain ⟨t, rfl⟩ := rx
  obtain ⟨t', rfl⟩ := ry
  have lh : ∀ (k : Nat) (acc : Array Nat), ((List.replicate k a.cps).foldl (· ++ ·) acc).size = acc.size + k * a.cps.size := fun k => by
    induction k with
    | zero => intro acc; simp
    | succ k ih =>
      intro acc
      rw [List.replicate_succ, List.foldl_cons, ih, Array.size_append, Nat.succ_mul]
      omega
  have lb : a.length * n.toNat ≤ 1000 * 1000 := Nat.mul_le_mul hl (by omega)
  have ln : (⟨(List.replicate n.toNat a.cps).foldl (· ++ ·) #[]⟩ : Str).length = a.length * n.toNat := by
    show ((List.replicate n.toNat a.cps).foldl (· ++ ·) #[]).size = _
    rw [lh, Nat.mul_comm]
    simp [Str.length]
  have mh : ∀ (k : Nat) (acc : Array Nat) (d : Nat), d ∈ ((List.replicate k a.cps).foldl (· ++ ·) acc).toList → d ∈ acc.toList ∨ d ∈ TL.tl a := fun k => by
    induction k with
    | zero => intro acc d h; exact .inl h
    | succ k ih =>
      intro acc d h
      rw [List.replicate_succ, List.foldl_cons] at h
      rcases ih _ d h with h | h
      · rw [Array.toList_append] at h
        exact List.mem_append.mp h
      · exact .inr h
  have mm : ∀ d ∈ TL.tl (⟨(List.replicate n.toNat a.cps).foldl (· ++ ·) #[]⟩ : Str), d ∈ TL.tl a := fun d h => by
    rcases mh _ _ d h with h | h
    · cases h
    · exact h
  refine PySem.P.mul_str (by rw [decide_eq_false (by omega), decide_eq_false (by omega)]; rfl) (fun _ _ z => ?_) (fun _ _ => ?_) ?_
  · have : (1000000 : Int) ≤ (2 ^ 63 - 1) / n := by
      refine (Int.le_ediv_iff_mul_le (by omega)).mpr ?_
      omega
    omega
  · unfold PySem.Builtin.Str.tooLong
    rw [sizeLine_eq]
    exact decide_eq_false (by omega)
  rw [if_neg (by omega)]
  split
  · rename_i hc
    refine ⟨.str a, H, I.tok _, ⟨_, rfl⟩, q a ?_ fun _ h => h⟩
    rw [Bool.or_eq_true] at hc
    rcases hc with hc | hc
    · have : n = 1 := eq_of_beq hc
      subst this
      show a.length = a.length * 1
      omega
    · have : a.length = 0 := eq_of_beq hc
      rw [this]
      simp
  · exact ⟨by rw [ln, sizeLine_eq]; omega, .str _, H, I.tok _, ⟨_, rfl⟩, q _ ln mm⟩
/-! ### texts of which the token is known -/
def PEK (X : Cx) (e : Expr) (t : TE) : Prop :=
  ∀ (pins : List (Addr × Obj)) (s : Shared) (σ : L2.St) (H : Hp) (Q : VK), Inv X pins σ H s → t σ H Q → wpAny (model X.prog X.w) X.A (eval e X.env) (fun v s' => ∃ (z : Str) (tk : Tok) (H' : Hp), v = .str z tk ∧ s.toks ≤ tk ∧ Inv X pins σ H' s' ∧ Q (.str z) H') X.xe s
theorem pek_str {z : Str} {j : Nat} {c : Pos} : PEK X (.Constant (.str z) j c) (tC (.str z)) := fun pins s σ H Q I h =>
  Calls.Constant_str ⟨z, s.toks, H, rfl, Nat.le_refl _, I.tok _, h⟩
/-- c + e, both not empty -/
def tCatK (c : Str) (te : TE) : TE := fun σ H Q => te σ H fun x H1 => ∃ b : Str, x = .str b ∧ 1 ≤ c.length ∧ 1 ≤ b.length ∧ c.length + b.length ≤ sizeLine ∧ Q (.str (c ++ b)) H1
theorem pek_cat {c : Str} {j : Nat} {p pos : Pos} {e : Expr} {te : TE} (he : PE X e te) : PEK X (.BinOp (.Constant (.str c) j p) .Add e pos) (tCatK c te) := by
  intro pins s σ H Q I h
  refine wpAny_BinOp (Calls.Constant_str (wpAny_mono (PySem.wpAny_toks (he.run pins _ σ H _ (I.tok _) h)) (fun u s1 q => ?_) fun _ _ z => z.2))
  obtain ⟨hk, x, H1, I1, r1, b, rfl, h1, h2, hz, q⟩ := q
  obtain ⟨t', rfl⟩ := r1
  refine PySem.P.add_str ?_
  have e1 : (c.length == 0) = false := by simp; omega
  have e2 : (b.length == 0) = false := by simp; omega
  rw [e1, e2]
  have hk' : s.toks + 1 ≤ s1.toks := hk
  refine ⟨?_, c ++ b, s1.toks, H1, rfl, by omega, I1.tok _, q⟩
  rw [Str.length_append]
  exact hz
def tRepl1 (y : Str) (to tz : TE) : TE := fun σ H Q => to σ H fun v H1 => ∃ x, v = .str x ∧ tz σ H1 fun w H2 => ∃ z, w = .str z ∧ (y == z) = false ∧ x.length + 2 * z.length ≤ 16777216 ∧ ∀ r : Str, r.length ≤ x.length + 2 * z.length → (∀ d ∈ TL.tl r, d ∈ TL.tl x ∨ d ∈ TL.tl z) → Q (.str r) H2
theorem pet_repl1 {o f : Expr} {to tz : TE} {y : Str} {j k : Nat} {c0 c1 apos pos : Pos} (ho : PE X o to) (hf : PEK X f tz)
    (hbase : attributeBase o "replace" X.env (eval o X.env) = eval o X.env := by rfl)
    (hfew : ((backTo pos (starEach [.Constant (.str y) j c0, f, .Constant (.int 1) k c1] X.env)).all (fun x => !x.1) && (backToKw pos (keywordEach [] X.env)).all (fun x => x.1.isSome)
      && decide (([.Constant (.str y) j c0, f, .Constant (.int 1) k c1] : List Expr).length + ([] : List Keyword).length + (if ([] : List Keyword).isEmpty then 0 else 1) < 30)) = true := by rfl)
    (hline : (apos.endLine == pos.line) = true := by rfl)
    (hs : backTo pos (starEach [.Constant (.str y) j c0, f, .Constant (.int 1) k c1] X.env) = [(false, eval (.Constant (.str y) j c0) X.env), (false, eval f X.env), (false, eval (.Constant (.int 1) k c1) X.env)] := by rfl) :
    PET X (.Call (.Attribute o "replace" apos) [.Constant (.str y) j c0, f, .Constant (.int 1) k c1] [] pos) (tRepl1 y to tz) := by
  intro pins s σ H Q h0 I h
  refine wpAny_Call_method_late hbase hfew hline hs (wpAny_mono (PySem.wpAny_toks (ho.run pins s σ H _ I h)) (fun v s1 q => ?_) fun _ _ z => z.2)
  obtain ⟨hk, v', H1, I1, r1, x, e1, q⟩ := q
  subst e1
  obtain ⟨tx, e2⟩ := r1
  subst e2
  refine ⟨"str", _, PySem.F.plainAttrs_str, PySem.F.slot_str_replace, PySem.F.type_str_replace, typeIs_str _ _ _, (fun _ e => nomatch e), Calls.callWith_builtin rfl (Calls.evalArgs_plain (Calls.spliced_cons ?_))⟩
  refine Calls.Constant_str (Calls.spliced_cons (thn (hf pins _ σ H1 _ (I1.tok _) q) fun w s2 got => ?_))
  obtain ⟨z, tk, H2, rfl, ht, I2, z', ez, hyz, hb, q⟩ := got
  cases ez
  have ht' : s1.toks + 1 ≤ tk := ht
  refine Calls.spliced_cons (wpAny_Constant_int (Calls.spliced_nil ?_))
  have n1 : 1 ≤ s1.toks := Nat.le_trans h0 hk
  have n2 : 1 ≤ tk := Nat.le_trans (Nat.le_succ_of_le n1) ht'
  obtain ⟨m, g, hm⟩ := gd_replace_count x y z tx s1.toks tk s2.toks (Nat.ne_of_gt n1) (Nat.ne_of_gt n2) (Nat.ne_of_lt ht') hyz hb
  exact call_gives PySem.F.slot_str_replace (typeIs_str _ _ _) PySem.F.entry_str_replace (PySem.F.args_str_replace_4 _ _ _ _) g (hm _ _ fun r t' k hr hm => ⟨.str r, H2, I2.tok _, ⟨_, rfl⟩, q r hr hm⟩)
/-! ### statements behind which a token is out -/
theorem pst_set {i : Nat} {x : Str} {e : Expr} {te : TE} {pos' pos : Pos} (hN : X.N.Nodup) (hi : X.N[i]? = some x) (hx : Loc X.env.scope x) (he : PET X e te) (hs : swapsWith e (some (.Name x pos')) pos.line X.env = pure false := by rfl) (hf : X.fn x = true ∨ X.env.scope.names.lookup x = some .local := by first | exact .inl rfl | exact .inr rfl | assumption) :
    PST X (.Assign [.Name x pos'] e pos) (tAsg te (gName i)) := by
  intro pins s σ H D h0 I h
  refine wpAny_Assign_Name (thn (he pins s σ H _ h0 I h) fun v s1 ⟨y, H1, I1, r1, q1⟩ => ?_) hs
  exact store_ok I1 hN hi hx r1 (fun s2 I2 => ⟨_, H1, I2, q1⟩) hf
theorem pst_expr {e : Expr} {te : TE} {pos : Pos} (he : PET X e te) (hs : swapsWith e none pos.line X.env = pure false := by rfl) : PST X (.Expr e pos) (tDrop te) := by
  intro pins s σ H D h0 I h
  exact wpAny_Expr_any (thn (he pins s σ H _ h0 I h) fun v s1 ⟨x, H1, I1, r1, q1⟩ => ⟨σ, H1, I1, q1⟩) I.quiet hs
theorem pet_bm {o e : Expr} {es : List Expr} {to : TE} {t : TA} {name : Str} {apos cpos : Pos} {T id : String} {r : V → List V → Hp → VK → Prop} (pa : PlainAttrs T) (slot : Slot T name id) (hty : typeOf (.builtin id) = pure (.type "method_descriptor")) (hm : MtR X id r) (ho : PE X o to) (ha : PAT X (e :: es) t)
    (hbase : attributeBase o name X.env (eval o X.env) = eval o X.env := by rfl)
    (hfew : ((backTo cpos (starEach (e :: es) X.env)).all (fun x => !x.1) && (backToKw cpos (keywordEach [] X.env)).all (fun x => x.1.isSome)
      && decide ((e :: es).length + ([] : List Keyword).length + (if ([] : List Keyword).isEmpty then 0 else 1) < 30)) = true := by rfl)
    (hline : (apos.endLine == cpos.line) = true := by rfl) (hs : starEach (e :: es) X.env = (false, eval e X.env) :: starEach es X.env := by rfl) (hplain : (backTo cpos (starEach es X.env)).any (·.1) = false := by rfl) :
    PET X (.Call (.Attribute o name apos) (e :: es) [] cpos) (tBM X.K T r to t) := by
  intro pins s σ H Q h0 I h
  refine wpAny_Call_method_late hbase hfew hline rfl (wpAny_mono (PySem.wpAny_toks (ho.run pins s σ H _ I h)) (fun v s1 got => ?_) fun _ _ z => z.2)
  obtain ⟨hk, x, H1, I1, r1, ty, q1⟩ := got
  obtain ⟨h1, h2⟩ := tyV_is I1 r1 ty
  refine ⟨T, id, pa, slot, hty, h1, h2, ?_⟩
  have hA := ha cpos pins s1 σ H1 _ (Nat.le_trans h0 hk) I1 q1
  rw [hs] at hA ⊢
  refine Calls.callWith_builtin (by show (false || (backTo cpos (starEach es X.env)).any (·.1)) = false; rw [hplain] <;> rfl) (Calls.evalArgs_plain ?_)
  exact thn hA fun us s2 ⟨vs, H2, I2, r2, q2⟩ => hm pins s2 σ H2 x vs v us Q I2 r1 r2 q2
theorem psst_cut {st : Stmt} {rest : List Stmt} {t u : TS} (h1 : PST X st t) (h2 : PSsT X rest u) : PSsT X (st :: rest) (C8.tCut t u) := by
  intro pins s σ H D h0 I h
  obtain ⟨Mid, hm, hu⟩ := h
  refine wpAny_execs_cons (wpAny_mono (PySem.wpAny_toks (h1 pins s σ H { D with nx := Mid } h0 I hm)) (fun f s1 q => ?_) fun _ _ x => x.2)
  obtain ⟨hk, q⟩ := q
  cases f with
  | next =>
    obtain ⟨σ', H', I', q⟩ := q
    exact h2 pins s1 σ' H' D (Nat.le_trans h0 hk) I' (hu _ _ q)
  | ret v => exact q
  | brk => exact q
  | cont => exact q
/-- x = c op e: behind it a token is out -/
theorem pss_opT {i : Nat} {x c : Str} {op : Operator} {r : R2} {f : Expr} {tf : TE} {u : TS} {j : Nat} {cp bp pos' pos : Pos} {rest : List Stmt} (hN : X.N.Nodup) (hi : X.N[i]? = some x) (hx : Loc X.env.scope x) (ho : OpR X (binaryOp op) r) (hb : PE X f tf) (h2 : PSsT X rest u)
    (hs : swapsWith (.BinOp (.Constant (.str c) j cp) op f bp) (some (.Name x pos')) pos.line X.env = pure false := by rfl) (hf : X.fn x = true ∨ X.env.scope.names.lookup x = some .local := by first | exact .inl rfl | exact .inr rfl | assumption) :
    PSs X (.Assign [.Name x pos'] (.BinOp (.Constant (.str c) j cp) op f bp) pos :: rest) (tSeq (tAsg (tOp r (tC (.str c)) tf) (gName i)) u) := by
  refine ⟨fun pins s σ H D I h => ?_⟩
  refine wpAny_execs_cons (wpAny_Assign_Name (wpAny_BinOp (Calls.Constant_str (wpAny_mono (PySem.wpAny_toks (hb.run pins _ σ H _ (I.tok _) h)) (fun w s1 got => ?_) fun _ _ z => z.2))) hs)
  obtain ⟨hk, y, H1, I1, r1, q1⟩ := got
  have hk' : s.toks + 1 ≤ s1.toks := hk
  refine wpAny_mono (PySem.wpAny_toks (ho pins s1 σ H1 (.str c) y _ w _ I1 ⟨_, rfl⟩ r1 q1)) (fun v s2 got => ?_) fun _ _ z => z.2
  obtain ⟨hk2, y2, H2, I2, r2, q2⟩ := got
  refine wpAny_mono (PySem.wpAny_toks (store_ok (Q := fun _ s3 => Inv X pins (σ.set i (some y2)) H2 s3) I2 hN hi hx r2 (fun _ I3 => I3) hf)) (fun _ s3 q => ?_) fun _ _ z => z.2
  exact h2 pins s3 _ H2 D (by have := q.1; omega) q.2 q2
/-! ### C(e) raised from None where an exception is handled -/
structure DnIH (P : Program) (w : World) (K : PySem.W.Frag) (mg : Str → Option Value) (base : Heap) (k : Nat) (fI : Addr) (ps : List Str) (sp : Sp) : Prop where
  ex : ∃ fd, Binds K fd ps [] ∧ L2H.FnH P w K mg base C8.CX0 k fI fd ps sp
theorem dnIH {P : Program} {w : World} {K : PySem.W.Frag} {mg : Str → Option Value} {base : Heap} {k : Nat} {fI : Addr} {qual : Str} {st : Stmt} {N ps : List Str} {sp : Sp} (D : DnI P w K mg base k fI qual st ps sp) (S : FnScope N ps (defScope st))
    (len : ∀ vs H Q E, sp vs H Q E → vs.length = ps.length)
    (hb : ∀ (cdv : Value) (A : Around) (outer : List Env) (s : Shared) (H : Hp) (vs : List V) (Q : VK) (E : XK) (p : Addr × Obj), sp vs H Q E →
      ∃ t, PSs (L2H.cxH C8.CX0 P w K mg base N qual (defScope st) fI cdv A outer s H E p) (defBody st) t ∧ t { nx := fun _ H' => Q .non H', rt := Q } (L2.start N vs) H) : DnIH P w K mg base 1 fI ps sp := by
  obtain ⟨fd, F, b, _⟩ := D.ex
  obtain ⟨oc, od, kV, doc, pm, an, cdv, ct, osl, rfl, lk, cdok⟩ := F.ex
  exact ⟨_, b, L2H.fn_ofH (k := 0) lk cdok S len fun A outer s H vs Q E p _ _ h => hb cdv A outer s H vs Q E p h⟩
theorem pmk5_oexD {x : Str} {e : Expr} {es : List Expr} {ta : TA} {p pos : Pos} {C fI : Addr} {k j : Nat} {ps : List Str} {sp : Sp} (T : ExT X.K X.mg C fI x) (D : DnIH X.prog X.w X.K X.mg X.base k fI ps sp) (hr : L2H.RoomH j X.A) (hc : L2H.HotC X) (hg : Gl X x) (ha : PA X (e :: es) ta) (hk : k + 1 ≤ j := by decide)
    (hdb : (x == ("__debug__" : Str)) = false := by decide) (he : starEach (e :: es) X.env = (false, eval e X.env) :: starEach es X.env := by rfl) (hpl : (backTo pos (starEach es X.env)).any (·.1) = false := by rfl) :
    L2H.PMk5 X (.Call (.Name x p) (e :: es) [] pos) (tMkO C sp [] ta) := by
  obtain ⟨fd, b, F⟩ := D.ex
  exact L2H.pmk5_oexH T.ox T.iC T.tI F (hr.mono hk) hc b C8.pass0 hg T.mg_ ha hdb he hpl
/-! ### an exception in the clause of a try, with or without a chain -/
/-- what is known of it: its class, its dict -/
def ErrC (H : Hp) (cls : Value) (d : Option Addr) (C : Addr) (v : V) : Prop := ∃ dd, cls = .ref C ∧ d = some dd ∧ H dd = some (.xd [("value", v)])
theorem ErrC.same {H H' : Hp} {cls : Value} {d : Option Addr} {C : Addr} {v : V} (k : Same H H') (h : ErrC H cls d C v) : ErrC H' cls d C v := by
  obtain ⟨dd, h1, h2, h3⟩ := h
  exact ⟨dd, h1, h2, k _ _ h3⟩
theorem errC_inst {pins : List (Addr × Obj)} {σ : L2.St} {H : Hp} {s : Shared} {a : Addr} {oe : Obj} {cls : Value} {d : Option Addr} {C : Addr} {v : V} (I : Inv X pins σ H s) (hm : (a, oe) ∈ X.pn) (zc : Zc cls d oe) (fl : ∃ vs, oe.data = .fields vs) (h : ErrC H cls d C v) :
    ∃ (od : Obj) (u : Value), PySem.W.InstAt s.heap a oe C (some od) ∧ RelV v u ∧ PySem.W.lookIn "value" od = some (some u) := by
  obtain ⟨hc, hd⟩ := zc
  obtain ⟨vs, hf⟩ := fl
  obtain ⟨dd, ec, ed, e2⟩ := h
  have he := (I.pin (a, oe) (List.mem_append_left _ hm)).1
  have z : ObjOk X.prog X.w H s.heap dd (.xd [("value", v)]) := I.hok dd _ e2
  obtain ⟨mA, ns, rel⟩ := z
  obtain ⟨od, ho, hl⟩ := lookIn_ns ns
  have l : List.lookup ("value" : Str) [(("value" : Str), v)] = some v := by simp [List.lookup]
  obtain ⟨u, hu, ru⟩ := RelO.some_of (v := v) (o := mA "value") (by rw [← l]; exact rel "value")
  exact ⟨od, u, ⟨he, by rw [hc, ec], by unfold PySem.W.notCls; rw [hf] <;> rfl, by rw [hd, ed]; exact ho⟩, ru, by rw [hl, hu]⟩
def tValC (ta : TE) (a : Addr) (cls : Value) (d : Option Addr) (S : Addr → Prop) : TE := fun σ H Q => ta σ H fun x H1 => ∃ c v, x = .ref a ∧ S c ∧ ErrC H1 cls d c v ∧ Q v H1
theorem pe_valC {a : Addr} {oe : Obj} {cls : Value} {d : Option Addr} {e : Expr} {te : TE} {pos : Pos} {S : Addr → Prop} (hm : (a, oe) ∈ X.pn) (zc : Zc cls d oe) (fl : ∃ vs, oe.data = .fields vs) (T : ∀ c, S c → ∃ fI x, ExT X.K X.mg c fI x) (he : PE X e te) (hb : attributeBase e "value" X.env (eval e X.env) = eval e X.env := by rfl) :
    PE X (.Attribute e "value" pos) (tValC te a cls d S) := by
  refine ⟨fun pins s σ H Q I h => ?_⟩
  refine attr_of hb (thn (he.run pins s σ H _ I h) fun u s1 got => ?_)
  obtain ⟨x, H1, I1, rx, c, v, ex, sc, ea, q⟩ := got
  subst ex
  obtain rfl : u = Value.ref a := rx
  obtain ⟨fI, y, T⟩ := T c sc
  obtain ⟨od, w, J, ru, hl⟩ := errC_inst I1 hm zc fl ea
  exact HandSPX.exc_get I1.kIn J T.hg T.hk T.ox.exC (PySem.W.findObj_own T.hd T.nV rfl hl) (handed_of ru) ⟨v, H1, I1.tok _, ru, q⟩
def rIsXC (K : PySem.W.Frag) (a : Addr) (cls : Value) (d : Option Addr) (S : Addr → Prop) : List V → Hp → VK → Prop := fun xs H Q => ∃ (C : Addr) (v c : V) (cv : Value) (b : Bool), xs = [.ref a, c] ∧ S C ∧ ErrC H cls d C v ∧ (∀ u, RelV c u → u = cv) ∧ PySem.W.kitOne K (.ref C) cv = some b ∧ Q (.bl b) H
theorem call_isXC {a : Addr} {oe : Obj} {cls : Value} {d : Option Addr} {S : Addr → Prop} (hm : (a, oe) ∈ X.pn) (zc : Zc cls d oe) (fl : ∃ vs, oe.data = .fields vs) (T : ∀ c, S c → ∃ fI x, ExT X.K X.mg c fI x) : CallR X (.builtin "isinstance") (rIsXC X.K a cls d S) := by
  intro pins s σ H xs us Q I r h
  obtain ⟨C, v, c, cv, b, rfl, sc, ea, hcv, e, q⟩ := h
  obtain ⟨u1, u2, rfl, r1, r2⟩ := vals2 r
  cases (show u1 = Value.ref a from r1)
  have ec := hcv _ r2
  subst ec
  obtain ⟨fI, y, T⟩ := T C sc
  obtain ⟨od, w, J, _⟩ := errC_inst I hm zc fl ea
  exact PySem.W.kia_one (err_kit T) I.kIn ⟨_, _, J⟩ e (fun z => nomatch z) fun tk => ⟨.bl b, H, I.tok tk, rfl, q⟩
/-- isinstance(e, (C, ..)) -/
def rIsXTC (K : PySem.W.Frag) (a : Addr) (cls : Value) (d : Option Addr) (S : Addr → Prop) : List V → Hp → VK → Prop := fun xs H Q => ∃ (C tp : Addr) (v : V) (cs : List V) (us : List Value) (b : Bool), xs = [.ref a, .ref tp] ∧ S C ∧ ErrC H cls d C v ∧ H tp = some (.tup cs) ∧
  (∀ ws, Vals cs ws → ws = us) ∧ PySem.W.kitAny K (.ref C) us = some b ∧ Q (.bl b) H
theorem call_isXTC {a : Addr} {oe : Obj} {cls : Value} {d : Option Addr} {S : Addr → Prop} (hm : (a, oe) ∈ X.pn) (zc : Zc cls d oe) (fl : ∃ vs, oe.data = .fields vs) (T : ∀ c, S c → ∃ fI x, ExT X.K X.mg c fI x) : CallR X (.builtin "isinstance") (rIsXTC X.K a cls d S) := by
  intro pins s σ H xs us Q I r h
  obtain ⟨C, tp, v, cs, ws, b, rfl, sc, ea, ht, hcs, e, q⟩ := h
  obtain ⟨u1, u2, rfl, r1, r2⟩ := vals2 r
  cases (show u1 = Value.ref a from r1)
  cases (show u2 = Value.ref tp from r2)
  obtain ⟨fI, y, T⟩ := T C sc
  obtain ⟨od, w, J, _⟩ := errC_inst I hm zc fl ea
  obtain ⟨_, its, rv, o, h1, h2, n, h3⟩ := (show ObjOk X.prog X.w H s.heap tp (.tup cs) from I.hok tp _ ht)
  have e3 := hcs _ rv
  subst e3
  obtain ⟨oc, od2, dt, sl⟩ := o
  simp only at h2 h3
  subst h2 h3
  exact PySem.W.kia_tup (err_kit T) I.kIn ⟨_, _, J⟩ h1 e (fun z => nomatch z) fun tk => ⟨.bl b, H, I.tok tk, rfl, q⟩
end
/-! ### a def that may raise, where it does not -/
theorem Dn.ofN {P : Program} {w : World} {K : PySem.W.Frag} {mg : Str → Option Value} {base : Heap} {k : Nat} {x : Str} {st : Stmt} {ps : List Str} {sp spq : Sp} (D : DnN P w K mg base k x st ps sp) (h : ∀ vs H Q E, spq vs H Q E → sp vs H Q (fun _ _ _ => False)) : Dn P w K mg base k x st ps spq := by
  obtain ⟨f, fd, F, b, g, ok⟩ := D.ex
  refine ⟨f, fd, F, b, g, ⟨fun vs H Q E q => ok.len _ _ _ _ (h _ _ _ _ q), fun A outer s H args us vs Q E hr e0 bd r q => codeAny_mono (ok.run A outer s H args us vs Q _ hr e0 bd r (h _ _ _ _ q)) fun r s' z => ?_⟩⟩
  cases r with
  | error e =>
    obtain ⟨_, _, _, _, _, _, _, _, _, _, _, _, no⟩ := z
    exact no.elim
  | ok fl => cases fl <;> exact z
theorem Dn.ofX {P : Program} {w : World} {K : PySem.W.Frag} {mg : Str → Option Value} {base : Heap} {k : Nat} {x : Str} {st : Stmt} {ps : List Str} {sp spq : Sp} (D : DnX P w K mg base k x st ps sp) (h : ∀ vs H Q E, spq vs H Q E → sp vs H Q (fun _ _ _ => False)) : Dn P w K mg base k x st ps spq := by
  obtain ⟨f, fd, F, b, g, ok⟩ := D.ex
  refine ⟨f, fd, F, b, g, ⟨fun vs H Q E q => ok.len _ _ _ _ (h _ _ _ _ q), fun A outer s H args us vs Q E hr e0 bd r q => codeAny_mono (ok.run A outer s H args us vs Q _ hr e0 bd r (h _ _ _ _ q)) fun r s' z => ?_⟩⟩
  cases r with
  | error e =>
    obtain ⟨_, _, _, _, _, _, _, _, _, _, _, _, no⟩ := z
    exact no.elim
  | ok fl => cases fl <;> exact z
end Gd

set_option Elab.async false
set_option linter.all false
set_option maxRecDepth 100000
set_option maxHeartbeats 4000000
set_option autoImplicit false
namespace Gd
open PySem PySem.Spec PyProof.Rows L2
/-! ### match on a list of texts: sequences of names and written texts, a star at the end -/
inductive PEl | cap (i : Nat) (x : Str) | val (c : Str)
def elsM : List PEl → List Str → Bool
  | [], [] => true
  | .cap _ _ :: ps, _ :: ws => elsM ps ws
  | .val c :: ps, w :: ws => decide (w = c) && elsM ps ws
  | _, _ => false
def elsB : List PEl → List Str → L2.St → L2.St
  | .cap i _ :: ps, w :: ws, σ => elsB ps ws (σ.set i (some (.str w)))
  | .val _ :: ps, _ :: ws, σ => elsB ps ws σ
  | _, _, σ => σ
def elsC : List PEl → List Str → List (Str × V)
  | .cap _ x :: ps, w :: ws => (x, .str w) :: elsC ps ws
  | .val _ :: ps, _ :: ws => elsC ps ws
  | _, _ => []
/-- slots of the caught names -/
def elsI : List PEl → List (Nat × Str)
  | [] => []
  | .cap i x :: ps => (i, x) :: elsI ps
  | .val _ :: ps => elsI ps
inductive PPs : List Pattern → List PEl → Prop
  | nil : PPs [] []
  | cap {i : Nat} {x : Str} {pos : Pos} {ps : List Pattern} {es : List PEl} (r : PPs ps es) : PPs (.MatchAs none (some x) pos :: ps) (.cap i x :: es)
  | val {c : Str} {j : Nat} {cp pos : Pos} {ps : List Pattern} {es : List PEl} (r : PPs ps es) : PPs (.MatchValue (.Constant (.str c) j cp) pos :: ps) (.val c :: es)
theorem PPs.len {ps : List Pattern} {es : List PEl} (h : PPs ps es) : ps.length = es.length := by
  induction h with
  | nil => rfl
  | cap r ih => rw [List.length_cons, List.length_cons, ih]
  | val r ih => rw [List.length_cons, List.length_cons, ih]
/-- names and values side by side -/
abbrev BsR (bs : List (Str × Value)) (cs : List (Str × V)) : Prop := PySem.Paired (fun (b : Str × Value) (c : Str × V) => b.1 = c.1 ∧ RelV c.2 b.2) bs cs
theorem BsR.app {a : List (Str × Value)} {b : List (Str × V)} {c : List (Str × Value)} {d : List (Str × V)} : BsR a b → BsR c d → BsR (a ++ c) (b ++ d)
  | .nil, k => k
  | .cons x r, k => .cons x (BsR.app r k)
section
variable {X : Cx}
theorem each_ok {ps : List Pattern} {es : List PEl} (h : PPs ps es) (tail : List Pattern) : ∀ (ws : List Str) (us vs : List Value) (s : Shared) (Q : Option (List (Str × Value)) → Shared → Prop), ws.length = es.length → Vals (ws.map V.str) us →
    (∀ k, elsM es ws = false → Q none { s with toks := k }) →
    (∀ k, elsM es ws = true → ∀ bs, BsR bs (elsC es ws) → wpAny (model X.prog X.w) X.A (matchEach tail X.env vs) (fun r s1 => match r with
      | none => Q none s1
      | some more => Q (some (bs ++ more)) s1) X.xe { s with toks := k }) →
    wpAny (model X.prog X.w) X.A (matchEach (ps ++ tail) X.env (us ++ vs)) Q X.xe s := by
  induction h with
  | nil =>
    intro ws us vs s Q hl hv hn hy
    have e0 : ws = [] := List.length_eq_zero_iff.mp hl
    subst e0
    cases hv
    refine wpAny_mono (hy s.toks rfl [] .nil) (fun r s1 z => ?_) fun _ _ z => z
    cases r <;> exact z
  | @cap i x pos ps es r ih =>
    intro ws us vs s Q hl hv hn hy
    cases ws with
    | nil => cases hl
    | cons w ws =>
      cases hv with
      | @cons _ u _ us r1 rr =>
        have hl' : ws.length = es.length := by simpa using hl
        refine wpAny_matchEach_cons (hp := rfl) (wpAny_matchPattern_Capture ?_)
        dsimp only
        refine ih ws us vs s _ hl' rr (fun k e => hn k e) (fun k e bs hb => ?_)
        refine wpAny_mono (hy k e ((x, u) :: bs) (.cons ⟨rfl, r1⟩ hb)) (fun r s1 z => ?_) fun _ _ z => z
        cases r <;> exact z
  | @val c j cp pos ps es r ih =>
    intro ws us vs s Q hl hv hn hy
    cases ws with
    | nil => cases hl
    | cons w ws =>
      cases hv with
      | @cons _ u _ us r1 rr =>
        have hl' : ws.length = es.length := by simpa using hl
        obtain ⟨t, rfl⟩ := r1
        refine wpAny_matchEach_cons (hp := rfl) (wpAny_matchPattern_Value (Calls.Constant_str (PyProof.Rows.eq_str (wpAny_truthy_bool ?_))))
        have eb : (w == c) = decide (w = c) := by
          by_cases z : w = c
          · rw [decide_eq_true z, z]
            exact beq_self_eq_true c
          · rw [decide_eq_false z]
            exact beq_eq_false_iff_ne.mpr z
        rw [eb]
        by_cases z : w = c
        · rw [decide_eq_true z, if_pos rfl]
          have em : elsM (.val c :: es) (w :: ws) = elsM es ws := by
            show (decide (w = c) && elsM es ws) = _
            rw [decide_eq_true z, Bool.true_and]
          refine ih ws us vs _ _ hl' rr (fun k e => hn k (by rw [em]; exact e)) (fun k e bs hb => ?_)
          refine wpAny_mono (hy k (by rw [em]; exact e) bs hb) (fun r s1 z => ?_) fun _ _ z => z
          cases r <;> exact z
        · rw [decide_eq_false z, if_neg Bool.false_ne_true]
          refine hn _ ?_
          show (decide (w = c) && elsM es ws) = false
          rw [decide_eq_false z, Bool.false_and]
theorem vals_take : ∀ {xs : List V} {us : List Value} (n : Nat), Vals xs us → Vals (xs.take n) (us.take n) ∧ Vals (xs.drop n) (us.drop n)
  | _, _, 0, r => ⟨by rw [List.take_zero, List.take_zero]; exact .nil, by rw [List.drop_zero, List.drop_zero]; exact r⟩
  | _, _, n + 1, .nil => ⟨.nil, .nil⟩
  | _, _, n + 1, .cons a r => by
    obtain ⟨h1, h2⟩ := vals_take n r
    exact ⟨.cons a h1, h2⟩
theorem star_ok {pins : List (Addr × Obj)} {σ : L2.St} {H : Hp} {s : Shared} (I : Inv X pins σ H s) (hc : X.calm = true) {l : Addr} {xs : List V} (hl : SqL X.K H l xs) {n : Nat} (hn : n ≤ xs.length) (hz : xs.length ≤ 1000000) {Q : List Value → Shared → Prop}
    (h : ∀ (us : List Value) (D : Addr) (s' : Shared), Vals (xs.take n) us → Inv X pins σ H s' → H D = none → Inv X pins σ (upd H D (.lst (xs.drop n))) s' → Q (us ++ [.ref D]) s') :
    wpAny (model X.prog X.w) X.A (unpackItems (.ref l) (n + 1) (some n)) Q X.xe s := by
  obtain ⟨its, rv, pl, hsz⟩ := I.list hl
  have hh := I.ok.hd hc
  have lx : xs.length = its.length := rv.length
  have hl0 := pl.isList
  have hlt : l ≠ s.heap.objs.size := by obtain ⟨o, ho, _⟩ := hl0; exact Nat.ne_of_lt (Heap.lt_size ho)
  have hll : l < s.heap.objs.size := by obtain ⟨o, ho, _⟩ := hl0; exact Heap.lt_size ho
  have hsi : its.toArray.size = its.length := by simp
  unfold unpackItems
  refine wpAny_bind ?_
  unfold notIterableAtAll
  refine wpAny_bind (wpAny_specialOf hl0.typeIs slot_list_iter.lookup ?_)
  refine wpAny_pure ?_
  simp only [Bool.false_eq_true, if_false]
  refine wpAny_bind (wpAny_holding (wpAny_pyIter_list hl0 ?_))
  refine wpAny_bind (wpAny_holding (PySem.W.kun_draw hlt n 0 _ _ ⟨_, Heap.get?_push_size _ rfl, rfl, rfl⟩ (hl0.push _) (by omega) fun h₁ hit₁ hs₁ => ?_))
  have hl₁ : h₁.IsList l its.toArray := (hl0.push _).extBut hs₁.extBut hlt
  rw [Nat.zero_add] at hit₁
  have hit₁' := hit₁
  obtain ⟨oi, hoi, _⟩ := hit₁'
  have hl₁' := hl₁
  obtain ⟨ol, hol, _⟩ := hl₁'
  rw [List.drop_zero]
  have hfl : (its.toArray.toList.take n).length = n := by rw [List.length_take, Array.length_toList]; omega
  rw [if_neg (show ¬ ((its.toArray.toList.take n).length < n) by rw [hfl]; omega)]
  refine wpAny_bind (wpAny_holding (PySem.W.kun_collect (s := { s with heap := h₁ }) (T := "list_iterator") (.inr (.inr (.inl rfl))) (Walks.list (A := X.A.in1) hh s.heap.objs.size l hlt its.toArray) (fun j u st => st.1.typeIs) (k := n) (by omega) ⟨hit₁, hl₁⟩ (Heap.lt_size hoi) (Heap.lt_size hol) (fun h₂ tk hk => ?_) (by rw [sizeLine_eq]; omega)))
  have hrl : (its.toArray.toList.drop n).length = its.length - n := by rw [List.length_drop, Array.length_toList, hsi]
  show wpAny _ _ (if (its.toArray.toList.drop n).length < n + 1 - 1 - n then _ else _) _ _ _
  rw [if_neg (by omega)]
  show wpAny _ _ (newList ((its.toArray.toList.drop n).take ((its.toArray.toList.drop n).length - (n + 1 - 1 - n))) >>= fun d => pure (its.toArray.toList.take n ++ [d] ++ (its.toArray.toList.drop n).drop ((its.toArray.toList.drop n).length - (n + 1 - 1 - n)))) _ _ _
  have e0 : (its.toArray.toList.drop n).length - (n + 1 - 1 - n) = (its.toArray.toList.drop n).length := by omega
  rw [e0, List.take_length, List.drop_length]
  have he : Heap.ExtBut s.heap.objs.size s.heap h₂ := fun b o hb e => hk b o hb (hs₁.extBut b o hb (Heap.get?_push_of_some _ e))
  have keep : ∀ b o, s.heap.get? b = some o → h₂.get? b = some o := fun b o e => he b o (Nat.ne_of_lt (Heap.lt_size e)) e
  have I2 : Inv X pins σ H { s with heap := h₂, toks := tk } := I.kept (t' := tk) keep
  have td : its.toArray.toList = its := by simp
  rw [td]
  obtain ⟨v1, v2⟩ := vals_take n rv
  refine wpAny_bind (wpAny_newList (wpAny_pure ?_) (by rw [List.length_drop, sizeLine_eq]; omega))
  rw [List.append_nil]
  have nD : H h₂.objs.size = none := I2.hok.fresh (Nat.le_refl _)
  refine h _ _ _ v1 (I2.kept (t' := tk) fun b o e => Heap.get?_push_of_some _ e) nD ?_
  refine I2.laid (t' := tk) (fun b o e => Heap.get?_push_of_some _ e) (Nat.le_refl _) ⟨by rw [List.length_drop, sizeLine_eq]; omega, its.drop n, 0, v2, Heap.get?_push_size _ rfl⟩
/-- the caught names are stored -/
def setC : List (Nat × V) → L2.St → L2.St
  | [], σ => σ
  | (i, v) :: r, σ => setC r (σ.set i (some v))
theorem assign_cons {f : Value → Sem Unit} {fs : List (Value → Sem Unit)} {u : Value} {us : List Value} {s : Shared} {Q : Unit → Shared → Prop} (h : wpAny (model X.prog X.w) X.A (f u) (fun _ s1 => wpAny (model X.prog X.w) X.A (assignInOrder fs us) Q X.xe s1) X.xe s) :
    wpAny (model X.prog X.w) X.A (assignInOrder (f :: fs) (u :: us)) Q X.xe s := by
  have e : assignInOrder (f :: fs) (u :: us) = (do holding us (f u); assignInOrder fs us) := rfl
  rw [e]
  exact wpAny_bind (wpAny_holding h)
theorem assign_ok {pins : List (Addr × Obj)} {H : Hp} (hN : X.N.Nodup) (is : List (Nat × Str)) : ∀ (bs : List (Str × Value)) (vs : List V) (s : Shared) (σ : L2.St) (Q : Unit → Shared → Prop), Inv X pins σ H s → BsR bs ((is.map (·.2)).zip vs) → is.length = vs.length →
    (∀ p ∈ is, X.N[p.1]? = some p.2 ∧ Loc X.env.scope p.2 ∧ (X.fn p.2 = true ∨ X.env.scope.names.lookup p.2 = some .local)) →
    (∀ s', Inv X pins (setC ((is.map (·.1)).zip vs) σ) H s' → Q () s') →
    wpAny (model X.prog X.w) X.A (assignInOrder (bs.map fun x => bindName X.env x.1) (bs.map (·.2))) Q X.xe s := by
  induction is with
  | nil =>
    intro bs vs s σ Q I hb hl _ q
    have e : vs = [] := List.length_eq_zero_iff.mp hl.symm
    subst e
    cases hb
    exact wpAny_pure (q s I)
  | cons p is ih =>
    intro bs vs s σ Q I hb hl hp q
    cases vs with
    | nil => cases hl
    | cons v vs =>
      have hb' : BsR bs ((p.2, v) :: ((is.map (·.2)).zip vs)) := hb
      cases hb' with
      | @cons b _ bs _ r rr =>
        obtain ⟨n, u⟩ := b
        obtain ⟨e1, r1⟩ := r
        have e1' : n = p.2 := e1
        subst e1'
        obtain ⟨h1, h2, h3⟩ := hp p List.mem_cons_self
        rw [List.map_cons, List.map_cons]
        refine assign_cons (wpAny_bindName (store_ok I hN h1 h2 r1 (fun s' I' => ?_) h3))
        exact ih bs vs s' _ Q I' rr (by simpa using hl) (fun p mp => hp p (List.mem_cons_of_mem _ mp)) q
/-! ### cases -/
abbrev TC := Addr → List Str → TS
def tCaseN : TC := fun _ _ D σ H => D.nx σ H
structure PCs (X : Cx) (cases_ : List MatchCase) (t : TC) : Prop where
  run : ∀ (l : Addr) (ws : List Str) (first : Bool) (pins : List (Addr × Obj)) (s : Shared) (σ : L2.St) (H : Hp) (D : Ends), Inv X pins σ H s → H l = some (.lst (ws.map V.str)) → ws.length ≤ 1000000 → t l ws D σ H →
    wpAny (model X.prog X.w) X.A (matchCases cases_ X.env (.ref l) first) (SP X pins D) X.xe s
theorem pcs_nil : PCs X [] tCaseN := ⟨fun l ws first pins s σ H D I _ _ h => wpAny_matchCases_nil ⟨σ, H, I, h⟩⟩
/-- a case with a star at the end, and a guard or none -/
def tCaseS (es : List PEl) (j : Nat) (g : TT) (b : TS) (n : TC) : TC := fun l ws D σ H =>
  if decide (es.length ≤ ws.length) && elsM es (ws.take es.length) then
    ∀ p, H p = none → g ((elsB es (ws.take es.length) σ).set j (some (.ref p))) (upd H p (.lst ((ws.drop es.length).map V.str))) fun k H2 =>
      if k = true then b D ((elsB es (ws.take es.length) σ).set j (some (.ref p))) H2 else H2 l = some (.lst (ws.map V.str)) ∧ n l ws D ((elsB es (ws.take es.length) σ).set j (some (.ref p))) H2
  else n l ws D σ H
def tCaseE (es : List PEl) (b : TS) (n : TC) : TC := fun l ws D σ H =>
  if decide (ws.length = es.length) && elsM es ws then b D (elsB es ws σ) H else n l ws D σ H
theorem elsB_set : ∀ (es : List PEl) (ws : List Str) (σ : L2.St), ws.length = es.length → ∀ r : List (Nat × V), setC (((elsI es).map (·.1)).zip ((elsC es ws).map (·.2)) ++ r) σ = setC r (elsB es ws σ)
  | [], [], σ, _, r => rfl
  | .cap i x :: es, w :: ws, σ, h, r => elsB_set es ws _ (by simpa using h) r
  | .val c :: es, w :: ws, σ, h, r => elsB_set es ws _ (by simpa using h) r
  | [], _ :: _, _, h, _ => by cases h
  | .cap _ _ :: _, [], _, h, _ => by cases h
  | .val _ :: _, [], _, h, _ => by cases h
theorem elsC_len : ∀ (es : List PEl) (ws : List Str), ws.length = es.length → (elsI es).length = (elsC es ws).length ∧ elsC es ws = ((elsI es).map (·.2)).zip ((elsC es ws).map (·.2))
  | [], [], _ => ⟨rfl, rfl⟩
  | .cap i x :: es, w :: ws, h => by
    obtain ⟨h1, h2⟩ := elsC_len es ws (by simpa using h)
    exact ⟨congrArg Nat.succ h1, congrArg (List.cons (x, V.str w)) h2⟩
  | .val c :: es, w :: ws, h => elsC_len es ws (by simpa using h)
  | [], _ :: _, h => by cases h
  | .cap _ _ :: _, [], h => by cases h
  | .val _ :: _, [], h => by cases h
/-- a star at the end -/
inductive PSt : List Pattern → List PEl → Nat → Str → Prop
  | star {j : Nat} {x : Str} {sp : Pos} : PSt [.MatchStar (some x) sp] [] j x
  | cap {i j : Nat} {x y : Str} {pos : Pos} {ps : List Pattern} {es : List PEl} (r : PSt ps es j y) : PSt (.MatchAs none (some x) pos :: ps) (.cap i x :: es) j y
  | val {c y : Str} {j k : Nat} {cp pos : Pos} {ps : List Pattern} {es : List PEl} (r : PSt ps es j y) : PSt (.MatchValue (.Constant (.str c) k cp) pos :: ps) (.val c :: es) j y
theorem PSt.cut {ps : List Pattern} {es : List PEl} {j : Nat} {y : Str} (h : PSt ps es j y) : ∃ ps0 sp, ps = ps0 ++ [.MatchStar (some y) sp] ∧ PPs ps0 es := by
  induction h with
  | star => exact ⟨[], _, rfl, .nil⟩
  | cap r ih =>
    obtain ⟨p0, sp, rfl, h⟩ := ih
    exact ⟨_, sp, rfl, .cap h⟩
  | val r ih =>
    obtain ⟨p0, sp, rfl, h⟩ := ih
    exact ⟨_, sp, rfl, .val h⟩
def Slots (X : Cx) (is : List (Nat × Str)) : Prop := ∀ p ∈ is, X.N[p.1]? = some p.2 ∧ Loc X.env.scope p.2 ∧ (X.fn p.2 = true ∨ X.env.scope.names.lookup p.2 = some .local)
theorem slots_nil : Slots X [] := fun _ m => nomatch m
theorem slots_cons {i : Nat} {x : Str} {is : List (Nat × Str)} (h1 : X.N[i]? = some x) (h2 : Loc X.env.scope x) (r : Slots X is) (h3 : X.fn x = true ∨ X.env.scope.names.lookup x = some .local := by first | exact .inl rfl | exact .inr rfl | assumption) : Slots X ((i, x) :: is) := fun p m => by
  rcases List.mem_cons.mp m with rfl | m
  · exact ⟨h1, h2, h3⟩
  · exact r p m
theorem pcs_seq {ps : List Pattern} {es : List PEl} {pos : Pos} {body : List Stmt} {tb : TS} {rest : List MatchCase} {n : TC} (hc : X.calm = true) (hN : X.N.Nodup) (hp : PPs ps es) (hi : Slots X (elsI es)) (hb : PSs X body tb) (hr : PCs X rest n)
    (hstar : ps.findIdx? (·.isStar) = none := by rfl) (hwild : (ps.all fun p => p.isWildcard || (p.isStar && p.names.isEmpty)) = false := by rfl) :
    PCs X (⟨.MatchSequence ps pos, none, body⟩ :: rest) (tCaseE es tb n) := by
  refine ⟨fun l ws first pins s σ H D I hl hz h => ?_⟩
  obtain ⟨its, rv, pl, hsz⟩ := I.list (.inl (.inl hl))
  have lx : ws.length = its.length := by have := rv.length; rw [List.length_map] at this; exact this
  have hsi : its.toArray.size = its.length := by simp
  have pn := hp.len
  refine wpAny_matchCases_cons ?_
  unfold tCaseE at h
  by_cases hl' : ws.length = es.length
  case neg =>
    rw [decide_eq_false hl', Bool.false_and, if_neg Bool.false_ne_true] at h
    refine matchSeq_list_miss pl.isList (by rw [hsi]; omega) (by rw [hsi]; omega) ?_ hstar hwild
    exact hr.run l ws false pins _ σ H D (I.tok _) hl hz h
  rw [decide_eq_true hl', Bool.true_and] at h
  refine matchSeq_list_hit pl.isList (by rw [hsi]; omega) (by rw [hsi]; omega) ?_ hstar hwild
  rw [show ps.length = its.toArray.size by rw [hsi]; omega]
  have I0 : Inv X pins σ H { s with toks := s.toks + 1 + 1 } := I.tok _
  refine PySem.W.kun_itemsOf (I.ok.hd hc) pl.isList fun h' hx => ?_
  have I1 : Inv X pins σ H { s with heap := h', toks := s.toks + 1 + 1 } := I.kept (t' := s.toks + 1 + 1) fun b o e => hx b o (Nat.ne_of_lt (Heap.lt_size e)) e
  have td : its.toArray.toList = its := by simp
  rw [td]
  have z := each_ok (X := X) hp [] ws its [] { s with heap := h', toks := s.toks + 1 + 1 }
  rw [List.append_nil, List.append_nil] at z
  refine z _ hl' rv (fun k e => ?_) (fun k e bs hbs => ?_)
  · rw [e, if_neg Bool.false_ne_true] at h
    exact hr.run l ws false pins _ σ H D (I1.tok _) hl hz h
  · rw [e, if_pos rfl] at h
    refine wpAny_matchEach_nil ?_
    dsimp only
    rw [List.append_nil]
    obtain ⟨c1, c2⟩ := elsC_len es ws hl'
    rw [c2] at hbs
    refine assign_ok hN (elsI es) bs _ _ σ _ (I1.tok k) hbs (by rw [List.length_map]; exact c1) hi fun s' I' => ?_
    have sb := elsB_set es ws σ hl' []
    rw [List.append_nil] at sb
    rw [sb] at I'
    exact hb.run pins s' _ H D I' h
theorem pcs_star {ps : List Pattern} {es : List PEl} {j : Nat} {y : Str} {pos : Pos} {guard : Option Expr} {g : TT} {body : List Stmt} {tb : TS} {rest : List MatchCase} {n : TC} (hc : X.calm = true) (hN : X.N.Nodup) (hp : PSt ps es j y) (hi : Slots X (elsI es ++ [(j, y)]))
    (hg : (guard = none ∧ g = tYes) ∨ ∃ e, guard = some e ∧ PT X e g) (hb : PSs X body tb) (hr : PCs X rest n)
    (hstar : ps.findIdx? (·.isStar) = some es.length := by rfl) (hwild : (ps.all fun p => p.isWildcard || (p.isStar && p.names.isEmpty)) = false := by rfl) (hname : (ps[es.length]?.elim [] (·.names)).isEmpty = false := by rfl) (h1 : 1 ≤ es.length := by decide) :
    PCs X (⟨.MatchSequence ps pos, guard, body⟩ :: rest) (tCaseS es j g tb n) := by
  refine ⟨fun l ws first pins s σ H D I hl hz h => ?_⟩
  obtain ⟨its, rv, pl, hsz⟩ := I.list (.inl (.inl hl))
  have lx : ws.length = its.length := by have := rv.length; rw [List.length_map] at this; exact this
  have hsi : its.toArray.size = its.length := by simp
  obtain ⟨p0, sp, rfl, hp0⟩ := hp.cut
  have pn := hp0.len
  have pl1 : (p0 ++ [Pattern.MatchStar (some y) sp]).length = es.length + 1 := by rw [List.length_append, pn]; rfl
  refine wpAny_matchCases_cons ?_
  unfold tCaseS at h
  by_cases hl' : es.length ≤ ws.length
  case neg =>
    rw [decide_eq_false hl', Bool.false_and, if_neg Bool.false_ne_true] at h
    refine PySem.W.kun_fewL pl.isList (by rw [hsi]; omega) hstar (by omega) (by rw [hsi, pl1]; omega) ?_
    exact hr.run l ws false pins _ σ H D (I.tok _) hl hz h
  rw [decide_eq_true hl', Bool.true_and] at h
  refine PySem.W.kun_seqL pl.isList (by rw [hsi]; omega) hstar hwild hname (by omega) (by rw [hsi, pl1]; omega) ?_
  rw [pl1]
  refine star_ok (I.tok (s.toks + 1 + 1)) hc (.inl (.inl hl)) (by rw [List.length_map]; exact hl') (by rw [List.length_map]; exact hz) fun us dD s' hv I1 nD I2 => ?_
  have lt : (ws.take es.length).length = es.length := by rw [List.length_take]; omega
  rw [← List.map_take] at hv
  rw [← List.map_drop] at I2
  refine each_ok (X := X) hp0 [.MatchStar (some y) sp] (ws.take es.length) us [.ref dD] s' _ lt hv (fun k e => ?_) (fun k e bs hbs => ?_)
  · rw [e, if_neg Bool.false_ne_true] at h
    exact hr.run l ws false pins _ σ H D (I1.tok _) hl hz h
  · rw [e, if_pos rfl] at h
    refine PySem.W.kun_each (wpAny_matchEach_nil ?_)
    dsimp only
    obtain ⟨c1, c2⟩ := elsC_len es (ws.take es.length) lt
    rw [c2] at hbs
    have hbs2 : BsR (bs ++ ((some y).map (·, Value.ref dD)).toList ++ []) (((elsI es ++ [(j, y)]).map (·.2)).zip ((elsC es (ws.take es.length)).map (·.2) ++ [V.ref dD])) := by
      rw [List.append_nil, List.map_append, List.zip_append (by rw [List.length_map, List.length_map]; exact c1)]
      exact BsR.app hbs (.cons ⟨rfl, rfl⟩ .nil)
    rw [List.append_assoc] at hbs2
    have q := h dD nD
    refine assign_ok hN (elsI es ++ [(j, y)]) _ ((elsC es (ws.take es.length)).map (·.2) ++ [V.ref dD]) _ σ _ (I2.tok k) hbs2 (by rw [List.length_append, List.length_append, List.length_map]; exact congrArg (· + 1) c1) hi fun s3 I3 => ?_
    have sb := elsB_set es (ws.take es.length) σ lt [(j, V.ref dD)]
    rw [List.map_append, List.zip_append (by rw [List.length_map, List.length_map]; exact c1)] at I3
    have I4 : Inv X pins ((elsB es (ws.take es.length) σ).set j (some (.ref dD))) (upd H dD (.lst ((ws.drop es.length).map V.str))) s3 := by
      have e1 : setC (((elsI es).map (·.1)).zip ((elsC es (ws.take es.length)).map (·.2)) ++ ([(j, y)].map (·.1)).zip [V.ref dD]) σ = (elsB es (ws.take es.length) σ).set j (some (.ref dD)) := sb
      rw [e1] at I3
      exact I3
    rcases hg with ⟨rfl, rfl⟩ | ⟨e, rfl, hpt⟩
    · exact hb.run pins s3 _ _ D I4 q
    · refine thn (hpt.run pins s3 _ _ _ I4 q) fun ok s4 got => ?_
      obtain ⟨H2, J, z⟩ := got
      cases ok with
      | true => exact hb.run pins s4 _ _ D J z
      | false => exact hr.run l ws false pins s4 _ _ D J z.1 hz z.2
theorem ps_match {subj : Expr} {te : TE} {cs : List MatchCase} {t : TC} {pos : Pos} (he : PE X subj te) (hc : PCs X cs t) : PS X (.Match subj cs pos) (fun D σ H => te σ H fun x H1 => ∃ l ws, x = .ref l ∧ H1 l = some (.lst (ws.map V.str)) ∧ ws.length ≤ 1000000 ∧ t l ws D σ H1) := by
  refine ⟨fun pins s σ H D I h => ?_⟩
  refine wpAny_Match (thn (he.run pins s σ H _ I h) fun v s1 got => ?_)
  obtain ⟨x, H1, I1, r1, l, ws, rfl, hl, hz, q⟩ := got
  cases r1
  exact hc.run l ws true pins s1 σ H1 D I1 hl hz q
def rNotInT (K : PySem.W.Frag) : R2 := fun x y H Q => ∃ d ds, Dp K H x d ∧ Dp K H y (.tuple ds) ∧ SeqAt.shaped d = true ∧ SeqAt.shaped (.tuple ds) = true ∧ Q (.bl (!ds.any fun z => PyData.eqv z d)) H
theorem shaped_lt {d : PyData} {ds : List PyData} : SeqAt.shaped (.tuple ds) = true → SeqAt.shaped (.list ds) = true := id
theorem op_notInT (hu : X.A.units + 65 < cLine) : OpR X (compareOp .NotIn) (rNotInT X.K) := by
  intro pins s σ H x y v u Q I rx ry h
  obtain ⟨d, ds, hd, he, sd, se, q⟩ := h
  obtain ⟨as, r1⟩ := Dp.reads I d x v hd rx
  obtain ⟨bs, r2⟩ := Dp.reads I (.tuple ds) y u he ry
  have r := room_in_shaped (A := X.A) (xs := ds) sd hu
  exact SeqAt.notIn_tuple_reads r2 r1 (SeqAt.canLay_of_shaped se) (SeqAt.canLay_of_shaped sd) r ⟨.bl _, H, I, rfl, q⟩
end
end Gd

set_option Elab.async false
set_option linter.all false
set_option maxRecDepth 100000
set_option maxHeartbeats 4000000
set_option autoImplicit false
namespace Gd
open PySem PySem.Spec PyProof.Rows L2
/-! ### a list comprehension whose element may raise -/
/-- behind a comprehension's block -/
def cpX (M : Model) (A : Around) (E : Value → Shared → Prop) (Q : Value → Shared → Prop) (acc : Value) (C : Addr) (fr : Option Addr) (r : Result) (s' : Shared) : Prop :=
  match r with
  | .ok _ => ∃ m, s'.heap.Ns C m ∧ ∀ h', Heap.SameBut C s'.heap h' → Q acc { s' with heap := h' }
  | .error x => ∃ m, s'.heap.Ns C m ∧ ∀ h', Heap.SameBut C s'.heap h' → ∀ c2 : Env, c2.frame = fr → wpAny M A (PySem.passOn "comprehension.variables-let-go" x c2 : Sem Value) (fun _ _ => False) E { s' with heap := h' }
theorem comp_freeX {M : Model} {A : Around} {E : Value → Shared → Prop} {s : Shared} {env : Env} {e : Expr} {scope : Scope} {pos : Pos} {newAcc first : Sem Value} {g : Comprehension} {gs : List Comprehension} {cl : List (Str × Addr)}
    {Q : Value → Shared → Prop}
    (hcl : clausesOf e = g :: gs) (hs : ∀ x, foldedSetIterable g.iter env x = pure x) (hclos : closureFor scope env = pure cl)
    (hkind : scope.kind = .function) (hnames : ∀ x ∈ scope.names, x.2 = .local → scope.names.lookup x.1 = some .local)
    (h : wpAny M A first (fun x s₁ => wpAny M A (pyIter x) (fun it s₂ => wpAny M A newAcc (fun acc s₃ =>
      wpAny M A (newFunctionEnv scope env.globals cl [] env.qual none .none (some env)) (fun cenv s₄ =>
        codeAny M A (.compStart e 0 it acc { cenv with scope := relabel scope env }) (cpX M A E Q acc cenv.locals cenv.frame) s₄) E s₃) E s₂) E s₁) E s) :
    wpAny M A (comprehension e scope env pos newAcc false first none) Q E s := by
  unfold comprehension
  rw [hclos, hcl]
  refine wpAny_bind (wpAny_mono h (fun x s₁ h₁ => wpAny_bind (wpAny_standAt (wpAny_bind (wpAny_of_eq (hs x) (wpAny_bind (wpAny_holding (wpAny_mono h₁ (fun it s₂ h₂ =>
    wpAny_standIf (wpAny_bind (wpAny_mono h₂ (fun acc s₃ h₃ => wpAny_bind (wpAny_pure (wpAny_bind (wpAny_mono h₃ (fun cenv s₄ h₄ => ?_) fun _ _ h' => h')))) fun _ _ h' => h')))
      fun _ _ h' => h'))))))) fun _ _ h' => h')
  dsimp only
  have hv : ∀ x ∈ (scope.names.filter fun x => (x.2 == .local || x.2 == .cell) && x.1 != (".0" : Str)).reverse, x.2 = .local →
      Env.kindOf { cenv with scope := relabel scope env } x.1 = some .local := fun x hx hl => lookup_relabel_local (hnames x (List.mem_filter.mp (List.mem_reverse.mp hx)).1 hl)
  refine wpAny_holding (wpAny_bind (wpAny_attempt (wpAny_holding (wpAny_run (codeAny_mono h₄ fun r s' hr => ?_)))))
  cases r with
  | ok f =>
    obtain ⟨m, hn, hr⟩ := hr
    exact wpAny_bind (wpAny_holding (wpAny_comp_letGo (cenv := { cenv with scope := relabel scope env }) hkind _ s' m hv hn fun h' m' _ hs' => wpAny_pure (hr h' hs')))
  | error x =>
    obtain ⟨m, hn, hr⟩ := hr
    exact wpAny_bind (wpAny_holding (wpAny_comp_letGo (cenv := { cenv with scope := relabel scope env }) hkind _ s' m hv hn fun h' m' _ hs' => wpAny_mono (hr h' hs' _ rfl) (fun _ _ f => f.elim) fun _ _ y => y))

theorem invXe {X : Cx} {pins : List (Addr × Obj)} {σ : L2.St} {H : Hp} {s : Shared} {xe : Value → Shared → Prop} (I : Inv X pins σ H s) : Inv { X with xe := xe } pins σ H s :=
  ⟨⟨I.ok.mod, I.ok.kind, I.ok.glob, I.ok.blt, I.ok.above, I.ok.inj, I.ok.has, I.ok.cab, I.ok.hd, I.ok.frames, I.ok.stk, I.ok.exf, I.ok.bs, I.ok.bsz, I.ok.noex, I.ok.exfs, I.ok.funs, I.ok.frf⟩, I.os, I.bare, I.base, I.loc, I.cell, I.free, I.freeC, I.pin, I.hok, I.len⟩
/-- frames bear a change elsewhere -/
theorem ff_but {C : Addr} {h h' B B' : Heap} (sb : Heap.SameBut C h h') (bb : ∀ b, B.get? b = none → B'.get? b = none) : ∀ {l : List Env}, (∀ b ∈ frs l, b ≠ C) → h.FunFrames B l → h'.FunFrames B' l
  | [], _, _ => trivial
  | e :: l, nc, ⟨k, ⟨L, o, hf, hn, ho, hd⟩, r⟩ => by
    have me : L ∈ frs (e :: l) := List.mem_filterMap.mpr ⟨e, List.mem_cons_self, hf⟩
    refine ⟨k, ⟨L, o, hf, bb L hn, (sb.2 L (nc L me)).trans ho, hd⟩, ff_but sb bb (fun b hb => nc b ?_) r⟩
    obtain ⟨e', m', q⟩ := List.mem_filterMap.mp hb
    exact List.mem_filterMap.mpr ⟨e', List.mem_cons_of_mem _ m', q⟩
theorem note_eq {x : Value} {e1 e2 : Env} (h : e1.frame = e2.frame) : noteFrame x e1 = noteFrame x e2 := by
  unfold noteFrame PySem.frameOf
  rw [h]
/-- an element's exception goes through the block -/
theorem passC {X : Cx} {pins pinsB : List (Addr × Obj)} {σ σB : L2.St} {H3 HB : Hp} {s3 sB s' : Shared} {E : XK} {scope : Scope} {ce : Env} {fp : List Addr} {Q : Value → Shared → Prop} {acc u : Value}
    (hs : X.stack = X.env :: X.outer) (hf : X.env.frame = some X.env.locals) (tk : L2N.Takes X (fun cls d _ H => E cls d H))
    (I3 : Inv X pins σ H3 s3) (cf : ce.frame = X.env.frame) (cL : ce.locals = s3.heap.objs.size)
    (f3 : ∀ b ∈ fp, (b ∈ X.ex ∨ X.s_0.heap.objs.size ≤ b) ∧ b ≠ X.env.locals ∧ (∀ x c, X.env.cells.lookup x = some c → c ≠ b) ∧ ∀ p ∈ X.pn ++ pins, p.1 ≠ b)
    (IB : Inv (X.blk s3 H3 scope ce fp) pinsB σB HB sB) (c : L2N.CX X.prog X.w X.stack HB sB E u s') :
    notedBy (model X.prog X.w) X.A ce (fun e s'' => cpX (model X.prog X.w) X.A X.xe Q acc s3.heap.objs.size X.env.frame (.error e) s'') u s' := by
  obtain ⟨a, B, H', cls, d, rfl, fl, hok, ub, na, os, ag, hE⟩ := c
  generalize hC : s3.heap.objs.size = C at cL ⊢
  -- the block's own table is out of sight
  have ltC : ∀ b o, s3.heap.get? b = some o → b ≠ C := fun b o e z => by
    have := Heap.lt_size e
    rw [hC] at this
    exact absurd z (Nat.ne_of_lt this)
  have fsE : frs X.stack = (X.blk s3 H3 scope ce fp).fs := rfl
  have frC : ∀ b ∈ frs X.stack, b ≠ C := fun b hb z => by
    rcases List.mem_cons.mp (I3.stkSub b hb) with e | hb
    · have := I3.lt
      rw [hC, ← e, z] at this
      exact absurd this (Nat.lt_irrefl _)
    · exact I3.nofs (a := C) (by rw [hC]; exact Nat.le_refl _) (z ▸ hb)
  obtain ⟨m, hn, _⟩ := IB.loc
  have hn : sB.heap.Ns ce.locals m := hn
  rw [cL] at hn
  obtain ⟨oC, es, ep, hoC, hdC, hrC⟩ := hn
  have nBC : HB C = none := by
    have z : HB ce.locals = none := IB.free
    rw [cL] at z
    exact z
  have C1 : s'.heap.get? C = some oC := fl.1 _ _ (ub.keep C oC hoC nBC fun m => frC C m rfl)
  have H'C : H' C = none := ub.free C oC hoC nBC
  obtain ⟨G, g1, g2⟩ := restrict s'.heap fun b => ((B.get? b).isSome && decide (b ≠ C)) || decide (b ∈ frs X.stack)
  have gB : ∀ b o, b ≠ C → B.get? b = some o → G.get? b = some o := fun b o hb e => by
    rw [g1 b (by simp [e, hb])]
    exact fl.1 b o e
  have gF : ∀ b, b ∈ frs X.stack → G.get? b = s'.heap.get? b := fun b hb => g1 b (by simp [hb])
  have og : ∀ b o, G.get? b = some o → s'.heap.get? b = some o ∧ (((B.get? b).isSome = true ∧ b ≠ C) ∨ b ∈ frs X.stack) := fun b o e => by
    cases q : (((B.get? b).isSome && decide (b ≠ C)) || decide (b ∈ frs X.stack)) with
    | false => rw [g2 b q] at e; cases e
    | true =>
      rw [g1 b q] at e
      exact ⟨e, by simpa [Bool.or_eq_true, Bool.and_eq_true] using q⟩
  have ub0 := IB.base
  have u : Un (frs X.stack) fp H3 H' s3.heap G := by
    refine ⟨fun b o e n hb hx => ?_, fun b o e n hb hx => ?_, fun b o e n hx => ?_, fun b o e hx => ?_, fun b xs e => ub.tups b xs (ub0.tups b xs e), fun b o xs e => ub.frzs b o xs (ub0.frzs b o xs e), fun b ps e => ?_⟩
    · exact gB b o (ltC b o e) (ub.keep b o (ub0.keep b o e n hb hx) (ub0.free b o e n hx) hb)
    · obtain ⟨sl, q⟩ := ub0.slot b o e n hb hx
      obtain ⟨sl2, q2⟩ := ub.slot b _ q hb
      exact ⟨sl2, by rw [gF b hb]; exact q2⟩
    · obtain ⟨o', q⟩ := ub0.there b o e hx
      exact ub.free b o' q (ub0.free b o e n hx)
    · obtain ⟨o', q⟩ := ub0.there b o e hx
      by_cases hb : b ∈ frs X.stack
      · obtain ⟨sl, q2⟩ := ub.slot b o' q hb
        exact ⟨_, by rw [gF b hb]; exact q2⟩
      · obtain ⟨o2, q2⟩ := ub.there b o' q hb
        exact ⟨o2, gB b o2 (ltC b o e) q2⟩
    · obtain ⟨m1, q⟩ := ub0.tbls b ps e
      obtain ⟨m2, q2⟩ := ub.tbls b _ q
      exact ⟨m1 ++ m2, by rw [q2, Array.append_assoc]⟩
  have hokG : HOk X.prog X.w H' G := fun b o q => (hok b o q).stay (fun c u hc r => gB c u (fun z => by
    rcases hc with hc | hc
    · rw [← hc, z, H'C] at q; cases q
    · rw [z, H'C] at hc; cases hc) r) (fun _ r => r) fun _ _ r => r
  have I' : Inv X pins σ H' { sB with heap := G, gens := s'.gens, drawn := s'.drawn, toks := s'.toks } := I3.call' (ch := fp) IB.os u hokG ag f3
  have hfr : X.A.frames = some (X.env :: X.outer) := by rw [I3.ok.frames, hs]
  unfold notedBy
  rw [note_eq cf]
  rw [hs] at fl
  refine PXN.looks_onZ L2N.Zn.steady hfr hf fl fun h1 hh up1 => ?_
  obtain ⟨st1, Ba, ff1, oe, vs, T, oT, ts, he, hz, hd, hv1, hnT, hTe, hT, hdT, hv3⟩ := hh
  have C2 : h1.get? C = some oC := st1 _ _ (ub.keep C oC hoC nBC fun m => frC C m rfl)
  refine ⟨m, ⟨oC, es, ep, C2, hdC, hrC⟩, fun h2 sb c2 hc2 => ?_⟩
  have neC : ∀ b o w, h1.get? b = some o → o.data = .fields w → b ≠ C := fun b o w e ed z => by
    rw [z, C2] at e
    cases e
    rw [hdC] at ed
    cases ed
  have he2 : h2.get? a = some oe := (sb.2 a (neC a oe vs he hd)).trans he
  have hT2 : h2.get? T = some oT := (sb.2 T (neC T oT ts hT hdT)).trans hT
  obtain ⟨B', b1, b2⟩ := restrict B fun b => decide (b ≠ C)
  have bs : ∀ b o, B'.get? b = some o → B.get? b = some o ∧ b ≠ C := fun b o e => by
    by_cases hb : b = C
    · rw [b2 b (by simp [hb])] at e
      cases e
    · rw [b1 b (by simp [hb])] at e
      exact ⟨e, hb⟩
  have bn : ∀ b, B.get? b = none → B'.get? b = none := fun b e => by
    cases q : B'.get? b with
    | none => rfl
    | some o => rw [(bs b o q).1] at e; cases e
  have st2 : B'.StaysIn h2 := fun b o e => by
    obtain ⟨q, hb⟩ := bs b o e
    exact (sb.2 b hb).trans (st1 b o q)
  have ff2 : h2.FunFrames B' (X.env :: X.outer) := ff_but sb bn (by rw [← hs]; exact frC) ff1
  unfold PySem.passOn
  refine wpAny_bind (wpAny_field he2 hd hv1 ?_)
  rw [if_neg (show ¬ ((Value.ref T == Value.none) = true) from by simp)]
  refine wpAny_bind (HandSPX.setFlight_anyZ (Z := L2N.Zn cls d) st2 ff2 ⟨oe, vs, T, oT, ts, he2, hz, hd, hv1, bn T hnT, hTe, hT2, hdT, hv3⟩ fun h3 st3 ff3 tr3 up3 => ?_)
  refine wpAny_throw (tk _ _ ⟨a, B', _, pins, σ, H', cls, d, rfl, I', fun b o e hb => ?_, fun b o e ho => ?_, .inr (.inr ⟨st3, bn a Ba, ?_, ?_⟩), na, os, ag, hE⟩)
  · obtain ⟨q, r⟩ := og b o e
    rcases r with ⟨r, rc⟩ | r
    · obtain ⟨o', q2⟩ := Option.isSome_iff_exists.mp r
      rw [b1 b (by simp [rc]), q2, ← fl.1 b o' q2, q]
    · exact absurd r hb
  · obtain ⟨q, r⟩ := og b o e
    have nc : b ≠ C := by
      rcases r with ⟨_, rc⟩ | r
      · exact rc
      · exact frC b r
    obtain ⟨sl1, q1⟩ := up1 b o q ho
    have q2 := (sb.2 b nc).trans q1
    obtain ⟨sl3, q3⟩ := up3 b _ q2 ho
    exact ⟨sl3, q3⟩
  · rw [hs]
    exact ff3
  · rw [hc2, hf] at tr3
    exact tr3
section
variable {X : Cx}
/-- a block of X whose calls may raise -/
abbrev blkX (X : Cx) (s : Shared) (H : Hp) (scope : Scope) (cenv : Env) (fp : List Addr) (xe : Value → Shared → Prop) : Cx := { X.blk s H scope cenv fp with xe := xe }
theorem lcX_core {E : XK} {pins : List (Addr × Obj)} {s : Shared} {σ : L2.St} {H : Hp} {Q : VK} {elt tg iter : Expr} {ifs : List Expr} {scope : Scope} {own : List (Str × Nat)} {pos pos' : Pos} {wi : TI} {g : TG} {tt : TT} {te : TE} {Qf : Value → Shared → Prop}
    (hsk : X.stack = X.env :: X.outer) (hfm : X.env.frame = some X.env.locals) (tk : L2N.Takes X (fun cls d _ H => E cls d H))
    (hc : X.calm = true) (hN : X.N.Nodup) (I : Inv X pins σ H s) (hi : PI X tg iter wi) (ok : BlkOk X.N X.env.scope scope own)
    (hg : ∀ (s : Shared) (H : Hp) (C : Addr) (cl : List (Str × Addr)) (fp : List Addr), PG (X.blk s H scope (compEnvC scope cl C X.env) fp) tg g) (ht : ∀ (s : Shared) (H : Hp) (C : Addr) (cl : List (Str × Addr)) (fp : List Addr), PTs (X.blk s H scope (compEnvC scope cl C X.env) fp) ifs tt)
    (he : ∀ (s : Shared) (H : Hp) (C : Addr) (cl : List (Str × Addr)) (fp : List Addr) (xe : Value → Shared → Prop), (∀ σ, PassesAt (L2N.CX X.prog X.w) (blkX X s H scope (compEnvC scope cl C X.env) fp xe) σ E) → PE (blkX X s H scope (compEnvC scope cl C X.env) fp xe) elt te) (hs : ∀ x, foldedSetIterable iter X.env x = pure x)
    (h : tLc wi g tt te (own.map (·.2)) σ H Q)
    (hRR : ∀ D C s' m H', Inv X pins σ H' s' → Q (.ref D) H' → s'.heap.Ns C m → FpOk X pins H' C → cpX (model X.prog X.w) X.A X.xe Qf (.ref D) C X.env.frame (.ok .next) s') :
    wpAny (model X.prog X.w) X.A (comprehension (.ListComp elt [⟨tg, iter, ifs, 0⟩] scope pos) scope X.env pos' (newList []) false (eval iter X.env) none) Qf X.xe s := by
  have hfree : ∀ y ∈ scope.names, y.2 = .free → ∃ c, X.env.cells.lookup y.1 = some c := fun y hy e => by
    rcases ok.free y hy e with k | k
    · exact I.ok.has _ (.inl k)
    · exact I.ok.has _ (.inr k)
  refine comp_freeX rfl hs (closure_ok hfree) ok.kind (fun y hy e => by rw [ok.uniq y hy, e])
    (thn (hi.run pins s σ H _ I h) fun xv s1 hx => thn hx fun itv s2 h2 => ?_)
  obtain ⟨it, fp, tn, J, H2, e, I2, T, st2, f2, q⟩ := h2
  subst e
  refine wpAny_newObj_type (newEnv_comp ?_) (by show 0 ≤ sizeLine; decide)
  generalize hD : s2.heap.objs.size = D
  have hDn : H2 D = none := I2.hok.fresh (Nat.le_of_eq hD)
  obtain ⟨W, ⟨m0, w0⟩, turn⟩ := q D hDn
  generalize hs3 : ({ s2 with heap := s2.heap.push { cls := .type "list", data := .seq ([] : List Value).toArray } } : Shared) = s3
  have I3 : Inv X pins σ (upd H2 D (.lst [])) s3 := by
    rw [← hs3]
    refine I2.laid (t' := s2.toks) (fun b o e => Heap.get?_push_of_some _ e) (Nat.le_of_eq hD) ⟨Nat.zero_le _, [], 0, .nil, ?_⟩
    rw [← hD]
    exact Heap.get?_push_size _ rfl
  have h3 : s3.heap = s2.heap.push { cls := .type "list", data := .seq ([] : List Value).toArray } := by rw [← hs3]
  have sz : ∀ b ∈ fp, b < s2.heap.objs.size := fun b hb => by
    obtain ⟨o, e, _⟩ := T.obj _ _ st2 b hb
    exact Heap.lt_size e
  have f3 : ∀ b ∈ fp, FpOk X pins (upd H2 D (.lst [])) b ∧ b < s3.heap.objs.size := fun b hb => by
    have hlt := sz b hb
    refine ⟨⟨?_, (f2 b hb).2⟩, by rw [h3, Heap.size_push]; exact Nat.lt_succ_of_lt hlt⟩
    rw [upd_ne (by rw [← hD]; exact Nat.ne_of_lt hlt)]
    exact (f2 b hb).1
  have st3 : tn 0 s3.heap := T.keep _ _ _ st2 fun b _ o e => by rw [h3]; exact Heap.get?_push_of_some _ e
  have I4 := block_start I3 ok hN f3
  have pg := hg s3 (upd H2 D (.lst [])) s3.heap.objs.size (cellsFrom (s3.heap.objs.size + 1) scope.names (cloFrom X.env.cells scope.names [])) fp
  have pt := ht s3 (upd H2 D (.lst [])) s3.heap.objs.size (cellsFrom (s3.heap.objs.size + 1) scope.names (cloFrom X.env.cells scope.names [])) fp
  have pe := he s3 (upd H2 D (.lst [])) s3.heap.objs.size (cellsFrom (s3.heap.objs.size + 1) scope.names (cloFrom X.env.cells scope.names [])) fp
  show codeAny _ _ (.compStart (.ListComp elt [⟨tg, iter, ifs, 0⟩] scope pos) 0 (.ref it) (.ref D) (compEnvC scope (cellsFrom (s3.heap.objs.size + 1) scope.names (cloFrom X.env.cells scope.names [])) s3.heap.objs.size X.env)) (cpX (model X.prog X.w) X.A X.xe Qf (.ref D) s3.heap.objs.size X.env.frame) { s3 with heap := pushCells (s3.heap.push { cls := .type "dict", data := .dict #[] }) scope.names }
  have nfp : ∀ b ∈ fp, (upd H2 D (.lst [])) b = none := fun b hb => (f3 b hb).1.1
  generalize hce : compEnvC scope (cellsFrom (s3.heap.objs.size + 1) scope.names (cloFrom X.env.cells scope.names [])) s3.heap.objs.size X.env = ce at I4 pg pt pe ⊢
  have cL : ce.locals = s3.heap.objs.size := by subst hce; rfl
  have cf : ce.frame = X.env.frame := by subst hce; rfl
  generalize hH3 : upd H2 D (.lst []) = H3 at I3 I4 pg pt pe w0 nfp f3
  generalize hs4 : ({ s3 with heap := pushCells (s3.heap.push { cls := .type "dict", data := .dict #[] }) scope.names } : Shared) = s4 at I4 ⊢
  have st4 : tn 0 s4.heap := T.keep _ _ _ st3 fun b _ o e => by rw [← hs4]; exact pushCells_keeps _ _ _ _ (Heap.get?_push_of_some _ e)
  have stat : ∀ {σ' : L2.St} {H' : Hp} {s' : Shared}, Inv (X.blk s3 H3 scope ce fp) [] σ' H' s' → (∀ b ∈ fp, H' b = none) → ∀ b ∈ fp, FpOk (X.blk s3 H3 scope ce fp) [] H' b := fun {σ' H' s'} I' hn b hb =>
    ⟨hn b hb, (I'.ok.exf b hb).1, I'.ok.exfs b hb, .inl hb, fun x c e => (I'.ok.exf b hb).2 x c e, fun p hp => absurd (show p ∈ ([] : List (Addr × Obj)) ++ [] from hp) (by simp)⟩
  have ch3 : ∀ b ∈ fp, (b ∈ X.ex ∨ X.s_0.heap.objs.size ≤ b) ∧ b ≠ X.env.locals ∧ (∀ x c, X.env.cells.lookup x = some c → c ≠ b) ∧ ∀ p ∈ X.pn ++ pins, p.1 ≠ b :=
    fun b hb => ⟨(f3 b hb).1.2.2.2.1, (f3 b hb).1.2.1, (f3 b hb).1.2.2.2.2.1, (f3 b hb).1.2.2.2.2.2⟩
  have loop : codeAny (model X.prog X.w) X.A (.compLoop (.ListComp elt [⟨tg, iter, ifs, 0⟩] scope pos) 0 (.ref it) (.ref D) ce) (cpX (model X.prog X.w) X.A X.xe Qf (.ref D) s3.heap.objs.size X.env.frame) s4 := by
    refine compLoop_any (fun n s' => ∃ i H', Inv (X.blk s3 H3 scope ce fp) [] (wipe σ (own.map (·.2))) H' s' ∧ tn i s'.heap ∧ (∀ b ∈ fp, H' b = none) ∧ W i n H') ?_ m0 ⟨0, H3, I4, st4, nfp, w0⟩
    rintro n s5 ⟨i, H5, I5, st5, n5, w5⟩
    rcases turn i n H5 w5 with ⟨stop, qq⟩ | ⟨go, Nx, hNx, step⟩
    · have td := T.done (X.blk s3 H3 scope ce fp) rfl rfl rfl hc i [] s5 _ H5 (fun _ _ => False) I5 (stat I5 n5) st5 stop
      refine thnF td fun r s6 ⟨hr, I6⟩ => ?_
      subst hr
      have I7 : Inv X pins σ H5 s6 := I3.call' (ch := fp) I6.os I6.base I6.hok I6.bare ch3
      have nC : H5 s3.heap.objs.size = none := by
        have z : H5 ce.locals = none := I6.free
        rw [cL] at z
        exact z
      obtain ⟨m, hn, _⟩ := I6.loc
      have hn : s6.heap.Ns ce.locals m := hn
      rw [cL] at hn
      exact hRR D s3.heap.objs.size s6 m H5 I7 qq hn (I3.fpOk (Nat.le_refl _) nC)
    · have ti := T.item (X.blk s3 H3 scope ce fp) rfl rfl rfl hc i [] s5 _ H5 (fun _ _ => False) I5 (stat I5 n5) st5 go
      refine thnF ti fun r s6 ⟨u, hr, h6⟩ => ?_
      subst hr
      refine thnF h6 fun _ s7 ⟨x, H7, I7, r7, y7, st7, n7⟩ => ?_
      have I7' := I7.pinned (stat I7 n7) (T.obj _ _ st7)
      refine thnF (pg.run _ s7 _ H7 x u _ I7' r7 (step x H7 y7)) fun _ s8 ⟨σ8, H8, I8, hw8, q8⟩ => ?_
      refine thnF (pt.run _ s8 σ8 H8 _ I8 q8) fun b s9 ⟨H9, I9, q9⟩ => ?_
      have fin : ∀ {s' : Shared} {H' : Hp}, Inv (X.blk s3 H3 scope ce fp) ([] ++ pinsAt fp s7.heap) σ8 H' s' → Nx H' → ∃ m, m < n ∧ ∃ i H', Inv (X.blk s3 H3 scope ce fp) [] (wipe σ (own.map (·.2))) H' s' ∧ tn i s'.heap ∧ (∀ b ∈ fp, H' b = none) ∧ W i m H' := fun {s' H'} I' nx => by
        obtain ⟨m', hm, w'⟩ := hNx H' nx
        have pin' : ∀ b ∈ fp, ∀ o, s7.heap.get? b = some o → s'.heap.get? b = some o ∧ H' b = none := fun b hb o e =>
          let z := I'.pin (b, o) (List.mem_append_right _ (List.mem_append_right _ (mem_pinsAt hb e)))
          ⟨z.1, z.2.1⟩
        have hl : (wipe σ (own.map (·.2))).length = σ8.length := by rw [← hw8, wipe_length]
        refine ⟨m', hm, i + 1, H', (I'.unpinned (pins := [])).weak hl (fun j v e => ?_), T.keep _ _ _ st7 fun b hb o e => (pin' b hb o e).1, fun b hb => ?_, w'⟩
        · rw [← hw8] at e
          exact (wipe_some e).1
        · obtain ⟨o, e, _⟩ := T.obj _ _ st7 b hb
          exact (pin' b hb o e).2
      cases b with
      | false =>
        simp only [Bool.false_eq_true, if_false] at q9 ⊢
        exact fin I9 q9
      | true =>
        simp only [if_true] at q9 ⊢
        have pe' := pe (fun e s' => ∃ pinsB σB HB sB, Inv (X.blk s3 H3 scope ce fp) pinsB σB HB sB ∧ L2N.CX X.prog X.w X.stack HB sB E e s') fun σ' pins' H' s' e s'' I' c' => ⟨pins', σ', H', s', invXe (xe := fun _ _ => False) I', c'⟩
        refine wpAny_mono (pe'.run _ s9 σ8 H9 _ (invXe I9) q9) (fun z s10 hz => ?_) fun e s10 ⟨pinsB, σB, HB, sB, IB, c⟩ => passC hsk hfm tk I3 cf cL ch3 IB c
        obtain ⟨yv, H10, I10, r10, acc, hD10, hz10, nx⟩ := hz
        have I10 : Inv (X.blk s3 H3 scope ce fp) ([] ++ pinsAt fp s7.heap) σ8 H10 s10 := invXe (xe := fun _ _ => False) I10
        exact app_ok (X := X.blk s3 H3 scope ce fp) I10 hD10 hz10 r10 fun s11 I11 => fin I11 nx
  exact codeAny_compStart_list loop (T.self X.A 0 _ _ _ st4 loop)
/-- as a value; the element may raise what the def may raise -/
theorem pe_lcX {E : XK} {elt tg iter : Expr} {ifs : List Expr} {scope : Scope} {own : List (Str × Nat)} {pos : Pos} {wi : TI} {g : TG} {tt : TT} {te : TE}
    (hsk : X.stack = X.env :: X.outer) (hfm : X.env.frame = some X.env.locals) (tk : L2N.Takes X (fun cls d _ H => E cls d H)) (hc : X.calm = true) (hN : X.N.Nodup) (hi : PI X tg iter wi) (ok : BlkOk X.N X.env.scope scope own)
    (hg : ∀ (s : Shared) (H : Hp) (C : Addr) (cl : List (Str × Addr)) (fp : List Addr), PG (X.blk s H scope (compEnvC scope cl C X.env) fp) tg g) (ht : ∀ (s : Shared) (H : Hp) (C : Addr) (cl : List (Str × Addr)) (fp : List Addr), PTs (X.blk s H scope (compEnvC scope cl C X.env) fp) ifs tt)
    (he : ∀ (s : Shared) (H : Hp) (C : Addr) (cl : List (Str × Addr)) (fp : List Addr) (xe : Value → Shared → Prop), (∀ σ, PassesAt (L2N.CX X.prog X.w) (blkX X s H scope (compEnvC scope cl C X.env) fp xe) σ E) → PE (blkX X s H scope (compEnvC scope cl C X.env) fp xe) elt te) (hs : ∀ x, foldedSetIterable iter X.env x = pure x := by intro _; rfl) :
    PE X (.ListComp elt [⟨tg, iter, ifs, 0⟩] scope pos) (tLc wi g tt te (own.map (·.2))) := by
  refine ⟨fun pins s σ H Q I h => ?_⟩
  rw [eval_ListComp]
  refine lcX_core hsk hfm tk hc hN I hi ok hg ht he hs h fun D C s' m H' I' q hn f => ⟨m, hn, fun h'' sb => ?_⟩
  obtain ⟨f0, f1, f2, f3, f4, f5⟩ := f
  exact ⟨.ref D, H', I'.turned (t' := s'.toks) (fun b o hb e => (sb.2 b hb).trans e) f0 f1 f3 f4 f5, rfl, q⟩
end
section
variable {X : Cx} {k j : Nat} {x : Str} {st : Stmt} {ps : List Str} {sp : Sp} {e : Expr} {es : List Expr} {t : TA} {p pos : Pos} {E : XK}
/-- a def called as an element -/
theorem pe_cB (hx : ∀ σ, PassesAt (L2N.CX X.prog X.w) X σ E) (D : DnN X.prog X.w X.K X.mg X.base k x st ps sp) (hr : Room j X.A) (hg : Gl X x) (ha : PA X (e :: es) t) (hk : k ≤ j := by decide)
    (hdb : (x == ("__debug__" : Str)) = false := by decide) (he : starEach (e :: es) X.env = (false, eval e X.env) :: starEach es X.env := by rfl)
    (hpl : (backTo pos (starEach es X.env)).any (·.1) = false := by rfl) :
    PE X (.Call (.Name x p) (e :: es) [] pos) (tCallS sp (fun _ => E) t) := by
  obtain ⟨f, fd, F, b, g, ok⟩ := D.ex
  exact pe_callS ok (hr.mono hk) hg g F.kp b hx ha hdb he hpl
end
section
variable {X : Cx} {k j : Nat} {x : Str} {st : Stmt} {ps : List Str} {sp : Sp} {p pos : Pos}
/-- a def called without arguments -/
theorem pe_c0 (D : Dn X.prog X.w X.K X.mg X.base k x st ps sp) (hr : Room j X.A) (hg : Gl X x) (hk : k ≤ j := by decide)
    (hdb : (x == ("__debug__" : Str)) = false := by decide) : PE X (.Call (.Name x p) [] [] pos) (tCl sp tNil) := by
  obtain ⟨f, fd, F, b, g, ok⟩ := D.ex
  refine ⟨fun pins s σ H Q I h => ?_⟩
  refine wpAny_Call_Name_kw (ld_glob I hg g ?_ hdb)
  exact PySem.W.callWith_K0 I.kIn F.kp (run_fn (us := []) (dvs := []) ok (hr.mono hk) b .nil pass0 I .nil h)
end
end Gd

set_option Elab.async false
set_option linter.all false
set_option maxRecDepth 100000
set_option autoImplicit false
namespace Gd
open PySem PySem.Spec PyProof.Rows L2

/-! ### slices and sums whose place and heap are not told -/
theorem sIx_hi (n i : Nat) : HT.sIx n n (some (i : Int)) = min i n := by
  unfold HT.sIx
  simp only
  rw [if_neg (by omega)]
  rfl
theorem sIx_lo (n i : Nat) : HT.sIx n 0 (some (i : Int)) = min i n := by
  unfold HT.sIx
  simp only
  rw [if_neg (by omega)]
  rfl
theorem cutV_take (xs : List V) (i : Nat) : cutV xs none (some (i : Int)) = xs.take i := by
  unfold cutV
  rw [sIx_hi, show HT.sIx xs.length 0 none = 0 from rfl, List.drop_zero, Nat.sub_zero]
  by_cases h : i ≤ xs.length
  · rw [Nat.min_eq_left h]
  · rw [Nat.min_eq_right (by omega), List.take_length, List.take_of_length_le (by omega)]
theorem cutV_drop (xs : List V) (i : Nat) : cutV xs (some (i : Int)) none = xs.drop i := by
  unfold cutV
  rw [sIx_lo, show HT.sIx xs.length xs.length none = xs.length from rfl]
  by_cases h : i ≤ xs.length
  · rw [Nat.min_eq_left h]
    exact List.take_of_length_le (by rw [List.length_drop]; omega)
  · rw [Nat.min_eq_right (by omega), List.drop_length, List.drop_of_length_le (by omega)]
    simp
theorem cutV_whole {xs : List V} {lo hi : Option Int} (w : HT.sIx xs.length 0 lo = 0 ∧ HT.sIx xs.length xs.length hi = xs.length) : cutV xs lo hi = xs := by
  unfold cutV
  rw [w.1, w.2, List.drop_zero, Nat.sub_zero, List.take_length]
theorem slA {K : PySem.W.Frag} {H : Hp} {a : Addr} {xs : List V} {lo hi : Option Int} {Q : VK} (h : SqT K H a xs) (q : ∀ p H', Same H H' → SqT K H' p (cutV xs lo hi) → Q (.ref p) H') : rSlA K (.ref a) lo hi H Q :=
  ⟨a, xs, rfl, h, fun w => q a H (Same.refl _) (by rw [cutV_whole w]; exact h), fun _ p np => q p _ (Same.new np) (.inl (.inl upd_same))⟩
/-- a slice without an end -/
theorem slAn {K : PySem.W.Frag} {σ : L2.St} {H : Hp} {a : Addr} {xs : List V} {lo : Option Int} {Q : VK} (h : SqT K H a xs) (q : ∀ p H', Same H H' → SqT K H' p (cutV xs lo none) → Q (.ref p) H') : tNoPart σ H fun u H3 => rSlA K (.ref a) lo u H3 Q := slA h q
theorem slLn {K : PySem.W.Frag} {σ : L2.St} {H : Hp} {a : Addr} {xs : List V} {lo : Option Int} {Q : VK} (h : SqL K H a xs) (q : ∀ p H', Same H H' → H p = none → H' p = some (.lst (cutV xs lo none)) → Q (.ref p) H') : tNoPart σ H fun u H3 => rSlL K (.ref a) lo u H3 Q := ⟨a, xs, rfl, h, fun p np => q p _ (Same.new np) np upd_same⟩
theorem catA {K : PySem.W.Frag} {H : Hp} {a b : Addr} {xs ys : List V} {Q : VK} (ha : SqT K H a xs) (hb : SqT K H b ys) (l : xs.length + ys.length ≤ 1000) (q : ∀ p H', Same H H' → SqT K H' p (xs ++ ys) → Q (.ref p) H') : rCatA K (.ref a) (.ref b) H Q :=
  ⟨a, b, xs, ys, rfl, rfl, ha, hb, Nat.le_trans l (by decide), fun e => q b H (Same.refl _) (by rw [e]; exact hb), fun _ e => q a H (Same.refl _) (by rw [e, List.append_nil]; exact ha), fun _ _ p np => q p _ (Same.new np) (.inl (.inl upd_same))⟩
theorem slL {K : PySem.W.Frag} {H : Hp} {a : Addr} {xs : List V} {lo hi : Option Int} {Q : VK} (h : SqL K H a xs) (q : ∀ p H', Same H H' → H p = none → H' p = some (.lst (cutV xs lo hi)) → Q (.ref p) H') : rSlL K (.ref a) lo hi H Q :=
  ⟨a, xs, rfl, h, fun p np => q p _ (Same.new np) np upd_same⟩
theorem catL {H : Hp} {a b : Addr} {xs ys : List V} {Q : VK} (ha : H a = some (.lst xs)) (hb : H b = some (.lst ys)) (l : xs.length + ys.length ≤ 100000) (q : ∀ p H', Same H H' → H p = none → H' p = some (.lst (xs ++ ys)) → Q (.ref p) H') : rCat (.ref a) (.ref b) H Q :=
  ⟨a, b, xs, ys, rfl, rfl, ha, hb, Nat.le_trans l (by decide), fun p np => q p _ (Same.new np) np upd_same⟩
end Gd

namespace Pk43
open PySem PySem.Spec PyProof.Rows L2 Gd
def topS (i : Nat) : Stmt := PySem.Challenge.pw_tightranges_k43_rules_in_texts.main.body.getD i (.Pass ⟨0, 0, 0, 0⟩)
abbrev s_is_upside_down : Stmt := topS 6
theorem sc_is_upside_down : FnScope ["one", "low", "high"] ["one"] (defScope s_is_upside_down) := ⟨rfl, rfl, rfl, by decide +kernel, rfl, by decide +kernel, by decide +kernel⟩
abbrev s_check_range : Stmt := topS 7
theorem sc_check_range : FnScope ["one"] ["one"] (defScope s_check_range) := ⟨rfl, rfl, rfl, by decide +kernel, rfl, by decide +kernel, by decide +kernel⟩
abbrev s_RangeError___init__ : Stmt := inClass (topS 1) 0
theorem sc_RangeError___init__ : FnScope ["self", "value"] ["self", "value"] (defScope s_RangeError___init__) := ⟨rfl, rfl, rfl, by decide +kernel, rfl, by decide +kernel, by decide +kernel⟩
abbrev s_is_name : Stmt := topS 9
theorem sc_is_name : FnScope ["text", "sign"] ["text"] (defScope s_is_name) := ⟨rfl, rfl, rfl, by decide +kernel, rfl, by decide +kernel, by decide +kernel⟩
abbrev s__law_bag : Stmt := topS 31
theorem sc__law_bag : FnScope ["script", "blend", "great", "cell"] ["script"] (defScope s__law_bag) := ⟨rfl, rfl, rfl, by decide +kernel, rfl, by decide +kernel, by decide +kernel⟩
abbrev s__law_draw : Stmt := topS 32
theorem sc__law_draw : FnScope ["bag", "many", "drawn", "turn", "mixed"] ["bag", "many"] (defScope s__law_draw) := ⟨rfl, rfl, rfl, by decide +kernel, rfl, by decide +kernel, by decide +kernel⟩
abbrev s__law_reach : Stmt := topS 33
theorem sc__law_reach : FnScope ["bag", "span", "low_now", "high_now", "way_now", "some"] ["bag", "span"] (defScope s__law_reach) := ⟨rfl, rfl, rfl, by decide +kernel, rfl, by decide +kernel, by decide +kernel⟩
abbrev s__law_rule : Stmt := topS 34
theorem sc__law_rule : FnScope ["bag", "titles", "title", "source", "some", "low_now", "factor"] ["bag", "titles"] (defScope s__law_rule) := ⟨rfl, rfl, rfl, by decide +kernel, rfl, by decide +kernel, by decide +kernel⟩
abbrev s__shown_integer : Stmt := topS 29
theorem sc__shown_integer : FnScope ["number", "left", "parts", "part"] ["number"] (defScope s__shown_integer) := ⟨rfl, rfl, rfl, by decide +kernel, rfl, by decide +kernel, by decide +kernel⟩
abbrev s__shown_bound : Stmt := topS 28
theorem sc__shown_bound : FnScope ["bound"] ["bound"] (defScope s__shown_bound) := ⟨rfl, rfl, rfl, by decide +kernel, rfl, by decide +kernel, by decide +kernel⟩
abbrev s_show_range : Stmt := topS 25
theorem sc_show_range : FnScope ["one", "low", "high"] ["one"] (defScope s_show_range) := ⟨rfl, rfl, rfl, by decide +kernel, rfl, by decide +kernel, by decide +kernel⟩
abbrev s__integer_of : Stmt := topS 21
theorem sc__integer_of : FnScope ["text", "digits", "sign"] ["text"] (defScope s__integer_of) := ⟨rfl, rfl, rfl, by decide +kernel, rfl, by decide +kernel, by decide +kernel⟩
abbrev s__bound_of : Stmt := topS 20
theorem sc__bound_of : FnScope ["text"] ["text"] (defScope s__bound_of) := ⟨rfl, rfl, rfl, by decide +kernel, rfl, by decide +kernel, by decide +kernel⟩
abbrev s__bounds_of : Stmt := topS 19
theorem sc__bounds_of : FnScope ["text", "low", "dots", "high", "one"] ["text"] (defScope s__bounds_of) := ⟨rfl, rfl, rfl, by decide +kernel, rfl, by decide +kernel, by decide +kernel⟩
abbrev s__name_of : Stmt := topS 18
theorem sc__name_of : FnScope ["text"] ["text"] (defScope s__name_of) := ⟨rfl, rfl, rfl, by decide +kernel, rfl, by decide +kernel, by decide +kernel⟩
abbrev s__signed : Stmt := topS 15
theorem sc__signed : FnScope ["sign", "digits"] ["sign", "digits"] (defScope s__signed) := ⟨rfl, rfl, rfl, by decide +kernel, rfl, by decide +kernel, by decide +kernel⟩
abbrev s__step_of : Stmt := topS 14
theorem sc__step_of : FnScope ["x", "y", "factor", "sign", "add"] ["x", "y", "factor", "sign", "add"] (defScope s__step_of) := ⟨rfl, rfl, rfl, by decide +kernel, rfl, by decide +kernel, by decide +kernel⟩
abbrev s__condition_of : Stmt := topS 17
theorem sc__condition_of : FnScope ["text", "name", "one"] ["text"] (defScope s__condition_of) := ⟨rfl, rfl, rfl, by decide +kernel, rfl, by decide +kernel, by decide +kernel⟩
abbrev s__conditions_of : Stmt := topS 16
theorem sc__conditions_of : FnScope ["words", "text"] ["words"] (defScope s__conditions_of) := ⟨rfl, rfl, rfl, by decide +kernel, rfl, by decide +kernel, by decide +kernel⟩
abbrev s__rule_of : Stmt := topS 13
theorem sc__rule_of : FnScope ["text", "x", "within", "rest", "factor", "y", "sign", "add"] ["text"] (defScope s__rule_of) := ⟨rfl, rfl, rfl, by decide +kernel, rfl, by decide +kernel, by decide +kernel⟩
abbrev s_read_rule : Stmt := topS 12
theorem sc_read_rule : FnScope ["text"] ["text"] (defScope s_read_rule) := ⟨rfl, rfl, rfl, by decide +kernel, rfl, by decide +kernel, by decide +kernel⟩
abbrev s_read_rule_Q : Stmt := topS 12
theorem sc_read_rule_Q : FnScope ["text"] ["text"] (defScope s_read_rule_Q) := ⟨rfl, rfl, rfl, by decide +kernel, rfl, by decide +kernel, by decide +kernel⟩
abbrev s__words_of_step : Stmt := topS 27
theorem sc__words_of_step : FnScope ["rule", "x", "y", "factor", "add", "within", "words"] ["rule"] (defScope s__words_of_step) := ⟨rfl, rfl, rfl, by decide +kernel, rfl, by decide +kernel, by decide +kernel⟩
abbrev s_show_rule : Stmt := topS 26
theorem sc_show_rule : FnScope ["rule", "words", "name", "one"] ["rule"] (defScope s_show_rule) := ⟨rfl, rfl, rfl, by decide +kernel, rfl, by decide +kernel, by decide +kernel⟩
abbrev s__law_bound_text : Stmt := topS 35
theorem sc__law_bound_text : FnScope ["bound"] ["bound"] (defScope s__law_bound_text) := ⟨rfl, rfl, rfl, by decide +kernel, rfl, by decide +kernel, by decide +kernel⟩
abbrev s__law_reach_text : Stmt := topS 36
theorem sc__law_reach_text : FnScope ["there"] ["there"] (defScope s__law_reach_text) := ⟨rfl, rfl, rfl, by decide +kernel, rfl, by decide +kernel, by decide +kernel⟩
abbrev s__law_integer : Stmt := topS 38
theorem sc__law_integer : FnScope ["wording", "digits", "sign"] ["wording"] (defScope s__law_integer) := ⟨rfl, rfl, rfl, by decide +kernel, rfl, by decide +kernel, by decide +kernel⟩
abbrev s__law_reach_of : Stmt := topS 39
theorem sc__law_reach_of : FnScope ["wording", "some", "bounds", "part"] ["wording"] (defScope s__law_reach_of) := ⟨rfl, rfl, rfl, by decide +kernel, rfl, by decide +kernel, by decide +kernel⟩
abbrev s__law_changed : Stmt := topS 43
theorem sc__law_changed : FnScope ["bag", "wording", "spot", "sign", "way_now", "long", "some", "begin", "dots", "rest", "glue", "one", "two", "first_part"] ["bag", "wording"] (defScope s__law_changed) := ⟨rfl, rfl, rfl, by decide +kernel, rfl, by decide +kernel, by decide +kernel⟩
abbrev s__law_rule_text : Stmt := topS 37
theorem sc__law_rule_text : FnScope ["rule_now", "found", "sign", "some", "title", "there"] ["rule_now"] (defScope s__law_rule_text) := ⟨rfl, rfl, rfl, by decide +kernel, rfl, by decide +kernel, by decide +kernel⟩
abbrev s__law_is_title : Stmt := topS 40
theorem sc__law_is_title : FnScope ["wording", "odd", "sign"] ["wording"] (defScope s__law_is_title) := ⟨rfl, rfl, rfl, by decide +kernel, rfl, by decide +kernel, by decide +kernel⟩
abbrev s__law_conditions_of : Stmt := topS 41
theorem sc__law_conditions_of : FnScope ["wording", "found", "part", "some"] ["wording"] (defScope s__law_conditions_of) := ⟨rfl, rfl, rfl, by decide +kernel, rfl, by decide +kernel, by decide +kernel⟩
abbrev s__law_rule_of : Stmt := topS 42
theorem sc__law_rule_of : FnScope ["wording", "some", "found", "conditions", "size", "begin", "rest", "numbers", "there", "add"] ["wording"] (defScope s__law_rule_of) := ⟨rfl, rfl, rfl, by decide +kernel, rfl, by decide +kernel, by decide +kernel⟩
abbrev s__law_told : Stmt := topS 44
theorem sc__law_told : FnScope ["wording", "e"] ["wording"] (defScope s__law_told) := ⟨rfl, rfl, rfl, by decide +kernel, rfl, by decide +kernel, by decide +kernel⟩
abbrev s__law_title : Stmt := topS 45
theorem sc__law_title : FnScope ["bag", "place"] ["bag"] (defScope s__law_title) := ⟨rfl, rfl, rfl, by decide +kernel, rfl, by decide +kernel, by decide +kernel⟩
abbrev s__law_empty_right : Stmt := topS 46
theorem sc__law_empty_right : FnScope ["some", "wording"] [] (defScope s__law_empty_right) := ⟨rfl, rfl, rfl, by decide +kernel, rfl, by decide +kernel, by decide +kernel⟩
abbrev s_law : Stmt := topS 47
theorem sc_law : FnScope ["script", "bag", "turn", "rule_now", "great", "wording", "turn_now", "other", "place"] ["script"] (defScope s_law) := ⟨rfl, rfl, rfl, by decide +kernel, rfl, by decide +kernel, by decide +kernel⟩
theorem iniH {P : Program} {w : World} {K : PySem.W.Frag} {mg : Str → Option Value} {base : Heap} {k : Nat} {fI : Addr} (D : DnI P w K mg base k fI "RangeError.__init__" s_RangeError___init__ ["self", "value"] (spIni K)) : DnIH P w K mg base 1 fI ["self", "value"] (spIni K) :=
  dnIH D sc_RangeError___init__ (fun _ _ _ _ h => by obtain ⟨_, _, _, rfl, _⟩ := h; rfl) (fun cdv A outer s H vs Q E p h => by
    obtain ⟨a, c, v, rfl, ox, nv, ea, q⟩ := h
    exact ⟨_, pss_one (ps_ost (pv 0) (pv 1) rfl), _, rfl, _, rfl, a, c, rfl, ox, nv, .inl ⟨ea, fun dx n ne => q dx n ne⟩⟩)
def gk_read_rule_Q_text {α : Type} (us ws : List α) : List α := match us, ws with
  | [], [w0] => [w0]
  | _, _ => us ++ ws
def gk_show_rule_rule {α : Type} (us ws : List α) : List α := match us, ws with
  | [], [w0] => [w0]
  | _, _ => us ++ ws
/-- low above high -/
def up : Rg → Bool
  | some (some l, some h) => decide (l > h)
  | _ => false
theorem up_ok {r : Rg} (h : RgFit r) : up r = false := by
  match r, h with
  | none, _ => rfl
  | some (none, _), _ => rfl
  | some (some _, none), _ => rfl
  | some (some l, some h), q =>
    have q' : l ≤ h := q
    exact decide_eq_false (by omega)
def gr : Option Int → Option Int → Option Int
  | none, b => b
  | some a, none => some a
  | some a, some b => some (if b > a then b else a)
def le2 : Option Int → Option Int → Option Int
  | none, b => b
  | some a, none => some a
  | some a, some b => some (if b < a then b else a)
def comR : Rg → Rg → Rg
  | some (l1, h1), some (l2, h2) => if up (some (gr l1 l2, le2 h1 h2)) = true then none else some (gr l1 l2, le2 h1 h2)
  | _, _ => none
def oD : Option Int → PyData
  | none => .none
  | some i => .int i
def rgD : Rg → PyData
  | none => .none
  | some (l, h) => .tuple [oD l, oD h]
theorem dp_ov {K : PySem.W.Frag} {H : Hp} (o : Option Int) : Dp K H (ov o) (oD o) := by
  cases o with
  | none => exact .non
  | some i => exact .int i
theorem dp_rg {K : PySem.W.Frag} {H : Hp} {v : V} {r : Rg} (h : RgV K H v r) : Dp K H v (rgD r) := by
  match r, h with
  | none, h =>
    have h' : v = .non := h
    subst h'
    exact .non
  | some (l, u), h =>
    obtain ⟨p, rfl, s⟩ := h
    exact .tup s (.cons (dp_ov l) (.cons (dp_ov u) .nil))


def sp_is_upside_down (K : PySem.W.Frag) : Sp := fun vs H Q _ => ∃ v r, vs = [v] ∧ RgV K H v r ∧ Q (.bl (up r)) H

def sp_check_range (K : PySem.W.Frag) : Sp := fun vs H Q _ => ∃ v r, vs = [v] ∧ RgV K H v r ∧ RgFit r ∧ Q .non H





theorem eqv_oD (a b : Option Int) : PyData.eqv (oD a) (oD b) = decide (a = b) := by
  cases a with
  | none => cases b <;> simp [oD, PyData.eqv]
  | some x =>
    cases b with
    | none => simp [oD, PyData.eqv]
    | some y => by_cases h : x = y <;> simp [oD, PyData.eqv, h]
theorem eqv_rgD (a b : Rg) : PyData.eqv (rgD a) (rgD b) = decide (a = b) := by
  match a, b with
  | none, none => simp [rgD, PyData.eqv]
  | none, some (l, h) => simp [rgD, PyData.eqv]
  | some (l, h), none => simp [rgD, PyData.eqv]
  | some (l, h), some (l2, h2) =>
    simp only [rgD, PyData.eqv, PyData.eqvAll, eqv_oD]
    by_cases c1 : l = l2 <;> by_cases c2 : h = h2 <;> simp [c1, c2]
theorem shaped_oD (a : Option Int) : SeqAt.shaped (oD a) = true := by cases a <;> rfl
theorem shaped_rgD (a : Rg) : SeqAt.shaped (rgD a) = true := by
  match a with
  | none => rfl
  | some (some l, some h) => rfl
  | some (none, some h) => rfl
  | some (some l, none) => rfl
  | some (none, none) => rfl

def lon : Option Int → Option Int → Option Int
  | some a, some b => some (if b < a then b else a)
  | _, _ => none
def gon : Option Int → Option Int → Option Int
  | some a, some b => some (if b > a then b else a)
  | _, _ => none
def joinR : Rg → Rg → Rg
  | none, r => r
  | r, none => r
  | some (l1, h1), some (l2, h2) => some (lon l1 l2, gon h1 h2)



def tk (f a : Int) (o : Option Int) : Option Int := o.map fun x => f * x + a
def stepR (f a : Int) : Rg → Rg
  | none => none
  | some (l, h) => if f > 0 then some (tk f a l, tk f a h) else some (tk f a h, tk f a l)
def SzO (o : Option Int) : Prop := ∀ i, o = some i → i.natAbs < 2 ^ 30000
def SzR : Rg → Prop
  | none => True
  | some (l, h) => SzO l ∧ SzO h


theorem powW_ok {x : Int} {a : Nat} (h : x.natAbs < 2 ^ a) (h0 : 0 < a) (h2 : a ≤ 1000000) : CPowW x 3 := by
  have l := PySem.Flt.log2_lt_of h0 h
  have b : Builtin.Int.intBits x ≤ x.natAbs.log2 + 1 := by
    unfold Builtin.Int.intBits
    split <;> omega
  refine ⟨by decide, ?_⟩
  have e : (2 : Int) ^ 27 = 134217728 := by decide
  rw [e]
  omega
theorem ten60 : CPowW 10 60 := ⟨by decide, by decide⟩
theorem ten18 : CPowW 10 18 := ⟨by decide, by decide⟩
theorem ten31 : CPowW 10 31 := ⟨by decide, by decide⟩



theorem cut_ints {ns : List Int} {lo hi : Option Int} {i : Nat} {x : V} (h : (cutV (ns.map V.int) lo hi)[i]? = some x) : ∃ z : Int, x = .int z := by
  have m : x ∈ cutV (ns.map V.int) lo hi := List.mem_of_getElem? h
  unfold cutV at m
  have m2 := List.mem_of_mem_drop (List.mem_of_mem_take m)
  obtain ⟨z, _, e⟩ := List.mem_map.mp m2
  exact ⟨z, e.symm⟩
theorem big_step {dg f : Int} {i : Nat} (h0 : 0 ≤ dg) (h : dg.natAbs < 2 ^ (200 * i + 1)) :
    0 ≤ dg * (10 : Int) ^ (60 : Int).toNat + f % (10 : Int) ^ (60 : Int).toNat ∧
    (dg * (10 : Int) ^ (60 : Int).toNat + f % (10 : Int) ^ (60 : Int).toNat).natAbs < 2 ^ (200 * (i + 1) + 1) := by
  have T : (10 : Int) ^ (60 : Int).toNat = 1000000000000000000000000000000000000000000000000000000000000 := by decide
  rw [T]
  have m0 : 0 ≤ f % 1000000000000000000000000000000000000000000000000000000000000 := Int.emod_nonneg _ (by decide)
  have m1 : f % 1000000000000000000000000000000000000000000000000000000000000 < 1000000000000000000000000000000000000000000000000000000000000 := Int.emod_lt_of_pos _ (by decide)
  generalize f % 1000000000000000000000000000000000000000000000000000000000000 = g at m0 m1
  have e : 2 ^ (200 * (i + 1) + 1) = 2 ^ (200 * i + 1) * 2 ^ 200 := by rw [← Nat.pow_add]; congr 1
  have T2 : (2 : Nat) ^ 200 = 1606938044258990275541962092341162602522202993782792835301376 := by decide
  rw [e, T2]
  generalize 2 ^ (200 * i + 1) = B at h
  omega
theorem keep_step {dg : Int} {i : Nat} (h : dg.natAbs < 2 ^ (200 * i + 1)) : dg.natAbs < 2 ^ (200 * (i + 1) + 1) :=
  Nat.lt_of_lt_of_le h (Nat.pow_le_pow_right (by decide) (by omega))
theorem end_step {dg : Int} {i : Nat} (hi : i ≤ 63) (h : dg.natAbs < 2 ^ (200 * i + 1)) : dg.natAbs < 2 ^ 13000 :=
  Nat.lt_of_lt_of_le h (Nat.pow_le_pow_right (by decide) (by omega))

/-- a drawn bound -/
def BdOk (m : Int) : Option Int → Prop
  | none => True
  | some i => -m ≤ i ∧ i ≤ m

def RgIn (m : Int) : Rg → Prop
  | none => True
  | some (l, h) => BdOk m l ∧ BdOk m h

def loR : Option Int → Int
  | none => -40
  | some x => x
def hiR : Option Int → Int
  | none => 41
  | some x => x + 1
def rgI (a b : Int) : List Int := (List.range (b - a).toNat).map fun i => a + (i : Nat)
theorem rgV_rgI (a b : Int) : rgV a b = (rgI a b).map V.int := by
  unfold rgV rgI
  rw [List.map_map]
  rfl
def listR : Rg → List Int
  | none => []
  | some (l, h) => rgI (loR l) (hiR h)

def farO (k : Int) (o : Option Int) : Option Int := o.map (· + k)
def farR (k : Int) (r : Rg) : Rg := r.map fun q => (farO k q.1, farO k q.2)

abbrev Cd := Str × Rg
def cdD (c : Cd) : PyData := .tuple [.str c.1, rgD c.2]
/-- a rule -/
inductive Rl where
  | set (x : Str) (r : Rg) (cs : List Cd)
  | stp (x y : Str) (f a : Int) (r : Rg) (cs : List Cd)
def Rl.d : Rl → PyData
  | .set x r cs => .tuple [.str "set", .str x, rgD r, .tuple (cs.map cdD)]
  | .stp x y f a r cs => .tuple [.str "step", .str x, .str y, .int f, .int a, rgD r, .tuple (cs.map cdD)]
def Rl.cs : Rl → List Cd
  | .set _ _ cs => cs
  | .stp _ _ _ _ _ cs => cs
def Rl.names : Rl → List Str
  | .set x _ cs => x :: cs.map (·.1)
  | .stp x y _ _ _ cs => x :: y :: cs.map (·.1)
def Rl.rgs : Rl → List Rg
  | .set _ r cs => r :: cs.map (·.2)
  | .stp _ _ _ _ r cs => r :: cs.map (·.2)
def badR (r : Rg) : Bool := r.isNone || up r
def Rl.zero : Rl → Bool
  | .set _ _ _ => false
  | .stp _ _ f _ _ _ => decide (f = 0)
def Rl.faulty (r : Rl) (ns : List Str) : Bool := r.zero || ((r.names.any fun x => !decide (x ∈ ns)) || r.rgs.any badR)
theorem dp_str_inv {K : PySem.W.Frag} {H : Hp} {v : V} {x : Str} (h : Dp K H v (.str x)) : v = .str x := by cases h; rfl
theorem dp_int_inv {K : PySem.W.Frag} {H : Hp} {v : V} {x : Int} (h : Dp K H v (.int x)) : v = .int x := by cases h; rfl
theorem dp_non_inv {K : PySem.W.Frag} {H : Hp} {v : V} (h : Dp K H v .none) : v = .non := by cases h; rfl
theorem dp_tup_inv {K : PySem.W.Frag} {H : Hp} {v : V} {ds : List PyData} (h : Dp K H v (.tuple ds)) : ∃ p xs, v = .ref p ∧ SqT K H p xs ∧ DpAll K H xs ds := by
  cases h with
  | tup s a => exact ⟨_, _, rfl, s, a⟩
theorem dpa_cons_inv {K : PySem.W.Frag} {H : Hp} {vs : List V} {d : PyData} {ds : List PyData} (h : DpAll K H vs (d :: ds)) : ∃ v ws, vs = v :: ws ∧ Dp K H v d ∧ DpAll K H ws ds := by
  cases h with
  | cons a b => exact ⟨_, _, rfl, a, b⟩
theorem dpa_nil_inv {K : PySem.W.Frag} {H : Hp} {vs : List V} (h : DpAll K H vs []) : vs = [] := by cases h; rfl
theorem dp_oD_inv {K : PySem.W.Frag} {H : Hp} {v : V} {o : Option Int} (h : Dp K H v (oD o)) : v = ov o := by
  cases o with
  | none => exact dp_non_inv h
  | some i => exact dp_int_inv h
theorem dp_rg_inv {K : PySem.W.Frag} {H : Hp} {v : V} {r : Rg} (h : Dp K H v (rgD r)) : RgV K H v r := by
  match r, h with
  | none, h => exact dp_non_inv h
  | some (l, u), h =>
    obtain ⟨p, xs, rfl, s, a⟩ := dp_tup_inv h
    obtain ⟨v1, w1, rfl, h1, a⟩ := dpa_cons_inv a
    obtain ⟨v2, w2, rfl, h2, a⟩ := dpa_cons_inv a
    obtain rfl := dpa_nil_inv a
    obtain rfl := dp_oD_inv h1
    obtain rfl := dp_oD_inv h2
    exact ⟨p, rfl, s⟩
theorem cd_inv {K : PySem.W.Frag} {H : Hp} {v : V} {c : Cd} (h : Dp K H v (cdD c)) : ∃ p vr, v = .ref p ∧ SqT K H p [.str c.1, vr] ∧ RgV K H vr c.2 := by
  obtain ⟨p, xs, rfl, s, a⟩ := dp_tup_inv h
  obtain ⟨v1, w1, rfl, h1, a⟩ := dpa_cons_inv a
  obtain ⟨v2, w2, rfl, h2, a⟩ := dpa_cons_inv a
  obtain rfl := dpa_nil_inv a
  obtain rfl := dp_str_inv h1
  exact ⟨p, v2, rfl, s, dp_rg_inv h2⟩
theorem set_inv {K : PySem.W.Frag} {H : Hp} {v : V} {x : Str} {r : Rg} {cs : List Cd} (h : Dp K H v (Rl.set x r cs).d) :
    ∃ p vr q ys, v = .ref p ∧ SqT K H p [.str "set", .str x, vr, .ref q] ∧ RgV K H vr r ∧ SqT K H q ys ∧ DpAll K H ys (cs.map cdD) := by
  obtain ⟨p, xs, rfl, s, a⟩ := dp_tup_inv h
  obtain ⟨v1, w1, rfl, h1, a⟩ := dpa_cons_inv a
  obtain ⟨v2, w2, rfl, h2, a⟩ := dpa_cons_inv a
  obtain ⟨v3, w3, rfl, h3, a⟩ := dpa_cons_inv a
  obtain ⟨v4, w4, rfl, h4, a⟩ := dpa_cons_inv a
  obtain rfl := dpa_nil_inv a
  obtain rfl := dp_str_inv h1
  obtain rfl := dp_str_inv h2
  obtain ⟨q, ys, rfl, s2, a2⟩ := dp_tup_inv h4
  exact ⟨p, v3, q, ys, rfl, s, dp_rg_inv h3, s2, a2⟩
theorem stp_inv {K : PySem.W.Frag} {H : Hp} {v : V} {x y : Str} {f a : Int} {r : Rg} {cs : List Cd} (h : Dp K H v (Rl.stp x y f a r cs).d) :
    ∃ p vr q ys, v = .ref p ∧ SqT K H p [.str "step", .str x, .str y, .int f, .int a, vr, .ref q] ∧ RgV K H vr r ∧ SqT K H q ys ∧ DpAll K H ys (cs.map cdD) := by
  obtain ⟨p, xs, rfl, s, z⟩ := dp_tup_inv h
  obtain ⟨v1, w1, rfl, h1, z⟩ := dpa_cons_inv z
  obtain ⟨v2, w2, rfl, h2, z⟩ := dpa_cons_inv z
  obtain ⟨v3, w3, rfl, h3, z⟩ := dpa_cons_inv z
  obtain ⟨v4, w4, rfl, h4, z⟩ := dpa_cons_inv z
  obtain ⟨v5, w5, rfl, h5, z⟩ := dpa_cons_inv z
  obtain ⟨v6, w6, rfl, h6, z⟩ := dpa_cons_inv z
  obtain ⟨v7, w7, rfl, h7, z⟩ := dpa_cons_inv z
  obtain rfl := dpa_nil_inv z
  obtain rfl := dp_str_inv h1
  obtain rfl := dp_str_inv h2
  obtain rfl := dp_str_inv h3
  obtain rfl := dp_int_inv h4
  obtain rfl := dp_int_inv h5
  obtain ⟨q, ys, rfl, s2, a2⟩ := dp_tup_inv h7
  exact ⟨p, v6, q, ys, rfl, s, dp_rg_inv h6, s2, a2⟩
theorem dpa_map_get {K : PySem.W.Frag} {H : Hp} {α : Type} {f : α → PyData} {ys : List V} {cs : List α} {i : Nat} {v : V} (h : DpAll K H ys (cs.map f)) (e : ys[i]? = some v) : ∃ c, cs[i]? = some c ∧ Dp K H v (f c) := by
  obtain ⟨d, e2, hd⟩ := dpa_get h e
  rw [List.getElem?_map] at e2
  cases e3 : cs[i]? with
  | none => rw [e3] at e2; cases e2
  | some c =>
    rw [e3] at e2
    have := Option.some.inj e2
    subst this
    exact ⟨c, rfl, hd⟩
theorem list_eq_of {α : Type} {xs ys : List α} (l : xs.length = ys.length) (h : ∀ (i : Nat) (x : α), xs[i]? = some x → ys[i]? = some x) : xs = ys := by
  apply List.ext_getElem?
  intro i
  by_cases c : i < xs.length
  · have e := List.getElem?_eq_getElem c
    rw [e]
    exact (h i _ e).symm
  · rw [List.getElem?_eq_none (by omega), List.getElem?_eq_none (by omega)]


theorem sEqT {x : Str} : V.bl (decide (V.str x = V.str x)) = V.bl true := congrArg V.bl (decide_eq_true rfl)
/-- a list of strings, by place -/
theorem strs_of {cs : List Cd} {ys : List V} (l : ys.length = cs.length) (h : ∀ (i : Nat) y, ys[i]? = some y → ∃ c : Cd, cs[i]? = some c ∧ y = .str c.1) : ys = (cs.map (·.1)).map V.str := by
  refine list_eq_of (by rw [List.length_map, List.length_map, l]) fun i x e => ?_
  obtain ⟨c, ec, rfl⟩ := h i x e
  rw [List.getElem?_map, List.getElem?_map, ec]
  rfl

theorem noL_rg (r : Rg) : NoL (rgD r) := by
  match r with
  | none => exact .non
  | some (l, u) =>
    refine .tup fun d m => ?_
    rcases List.mem_cons.mp m with rfl | m
    · cases l
      · exact .non
      · exact .int _
    rcases List.mem_cons.mp m with rfl | m
    · cases u
      · exact .non
      · exact .int _
    · exact absurd m (by simp)
theorem noL_cd (c : Cd) : NoL (cdD c) := by
  refine .tup fun d m => ?_
  rcases List.mem_cons.mp m with rfl | m
  · exact .str _
  rcases List.mem_cons.mp m with rfl | m
  · exact noL_rg _
  · exact absurd m (by simp)
theorem noL_cds (cs : List Cd) : NoL (.tuple (cs.map cdD)) := .tup fun d m => by
  obtain ⟨c, _, rfl⟩ := List.mem_map.mp m
  exact noL_cd c
theorem noL_rl (r : Rl) : NoL r.d := by
  match r with
  | .set x rr cs =>
    refine .tup fun d m => ?_
    simp only [List.mem_cons, List.not_mem_nil, or_false] at m
    rcases m with rfl | rfl | rfl | rfl
    · exact .str _
    · exact .str _
    · exact noL_rg _
    · exact noL_cds _
  | .stp x y f a rr cs =>
    refine .tup fun d m => ?_
    simp only [List.mem_cons, List.not_mem_nil, or_false] at m
    rcases m with rfl | rfl | rfl | rfl | rfl | rfl | rfl
    · exact .str _
    · exact .str _
    · exact .str _
    · exact .int _
    · exact .int _
    · exact noL_rg _
    · exact noL_cds _
theorem rl_last {K : PySem.W.Frag} {H : Hp} {v : V} {r : Rl} (h : Dp K H v r.d) : ∃ p xs vr c ys rr, v = .ref p ∧ SqT K H p xs ∧ atI xs (-2) = some vr ∧ atI xs (-1) = some (.ref c) ∧ RgV K H vr rr ∧
    SqT K H c ys ∧ DpAll K H ys (r.cs.map cdD) ∧ r.rgs = rr :: r.cs.map (·.2) := by
  match r, h with
  | .set x r cs, h =>
    obtain ⟨p, vr, c, ys, rfl, s, hr2, s2, a2⟩ := set_inv h
    exact ⟨p, _, vr, c, ys, r, rfl, s, rfl, rfl, hr2, s2, a2, rfl⟩
  | .stp x y f a r cs, h =>
    obtain ⟨p, vr, c, ys, rfl, s, hr2, s2, a2⟩ := stp_inv h
    exact ⟨p, _, vr, c, ys, r, rfl, s, rfl, rfl, hr2, s2, a2, rfl⟩
theorem dpa_of {K : PySem.W.Frag} {H : Hp} {α : Type} {f : α → PyData} : ∀ {cs : List α} {ys : List V}, ys.length = cs.length → (∀ (i : Nat) y, ys[i]? = some y → ∃ c : α, cs[i]? = some c ∧ Dp K H y (f c)) → DpAll K H ys (cs.map f)
  | [], [], _, _ => .nil
  | c :: cs, y :: ys, l, h => by
    obtain ⟨c', e, d⟩ := h 0 y rfl
    have e' : c = c' := Option.some.inj e
    subst e'
    exact .cons d (dpa_of (by simpa using l) fun i z e => by simpa using h (i + 1) z (by simpa using e))

theorem inV_strs (x : Str) : ∀ ns : List Str, inV (.str x) (ns.map V.str) = decide (x ∈ ns)
  | [] => rfl
  | n :: ns => by
    have ih := inV_strs x ns
    unfold inV at ih ⊢
    rw [List.map_cons, List.any_cons, ih]
    show ((n == x) || decide (x ∈ ns)) = decide (x ∈ n :: ns)
    rw [Bool.eq_iff_iff, Bool.or_eq_true, beq_iff_eq, decide_eq_true_iff, decide_eq_true_iff, List.mem_cons]
    constructor
    · rintro (h | h)
      · exact .inl h.symm
      · exact .inr h
    · rintro (h | h)
      · exact .inl h.symm
      · exact .inr h
theorem flat_strs : ∀ ns : List Str, (ns.map V.str).all flatV = true
  | [] => rfl
  | n :: ns => by rw [List.map_cons, List.all_cons, flat_strs ns]; rfl
/-- a list of booleans, by place -/
theorem bls_of {α : Type} {f : α → Bool} {cs : List α} {ys : List V} (l : ys.length = cs.length) (h : ∀ (i : Nat) y, ys[i]? = some y → ∃ c : α, cs[i]? = some c ∧ y = .bl (f c)) : ys = (cs.map f).map V.bl := by
  refine list_eq_of (by rw [List.length_map, List.length_map, l]) fun i x e => ?_
  obtain ⟨c, ec, rfl⟩ := h i x e
  rw [List.getElem?_map, List.getElem?_map, ec]
  rfl
theorem any_id {α : Type} (f : α → Bool) (cs : List α) : (cs.map f).any id = cs.any f := by
  rw [List.any_map]
  rfl
theorem map_get {α β : Type} {f : α → β} {cs : List α} {i : Nat} {y : β} (h : (cs.map f)[i]? = some y) : ∃ c, cs[i]? = some c ∧ y = f c := by
  rw [List.getElem?_map] at h
  cases e : cs[i]? with
  | none => rw [e] at h; cases h
  | some c =>
    rw [e] at h
    exact ⟨c, rfl, (Option.some.inj h).symm⟩
theorem names_le {r : Rl} : r.names.length ≤ 2 + r.cs.length := by
  match r with
  | .set x r cs => show (x :: cs.map (·.1)).length ≤ _; rw [List.length_cons, List.length_map]; show _ ≤ 2 + cs.length; omega
  | .stp x y f a r cs => show (x :: y :: cs.map (·.1)).length ≤ _; rw [List.length_cons, List.length_cons, List.length_map]; show _ ≤ 2 + cs.length; omega
theorem rgs_le {r : Rl} : r.rgs.length ≤ 2 + r.cs.length := by
  match r with
  | .set x r cs => show (r :: cs.map (·.2)).length ≤ _; rw [List.length_cons, List.length_map]; show _ ≤ 2 + cs.length; omega
  | .stp x y f a r cs => show (r :: cs.map (·.2)).length ≤ _; rw [List.length_cons, List.length_map]; show _ ≤ 2 + cs.length; omega

def nameOk (x : Str) : Bool := (decide (1 ≤ x.cps.size) && decide (x.cps.size ≤ 8)) && x.cps.toList.all fun c => decide (97 ≤ c) && decide (c ≤ 122)
theorem lt_one (c d : Nat) : (!decide (([c] : List Nat) < [d])) = decide (d ≤ c) := by
  rw [Bool.eq_iff_iff, Bool.not_eq_true', decide_eq_false_iff_not, decide_eq_true_iff, List.cons_lt_cons_iff]
  constructor
  · intro h
    have := fun z => h (.inl z)
    omega
  · rintro h (z | ⟨_, z⟩)
    · omega
    · exact absurd z (List.lt_irrefl [])
/-- [e for c in x] over a string, each e a boolean -/
theorem lc_strB {j : Nat} {te : TE} {σ : L2.St} {H : Hp} {Qd : Hp → Prop} {D : Addr} (x : Str) (f : Nat → Bool)
    (hz : x.cps.size ≤ 1000) (nD : H D = none)
    (hw : ∀ z : V, wipe ((wipe σ [j]).set j (some z)) [j] = wipe σ [j])
    (he : ∀ (c : Nat) (H' : Hp) (R : VK), R (.bl (f c)) H' → te ((wipe σ [j]).set j (some (.str ⟨#[c]⟩))) H' R)
    (q : Qd (upd H D (.lst ((x.cps.toList.map f).map V.bl)))) :
    ∃ Z : Nat → Nat → Hp → Prop, (∃ m, Z 0 m (upd H D (.lst []))) ∧
      ∀ i m G, Z i m G →
        ((Its x).stop i G ∧ Qd G) ∨
        ((Its x).go i G ∧ ∃ N : Hp → Prop, (∀ G', N G' → ∃ m', m' < m ∧ Z (i + 1) m' G') ∧
          ∀ z G', (Its x).yld i G z G' →
            gName j z (wipe σ [j]) G' fun σ2 G2 =>
              wipe σ2 [j] = wipe σ [j] ∧
              tYes σ2 G2 fun b G3 =>
                if b = true then
                  te σ2 G3 fun y G4 =>
                    ∃ acc, G4 D = some (.lst acc) ∧ acc.length < sizeLine ∧
                      N (upd G4 D (.lst (acc ++ [y])))
                else N G3) := by
  refine lc_it (walk_str (z := x)) (fun i G => G = upd H D (.lst (((x.cps.toList.take i).map f).map V.bl))) rfl (fun _ _ _ _ => trivial) ?_ ?_
  · rintro i z G G' hi rfl ⟨rfl, c, ec, rfl⟩
    have ec' : x.cps.toList[i]? = some c := by rw [Array.getElem?_toList]; exact ec
    have tk : ((x.cps.toList.take (i + 1)).map f).map V.bl = ((x.cps.toList.take i).map f).map V.bl ++ [V.bl (f c)] := by
      rw [List.take_add_one, ec', List.map_append, List.map_append]
      rfl
    refine ⟨hw _, he c _ _ ⟨_, upd_same, ?_, ?_⟩⟩
    · rw [List.length_map, List.length_map, List.length_take]
      exact Nat.lt_of_le_of_lt (Nat.le_trans (Nat.min_le_left _ _) (by omega : i ≤ 100000)) (by decide)
    · rw [upd_upd, tk]
  · rintro G rfl
    have e : x.cps.toList.take x.cps.size = x.cps.toList := by
      rw [← Array.length_toList, List.take_length]
    rw [e]
    exact q

/-- what System check asks -/
structure SysOk (ns : List Str) (rs : List Rl) : Prop where
  nd : ns.Nodup
  ok : ∀ x ∈ ns, nameOk x = true
  nf : ∀ r ∈ rs, r.faulty ns = false
  cs : ∀ r ∈ rs, r.cs.length ≤ 1000
  ln : ns.length < 64
  lr : rs.length ≤ 1000
theorem nameOk_size {x : Str} (h : nameOk x = true) : x.cps.size ≤ 8 := by
  unfold nameOk at h
  rw [Bool.and_eq_true, Bool.and_eq_true] at h
  exact of_decide_eq_true h.1.2
def keyT (l : List Str) : List (Key × V) := l.map fun n => (Sum.inr n, V.bl true)
theorem valV_keyT {x : Str} : ∀ {l : List Str}, x ∉ l → valV (keyT l) (Sum.inr x) = none
  | [], _ => rfl
  | n :: l, h => by
    rw [List.mem_cons] at h
    have e : ¬ (Sum.inr n : Key) = Sum.inr x := fun z => h (.inl (Sum.inr.inj z).symm)
    show valV ((Sum.inr n, V.bl true) :: keyT l) (Sum.inr x) = none
    rw [valV_neg e]
    exact valV_keyT fun z => h (.inr z)
theorem nodup_take {l : List Str} {i : Nat} {x : Str} (nd : l.Nodup) (h : l[i]? = some x) : x ∉ l.take i := by
  intro m
  obtain ⟨j, hj⟩ := List.mem_iff_getElem?.mp m
  have lj : j < (l.take i).length := (List.getElem?_eq_some_iff.mp hj).1
  rw [List.length_take] at lj
  rw [List.getElem?_take_of_lt (by omega)] at hj
  have li : i < l.length := (List.getElem?_eq_some_iff.mp h).1
  have e := (List.getElem?_inj (i := j) (j := i) (by omega) nd).mp (hj.trans h.symm)
  omega

/-- what the top has written of the class System -/
structure SysT (K : PySem.W.Frag) (mg : Str → Option Value) (C : Addr) : Prop where
  ck : Ck K mg C "System"
  nN : NoAttr K C "_names"
  nR : NoAttr K C "_rules"
  ha : PySem.W.findIn K (.ref C) "__class__" = some (some (.builtin "object.__class__"))
  hn : PySem.W.specialIn K (.builtin "object.__class__") "__get__" = some (some (.builtin "getset_descriptor.__get__"))
  ht : PySem.W.takesIn K (.builtin "object.__class__") = some true
  hm : PySem.W.mroIn K C (.type "object") = some true
  ki : PySem.W.isClsIn K C = true
  ty : PySem.W.typeIn K (.ref C) = some (.type "type")
theorem subL {K : PySem.W.Frag} {C : Addr} : PySem.W.subIn K (.type "list") (.ref C) = some false := by with_unfolding_all rfl
theorem subS {K : PySem.W.Frag} {C : Addr} : PySem.W.subIn K (.type "str") (.ref C) = some false := by with_unfolding_all rfl
theorem subI {K : PySem.W.Frag} {C : Addr} : PySem.W.subIn K (.type "int") (.ref C) = some false := by with_unfolding_all rfl
theorem nf_of {K : PySem.W.Frag} {C : Addr} {t : Value} (h : PySem.W.subIn K t (.ref C) = some false) : PySem.W.notFirst K C t = true := by
  unfold PySem.W.notFirst
  rw [h]
  exact Bool.or_true _
theorem nfC {K : PySem.W.Frag} {C : Addr} : PySem.W.notFirst K C (.ref C) = true := by
  unfold PySem.W.notFirst
  rw [beq_self_eq_true, Bool.true_or]
theorem kit_of_no {K : PySem.W.Frag} {mg : Str → Option Value} {C : Addr} (T : SysT K mg C) {n : String} (h : PySem.W.subIn K (.type n) (.ref C) = some false) : PySem.W.kitOne K (.type n) (.ref C) = some false := by
  have e : PySem.W.kitOne K (.type n) (.ref C) = if ((PySem.W.clsIn K C).isSome && PySem.W.typeIn K (.ref C) == some (.type "type")) = true then PySem.W.subIn K (.type n) (.ref C) else none := rfl
  have h1 : (PySem.W.clsIn K C).isSome = true := T.ki
  rw [e, h1, T.ty, h]
  rfl
/-- a system: its object at a, its names at p, its rules at q -/
def SysAt (K : PySem.W.Frag) (C : Addr) (H : Hp) (a p q : Addr) (ns : List Str) (rs : List Rl) : Prop :=
  ∃ dx fs xs, H a = some (.ins C dx fs) ∧ fs.lookup ("_names" : Str) = some (V.ref p) ∧ fs.lookup ("_rules" : Str) = some (V.ref q) ∧ H p = some (.lst (ns.map V.str)) ∧ H q = some (.lst xs) ∧ DpAll K H xs (rs.map Rl.d) ∧ ∀ m : Str, m ≠ "_names" → m ≠ "_rules" → fs.lookup m = none
theorem SysAt.same {K : PySem.W.Frag} {C : Addr} {H H' : Hp} {a p q : Addr} {ns : List Str} {rs : List Rl} (k : Same H H') (h : SysAt K C H a p q ns rs) : SysAt K C H' a p q ns rs := by
  obtain ⟨dx, fs, xs, h1, h2, h3, h4, h5, h6, h7⟩ := h
  exact ⟨dx, fs, xs, k _ _ h1, h2, h3, k _ _ h4, k _ _ h5, dpa_same k h6, h7⟩
/-- the object at o is what may change -/
def Ki (o : Addr) (H H' : Hp) : Prop := (∃ C dx fs, H o = some (.ins C dx fs)) ∧ Kp o H H'
theorem SqL.ki {K : PySem.W.Frag} {H H' : Hp} {o b : Addr} {xs : List V} (k : Ki o H H') (h : SqL K H b xs) : SqL K H' b xs := by
  obtain ⟨⟨C, dx, fs, e⟩, kp⟩ := k
  rcases h with (h | ⟨u, h⟩) | h
  · exact .inl (.inl (kp _ _ (ne_of h e (fun z => by cases z)) h))
  · exact .inl (.inr ⟨u, kp _ _ (ne_of h e (fun z => by cases z)) h⟩)
  · exact .inr h
theorem SqT.ki {K : PySem.W.Frag} {H H' : Hp} {o b : Addr} {xs : List V} (k : Ki o H H') (h : SqT K H b xs) : SqT K H' b xs := by
  obtain ⟨⟨C, dx, fs, e⟩, kp⟩ := k
  rcases h with (h | ⟨u, h⟩) | h
  · exact .inl (.inl (kp _ _ (ne_of h e (fun z => by cases z)) h))
  · exact .inl (.inr ⟨u, kp _ _ (ne_of h e (fun z => by cases z)) h⟩)
  · exact .inr h
mutual
theorem dp_ki {K : PySem.W.Frag} {H H' : Hp} {o : Addr} (k : Ki o H H') : ∀ {v : V} {d : PyData}, Dp K H v d → Dp K H' v d
  | _, _, .non => .non
  | _, _, .bl b => .bl b
  | _, _, .int i => .int i
  | _, _, .str x => .str x
  | _, _, .lst s a => .lst (SqL.ki k s) (dpa_ki k a)
  | _, _, .tup s a => .tup (SqT.ki k s) (dpa_ki k a)
theorem dpa_ki {K : PySem.W.Frag} {H H' : Hp} {o : Addr} (k : Ki o H H') : ∀ {v : List V} {d : List PyData}, DpAll K H v d → DpAll K H' v d
  | _, _, .nil => .nil
  | _, _, .cons a b => .cons (dp_ki k a) (dpa_ki k b)
end






theorem strOk_of {x : Str} (h : nameOk x = true) : PyData.strOk x = true := by
  unfold nameOk at h
  rw [Bool.and_eq_true] at h
  unfold PyData.strOk
  rw [← Array.all_toList, List.all_eq_true]
  intro c m
  have := List.all_eq_true.mp h.2 c m
  rw [Bool.and_eq_true] at this
  have := of_decide_eq_true this.2
  exact decide_eq_true (by omega)
theorem lyA_of : ∀ {k : Nat} {ds : List PyData}, (∀ d ∈ ds, Ly k d) → LyAll k ds
  | k, [], _ => LyAll.nil.mono (Nat.zero_le _)
  | k, d :: ds, h => by
    have z := LyAll.cons (h d (by simp)) (lyA_of (k := k) (ds := ds) fun x m => h x (by simp [m]))
    rw [Nat.max_self] at z
    exact z
theorem ly_str {x : Str} (h : PyData.strOk x = true) : Ly 1 (.str x) := ⟨h, by simp [PyData.depth]⟩
theorem ly_oD (o : Option Int) : Ly 1 (oD o) := by
  cases o with
  | none => exact .none
  | some i => exact .int i
theorem ly_rg (r : Rg) : Ly 2 (rgD r) := by
  match r with
  | none => exact Ly.none.mono (by decide)
  | some (l, u) =>
    refine Ly.tuple (k := 1) (lyA_of fun d m => ?_)
    simp only [List.mem_cons, List.not_mem_nil, or_false] at m
    rcases m with rfl | rfl
    · exact ly_oD l
    · exact ly_oD u
theorem ly_cd {c : Cd} (h : PyData.strOk c.1 = true) : Ly 3 (cdD c) := by
  refine Ly.tuple (k := 2) (lyA_of fun d m => ?_)
  simp only [List.mem_cons, List.not_mem_nil, or_false] at m
  rcases m with rfl | rfl
  · exact (ly_str h).mono (by decide)
  · exact ly_rg _
theorem ly_cds {cs : List Cd} (h : ∀ c ∈ cs, PyData.strOk c.1 = true) : Ly 4 (.tuple (cs.map cdD)) := by
  refine Ly.tuple (k := 3) (lyA_of fun d m => ?_)
  obtain ⟨c, mc, rfl⟩ := List.mem_map.mp m
  exact ly_cd (h c mc)
theorem ly_rl {r : Rl} (h : ∀ x ∈ r.names, PyData.strOk x = true) : Ly 5 r.d := by
  match r, h with
  | .set x rr cs, h =>
    have hc : ∀ c ∈ cs, PyData.strOk c.1 = true := fun c m => h c.1 (List.mem_cons_of_mem _ (List.mem_map.mpr ⟨c, m, rfl⟩))
    have hx : PyData.strOk x = true := h x List.mem_cons_self
    refine Ly.tuple (k := 4) (lyA_of fun d m => ?_)
    simp only [List.mem_cons, List.not_mem_nil, or_false] at m
    rcases m with rfl | rfl | rfl | rfl
    · exact (ly_str (by decide +kernel)).mono (by decide)
    · exact (ly_str hx).mono (by decide)
    · exact (ly_rg _).mono (by decide)
    · exact ly_cds hc
  | .stp x y f a rr cs, h =>
    have hc : ∀ c ∈ cs, PyData.strOk c.1 = true := fun c m => h c.1 (List.mem_cons_of_mem _ (List.mem_cons_of_mem _ (List.mem_map.mpr ⟨c, m, rfl⟩)))
    have hx : PyData.strOk x = true := h x List.mem_cons_self
    have hy : PyData.strOk y = true := h y (List.mem_cons_of_mem _ List.mem_cons_self)
    refine Ly.tuple (k := 4) (lyA_of fun d m => ?_)
    simp only [List.mem_cons, List.not_mem_nil, or_false] at m
    rcases m with rfl | rfl | rfl | rfl | rfl | rfl | rfl
    · exact (ly_str (by decide +kernel)).mono (by decide)
    · exact (ly_str hx).mono (by decide)
    · exact (ly_str hy).mono (by decide)
    · exact (Ly.int _).mono (by decide)
    · exact (Ly.int _).mono (by decide)
    · exact (ly_rg _).mono (by decide)
    · exact ly_cds hc
/-- all texts of a system are such that can be laid -/
def Laid (ns : List Str) (rs : List Rl) : Prop := (∀ x ∈ ns, PyData.strOk x = true) ∧ ∀ r ∈ rs, ∀ x ∈ r.names, PyData.strOk x = true
theorem Laid.ns {ns : List Str} {rs : List Rl} (h : Laid ns rs) : Ly 2 (.list (ns.map PyData.str)) := Ly.list (lyA_of fun d m => by
  obtain ⟨x, mx, rfl⟩ := List.mem_map.mp m
  exact ly_str (h.1 x mx))
theorem Laid.rs {ns : List Str} {rs : List Rl} (h : Laid ns rs) : Ly 6 (.list (rs.map Rl.d)) := Ly.list (lyA_of fun d m => by
  obtain ⟨r, mr, rfl⟩ := List.mem_map.mp m
  exact ly_rl (h.2 r mr))
/-- what == tells of two systems -/
def eqS (ns ns' : List Str) (rs rs' : List Rl) : Bool := PyData.eqv (.list (ns.map PyData.str)) (.list (ns'.map PyData.str)) && PyData.eqv (.list (rs.map Rl.d)) (.list (rs'.map Rl.d))

def base6 : List Str := ["x", "y", "ab", "jkv", "q", "lowhere"]
def rowS (x : Str) : Str := ("row" : Str) ++ cutS x none (some 5)
def pool : List Str := base6 ++ base6.map rowS
/-- drawn names -/
structure WordsOk (ws : List Str) : Prop where
  nd : ws.Nodup
  pl : ∀ x ∈ ws, x ∈ pool
theorem pool_ok : ∀ x ∈ pool, nameOk x = true := by decide +kernel
theorem base_nd : base6.Nodup := by decide +kernel
theorem row_nd : (base6.map rowS).Nodup := by decide +kernel
theorem base_short : ∀ x ∈ base6, x.length ≤ 7 := by decide +kernel
theorem words_base {ws left : List Str} (h : (ws ++ left).Perm base6) : WordsOk ws := by
  have nd : (ws ++ left).Nodup := h.nodup_iff.mpr base_nd
  exact ⟨(List.nodup_append.mp nd).1, fun x m => List.mem_append_left _ (h.mem_iff.mp (List.mem_append_left _ m))⟩
theorem words_row {ws left : List Str} (h : (ws ++ left).Perm base6) : WordsOk (ws.map rowS) := by
  have h2 : ((ws ++ left).map rowS).Perm (base6.map rowS) := h.map _
  have nd : ((ws ++ left).map rowS).Nodup := h2.nodup_iff.mpr row_nd
  rw [List.map_append] at nd
  refine ⟨(List.nodup_append.mp nd).1, fun x m => List.mem_append_right _ ?_⟩
  obtain ⟨y, my, rfl⟩ := List.mem_map.mp m
  exact List.mem_map.mpr ⟨y, h.mem_iff.mp (List.mem_append_left _ my), rfl⟩
theorem eraseIdx_map {α β : Type} (f : α → β) : ∀ (l : List α) (k : Nat), (l.map f).eraseIdx k = (l.eraseIdx k).map f
  | [], _ => rfl
  | _ :: _, 0 => rfl
  | a :: l, k + 1 => by
    show f a :: (l.map f).eraseIdx k = f a :: (l.eraseIdx k).map f
    rw [eraseIdx_map f l k]
theorem erase_perm {α : Type} {x : α} : ∀ {l : List α} {k : Nat}, l[k]? = some x → (x :: l.eraseIdx k).Perm l
  | [], _, h => by simp at h
  | a :: l, 0, h => by
    have e : a = x := Option.some.inj h
    subst e
    exact .refl _
  | a :: l, k + 1, h => by
    have ih := erase_perm (l := l) (k := k) (by simpa using h)
    show (x :: a :: l.eraseIdx k).Perm (a :: l)
    exact (List.Perm.swap a x _).trans (ih.cons a)
theorem seqIx {n : Nat} {d : Int} (h0 : 0 ≤ d) (h1 : d < (n : Int)) : seqIndex? d n = some d.toNat := by
  refine (ixN_seq (i := d) ?_).1
  unfold ixN
  rw [if_pos h0, if_pos h1]
theorem ty_lst {K : PySem.W.Frag} {H : Hp} {p : Addr} {xs : List V} (e : H p = some (.lst xs)) : tyV K "list" (.ref p) H := .inl ⟨rfl, xs, .inl (.inl e)⟩
theorem Kp.none_of {g D : Addr} {n : Nat} {H H' : Hp} (k : Kp g H H') (r : RS n H' g) (nD : H' D = none) : H D = none := by
  cases e : H D with
  | none => rfl
  | some o =>
    rw [k _ _ (r.fresh nD) e] at nD
    cases nD
theorem cut_short : ∀ x ∈ base6, (cutS x none (some 5)).length ≤ 7 := by decide +kernel


/-- a drawn range that is not empty -/
def RgGd (r : Rg) : Prop := badR r = false ∧ RgIn (10 ^ 31) r

@[reducible] def nbOk : Rl → Prop
  | .set _ _ _ => True
  | .stp _ _ f a _ _ => f.natAbs ≤ 10 ∧ a.natAbs ≤ 10 ^ 32
/-- a rule drawn for the names ws -/
structure RlGd (ws : List Str) (r : Rl) : Prop where
  nm : ∀ x ∈ r.names, x ∈ ws
  rg : ∀ x ∈ r.rgs, RgGd x
  nz : r.zero = false
  cs : r.cs.length ≤ 2
  nb : nbOk r
theorem RlGd.mono {ws ws' : List Str} {r : Rl} (h : RlGd ws r) (k : ∀ x ∈ ws, x ∈ ws') : RlGd ws' r := ⟨fun x m => k x (h.nm x m), h.rg, h.nz, h.cs, h.nb⟩
theorem str_at {ws : List Str} {d : Int} (h0 : 0 ≤ d) (h1 : d < (ws.length : Int)) : ∃ x ∈ ws, atI (ws.map V.str) d = some (.str x) := by
  obtain ⟨v, e, m⟩ := pick_mem (xs := ws.map V.str) h0 (by rw [List.length_map]; exact h1)
  obtain ⟨x, mx, rfl⟩ := List.mem_map.mp m
  exact ⟨x, mx, e⟩
theorem pick_size {a b d : Int} (a0 : 0 ≤ a) (a1 : a < 9) (b0 : 0 ≤ b) (b1 : b < 9) (h0 : 0 ≤ d) (h1 : d < 8) :
    ∃ z : Int, atI [V.int 1, .int 1, .int 1, .int (-1), .int 2, .int (-2), .int (1 + a), .int (0 - 1 - b)] d = some (.int z) ∧ z ≠ 0 ∧ z.natAbs ≤ 10 := by
  obtain ⟨v, e, m⟩ := pick_mem (xs := [V.int 1, .int 1, .int 1, .int (-1), .int 2, .int (-2), .int (1 + a), .int (0 - 1 - b)]) h0 h1
  simp only [List.mem_cons, List.not_mem_nil, or_false] at m
  rcases m with rfl | rfl | rfl | rfl | rfl | rfl | rfl | rfl <;> exact ⟨_, e, by omega, by omega⟩
theorem pick_plus {a b far d : Int} (a0 : 0 ≤ a) (a1 : a < 19) (b0 : 0 ≤ b) (b1 : b < 199) (f0 : -(10 ^ 31) ≤ far) (f1 : far ≤ 10 ^ 31) (h0 : 0 ≤ d) (h1 : d < 7) :
    ∃ z : Int, atI [V.int 0, .int 1, .int (-1), .int (a - 9), .int (b - 99), .int far, .int (0 - far)] d = some (.int z) ∧ z.natAbs ≤ 10 ^ 32 := by
  have t : (10 : Nat) ^ 32 = 100000000000000000000000000000000 := by decide
  have big : (10 : Int) ^ 31 = 10000000000000000000000000000000 := by decide
  rw [big] at f0 f1
  obtain ⟨v, e, m⟩ := pick_mem (xs := [V.int 0, .int 1, .int (-1), .int (a - 9), .int (b - 99), .int far, .int (0 - far)]) h0 h1
  simp only [List.mem_cons, List.not_mem_nil, or_false] at m
  rw [t]
  rcases m with rfl | rfl | rfl | rfl | rfl | rfl | rfl <;> exact ⟨_, e, by omega⟩
theorem dpa_snoc {K : PySem.W.Frag} {H : Hp} {ys : List V} {y : V} {cs : List Cd} {c : Cd} (h : DpAll K H ys (cs.map cdD)) (d : Dp K H y (cdD c)) : DpAll K H (ys ++ [y]) ((cs ++ [c]).map cdD) := by
  rw [List.map_append]
  exact dpa_app h (dpa_one d)
theorem noL_map (cs : List Cd) : ∀ d ∈ cs.map cdD, NoL d := fun d m => by
  obtain ⟨c, _, rfl⟩ := List.mem_map.mp m
  exact noL_cd c
theorem RgV.kl {K : PySem.W.Frag} {H H' : Hp} {a : Addr} {v : V} {r : Rg} (k : Kl a H H') (h : RgV K H v r) : RgV K H' v r := by
  obtain ⟨⟨ys, e⟩, kp⟩ := k
  exact RgV.kpl kp e h

/-- rules drawn for the names ws -/
def RowsGd (ws : List Str) (rs : List Rl) : Prop := ∀ r ∈ rs, RlGd ws r
theorem noL_rls (rs : List Rl) : ∀ d ∈ rs.map Rl.d, NoL d := fun d m => by
  obtain ⟨r, _, rfl⟩ := List.mem_map.mp m
  exact noL_rl r
theorem ten9 : CPowW 10 9 := ⟨by decide, by decide⟩
theorem pick_far {d : Int} (h0 : 0 ≤ d) (h1 : d < 3) :
    ∃ z : Int, atI [V.int 99, .int ((10 : Int) ^ (9 : Int).toNat), .int ((10 : Int) ^ (31 : Int).toNat)] d = some (.int z) ∧ -(10 ^ 31) ≤ z ∧ z ≤ 10 ^ 31 := by
  obtain ⟨v, e, m⟩ := pick_mem (xs := [V.int 99, .int ((10 : Int) ^ (9 : Int).toNat), .int ((10 : Int) ^ (31 : Int).toNat)]) h0 h1
  simp only [List.mem_cons, List.not_mem_nil, or_false] at m
  rcases m with rfl | rfl | rfl
  · exact ⟨_, e, by decide, by decide⟩
  · exact ⟨_, e, by decide, by decide⟩
  · exact ⟨_, e, by decide, by decide⟩

def BadX (cs : List Addr) (j : Nat) (H : Hp) (v : V) (E : XK) : Prop := ∃ c, cs[j]? = some c ∧ ∀ d H', Same H H' → H d = none → H' d = some (.xd [("value", v)]) → E (.ref c) (some d) H'
theorem same_none {H H' : Hp} {l : Addr} (k : Same H H') (e : H' l = none) : H l = none := by
  cases z : H l with
  | none => rfl
  | some u => rw [k _ _ z] at e; cases e
theorem BadX.same {cs : List Addr} {j : Nat} {H H' : Hp} {v : V} {E : XK} (k : Same H H') (b : BadX cs j H v E) : BadX cs j H' v E := by
  obtain ⟨c, ec, h⟩ := b
  exact ⟨c, ec, fun d H2 k2 n e => h d H2 (k.trans k2) (same_none k n) e⟩





def sp_is_name (K : PySem.W.Frag) : Sp := fun vs H Q _ => ∃ x : Str, vs = [.str x] ∧ x.cps.size ≤ 100000 ∧ ∀ H', Same H H' → Q (.bl (nameOk x)) H'

def bagK (ga : Addr) (l t bl : Int) : List (Key × V) := [(.inr "great", .ref ga), (.inr "left", .int l), (.inr "turn", .int t), (.inr "blend", .int bl)]
/-- a bag of draws: its record and its list of great cells -/
structure Bg (n : Nat) (H : Hp) (b ga : Addr) : Prop where
  ok : ∃ (ms : List Int) (l t bl : Int), H b = some (.dK (bagK ga l t bl)) ∧ H ga = some (.lst (ms.map V.int)) ∧ ms.length ≤ 63 ∧ (∀ m ∈ ms, 0 ≤ m) ∧ 0 ≤ l ∧ 0 ≤ t ∧ t ≤ n ∧ 0 ≤ bl ∧ bl < 2305843009213693951
/-- all but the bag stays -/
def Kb (b ga : Addr) (H H' : Hp) : Prop := ∀ c o, c ≠ b → c ≠ ga → H c = some o → H' c = some o
theorem Kb.refl {b ga : Addr} {H : Hp} : Kb b ga H H := fun _ _ _ _ e => e
theorem Kb.trans {b ga : Addr} {H H' H'' : Hp} (k : Kb b ga H H') (k' : Kb b ga H' H'') : Kb b ga H H'' := fun c o n m e => k' c o n m (k c o n m e)
theorem Kb.of {b ga : Addr} {H H' : Hp} (k : Same H H') : Kb b ga H H' := fun c o _ _ e => k c o e
theorem Bg.mono {n m : Nat} {H : Hp} {b ga : Addr} (h : Bg n H b ga) (l : n ≤ m) : Bg m H b ga := by
  obtain ⟨ms, l', t, bl, h1, h2, h3, h4, h5, h6, h7, h8⟩ := h.ok
  exact ⟨ms, l', t, bl, h1, h2, h3, h4, h5, h6, by omega, h8⟩
theorem Bg.same {n : Nat} {H H' : Hp} {b ga : Addr} (h : Bg n H b ga) (k : Same H H') : Bg n H' b ga := by
  obtain ⟨ms, l', t, bl, h1, h2, r⟩ := h.ok
  exact ⟨ms, l', t, bl, k _ _ h1, k _ _ h2, r⟩
theorem Bg.fresh {n : Nat} {H : Hp} {b ga c : Addr} (h : Bg n H b ga) (e : H c = none) : c ≠ b ∧ c ≠ ga := by
  obtain ⟨ms, l', t, bl, h1, h2, r⟩ := h.ok
  exact ⟨fun z => (by rw [z, h1] at e; cases e), fun z => (by rw [z, h2] at e; cases e)⟩
/-- a tuple is not the bag's -/
theorem Bg.tup {n : Nat} {H : Hp} {b ga c : Addr} {xs : List V} (h : Bg n H b ga) (e : H c = some (.tup xs)) : c ≠ b ∧ c ≠ ga := by
  obtain ⟨ms, l', t, bl, h1, h2, r⟩ := h.ok
  exact ⟨fun z => (by rw [z, h1] at e; cases e), fun z => (by rw [z, h2] at e; cases e)⟩
theorem bag_left {H : Hp} {b ga : Addr} {l t bl : Int} (e : H b = some (.dK (bagK ga l t bl))) : DGet H b (.str "left") (some (.int l)) := DGet.k (k := .inr "left") e
theorem bag_great {H : Hp} {b ga : Addr} {l t bl : Int} (e : H b = some (.dK (bagK ga l t bl))) : DGet H b (.str "great") (some (.ref ga)) := DGet.k (k := .inr "great") e
theorem bag_turn {H : Hp} {b ga : Addr} {l t bl : Int} (e : H b = some (.dK (bagK ga l t bl))) : DGet H b (.str "turn") (some (.int t)) := DGet.k (k := .inr "turn") e
theorem bag_blend {H : Hp} {b ga : Addr} {l t bl : Int} (e : H b = some (.dK (bagK ga l t bl))) : DGet H b (.str "blend") (some (.int bl)) := DGet.k (k := .inr "blend") e
theorem bag_put_left {H : Hp} {b ga : Addr} {l t bl v : Int} (e : H b = some (.dK (bagK ga l t bl))) : DPut H b (.str "left") (.int v) (upd H b (.dK (bagK ga v t bl))) := DPut.k (k := .inr "left") (v := .int v) e (by show 4 < sizeLine; decide)
theorem bag_put_turn {H : Hp} {b ga : Addr} {l t bl v : Int} (e : H b = some (.dK (bagK ga l t bl))) : DPut H b (.str "turn") (.int v) (upd H b (.dK (bagK ga l v bl))) := DPut.k (k := .inr "turn") (v := .int v) e (by show 4 < sizeLine; decide)

theorem sqW {x : Int} {a : Nat} (h : x.natAbs < 2 ^ a) (h0 : 0 < a) (h2 : a ≤ 1000000) : CPowW x 2 := by
  have l := PySem.Flt.log2_lt_of h0 h
  have b : Builtin.Int.intBits x ≤ x.natAbs.log2 + 1 := by
    unfold Builtin.Int.intBits
    split <;> omega
  refine ⟨by decide, ?_⟩
  have e : (2 : Int) ^ 27 = 134217728 := by decide
  rw [e]
  omega

theorem SqT.kb {K : PySem.W.Frag} {H H' : Hp} {b ga t : Addr} {n : Nat} {xs : List V} (bg : Bg n H b ga) (k : Kb b ga H H') (h : SqT K H t xs) : SqT K H' t xs := by
  obtain ⟨ms, l, tt, bl, hb, hg, _⟩ := bg.ok
  rcases h with h | h
  · rcases h with h | ⟨od, h⟩
    · exact .inl (.inl (k _ _ (fun z => by rw [z, hb] at h; cases h) (fun z => by rw [z, hg] at h; cases h) h))
    · exact .inl (.inr ⟨od, k _ _ (fun z => by rw [z, hb] at h; cases h) (fun z => by rw [z, hg] at h; cases h) h⟩)
  · exact .inr h
mutual
theorem dp_kb {K : PySem.W.Frag} {H H' : Hp} {b ga : Addr} {n : Nat} (bg : Bg n H b ga) (k : Kb b ga H H') : ∀ {v : V} {d : PyData}, Dp K H v d → NoL d → Dp K H' v d
  | _, _, .non, _ => .non
  | _, _, .bl b, _ => .bl b
  | _, _, .int i, _ => .int i
  | _, _, .str x, _ => .str x
  | _, _, .tup s x, n => .tup (SqT.kb bg k s) (dpa_kb bg k x (match n with | .tup h => h))
  | _, _, .lst s x, n => nomatch n
theorem dpa_kb {K : PySem.W.Frag} {H H' : Hp} {b ga : Addr} {n : Nat} (bg : Bg n H b ga) (k : Kb b ga H H') : ∀ {v : List V} {d : List PyData}, DpAll K H v d → (∀ x ∈ d, NoL x) → DpAll K H' v d
  | _, _, .nil, _ => .nil
  | _, _, .cons x y, n => .cons (dp_kb bg k x (n _ (by simp))) (dpa_kb bg k y fun z m => n z (by simp [m]))
end
theorem RgV.kb {K : PySem.W.Frag} {H H' : Hp} {b ga : Addr} {n : Nat} {v : V} {r : Rg} (bg : Bg n H b ga) (k : Kb b ga H H') (h : RgV K H v r) : RgV K H' v r := by
  match r, h with
  | none, h => exact h
  | some (l, u), ⟨t, e, s⟩ => exact ⟨t, e, SqT.kb bg k s⟩
theorem RgIn.up {m m' : Int} {r : Rg} (h : RgIn m r) (l : m ≤ m') : RgIn m' r := by
  have b : ∀ o, BdOk m o → BdOk m' o := fun o h => by
    cases o with
    | none => trivial
    | some i =>
      have h' : -m ≤ i ∧ i ≤ m := h
      show -m' ≤ i ∧ i ≤ m'
      omega
  match r, h with
  | none, _ => trivial
  | some (l, u), h => exact ⟨b l h.1, b u h.2⟩
/-- a list of ours -/
theorem Kb.lst {K : PySem.W.Frag} {H H' : Hp} {b ga w : Addr} {xs : List V} (k : Kb b ga H H') (wb : w ≠ b) (wg : w ≠ ga) (h : SqL K H w xs) : SqL K H' w xs := by
  rcases h with h | h
  · rcases h with h | ⟨od, h⟩
    · exact .inl (.inl (k _ _ wb wg h))
    · exact .inl (.inr ⟨od, k _ _ wb wg h⟩)
  · exact .inr h
def title1 : List Str := ["x", "xy", "y", "z", "za", "zj"]
def title2 : List Str := ["count", "counterx", "countery", "counterz", "countr", "kv"]
/-- drawn names -/
def TitlesOk (ts : List Str) : Prop := ∃ k : Nat, 1 ≤ k ∧ k ≤ 6 ∧ (ts = title1.take k ∨ ts = title2.take k)
theorem TitlesOk.len {ts : List Str} (h : TitlesOk ts) : 1 ≤ ts.length ∧ ts.length ≤ 6 := by
  obtain ⟨k, k1, k6, rfl | rfl⟩ := h
  · rw [List.length_take]; show 1 ≤ min k 6 ∧ min k 6 ≤ 6; omega
  · rw [List.length_take]; show 1 ≤ min k 6 ∧ min k 6 ≤ 6; omega
theorem title1_ok : title1.Nodup ∧ ∀ x ∈ title1, nameOk x = true := ⟨by decide +kernel, by decide +kernel⟩
theorem title2_ok : title2.Nodup ∧ ∀ x ∈ title2, nameOk x = true := ⟨by decide +kernel, by decide +kernel⟩
theorem TitlesOk.ok {ts : List Str} (h : TitlesOk ts) : ts.Nodup ∧ ∀ x ∈ ts, nameOk x = true := by
  obtain ⟨k, k1, k6, rfl | rfl⟩ := h
  · exact ⟨title1_ok.1.sublist (List.take_sublist _ _), fun x m => title1_ok.2 x (List.mem_of_mem_take m)⟩
  · exact ⟨title2_ok.1.sublist (List.take_sublist _ _), fun x m => title2_ok.2 x (List.mem_of_mem_take m)⟩
theorem cut_upto' (xs : List V) (k : Nat) : cutV xs none (some (k : Int)) = xs.take k := by
  unfold cutV
  rw [HT.sIx_none, HT.sIx_nat, List.drop_zero, Nat.sub_zero]
  by_cases h : k ≤ xs.length
  · rw [Nat.min_eq_left h]
  · rw [Nat.min_eq_right (by omega), List.take_length, List.take_of_length_le (by omega)]


def sp__law_bag (K : PySem.W.Frag) : Sp := fun vs H Q _ => ∃ (a : Addr) (ns : List Int), vs = [.ref a] ∧ SqL K H a (ns.map V.int) ∧ ns.length ≤ 63 ∧
  ∀ b ga H', Same H H' → H b = none → H ga = none → Bg 0 H' b ga → Q (.ref b) H'

def sp__law_draw (_ : PySem.W.Frag) : Sp := fun vs H Q _ => ∃ b ga m n, vs = [.ref b, .int m] ∧ Bg n H b ga ∧ n ≤ 1000000 ∧ 0 < m ∧ m.natAbs < 2 ^ 200 ∧
  ∀ r H', 0 ≤ r → r < m → Kb b ga H H' → Bg (n + 1) H' b ga → Q (.int r) H'

def sp__law_reach (K : PySem.W.Frag) : Sp := fun vs H Q _ => ∃ b ga span n, vs = [.ref b, .int span] ∧ Bg n H b ga ∧ n ≤ 900000 ∧ 1 ≤ span ∧ span ≤ 1000 ∧
  ∀ v r H', badR r = false → RgIn (2 * span) r → RgV K H' v r → Kb b ga H H' → Bg (n + 3) H' b ga → Q v H'


def sp__law_rule (K : PySem.W.Frag) : Sp := fun vs H Q _ => ∃ b ga w n ts, vs = [.ref b, .ref w] ∧ Bg n H b ga ∧ n ≤ 800000 ∧ w ≠ b ∧ w ≠ ga ∧ SqL K H w (ts.map V.str) ∧ ts ≠ [] ∧ ts.length ≤ 1000 ∧
  ∀ v r H', RlGd ts r → Kb b ga H H' → Bg (n + 20) H' b ga → Dp K H' v (Rl.d r) → Q v H'


/-! ### signs of texts -/
theorem tl_lit (s : String) : TL.tl (Str.ofString s) = s.toList.map Char.toNat := TL.tl_ofString s
theorem tl_minus : TL.tl "-" = [45] := by rw [TL.tl_ofString]; rfl
theorem tl_zero : TL.tl "0" = [48] := by rw [TL.tl_ofString]; rfl
theorem tl_dots : TL.tl ".." = [46, 46] := by rw [TL.tl_ofString]; rfl
theorem tl_none : TL.tl "none" = [110, 111, 110, 101] := by rw [TL.tl_ofString]; rfl
theorem tl_empty : TL.tl "" = [] := by rw [TL.tl_ofString]; rfl
theorem len_lit (s : String) : (Str.ofString s).length = s.toList.length := by rw [TL.len_tl, tl_lit, List.length_map]
theorem len_e : (Str.ofString "").length = 0 := len_lit _
theorem len_m : (Str.ofString "-").length = 1 := len_lit _
theorem len_dd : (Str.ofString "..").length = 2 := len_lit _
theorem str_dec {a b : Str} : decide (V.str a = V.str b) = decide (TL.tl a = TL.tl b) := by
  by_cases h : TL.tl a = TL.tl b
  · rw [decide_eq_true h, decide_eq_true (by rw [TL.ext_tl h])]
  · rw [decide_eq_false h, decide_eq_false (fun z => h (by cases z; rfl))]
/-! ### integers in texts -/
def digL (l : List Nat) : Bool := l.all fun c => decide (48 ≤ c ∧ c ≤ 57)
theorem digL_all {l : List Nat} : digL l = true ↔ NumText.AllDigits l := by
  unfold digL
  rw [List.all_eq_true]
  exact ⟨fun h c m => of_decide_eq_true (h c m), fun h c m => decide_eq_true (h c m)⟩
/-- what is left behind a minus -/
def unneg : List Nat → List Nat
  | 45 :: r => r
  | l => l
def isneg : List Nat → Bool
  | 45 :: _ => true
  | _ => false
theorem unneg_of {c : Nat} {r : List Nat} (h : c ≠ 45) : unneg (c :: r) = c :: r := by
  unfold unneg
  split
  · rename_i e; cases e; exact absurd rfl h
  · rfl
theorem isneg_of {c : Nat} {r : List Nat} (h : c ≠ 45) : isneg (c :: r) = false := by
  unfold isneg
  split
  · rename_i e; cases e; exact absurd rfl h
  · rfl
theorem neg_cases (l : List Nat) : (isneg l = true ∧ l = 45 :: unneg l) ∨ (isneg l = false ∧ unneg l = l) := by
  cases l with
  | nil => exact .inr ⟨rfl, rfl⟩
  | cons c r =>
    by_cases h : c = 45
    · subst h
      exact .inl ⟨rfl, rfl⟩
    · exact .inr ⟨isneg_of h, unneg_of h⟩
theorem unneg_len (l : List Nat) : (unneg l).length ≤ l.length := by
  rcases neg_cases l with ⟨_, h⟩ | ⟨_, h⟩
  · have := congrArg List.length h
    rw [List.length_cons] at this
    omega
  · rw [h]
    exact Nat.le_refl _
def numI (l : List Nat) : Int := if isneg l = true then -((NumText.digitsVal (unneg l) : Nat) : Int) else ((NumText.digitsVal (unneg l) : Nat) : Int)
def okI (l : List Nat) : Bool := decide (1 ≤ (unneg l).length) && decide ((unneg l).length ≤ 45) && digL (unneg l) && !(decide ((unneg l).head? = some 48) && decide (l ≠ [48]))
/-- the integer with a text -/
def readI (l : List Nat) : Option Int := if okI l = true then some (numI l) else none
theorem okI_parts {l : List Nat} (h : okI l = true) : 1 ≤ (unneg l).length ∧ (unneg l).length ≤ 45 ∧ digL (unneg l) = true ∧ ((unneg l).head? = some 48 → l = [48]) := by
  unfold okI at h
  simp only [Bool.and_eq_true, decide_eq_true_eq, Bool.not_eq_true'] at h
  obtain ⟨⟨⟨h1, h2⟩, h3⟩, h4⟩ := h
  refine ⟨h1, h2, h3, fun e => Classical.byContradiction fun z => ?_⟩
  rw [decide_eq_true e, decide_eq_true z] at h4
  cases h4
theorem okI_mk {l : List Nat} (h1 : 1 ≤ (unneg l).length) (h2 : (unneg l).length ≤ 45) (h3 : digL (unneg l) = true) (h4 : (unneg l).head? = some 48 → l = [48]) : okI l = true := by
  unfold okI
  rw [decide_eq_true h1, decide_eq_true h2, h3]
  by_cases z : (unneg l).head? = some 48
  · have e : decide (l ≠ [48]) = false := decide_eq_false fun y => y (h4 z)
    rw [e, Bool.and_false]
    rfl
  · rw [decide_eq_false z]
    rfl
theorem tl_removeprefix (a : Str) : TL.tl (Txt.removeprefix a "-") = unneg (TL.tl a) := by
  rw [StrLaws.removeprefix_eq]
  have l1 : ("-" : Str).length = 1 := by rw [TL.len_tl, tl_minus]; rfl
  have la := TL.len_tl a
  cases e : TL.tl a with
  | nil =>
    rw [e] at la
    rw [l1, if_neg (by rw [la]; exact Bool.false_ne_true), e]
    rfl
  | cons c r =>
    rw [e, List.length_cons] at la
    have d1 : decide (0 + ("-" : Str).length ≤ a.length) = true := decide_eq_true (by rw [l1]; omega)
    have sb : Builtin.Str.subAt a "-" 0 = (c == 45) := by
      have z := StrLaws.subAt_eq a "-" 0
      rw [z, l1]
      have e' : a.cps.toList = c :: r := e
      rw [e', show ("-" : Str).cps.toList = [45] from tl_minus]
      show ([c] == [45]) = _
      rw [List.cons_beq_cons]
      simp
    rw [d1, sb, Bool.true_and]
    by_cases h : c = 45
    · subst h
      rw [if_pos (show ((45 : Nat) == 45) = true from rfl)]
      show ((a.cps.toList.drop _).take _) = _
      rw [l1, show a.cps.toList = 45 :: r from e]
      show r.take (a.length - 1) = r
      rw [la, Nat.add_sub_cancel, List.take_length]
    · rw [if_neg (by intro z; exact h (eq_of_beq z)), e, unneg_of h]
theorem int_read {a : Str} (h : okI (TL.tl a) = true) : PySem.intText? a = some (numI (TL.tl a)) ∧ a.length ≤ 640 := by
  obtain ⟨h1, h2, h3, _⟩ := okI_parts h
  have la := TL.len_tl a
  have ad := digL_all.mp h3
  have ne : unneg (TL.tl a) ≠ [] := fun z => by rw [z] at h1; exact absurd h1 (by decide)
  rcases neg_cases (TL.tl a) with ⟨e1, e2⟩ | ⟨e1, e2⟩
  · have ll := congrArg List.length e2
    rw [List.length_cons] at ll
    refine ⟨?_, by omega⟩
    have z := PySem.intText_neg (x := a) e2 ad ne (by omega)
    rw [z]
    unfold numI
    rw [if_pos e1]
  · have ll := congrArg List.length e2
    refine ⟨?_, by omega⟩
    rw [e2] at ad ne
    have z := PySem.intText_digits (x := a) ad ne (by omega)
    rw [z]
    unfold numI
    rw [if_neg (by rw [e1]; exact Bool.false_ne_true), e2]
/-! ### shown integers -/
def showI (n : Int) : Str := Str.ofString (toString n)
theorem tl_showI (n : Int) : TL.tl (showI n) = (if n < 0 then [45] else []) ++ TL.numL n.natAbs := by
  by_cases h : n < 0
  · rw [if_pos h]
    unfold showI
    have e : toString n = "-" ++ toString (0 - n) := PyProof.Rows.toString_neg h
    rw [e, TL.tl_ofString, String.toList_append, List.map_append]
    have e2 : (0 - n) = ((n.natAbs : Nat) : Int) := by omega
    rw [e2]
    have z := TL.tl_num n.natAbs
    rw [TL.tl_ofString] at z
    rw [z]
    rfl
  · rw [if_neg h]
    have e2 : n = ((n.natAbs : Nat) : Int) := by omega
    unfold showI
    rw [List.nil_append]
    conv => lhs; rw [e2]
    exact TL.tl_num n.natAbs
theorem numL_head {n : Nat} : (TL.numL n).head? = some 48 → n = 0 := by
  induction n using Nat.strongRecOn with
  | _ n ih =>
    intro h
    by_cases c : n < 10
    · rw [TL.numL_lt c] at h
      have : 48 + n = 48 := Option.some.inj h
      omega
    · rw [TL.numL_step (by omega), List.head?_append] at h
      have ne := TL.numL_ne (n / 10)
      cases e : (TL.numL (n / 10)).head? with
      | none => exact absurd (List.head?_eq_none_iff.mp e) ne
      | some x =>
        rw [e] at h
        have hx : x = 48 := Option.some.inj h
        subst hx
        have := ih (n / 10) (by omega) e
        omega
theorem numL_not45 {n : Nat} : ∀ {c : Nat} {r : List Nat}, TL.numL n = c :: r → c ≠ 45 := fun {c r} e z => by
  have := TL.numL_digits n c (by rw [e]; exact List.mem_cons_self)
  omega
theorem isneg_num (n : Nat) : isneg (TL.numL n) = false ∧ unneg (TL.numL n) = TL.numL n := by
  cases e : TL.numL n with
  | nil => exact ⟨rfl, rfl⟩
  | cons c r => exact ⟨isneg_of (numL_not45 e), unneg_of (numL_not45 e)⟩
theorem read_showI {n : Int} (h : n.natAbs < 10 ^ 45) : readI (TL.tl (showI n)) = some n := by
  have ln : (TL.numL n.natAbs).length ≤ 45 := TL.numL_len (by decide) h
  have ne := TL.numL_ne n.natAbs
  have l1 : 1 ≤ (TL.numL n.natAbs).length := List.length_pos_iff.mpr ne
  obtain ⟨i1, i2⟩ := isneg_num n.natAbs
  have dg := digL_all.mpr (TL.numL_digits n.natAbs)
  rw [tl_showI]
  by_cases c : n < 0
  · rw [if_pos c]
    have u : unneg ([45] ++ TL.numL n.natAbs) = TL.numL n.natAbs := rfl
    have ok : okI ([45] ++ TL.numL n.natAbs) = true := by
      unfold okI
      rw [u, decide_eq_true l1, decide_eq_true ln, dg]
      have : (TL.numL n.natAbs).head? ≠ some 48 := fun z => by
        have := numL_head z
        omega
      rw [decide_eq_false this]
      rfl
    unfold readI
    rw [if_pos ok]
    unfold numI
    rw [if_pos (show isneg ([45] ++ TL.numL n.natAbs) = true from rfl), u, TL.numL_val]
    congr 1
    omega
  · rw [if_neg c, List.nil_append]
    have ok : okI (TL.numL n.natAbs) = true := by
      unfold okI
      rw [i2, decide_eq_true l1, decide_eq_true ln, dg]
      by_cases z : (TL.numL n.natAbs).head? = some 48
      · have z0 := numL_head z
        rw [z0]
        rfl
      · rw [decide_eq_false z]
        rfl
    unfold readI
    rw [if_pos ok]
    unfold numI
    rw [if_neg (by rw [i1]; exact Bool.false_ne_true), i2, TL.numL_val]
    congr 1
    omega
/-! ### ranges in texts -/
def readB (l : List Nat) : Option (Option Int) := if l = [] then some none else (readI l).map some
def readP (l : List Nat) : Option (Option Int × Option Int) := match TL.par [46, 46] [] l with
  | none => none
  | some (a, b) => match readB a, readB b with
    | some x, some y => if up (some (x, y)) = true then none else some (x, y)
    | _, _ => none
def readR (l : List Nat) : Option Rg := if l = [110, 111, 110, 101] then some none else (readP l).map some
def showB : Option Int → Str
  | none => Str.ofString ""
  | some n => showI n
def showP (p : Option Int × Option Int) : Str := showB p.1 ++ Str.ofString ".." ++ showB p.2
def showR : Rg → Str
  | none => Str.ofString "none"
  | some p => showP p
theorem showI_free {n : Int} : 46 ∉ TL.tl (showI n) := fun m => by
  rw [tl_showI] at m
  rcases List.mem_append.mp m with m | m
  · split at m
    · rw [List.mem_singleton] at m; cases m
    · cases m
  · exact TL.numL_free (.inl (by decide)) m
theorem showB_free {o : Option Int} : 46 ∉ TL.tl (showB o) := by
  cases o with
  | none =>
    show 46 ∉ TL.tl ""
    rw [tl_empty]
    exact List.not_mem_nil
  | some n => exact showI_free
theorem showI_ne (n : Int) : TL.tl (showI n) ≠ [] := fun z => by
  rw [tl_showI] at z
  exact TL.numL_ne _ (List.append_eq_nil_iff.mp z).2
theorem read_showB {o : Option Int} (h : ∀ n, o = some n → n.natAbs < 10 ^ 45) : readB (TL.tl (showB o)) = some o := by
  cases o with
  | none =>
    show readB (TL.tl "") = _
    rw [tl_empty]
    rfl
  | some n =>
    unfold readB
    show (if TL.tl (showI n) = [] then _ else _) = _
    rw [if_neg (showI_ne n), show readI (TL.tl (showB (some n))) = readI (TL.tl (showI n)) from rfl, read_showI (h n rfl)]
    rfl
theorem tl_showP (p : Option Int × Option Int) : TL.tl (showP p) = TL.tl (showB p.1) ++ ([46, 46] ++ TL.tl (showB p.2)) := by
  unfold showP
  rw [TL.tl_append, TL.tl_append, show TL.tl (Str.ofString "..") = [46, 46] from tl_dots, List.append_assoc]
theorem par_showP (p : Option Int × Option Int) : TL.par [46, 46] [] (TL.tl (showP p)) = some (TL.tl (showB p.1), TL.tl (showB p.2)) := by
  rw [tl_showP]
  have z := TL.par_part1 (s := 46) (S := [46]) (p := TL.tl (showB p.1)) (rest := TL.tl (showB p.2)) (acc := []) showB_free
  rw [List.nil_append] at z
  exact z
theorem read_showP {p : Option Int × Option Int} (h1 : ∀ n, p.1 = some n → n.natAbs < 10 ^ 45) (h2 : ∀ n, p.2 = some n → n.natAbs < 10 ^ 45) (u : up (some p) = false) : readP (TL.tl (showP p)) = some p := by
  unfold readP
  rw [par_showP]
  dsimp only
  rw [read_showB h1, read_showB h2]
  dsimp only
  rw [if_neg (by rw [u]; exact Bool.false_ne_true)]
theorem showP_dots (p : Option Int × Option Int) : 46 ∈ TL.tl (showP p) := by
  rw [tl_showP]
  exact List.mem_append_right _ (List.mem_append_left _ List.mem_cons_self)
theorem read_showR {r : Rg} (h : ∀ p, r = some p → (∀ n, p.1 = some n → n.natAbs < 10 ^ 45) ∧ (∀ n, p.2 = some n → n.natAbs < 10 ^ 45)) (u : up r = false) : readR (TL.tl (showR r)) = some r := by
  cases r with
  | none =>
    unfold readR
    rw [show TL.tl (showR none) = [110, 111, 110, 101] from tl_none, if_pos rfl]
  | some p =>
    unfold readR
    have ne : TL.tl (showR (some p)) ≠ [110, 111, 110, 101] := fun z => by
      have m := showP_dots p
      rw [show TL.tl (showP p) = _ from z] at m
      exact absurd m (by decide)
    rw [if_neg ne, show TL.tl (showR (some p)) = TL.tl (showP p) from rfl, read_showP (h p rfl).1 (h p rfl).2 u]
    rfl
theorem numL_len' {n : Nat} (h : n < 10 ^ 45) : (TL.numL n).length ≤ 45 := TL.numL_len (by decide) h
theorem showI_len {n : Int} (h : n.natAbs < 10 ^ 45) : (showI n).length ≤ 46 := by
  rw [TL.len_tl, tl_showI, List.length_append]
  have := numL_len' h
  split <;> simp <;> omega
theorem showB_len {o : Option Int} (h : ∀ n, o = some n → n.natAbs < 10 ^ 45) : (showB o).length ≤ 46 := by
  cases o with
  | none =>
    rw [TL.len_tl]
    show (TL.tl "").length ≤ 46
    rw [tl_empty]
    decide
  | some n => exact showI_len (h n rfl)
theorem len_app (a b : Str) : (a ++ b).length = a.length + b.length := by
  rw [TL.len_tl, TL.tl_append, List.length_append, ← TL.len_tl, ← TL.len_tl]
theorem showR_len {r : Rg} (h : ∀ p, r = some p → (∀ n, p.1 = some n → n.natAbs < 10 ^ 45) ∧ (∀ n, p.2 = some n → n.natAbs < 10 ^ 45)) : (showR r).length ≤ 94 := by
  cases r with
  | none =>
    rw [TL.len_tl]
    show (TL.tl "none").length ≤ 94
    rw [tl_none]
    decide
  | some p =>
    show (showP p).length ≤ 94
    rw [TL.len_tl, tl_showP, List.length_append, List.length_append, ← TL.len_tl, ← TL.len_tl]
    have h1 := showB_len (h p rfl).1
    have h2 := showB_len (h p rfl).2
    show _ + (2 + _) ≤ 94
    omega
/-- cut at each separator, told by the first one -/
theorem spl_par {S : List Nat} (hS : S ≠ []) : ∀ (l acc : List Nat), TL.spl S 0 acc l = match TL.par S acc l with
    | none => [acc ++ l]
    | some (a, b) => a :: TL.spl S 0 [] b
  | [], acc => by
    rw [TL.spl_nil]
    show [acc] = [acc ++ []]
    rw [List.append_nil]
  | c :: r, acc => by
    by_cases h : TL.pre S (c :: r) = true
    · rw [TL.spl_hit h, TL.par_hit h]
      dsimp only
      rw [TL.spl_pass S (S.length - 1) [] r]
      cases S with
      | nil => exact absurd rfl hS
      | cons s S => rfl
    · have h' : TL.pre S (c :: r) = false := by simpa using h
      rw [TL.spl_miss h', TL.par_miss h', spl_par hS r (acc ++ [c])]
      cases e : TL.par S (acc ++ [c]) r with
      | none =>
        dsimp only
        rw [List.append_assoc]
        rfl
      | some p => rfl
theorem par_mem {S : List Nat} : ∀ (l acc : List Nat) {a b : List Nat}, TL.par S acc l = some (a, b) → ∀ s ∈ S, s ∈ l
  | [], acc, a, b, h => by cases h
  | c :: r, acc, a, b, h => by
    by_cases p : TL.pre S (c :: r) = true
    · have e : (c :: r).take S.length = S := eq_of_beq p
      intro s m
      rw [← e] at m
      exact List.mem_of_mem_take m
    · have p' : TL.pre S (c :: r) = false := by simpa using p
      rw [TL.par_miss p'] at h
      intro s m
      exact List.mem_cons_of_mem _ (par_mem r (acc ++ [c]) h s m)
theorem par_len {S : List Nat} : ∀ (l acc : List Nat) {a b : List Nat}, TL.par S acc l = some (a, b) → a.length ≤ acc.length + l.length ∧ b.length ≤ l.length
  | [], acc, a, b, h => by cases h
  | c :: r, acc, a, b, h => by
    by_cases p : TL.pre S (c :: r) = true
    · rw [TL.par_hit p] at h
      cases h
      exact ⟨Nat.le_add_right _ _, by rw [List.length_drop]; omega⟩
    · have p' : TL.pre S (c :: r) = false := by simpa using p
      rw [TL.par_miss p'] at h
      obtain ⟨h1, h2⟩ := par_len r (acc ++ [c]) h
      rw [List.length_append] at h1
      simp only [List.length_cons, List.length_nil] at h1 ⊢
      omega
theorem readI_free {l : List Nat} {n : Int} (h : readI l = some n) : ∀ c ∈ l, c = 45 ∨ (48 ≤ c ∧ c ≤ 57) := by
  unfold readI at h
  by_cases o : okI l = true
  · obtain ⟨_, _, h3, _⟩ := okI_parts o
    have ad := digL_all.mp h3
    intro c m
    rcases neg_cases l with ⟨_, e⟩ | ⟨_, e⟩
    · rw [e] at m
      rcases List.mem_cons.mp m with rfl | m
      · exact .inl rfl
      · exact .inr (ad c m)
    · rw [e] at ad
      exact .inr (ad c m)
  · rw [if_neg o] at h
    cases h
theorem readB_free {l : List Nat} {o : Option Int} (h : readB l = some o) : ∀ c ∈ l, c = 45 ∨ (48 ≤ c ∧ c ≤ 57) := by
  unfold readB at h
  by_cases e : l = []
  · subst e
    intro c m
    cases m
  · rw [if_neg e] at h
    obtain ⟨n, hn, _⟩ := Option.map_eq_some_iff.mp h
    exact readI_free hn
/-- a range's text cut at its dots -/
theorem readP_spl (l : List Nat) : readP l = match TL.spl [46, 46] 0 [] l with
    | [a, b] => (match readB a, readB b with
      | some x, some y => if up (some (x, y)) = true then none else some (x, y)
      | _, _ => none)
    | _ => none := by
  rw [spl_par (by simp) l []]
  unfold readP
  cases e : TL.par [46, 46] [] l with
  | none => rfl
  | some p =>
    obtain ⟨a, b⟩ := p
    dsimp only
    rw [spl_par (by simp) b []]
    cases e2 : TL.par [46, 46] [] b with
    | none =>
      dsimp only
      rw [List.nil_append]
    | some q =>
      obtain ⟨c, d⟩ := q
      dsimp only
      have nb : readB b = none := by
        cases hb : readB b with
        | none => rfl
        | some o =>
          have m := par_mem b [] e2 46 List.mem_cons_self
          have := readB_free hb 46 m
          omega
      rw [nb]
      obtain ⟨c0, cs, ec⟩ : ∃ c0 cs, TL.spl [46, 46] 0 [] d = c0 :: cs := by
        rw [spl_par (by simp) d []]
        cases TL.par [46, 46] [] d with
        | none => exact ⟨_, _, rfl⟩
        | some p => exact ⟨_, _, rfl⟩
      rw [ec]
      cases readB a <;> rfl
def Rg45 (r : Rg) : Prop := ∀ p, r = some p → (∀ n, p.1 = some n → n.natAbs < 10 ^ 45) ∧ (∀ n, p.2 = some n → n.natAbs < 10 ^ 45)
theorem log45 {n : Int} (h : n.natAbs < 10 ^ 45) : n.natAbs.log2 < 1920 := by
  have e : (10 : Nat) ^ 45 = 1000000000000000000000000000000000000000000000 := by decide
  have e2 : (2 : Nat) ^ 150 = 1427247692705959881058285969449495136382746624 := by decide
  have hb : n.natAbs < 2 ^ 150 := by omega
  have := PySem.Flt.log2_lt_of (by decide : 0 < 150) hb
  omega
/-! ### slices, strOk -/
theorem tl_cut (z : Str) (lo hi : Option Int) : TL.tl (cutS z lo hi) = ((TL.tl z).drop (HT.sIx z.length 0 lo)).take (HT.sIx z.length z.length hi - HT.sIx z.length 0 lo) := rfl
theorem cut_from (z : Str) (i : Nat) : TL.tl (cutS z (some (i : Int)) none) = (TL.tl z).drop i := by
  rw [tl_cut, HT.sIx_nat, HT.sIx_none]
  have e := TL.len_tl z
  by_cases h : i ≤ z.length
  · rw [Nat.min_eq_left h, List.take_of_length_le (by rw [List.length_drop]; omega)]
  · rw [Nat.min_eq_right (by omega), List.drop_of_length_le (by omega), List.drop_of_length_le (by omega)]
    simp
theorem cut_sub (z : Str) (lo hi : Option Int) : ∀ d ∈ TL.tl (cutS z lo hi), d ∈ TL.tl z := fun d h => by
  rw [tl_cut] at h
  exact List.mem_of_mem_drop (List.mem_of_mem_take h)
theorem slS {z : Str} {lo hi : Option Int} {H : Hp} {Q : VK} (l : z.length ≤ 10000000) (q : Q (.str (cutS z lo hi)) H) : rSlS (.str z) lo hi H Q := ⟨z, rfl, by rw [sizeLine_eq]; omega, q⟩
theorem slSn {σ : L2.St} {z : Str} {lo : Option Int} {H : Hp} {Q : VK} (l : z.length ≤ 10000000) (q : Q (.str (cutS z lo none)) H) : tNoPart σ H fun u H3 => rSlS (.str z) lo u H3 Q := slS l q
theorem starts_minus (a : Str) : Txt.startswith a "-" = isneg (TL.tl a) := by
  have l1 : ("-" : Str).length = 1 := len_m
  have la := TL.len_tl a
  show (decide (0 + ("-" : Str).length ≤ a.length) && Builtin.Str.subAt a "-" 0) = _
  rw [StrLaws.subAt_eq, show ("-" : Str).cps.toList = [45] from tl_minus, l1]
  show (decide (1 ≤ a.length) && ((TL.tl a).drop 0).take 1 == [45]) = _
  cases e : TL.tl a with
  | nil =>
    rw [e] at la
    rw [la]
    rfl
  | cons c r =>
    rw [e, List.length_cons] at la
    rw [decide_eq_true (by omega : 1 ≤ a.length), Bool.true_and]
    show ([c] == [45]) = _
    rw [List.cons_beq_cons]
    by_cases h : c = 45
    · subst h; rfl
    · rw [isneg_of h]
      simp [h]
def okT (l : List Nat) : Prop := ∀ c ∈ l, c < 1114112
theorem okT_str {a : Str} : PyData.strOk a = true ↔ okT (TL.tl a) := by
  show (a.cps.all fun x => decide (x < 1114112)) = true ↔ _
  rw [← Array.all_toList, List.all_eq_true]
  exact ⟨fun h c m => of_decide_eq_true (h c m), fun h c m => decide_eq_true (h c m)⟩
theorem okT.sub {l m : List Nat} (h : okT m) (s : ∀ d ∈ l, d ∈ m) : okT l := fun c mc => h c (s c mc)
theorem okT.app {l m : List Nat} (h : okT l) (k : okT m) : okT (l ++ m) := fun c mc => (List.mem_append.mp mc).elim (h c) (k c)
theorem dig_in (c : Nat) : decide (c ∈ (Str.ofString "0123456789").cps.toList) = (decide (48 ≤ c) && decide (c ≤ 57)) := by
  have e : (Str.ofString "0123456789").cps.toList = (List.range 10).map (· + 48) := by decide +kernel
  rw [e, Bool.eq_iff_iff, Bool.and_eq_true, decide_eq_true_iff, decide_eq_true_iff, decide_eq_true_iff, List.mem_map]
  constructor
  · rintro ⟨k, mk, rfl⟩
    have := List.mem_range.mp mk
    omega
  · rintro ⟨a, b⟩
    exact ⟨c - 48, List.mem_range.mpr (by omega), by omega⟩
theorem ly_strs {l : List Str} (h : ∀ x ∈ l, okT (TL.tl x)) : Ly 2 (.list (l.map PyData.str)) := Ly.list (lyA_of fun d md => by
  obtain ⟨x, mx, rfl⟩ := List.mem_map.mp md
  exact ly_str (okT_str.mpr (h x mx)))
theorem dpl_strs {K : PySem.W.Frag} {G : Hp} : ∀ l : List Str, DpAll K G (l.map V.str) (l.map PyData.str)
  | [] => .nil
  | x :: l => .cons (.str _) (dpl_strs l)
theorem eqv_nil (l : List PyData) : PyData.eqv (.list l) (.list []) = l.isEmpty := by
  cases l <;> rfl

theorem tl_sp : TL.tl (Str.ofString " ") = [32] := TL.tl_ofString " "
theorem tl_cm : TL.tl (Str.ofString ", ") = [44, 32] := TL.tl_ofString ", "
/-- words of a text -/
def wordsT (l : List Nat) : List (List Nat) := TL.spl [32] 0 [] l
def nameL (l : List Nat) : Bool := (decide (1 ≤ l.length) && decide (l.length ≤ 8)) && l.all fun c => decide (97 ≤ c) && decide (c ≤ 122)
theorem nameL_ok (x : Str) : nameOk x = nameL (TL.tl x) := by
  unfold nameOk nameL
  rw [show x.cps.size = (TL.tl x).length from TL.len_tl x]
def toS (l : List Nat) : Str := ⟨l.toArray⟩
theorem toS_tl (x : Str) : toS (TL.tl x) = x := TL.mk_tl x
theorem tl_toS (l : List Nat) : TL.tl (toS l) = l := TL.tl_mk l
/-- a condition's text -/
def readC (l : List Nat) : Option Cd := match wordsT l with
  | [n, i, r] => if i = [105, 110] ∧ nameL n = true then (readP r).map fun p => (toS n, some p) else none
  | _ => none
def allS {α : Type} : List (Option α) → Option (List α)
  | [] => some []
  | none :: _ => none
  | some x :: r => (allS r).map (x :: ·)
def readCs (l : List Nat) : Option (List Cd) := allS ((TL.spl [44, 32] 0 [] l).map readC)
/-- what stands behind a rule's begin -/
def readWh (ws : List (List Nat)) : Option (List Cd) := match ws with
  | [] => some []
  | w :: r => if w = [119, 104, 101, 110] then readCs (TL.joinL [32] r) else none
def readSg (s d : List Nat) : Option Int := if s = [45] then readI (45 :: d) else if s = [43] ∧ isneg d = false then readI d else none
def readSt (x f y s a : List Nat) (r : Option Rg) (cs : Option (List Cd)) : Option Rl :=
  if f = [48] then none else if nameL x = true ∧ nameL y = true then (match readI f, readSg s a, r, cs with
    | some f, some a, some r, some cs => some (.stp (toS x) (toS y) f a r cs)
    | _, _, _, _ => none) else none
def readSw (x f : List Nat) (rest : List (List Nat)) : Option Rl := match rest with
  | y :: s :: a :: more => (match more with
    | n :: w :: r => if n = [105, 110] ∧ w ≠ [46, 46] then readSt x f y s a ((readP w).map some) (readWh r) else readSt x f y s a (some (some (none, none))) (readWh more)
    | _ => readSt x f y s a (some (some (none, none))) (readWh more))
  | _ => none
/-- the rule of a text's words -/
def readW (ws : List (List Nat)) : Option Rl := match ws with
  | x :: i :: w :: rest =>
    if i = [105, 115] then (if nameL x = true then (match readP w, readWh rest with
      | some p, some cs => some (.set (toS x) (some p) cs)
      | _, _ => none) else none) else if i = [102, 114, 111, 109] then readSw x w rest else none
  | _ => none
def readRl (l : List Nat) : Option Rl := readW (wordsT l)
/-! ### shown rules -/
def showC (c : Cd) : Str := c.1 ++ Str.ofString " in " ++ showR c.2
def condsT (cs : List Cd) : Str := Txt.join (Str.ofString ", ") (cs.map showC)
def wordsS : Rl → List Str
  | .set x r _ => [x, Str.ofString "is", showR r]
  | .stp x y f a r _ => [x, Str.ofString "from", showI f, y, if a < 0 then Str.ofString "-" else Str.ofString "+", showI (if a < 0 then -a else a)] ++ (if r = some (none, none) then [] else [Str.ofString "in", showR r])
def wordsR (r : Rl) : List Str := wordsS r ++ (if r.cs = [] then [] else [Str.ofString "when", condsT r.cs])
def showRl (r : Rl) : Str := Txt.join (Str.ofString " ") (wordsR r)
def Int45 (n : Int) : Prop := n.natAbs < 10 ^ 45
/-- a rule that has a text -/
structure TxOk (r : Rl) : Prop where
  nm : ∀ x ∈ r.names, nameOk x = true
  rg : ∀ g ∈ r.rgs, g ≠ none ∧ Rg45 g ∧ up g = false
  nb : ∀ x y f a g cs, r = .stp x y f a g cs → f ≠ 0 ∧ Int45 f ∧ Int45 a
  ln : r.cs.length ≤ 70000

theorem join_one (y x : Str) : Txt.join y [x] = x := by
  rw [TL.join_eq]
  rfl
theorem showI_cut {n : Int} : (if n < 0 then Str.ofString "-" else Str.ofString "") ++ showI (if n < 0 then -n else n) = showI n := by
  apply TL.ext_tl
  rw [TL.tl_append, tl_showI, tl_showI]
  by_cases c : n < 0
  · rw [if_pos c, if_pos c, if_pos c, if_neg (by omega), List.nil_append, Int.natAbs_neg, show TL.tl (Str.ofString "-") = [45] from tl_minus]
  · rw [if_neg c, if_neg c, if_neg c, show TL.tl (Str.ofString "") = [] from tl_empty]
    rfl
def sp__shown_integer (_ : PySem.W.Frag) : Sp := fun vs H Q _ => ∃ n : Int, vs = [.int n] ∧ n.natAbs < 10 ^ 45 ∧ ∀ H', Same H H' → Q (.str (showI n)) H'

def sp__shown_bound (_ : PySem.W.Frag) : Sp := fun vs H Q _ => ∃ o : Option Int, vs = [ov o] ∧ (∀ n, o = some n → n.natAbs < 10 ^ 45) ∧ ∀ H', Same H H' → Q (.str (showB o)) H'

def sp_show_range (K : PySem.W.Frag) : Sp := fun vs H Q _ => ∃ v r, vs = [v] ∧ RgV K H v r ∧ Rg45 r ∧ RgFit r ∧ ∀ H', Same H H' → Q (.str (showR r)) H'

theorem exm_same {K : PySem.W.Frag} {mg : Str → Option Value} {cs : List Addr} {ns : List Str} {fI c : Addr} {i : Nat} (X : ErrT K mg cs ns fI) (hi : cs[i]? = some c) (l : i < ns.length) : PySem.W.exmOne K (.ref c) (.ref c) = some true := by
  have T0 := X.t i c _ hi (List.getElem?_eq_getElem l)
  unfold PySem.W.exmOne
  rw [T0.ox.exC]
  obtain ⟨nm, q, N, bs, bm, sn, sub, ab, col, dd, k0, k1, k2, k3, k5, e, _⟩ := T0.ox.cls
  have ec : ∃ cd, PySem.W.clsIn K c = some cd ∧ cd.mro = .ref c :: bm := by
    unfold PySem.W.clsIn
    rw [e]
    exact ⟨_, rfl, rfl⟩
  obtain ⟨cd, ec, em⟩ := ec
  show PySem.W.kitCls K (.ref c) (.ref c) = some true
  show (if ((PySem.W.clsIn K c).isSome && PySem.W.typeIn K (.ref c) == some (.type "type")) = true then PySem.W.mroIn K c (.ref c) else none) = some true
  rw [ec, T0.ox.tyC]
  show PySem.W.mroIn K c (.ref c) = some true
  unfold PySem.W.mroIn
  rw [ec]
  show (if cd.mro.isEmpty then none else some (cd.mro.contains (.ref c))) = some true
  rw [em]
  simp
theorem all_dig (a : Str) : ((a.cps.toList.map fun c => decide (48 ≤ c ∧ c ≤ 57)).all id) = digL (TL.tl a) := by
  unfold digL
  rw [List.all_map]
  rfl
def sp__integer_of (_ : PySem.W.Frag) (cs : List Addr) : Sp := fun vs H Q E => ∃ a : Str, vs = [.str a] ∧ a.length ≤ 100000 ∧ (∀ n, readI (TL.tl a) = some n → ∀ H', Same H H' → Q (.int n) H') ∧ (readI (TL.tl a) = none → ∀ z : Str, BadX cs 3 H (.str z) E)

def sp__bound_of (_ : PySem.W.Frag) (cs : List Addr) : Sp := fun vs H Q E => ∃ a : Str, vs = [.str a] ∧ a.length ≤ 100000 ∧ (∀ o, readB (TL.tl a) = some o → ∀ H', Same H H' → Q (ov o) H') ∧ (readB (TL.tl a) = none → ∀ z : Str, BadX cs 3 H (.str z) E)

theorem part_dots (a : Str) : ∃ x ds y : Str, Txt.partition a ".." = (x, ds, y) ∧ x.length ≤ a.length ∧ y.length ≤ a.length ∧ ds.length ≤ 2 ∧ ((ds.length = 0 ∧ readP (TL.tl a) = none) ∨ (ds.length ≠ 0 ∧ readP (TL.tl a) = match readB (TL.tl x), readB (TL.tl y) with
      | some x, some y => if up (some (x, y)) = true then none else some (x, y)
      | _, _ => none)) := by
  have z := TL.partition_par a ".." (by rw [tl_dots]; simp)
  rw [tl_dots] at z
  have la := TL.len_tl a
  cases e : TL.par [46, 46] [] (TL.tl a) with
  | none =>
    rw [e] at z
    refine ⟨_, _, _, z, Nat.le_refl _, Nat.zero_le _, by decide, .inl ⟨rfl, ?_⟩⟩
    unfold readP
    rw [e]
  | some xy =>
    obtain ⟨x, y⟩ := xy
    rw [e] at z
    obtain ⟨l1, l2⟩ := par_len _ _ e
    rw [List.length_nil, Nat.zero_add] at l1
    refine ⟨_, _, _, z, by rw [TL.len_tl, la]; exact l1, by rw [TL.len_tl, la]; exact l2, by rw [len_dd]; exact Nat.le_refl _, .inr ⟨by rw [len_dd]; decide, ?_⟩⟩
    unfold readP
    rw [e]
def sp__bounds_of (K : PySem.W.Frag) (cs : List Addr) : Sp := fun vs H Q E => ∃ a : Str, vs = [.str a] ∧ a.length ≤ 100000 ∧ (∀ p, readP (TL.tl a) = some p → ∀ v H', Same H H' → RgV K H' v (some p) → Q v H') ∧ (readP (TL.tl a) = none → ∀ z : Str, BadX cs 3 H (.str z) E)



def sp__name_of (_ : PySem.W.Frag) (cs : List Addr) : Sp := fun vs H Q E => ∃ a : Str, vs = [.str a] ∧ a.length ≤ 100000 ∧ (nameL (TL.tl a) = true → ∀ H', Same H H' → Q (.str a) H') ∧ (nameL (TL.tl a) = false → ∀ z : Str, BadX cs 3 H (.str z) E)

def sp__signed (_ : PySem.W.Frag) (cs : List Addr) : Sp := fun vs H Q E => ∃ s a : Str, vs = [.str s, .str a] ∧ a.length ≤ 90000 ∧ (∀ n, readSg (TL.tl s) (TL.tl a) = some n → ∀ H', Same H H' → Q (.int n) H') ∧ (readSg (TL.tl s) (TL.tl a) = none → ∀ z : Str, BadX cs 3 H (.str z) E)

def stepHd (x y f s a : List Nat) : Option (Int × Int) := if f = [48] then none else if nameL x = true ∧ nameL y = true then (match readI f, readSg s a with
  | some f, some a => some (f, a)
  | _, _ => none) else none
def sp__step_of (K : PySem.W.Frag) (cs : List Addr) : Sp := fun vs H Q E => ∃ x y f s a : Str, vs = [.str x, .str y, .str f, .str s, .str a] ∧ x.length ≤ 90000 ∧ y.length ≤ 90000 ∧ f.length ≤ 90000 ∧ a.length ≤ 90000 ∧
  (∀ n m, stepHd (TL.tl x) (TL.tl y) (TL.tl f) (TL.tl s) (TL.tl a) = some (n, m) → ∀ p H', Same H H' → SqT K H' p [.str "step", .str x, .str y, .int n, .int m] → Q (.ref p) H') ∧ (stepHd (TL.tl x) (TL.tl y) (TL.tl f) (TL.tl s) (TL.tl a) = none → ∀ z : Str, BadX cs 3 H (.str z) E)

def sp__condition_of (K : PySem.W.Frag) (cs : List Addr) : Sp := fun vs H Q E => ∃ a : Str, vs = [.str a] ∧ a.length ≤ 90000 ∧ (∀ c, readC (TL.tl a) = some c → ∀ v H', Same H H' → Dp K H' v (cdD c) → Q v H') ∧ (readC (TL.tl a) = none → ∀ z : Str, BadX cs 3 H (.str z) E)

def sp__conditions_of (K : PySem.W.Frag) (cs : List Addr) : Sp := fun vs H Q E => ∃ (p : Addr) (ws : List Str), vs = [.ref p] ∧ H p = some (.lst (ws.map V.str)) ∧ (ws.map (·.length)).sum + ws.length ≤ 80000 ∧ (∀ c, readWh (ws.map TL.tl) = some c → ∀ v H', Same H H' → Dp K H' v (.tuple (c.map cdD)) → Q v H') ∧ (readWh (ws.map TL.tl) = none → ∀ z : Str, BadX cs 3 H (.str z) E)

def sp__rule_of (K : PySem.W.Frag) (cs : List Addr) : Sp := fun vs H Q E => ∃ a : Str, vs = [.str a] ∧ a.length ≤ 30000 ∧ (∀ r, readRl (TL.tl a) = some r → ∀ v H', Same H H' → Dp K H' v r.d → Q v H') ∧ (readRl (TL.tl a) = none → ∀ z : Str, BadX cs 3 H (.str z) E)

def sp_read_rule (K : PySem.W.Frag) (cs : List Addr) : Sp := fun vs H Q E => ∃ a : Str, vs = [.str a] ∧ a.length ≤ 30000 ∧ (∀ r, readRl (TL.tl a) = some r → ∀ v H', Same H H' → Dp K H' v r.d → Q v H') ∧ (readRl (TL.tl a) = none → BadX cs 3 H (.str a) E)

def sp_read_rule_Q (K : PySem.W.Frag) (cs : List Addr) : Sp := fun vs H Q _ => ∃ a r, vs = [.str a] ∧ a.length ≤ 30000 ∧ readRl (TL.tl a) = some r ∧ ∀ v H', Same H H' → Dp K H' v r.d → Q v H'

def sp__words_of_step (K : PySem.W.Frag) : Sp := fun vs H Q _ => ∃ (v : V) (x y : Str) (f a : Int) (g : Rg) (cs : List Cd), vs = [v] ∧ Dp K H v (Rl.stp x y f a g cs).d ∧ TxOk (.stp x y f a g cs) ∧ ∀ p H', Same H H' → H p = none → H' p = some (.lst ((wordsS (.stp x y f a g cs)).map V.str)) → Q (.ref p) H'

def sp_show_rule (K : PySem.W.Frag) : Sp := fun vs H Q _ => ∃ (v : V) (r : Rl), vs = [v] ∧ Dp K H v r.d ∧ TxOk r ∧ ∀ H', Same H H' → Q (.str (showRl r)) H'

def sp__law_bound_text (_ : PySem.W.Frag) : Sp := fun vs H Q _ => ∃ o : Option Int, vs = [ov o] ∧ (∀ n, o = some n → n.natAbs < 10 ^ 45) ∧ Q (.str (showB o)) H

def sp__law_reach_text (K : PySem.W.Frag) : Sp := fun vs H Q _ => ∃ v r, vs = [v] ∧ RgV K H v r ∧ Rg45 r ∧ Q (.str (showR r)) H

def sp__law_integer (_ : PySem.W.Frag) : Sp := fun vs H Q _ => ∃ a : Str, vs = [.str a] ∧ a.length ≤ 100000 ∧ okT (TL.tl a) ∧ ∀ p H', Same H H' → H p = none → H' p = some (.lst ((readI (TL.tl a)).toList.map V.int)) → Q (.ref p) H'

theorem mem_sum {x : Nat} : ∀ {l : List Nat}, x ∈ l → x ≤ l.sum
  | y :: l, h => by
    rw [List.sum_cons]
    rcases List.mem_cons.mp h with rfl | h
    · omega
    · have := mem_sum h
      omega
theorem kind_lit {x y : Str} (h : y.cps.all (· < 256) = true) : ¬ Builtin.Str.strKind x < Builtin.Str.strKind y := TL.kind_ok h
theorem split_dots (a : Str) : (Txt.split a "..").map TL.tl = TL.spl [46, 46] 0 [] (TL.tl a) := by
  have z := TL.split_spl a ".." (by rw [tl_dots]; simp) (kind_lit (by decide +kernel))
  rw [tl_dots] at z
  exact z
def bB (x : Str) : List V := (readB (TL.tl x)).toList.map ov
theorem spl_sub {S : List Nat} : ∀ (l acc : List Nat) (k : Nat), ∀ p ∈ TL.spl S k acc l, ∀ d ∈ p, d ∈ acc ∨ d ∈ l
  | [], acc, k, p, mp, d, md => by
    rw [TL.spl_nil, List.mem_singleton] at mp
    subst mp
    exact .inl md
  | c :: r, acc, 0, p, mp, d, md => by
    by_cases h : TL.pre S (c :: r) = true
    · rw [TL.spl_hit h] at mp
      rcases List.mem_cons.mp mp with rfl | mp
      · exact .inl md
      · rcases spl_sub r [] (S.length - 1) p mp d md with z | z
        · cases z
        · exact .inr (List.mem_cons_of_mem _ z)
    · have h' : TL.pre S (c :: r) = false := by simpa using h
      rw [TL.spl_miss h'] at mp
      rcases spl_sub r (acc ++ [c]) 0 p mp d md with z | z
      · rcases List.mem_append.mp z with z | z
        · exact .inl z
        · rw [List.mem_singleton.mp z]; exact .inr List.mem_cons_self
      · exact .inr (List.mem_cons_of_mem _ z)
  | c :: r, acc, k + 1, p, mp, d, md => by
    have mp' : p ∈ TL.spl S k acc r := mp
    rcases spl_sub r acc k p mp' d md with z | z
    · exact .inl z
    · exact .inr (List.mem_cons_of_mem _ z)
/-- lengths of the parts together -/
theorem spl_sum {S : List Nat} : ∀ (l acc : List Nat) (k : Nat), ((TL.spl S k acc l).map List.length).sum ≤ acc.length + l.length ∧ (TL.spl S k acc l).length ≤ l.length + 1
  | [], acc, k => by
    rw [TL.spl_nil]
    simp
  | c :: r, acc, 0 => by
    by_cases h : TL.pre S (c :: r) = true
    · rw [TL.spl_hit h]
      have z := spl_sum (S := S) r [] (S.length - 1)
      rw [List.map_cons, List.sum_cons, List.length_cons, List.length_cons]
      simp only [List.length_nil] at z
      omega
    · have h' : TL.pre S (c :: r) = false := by simpa using h
      rw [TL.spl_miss h']
      have z := spl_sum (S := S) r (acc ++ [c]) 0
      rw [List.length_append] at z
      simp only [List.length_cons, List.length_nil] at z ⊢
      omega
  | c :: r, acc, k + 1 => by
    have z := spl_sum (S := S) r acc k
    have e : TL.spl S (k + 1) acc (c :: r) = TL.spl S k acc r := rfl
    rw [e, List.length_cons]
    omega
theorem tl_lens : ∀ l : List Str, (l.map TL.tl).map List.length = l.map (·.length)
  | [] => rfl
  | x :: l => by
    rw [List.map_cons, List.map_cons, List.map_cons, tl_lens l, ← TL.len_tl]
def sp__law_reach_of (K : PySem.W.Frag) : Sp := fun vs H Q _ => ∃ a : Str, vs = [.str a] ∧ a.length ≤ 100000 ∧ okT (TL.tl a) ∧ ∀ v H', Same H H' → Dp K H' v (.list ((readP (TL.tl a)).toList.map fun p => rgD (some p))) → Q v H'

structure Wd (n : Nat) (s : Str) : Prop where
  len : s.length ≤ n
  ok : okT (TL.tl s)
theorem Wd.mono {n m : Nat} {s : Str} (h : Wd n s) (l : n ≤ m) : Wd m s := ⟨Nat.le_trans h.len l, h.ok⟩
theorem Wd.app {n m : Nat} {s t : Str} (h : Wd n s) (k : Wd m t) : Wd (n + m) (s ++ t) := ⟨by rw [len_app]; have := h.len; have := k.len; omega, by rw [TL.tl_append]; exact h.ok.app k.ok⟩
theorem Wd.cut {n : Nat} {s : Str} {lo hi : Option Int} (h : Wd n s) : Wd n (cutS s lo hi) := ⟨Nat.le_trans (cutS_length _ _ _) h.len, h.ok.sub (cut_sub _ _ _)⟩
theorem Wd.lit (s : String) (h : (s.toList.all fun c => decide (c.toNat < 1114112)) = true) : Wd s.toList.length (Str.ofString s) := ⟨by rw [len_lit]; exact Nat.le_refl _, fun c m => by
  rw [tl_lit] at m
  obtain ⟨d, md, rfl⟩ := List.mem_map.mp m
  exact of_decide_eq_true (List.all_eq_true.mp h d md)⟩
theorem Wd.sub {n m : Nat} {s t : Str} (h : Wd n s) (l : t.length ≤ m) (k : ∀ d ∈ TL.tl t, d ∈ TL.tl s) : Wd m t := ⟨l, h.ok.sub k⟩
theorem part_sub (a : Str) : (∀ d ∈ TL.tl (Txt.partition a "..").1, d ∈ TL.tl a) ∧ (∀ d ∈ TL.tl (Txt.partition a "..").2.2, d ∈ TL.tl a) ∧ (∀ d ∈ TL.tl (Txt.partition a "..").2.1, d ∈ TL.tl "..") := by
  have z := TL.partition_par a ".." (by rw [tl_dots]; simp)
  rw [tl_dots] at z
  cases e : TL.par [46, 46] [] (TL.tl a) with
  | none =>
    rw [e] at z
    rw [z]
    exact ⟨fun _ h => h, fun d h => (by cases h), fun d h => (by cases h)⟩
  | some xy =>
    obtain ⟨x, y⟩ := xy
    rw [e] at z
    rw [z]
    have pm : ∀ (l acc : List Nat) {a b : List Nat}, TL.par [46, 46] acc l = some (a, b) → (∀ d ∈ a, d ∈ acc ∨ d ∈ l) ∧ ∀ d ∈ b, d ∈ l := fun l => by
      induction l with
      | nil => intro acc a b h; cases h
      | cons c r ih =>
        intro acc a b h
        by_cases p : TL.pre [46, 46] (c :: r) = true
        · rw [TL.par_hit p] at h
          cases h
          exact ⟨fun d h => .inl h, fun d h => List.mem_of_mem_drop h⟩
        · have p' : TL.pre [46, 46] (c :: r) = false := by simpa using p
          rw [TL.par_miss p'] at h
          obtain ⟨h1, h2⟩ := ih _ h
          refine ⟨fun d hd => ?_, fun d hd => List.mem_cons_of_mem _ (h2 d hd)⟩
          rcases h1 d hd with m | m
          · rcases List.mem_append.mp m with m | m
            · exact .inl m
            · rw [List.mem_singleton.mp m]; exact .inr List.mem_cons_self
          · exact .inr (List.mem_cons_of_mem _ m)
    obtain ⟨h1, h2⟩ := pm _ _ e
    exact ⟨fun d h => (h1 d h).elim (fun z => by cases z) id, h2, fun _ h => h⟩
theorem ne_app {y z : Str} (h : 1 ≤ z.length) : (y == y ++ z) = false := by
  rw [Bool.eq_false_iff]
  intro e
  have e' : y = y ++ z := eq_of_beq e
  have := congrArg Str.length e'
  rw [len_app] at this
  omega
/-- a sign of a text -/
theorem sign_at {z : Str} {i : Int} (h0 : 0 ≤ i) (h1 : i < (z.length : Int)) : ∃ c, atI z.cps.toList i = some c ∧ c ∈ TL.tl z := by
  have l := TL.len_tl z
  have lt : i.toNat < (TL.tl z).length := by omega
  obtain ⟨k, rfl⟩ : ∃ k : Nat, i = (k : Int) := ⟨i.toNat, by omega⟩
  have lt' : k < (TL.tl z).length := by omega
  exact ⟨(TL.tl z)[k], atI_nat (List.getElem?_eq_getElem lt'), List.getElem_mem lt'⟩
theorem Wd.sign {z : Str} {c n : Nat} (h : Wd n z) (m : c ∈ TL.tl z) : Wd 1 ⟨#[c]⟩ := ⟨Nat.le_refl _, fun d md => by
  have md' : d ∈ [c] := md
  rw [List.mem_singleton.mp md']
  exact h.ok c m⟩
theorem set_sum {α : Type} {f : α → Nat} : ∀ {l : List α} {i : Nat} {x y : α}, l[i]? = some x → ((l.set i y).map f).sum + f x = (l.map f).sum + f y
  | [], i, x, y, h => by cases h
  | z :: l, 0, x, y, h => by
    cases h
    rw [List.set_cons_zero, List.map_cons, List.map_cons, List.sum_cons, List.sum_cons]
    omega
  | z :: l, i + 1, x, y, h => by
    have ih := set_sum (f := f) (l := l) (i := i) (x := x) (y := y) h
    rw [List.set_cons_succ, List.map_cons, List.map_cons, List.sum_cons, List.sum_cons]
    omega
theorem swap_sum {α : Type} {f : α → Nat} {l : List α} {i j : Nat} {x y : α} (hx : l[i]? = some x) (hy : l[j]? = some y) : (((l.set i y).set j x).map f).sum = (l.map f).sum := by
  have h1 := set_sum (f := f) (y := y) hx
  have lj : j < l.length := (List.getElem?_eq_some_iff.mp hy).1
  have e : (l.set i y)[j]? = some y := by
    by_cases c : i = j
    · subst c
      rw [List.getElem?_set_self lj]
    · rw [List.getElem?_set_ne c]
      exact hy
  have h2 := set_sum (f := f) (y := x) e
  omega
theorem join_len {y : Str} : ∀ l : List Str, (Txt.join y l).length ≤ (l.map (·.length)).sum + l.length * y.length := fun l => by
  rw [TL.join_eq]
  induction l with
  | nil => exact Nat.zero_le _
  | cons x l ih =>
    cases l with
    | nil =>
      show x.length ≤ _
      rw [List.map_cons, List.sum_cons]
      omega
    | cons z r =>
      have e : Str.join y (x :: z :: r) = x ++ y ++ Str.join y (z :: r) := rfl
      rw [e, len_app, len_app, List.map_cons, List.sum_cons, List.length_cons, Nat.succ_mul]
      omega
theorem join_ok {y : Str} {l : List Str} (hy : okT (TL.tl y)) (h : ∀ x ∈ l, okT (TL.tl x)) : okT (TL.tl (Txt.join y l)) := fun c m => by
  rw [TL.join_eq, TL.tl_join] at m
  rcases mem_joinL _ m with m | ⟨p, mp, m⟩
  · exact hy c m
  · obtain ⟨x, mx, rfl⟩ := List.mem_map.mp mp
    exact h x mx c m
theorem spl_ne (S : List Nat) : ∀ (l acc : List Nat) (k : Nat), TL.spl S k acc l ≠ []
  | [], acc, k => by rw [TL.spl_nil]; simp
  | c :: r, acc, 0 => by
    by_cases h : TL.pre S (c :: r) = true
    · rw [TL.spl_hit h]; simp
    · have h' : TL.pre S (c :: r) = false := by simpa using h
      rw [TL.spl_miss h']
      exact spl_ne S r _ 0
  | c :: r, acc, k + 1 => by
    have e : TL.spl S (k + 1) acc (c :: r) = TL.spl S k acc r := rfl
    rw [e]
    exact spl_ne S r _ k
/-- what is told of a text's parts -/
theorem split_told (a y : Str) (hy : TL.tl y ≠ []) (hk : y.cps.all (· < 256) = true) (oa : okT (TL.tl a)) : ((Txt.split a y).map (·.length)).sum ≤ a.length ∧ (Txt.split a y).length ≤ a.length + 1 ∧ 1 ≤ (Txt.split a y).length ∧ ∀ x ∈ Txt.split a y, okT (TL.tl x) := by
  have sd := TL.split_spl a y hy (kind_lit hk)
  have sm := spl_sum (S := TL.tl y) (TL.tl a) [] 0
  have sn := spl_ne (TL.tl y) (TL.tl a) [] 0
  rw [← sd] at sm sn
  rw [tl_lens, List.length_map, List.length_nil, Nat.zero_add, ← TL.len_tl] at sm
  refine ⟨sm.1, sm.2, ?_, fun x mx => oa.sub fun d md => ?_⟩
  · cases h : Txt.split a y with
    | nil => rw [h] at sn; exact absurd rfl sn
    | cons _ _ => exact Nat.succ_le_succ (Nat.zero_le _)
  · have m2 : TL.tl x ∈ TL.spl (TL.tl y) 0 [] (TL.tl a) := by rw [← sd]; exact List.mem_map_of_mem mx
    rcases spl_sub _ _ _ _ m2 d md with z | z
    · cases z
    · exact z
theorem ixN_nat {n i : Nat} (h : i < n) : L2.ixN n (i : Int) = some i := by
  unfold L2.ixN
  rw [if_pos (by omega), if_pos (by omega)]
  rfl
theorem Bg.upd_ {n : Nat} {H : Hp} {b ga L : Addr} {o : HO} (h : Bg n H b ga) (lb : L ≠ b) (lg : L ≠ ga) : Bg n (upd H L o) b ga := by
  obtain ⟨ms, l', t, bl, h1, h2, r⟩ := h.ok
  exact ⟨ms, l', t, bl, by rw [upd_ne (Ne.symm lb)]; exact h1, by rw [upd_ne (Ne.symm lg)]; exact h2, r⟩
theorem kb_none {b ga R : Addr} {H G : Hp} (k : Kb b ga H G) (rb : R ≠ b ∧ R ≠ ga) (n : G R = none) : H R = none := by
  cases z : H R with
  | none => rfl
  | some u =>
    rw [k _ _ rb.1 rb.2 z] at n
    cases n
/-- a list of texts of ours, beside a bag -/
structure Ws (n : Nat) (H0 : Hp) (b ga L : Addr) (ws : List Str) (G : Hp) : Prop where
  k : Kb b ga H0 G
  bg : Bg n G b ga
  o : G L = some (.lst (ws.map V.str))
  l : L ≠ b ∧ L ≠ ga
  f : H0 L = none
theorem Ws.same {n : Nat} {H0 : Hp} {b ga L : Addr} {ws : List Str} {G G' : Hp} (h : Ws n H0 b ga L ws G) (k : Same G G') : Ws n H0 b ga L ws G' := ⟨h.k.trans (Kb.of k), h.bg.same k, k _ _ h.o, h.l, h.f⟩
theorem Ws.put {n : Nat} {H0 : Hp} {b ga L : Addr} {ws : List Str} {G : Hp} (h : Ws n H0 b ga L ws G) (vs : List Str) : Ws n H0 b ga L vs (upd G L (.lst (vs.map V.str))) :=
  ⟨fun c o n m e => by rw [upd_ne (ne_of_none e h.f)]; exact h.k c o n m e, h.bg.upd_ h.l.1 h.l.2, upd_same, h.l, h.f⟩
theorem Ws.push {n : Nat} {H0 : Hp} {b ga L : Addr} {ws : List Str} {G : Hp} (h : Ws n H0 b ga L ws G) (w : Str) : Ws n H0 b ga L (ws ++ [w]) (upd G L (.lst (ws.map V.str ++ [V.str w]))) := by
  have z := h.put (ws ++ [w])
  rw [List.map_append] at z
  exact z
theorem Ws.draw {n m : Nat} {H0 : Hp} {b ga L : Addr} {ws : List Str} {G G' : Hp} (h : Ws n H0 b ga L ws G) (k : Kb b ga G G') (bg : Bg m G' b ga) : Ws m H0 b ga L ws G' := ⟨h.k.trans k, bg, k _ _ h.l.1 h.l.2 h.o, h.l, h.f⟩
def sp__law_changed (_ : PySem.W.Frag) : Sp := fun vs H Q _ => ∃ (b ga : Addr) (n : Nat) (a : Str), vs = [.ref b, .str a] ∧ Bg n H b ga ∧ n ≤ 900000 ∧ a.length ≤ 10000 ∧ okT (TL.tl a) ∧ ∀ (r : Str) H', r.length ≤ 3 * a.length + 200 → okT (TL.tl r) → Kb b ga H H' → Bg (n + 6) H' b ga → Q (.str r) H'

theorem tl_space : TL.tl (Str.ofString " ") = [32] := TL.tl_ofString " "
theorem tl_comma : TL.tl (Str.ofString ", ") = [44, 32] := TL.tl_ofString ", "
theorem tl_plus : TL.tl (Str.ofString "+") = [43] := TL.tl_ofString "+"
theorem tl_in : TL.tl (Str.ofString "in") = [105, 110] := TL.tl_ofString "in"
theorem tl_is : TL.tl (Str.ofString "is") = [105, 115] := TL.tl_ofString "is"
theorem tl_from : TL.tl (Str.ofString "from") = [102, 114, 111, 109] := TL.tl_ofString "from"
theorem tl_when : TL.tl (Str.ofString "when") = [119, 104, 101, 110] := TL.tl_ofString "when"
theorem str_eq {a b : Str} : a = b ↔ TL.tl a = TL.tl b := ⟨fun h => by rw [h], fun h => TL.ext_tl h⟩
theorem dec_str {a b : Str} : decide (a = b) = decide (TL.tl a = TL.tl b) := decide_eq_decide.mpr str_eq
/-- a text cut at another, told -/
theorem split_lens (a y : Str) (hy : TL.tl y ≠ []) (hk : y.cps.all (· < 256) = true) : (Txt.split a y).map TL.tl = TL.spl (TL.tl y) 0 [] (TL.tl a) ∧ ((Txt.split a y).map (·.length)).sum ≤ a.length ∧ (Txt.split a y).length ≤ a.length + 1 := by
  have sd := TL.split_spl a y hy (kind_lit hk)
  have sm := spl_sum (S := TL.tl y) (TL.tl a) [] 0
  have la := TL.len_tl a
  rw [← sd] at sm
  rw [tl_lens, List.length_map, List.length_nil, ← la] at sm
  exact ⟨sd, by omega, by omega⟩
theorem split_sp (a : Str) : (Txt.split a (Str.ofString " ")).map TL.tl = wordsT (TL.tl a) ∧ ((Txt.split a (Str.ofString " ")).map (·.length)).sum ≤ a.length ∧ (Txt.split a (Str.ofString " ")).length ≤ a.length + 1 := by
  have z := split_lens a (Str.ofString " ") (by rw [tl_space]; simp) (by decide +kernel)
  rw [tl_space] at z
  exact z
theorem split_cm (a : Str) : (Txt.split a (Str.ofString ", ")).map TL.tl = TL.spl [44, 32] 0 [] (TL.tl a) ∧ ((Txt.split a (Str.ofString ", ")).map (·.length)).sum ≤ a.length ∧ (Txt.split a (Str.ofString ", ")).length ≤ a.length + 1 := by
  have z := split_lens a (Str.ofString ", ") (by rw [tl_comma]; simp) (by decide +kernel)
  rw [tl_comma] at z
  exact z
theorem len_in {x : Str} {ws : List Str} (h : x ∈ ws) : x.length ≤ (ws.map (·.length)).sum := mem_sum (List.mem_map_of_mem h)
theorem starts_m (a : Str) : Txt.startswith a (Str.ofString "-") = isneg (TL.tl a) := starts_minus a
theorem ln1 : (Str.ofString " ").length = 1 := len_lit _
theorem ln2 : (Str.ofString ", ").length = 2 := len_lit _
theorem allS_some {α : Type} : ∀ {l : List (Option α)} {r : List α}, allS l = some r → l = r.map some
  | [], r, h => by cases h; rfl
  | none :: l, r, h => by cases h
  | some x :: l, r, h => by
    obtain ⟨r', h', e⟩ := Option.map_eq_some_iff.mp h
    subst e
    rw [List.map_cons, ← allS_some h']
theorem allS_map {α : Type} : ∀ r : List α, allS (r.map some) = some r
  | [] => rfl
  | x :: r => by
    show (allS (r.map some)).map (x :: ·) = _
    rw [allS_map r]
    rfl
theorem allS_none {α : Type} : ∀ {l : List (Option α)}, none ∈ l → allS l = none
  | none :: l, _ => rfl
  | some x :: l, h => by
    rcases List.mem_cons.mp h with e | e
    · cases e
    · show (allS l).map (x :: ·) = _
      rw [allS_none e]
      rfl
theorem dpa_read {K : PySem.W.Frag} {G : Hp} : ∀ (ps : List Str) (ys : List V), ys.length = ps.length → (∀ (i : Nat) y, ys[i]? = some y → ∃ x c, ps[i]? = some x ∧ readC (TL.tl x) = some c ∧ Dp K G y (cdD c)) → ∃ cs, allS ((ps.map TL.tl).map readC) = some cs ∧ DpAll K G ys (cs.map cdD)
  | [], [], _, _ => ⟨[], rfl, .nil⟩
  | x :: ps, y :: ys, l, h => by
    obtain ⟨x', c, ex, ec, dc⟩ := h 0 y rfl
    cases ex
    obtain ⟨cs, e, da⟩ := dpa_read ps ys (by simpa using l) fun i y e => by
      obtain ⟨x', c, ex, r⟩ := h (i + 1) y e
      exact ⟨x', c, ex, r⟩
    refine ⟨c :: cs, ?_, .cons dc da⟩
    rw [List.map_cons, List.map_cons, ec]
    show (allS ((ps.map TL.tl).map readC)).map (c :: ·) = _
    rw [e]
    rfl
theorem readSt_eq (x f y s a : List Nat) (r : Option Rg) (cs : Option (List Cd)) : readSt x f y s a r cs = match stepHd x y f s a with
    | some nm => (match r, cs with
      | some r, some cs => some (.stp (toS x) (toS y) nm.1 nm.2 r cs)
      | _, _ => none)
    | none => none := by
  unfold readSt stepHd
  by_cases c : f = [48]
  · rw [if_pos c, if_pos c]
  · rw [if_neg c, if_neg c]
    by_cases n : nameL x = true ∧ nameL y = true
    · rw [if_pos n, if_pos n]
      cases readI f <;> cases readSg s a <;> cases r <;> cases cs <;> rfl
    · rw [if_neg n, if_neg n]
theorem readSt_no1 {x f y s a : List Nat} {r : Option Rg} {cs : Option (List Cd)} (h : stepHd x y f s a = none) : readSt x f y s a r cs = none := by rw [readSt_eq, h]
theorem readSt_no2 {x f y s a : List Nat} {cs : Option (List Cd)} : readSt x f y s a none cs = none := by rw [readSt_eq]; cases stepHd x y f s a <;> rfl
theorem readSt_no3 {x f y s a : List Nat} {r : Option Rg} : readSt x f y s a r none = none := by rw [readSt_eq]; cases stepHd x y f s a <;> cases r <;> rfl
theorem readSt_yes {x f y s a : List Nat} {r : Rg} {cs : List Cd} {n m : Int} (h : stepHd x y f s a = some (n, m)) : readSt x f y s a (some r) (some cs) = some (.stp (toS x) (toS y) n m r cs) := by rw [readSt_eq, h]
theorem readSw_in {x f y s a n w : List Nat} {r : List (List Nat)} (h1 : n = [105, 110]) (h2 : w ≠ [46, 46]) : readSw x f (y :: s :: a :: n :: w :: r) = readSt x f y s a ((readP w).map some) (readWh r) := if_pos ⟨h1, h2⟩
theorem readSw_no {x f y s a : List Nat} {more : List (List Nat)} (h : ∀ n w r, more = n :: w :: r → ¬ (n = [105, 110] ∧ w ≠ [46, 46])) : readSw x f (y :: s :: a :: more) = readSt x f y s a (some (some (none, none))) (readWh more) := by
  match more, h with
  | [], _ => rfl
  | [_], _ => rfl
  | n :: w :: r, h => exact if_neg (h n w r rfl)
theorem readW_short {ws : List (List Nat)} (h : ws.length < 3) : readW ws = none := by
  match ws, h with
  | [], _ => rfl
  | [_], _ => rfl
  | [_, _], _ => rfl
theorem readSw_short {x f : List Nat} {ws : List (List Nat)} (h : ws.length < 3) : readSw x f ws = none := by
  match ws, h with
  | [], _ => rfl
  | [_], _ => rfl
  | [_, _], _ => rfl
theorem caseS_no {es : List PEl} {j : Nat} {g : TT} {b : TS} {n : TC} {l : Addr} {ws : List Str} {D : Ends} {σ : L2.St} {H : Hp} (h : (decide (es.length ≤ ws.length) && elsM es (ws.take es.length)) = false) (k : n l ws D σ H) : tCaseS es j g b n l ws D σ H := by
  unfold tCaseS
  rw [h]
  exact k
theorem caseS_yes {es : List PEl} {j : Nat} {g : TT} {b : TS} {n : TC} {l : Addr} {ws : List Str} {D : Ends} {σ : L2.St} {H : Hp} (h : (decide (es.length ≤ ws.length) && elsM es (ws.take es.length)) = true)
    (k : ∀ p, H p = none → g ((elsB es (ws.take es.length) σ).set j (some (.ref p))) (upd H p (.lst ((ws.drop es.length).map V.str))) fun k H2 =>
      if k = true then b D ((elsB es (ws.take es.length) σ).set j (some (.ref p))) H2 else H2 l = some (.lst (ws.map V.str)) ∧ n l ws D ((elsB es (ws.take es.length) σ).set j (some (.ref p))) H2) : tCaseS es j g b n l ws D σ H := by
  unfold tCaseS
  rw [h]
  exact k
theorem caseS_two {es : List PEl} {j : Nat} {g : TT} {b : TS} {n : TC} {l : Addr} {ws : List Str} {D : Ends} {σ : L2.St} {H : Hp} (I : L2.St → Hp → Prop)
    (no : (decide (es.length ≤ ws.length) && elsM es (ws.take es.length)) = false → I σ H)
    (yes : (decide (es.length ≤ ws.length) && elsM es (ws.take es.length)) = true → ∀ p, H p = none → ∀ R : Bool → Hp → Prop, (∀ H2, R true H2 ↔ b D ((elsB es (ws.take es.length) σ).set j (some (.ref p))) H2) → (∀ H2, H2 l = some (.lst (ws.map V.str)) → I ((elsB es (ws.take es.length) σ).set j (some (.ref p))) H2 → R false H2) →
      g ((elsB es (ws.take es.length) σ).set j (some (.ref p))) (upd H p (.lst ((ws.drop es.length).map V.str))) R)
    (third : ∀ σ' G, I σ' G → n l ws D σ' G) : tCaseS es j g b n l ws D σ H := by
  cases h : (decide (es.length ≤ ws.length) && elsM es (ws.take es.length)) with
  | false => exact caseS_no h (third _ _ (no h))
  | true =>
    refine caseS_yes h fun p np => yes h p np _ (fun H2 => ?_) fun H2 e i => ?_
    · rw [if_pos rfl]
    · rw [if_neg Bool.false_ne_true]
      exact ⟨e, third _ _ i⟩
theorem fit_up {r : Rg} (h : up r = false) : RgFit r := by
  match r, h with
  | none, _ => trivial
  | some (none, _), _ => trivial
  | some (some _, none), _ => trivial
  | some (some l, some u), q =>
    have q' := of_decide_eq_false q
    show l ≤ u
    omega
theorem name_len {x : Str} (h : nameOk x = true) : x.length ≤ 8 := by
  unfold nameOk at h
  simp only [Bool.and_eq_true, decide_eq_true_eq] at h
  exact h.1.2
theorem take_succ {α : Type} {l : List α} {i : Nat} {x : α} (h : l[i]? = some x) : l.take (i + 1) = l.take i ++ [x] := by
  rw [List.take_add_one, h]
  rfl
/-- [e for x, y in conditions] -/
theorem lc_conds {K : PySem.W.Frag} {j1 j2 : Nat} {te : TE} {σ : L2.St} {H : Hp} {Qd : Hp → Prop} {a D : Addr} {ys : List V} {cs : List Cd} (f : Cd → V)
    (hl : SqT K H a ys) (da : DpAll K H ys (cs.map cdD)) (lz : cs.length ≤ 70000) (nD : H D = none)
    (hw : ∀ u v : V, wipe (((wipe σ [j1, j2]).set j1 (some u)).set j2 (some v)) [j1, j2] = wipe σ [j1, j2])
    (he : ∀ c ∈ cs, ∀ v G (R : VK), Same H G → RgV K G v c.2 → (∀ G', Same G G' → R (f c) G') → te (((wipe σ [j1, j2]).set j1 (some (.str c.1))).set j2 (some v)) G R)
    (q : ∀ G, Same H G → G D = some (.lst (cs.map f)) → Qd G) :
    ∃ Z : Nat → Nat → Hp → Prop, (∃ m, Z 0 m (upd H D (.lst []))) ∧
      ∀ i m G, Z i m G →
        ((Itt K a).stop i G ∧ Qd G) ∨
        ((Itt K a).go i G ∧ ∃ N : Hp → Prop, (∀ G', N G' → ∃ m', m' < m ∧ Z (i + 1) m' G') ∧
          ∀ x G', (Itt K a).yld i G x G' →
            gTup K 2 (gCons (gName j1) (gCons (gName j2) gNil)) x (wipe σ [j1, j2]) G' fun σ2 G2 =>
              wipe σ2 [j1, j2] = wipe σ [j1, j2] ∧
              tYes σ2 G2 fun b G3 =>
                if b = true then
                  te σ2 G3 fun y G4 =>
                    ∃ acc, G4 D = some (.lst acc) ∧ acc.length < sizeLine ∧
                      N (upd G4 D (.lst (acc ++ [y])))
                else N G3) := by
  have ly : ys.length = cs.length := by rw [dpa_len da, List.length_map]
  refine lc_tup (K := K) (a := a) (xs := ys) (fun i G => Same H G ∧ G D = some (.lst ((cs.take i).map f))) ⟨Same.new nD, upd_same⟩ (fun i G _ h => SqT.same h.1 hl) ?_ ?_
  · rintro i z G ez ⟨sm, oD⟩
    obtain ⟨cd, ec, dz⟩ := dpa_map_get (dpa_same sm da) ez
    obtain ⟨pc, vr2, rfl, sc, hr3⟩ := cd_inv dz
    refine ⟨pc, _, rfl, sc, rfl, _, _, rfl, _, _, rfl, rfl, hw _ _, ?_⟩
    refine he cd (List.mem_of_getElem? ec) vr2 G _ sm hr3 fun G' k => ⟨_, k _ _ oD, ?_, fun b o e => ?_, ?_⟩
    · rw [List.length_map, List.length_take]
      exact Nat.lt_of_le_of_lt (by omega : _ ≤ 70000) (by decide)
    · rw [upd_ne (ne_of_none e nD)]
      exact k _ _ (sm _ _ e)
    · rw [upd_same, take_succ ec, List.map_append]
      rfl
  · rintro G ⟨sm, oD⟩
    rw [ly, List.take_length] at oD
    exact q G sm oD
theorem showR_len' {r : Rg} (h : Rg45 r) : (showR r).length ≤ 94 := showR_len h
theorem ln4 : (Str.ofString " in ").length = 4 := len_lit _
theorem showC_len {c : Cd} (h1 : nameOk c.1 = true) (h2 : Rg45 c.2) : (showC c).length ≤ 106 := by
  unfold showC
  rw [len_app, len_app, ln4]
  have := name_len h1
  have := showR_len' h2
  omega
theorem TxOk.cds {r : Rl} (ok : TxOk r) : ∀ c ∈ r.cs, nameOk c.1 = true ∧ c.2 ≠ none ∧ Rg45 c.2 ∧ up c.2 = false := fun c mc => by
  have m1 : c.1 ∈ r.names := by cases r <;> simp [Rl.names, Rl.cs] at mc ⊢ <;> exact .inr (by first | exact ⟨_, mc⟩ | exact .inr ⟨_, mc⟩)
  have m2 : c.2 ∈ r.rgs := by cases r <;> simp [Rl.rgs, Rl.cs] at mc ⊢ <;> exact .inr ⟨_, mc⟩
  exact ⟨ok.nm _ m1, ok.rg _ m2⟩
theorem sum_le {k : Nat} : ∀ {l : List Nat}, (∀ x ∈ l, x ≤ k) → l.sum ≤ l.length * k
  | [], _ => by simp
  | x :: l, h => by
    have := h x (by simp)
    have := sum_le (l := l) fun y m => h y (by simp [m])
    rw [List.sum_cons, List.length_cons, Nat.add_mul]
    omega
theorem showCs_sum {r : Rl} (ok : TxOk r) : ((r.cs.map showC).map (·.length)).sum ≤ 7420000 := by
  have z : ((r.cs.map showC).map (·.length)).sum ≤ ((r.cs.map showC).map (·.length)).length * 106 := sum_le fun n m => by
    obtain ⟨t, mt, rfl⟩ := List.mem_map.mp m
    obtain ⟨c, mc, rfl⟩ := List.mem_map.mp mt
    obtain ⟨h1, _, h2, _⟩ := ok.cds c mc
    exact showC_len h1 h2
  rw [List.length_map, List.length_map] at z
  have := ok.ln
  omega
theorem cat_e (x : Str) : Str.empty ++ x = x := by
  apply TL.ext_tl
  rw [TL.tl_append]
  rfl
theorem wordsS_sum {r : Rl} (ok : TxOk r) : ((wordsS r).map (·.length)).sum ≤ 300 ∧ (wordsS r).length ≤ 8 := by
  match r, ok with
  | .set x g cs, ok =>
    have l1 := name_len (ok.nm x (by simp [Rl.names]))
    have l2 := showR_len' (ok.rg g (by simp [Rl.rgs])).2.1
    have l3 : (Str.ofString "is").length = 2 := len_lit _
    show x.length + ((Str.ofString "is").length + ((showR g).length + 0)) ≤ 300 ∧ 3 ≤ 8
    omega
  | .stp x y f a g cs, ok =>
    have l1 := name_len (ok.nm x (by simp [Rl.names]))
    have l2 := name_len (ok.nm y (by simp [Rl.names]))
    have l3 := showR_len' (ok.rg g (by simp [Rl.rgs])).2.1
    obtain ⟨_, f45, a45⟩ := ok.nb x y f a g cs rfl
    have l4 := showI_len f45
    have a45' : (if a < 0 then -a else a).natAbs < 10 ^ 45 := by
      have : a.natAbs < 10 ^ 45 := a45
      split <;> omega
    have l5 := showI_len a45'
    have l6 : (Str.ofString "from").length = 4 := len_lit _
    have l7 : (Str.ofString "in").length = 2 := len_lit _
    have l8 : (if a < 0 then Str.ofString "-" else Str.ofString "+").length = 1 := by split <;> exact len_lit _
    have e : wordsS (.stp x y f a g cs) = [x, Str.ofString "from", showI f, y, (if a < 0 then Str.ofString "-" else Str.ofString "+"), showI (if a < 0 then -a else a)] ++ (if g = some (none, none) then [] else [Str.ofString "in", showR g]) := rfl
    rw [e, List.map_append, List.sum_append, List.length_append]
    have s1 : ([x, Str.ofString "from", showI f, y, (if a < 0 then Str.ofString "-" else Str.ofString "+"), showI (if a < 0 then -a else a)].map (·.length)).sum = x.length + ((Str.ofString "from").length + ((showI f).length + (y.length + ((if a < 0 then Str.ofString "-" else Str.ofString "+").length + ((showI (if a < 0 then -a else a)).length + 0))))) := rfl
    have s2 : ((if g = some (none, none) then [] else [Str.ofString "in", showR g]).map (·.length)).sum ≤ 96 ∧ (if g = some (none, none) then ([] : List Str) else [Str.ofString "in", showR g]).length ≤ 2 := by
      split
      · exact ⟨Nat.zero_le _, Nat.zero_le _⟩
      · show (Str.ofString "in").length + ((showR g).length + 0) ≤ 96 ∧ 2 ≤ 2
        omega
    rw [s1]
    have s3 : ([x, Str.ofString "from", showI f, y, (if a < 0 then Str.ofString "-" else Str.ofString "+"), showI (if a < 0 then -a else a)] : List Str).length = 6 := rfl
    rw [s3]
    omega
theorem wordsR_sum {r : Rl} (ok : TxOk r) : ((wordsR r).map (·.length)).sum ≤ 400 + 108 * r.cs.length ∧ (wordsR r).length ≤ 10 := by
  have z : ((r.cs.map showC).map (·.length)).sum ≤ r.cs.length * 106 := by
    have z : ((r.cs.map showC).map (·.length)).sum ≤ ((r.cs.map showC).map (·.length)).length * 106 := sum_le fun n m => by
      obtain ⟨t, mt, rfl⟩ := List.mem_map.mp m
      obtain ⟨c, mc, rfl⟩ := List.mem_map.mp mt
      obtain ⟨h1, _, h2, _⟩ := ok.cds c mc
      exact showC_len h1 h2
    rw [List.length_map, List.length_map] at z
    exact z
  have cl : (condsT r.cs).length ≤ 108 * r.cs.length := by
    have j := join_len (y := Str.ofString ", ") (r.cs.map showC)
    rw [ln2, List.length_map] at j
    unfold condsT
    omega
  have w1 := wordsS_sum ok
  unfold wordsR
  rw [List.map_append, List.sum_append, List.length_append]
  have l9 : (Str.ofString "when").length = 4 := len_lit _
  by_cases c : r.cs = []
  · rw [if_pos c]
    show _ + 0 ≤ _ ∧ _ + 0 ≤ 10
    omega
  · rw [if_neg c]
    show _ + ((Str.ofString "when").length + ((condsT r.cs).length + 0)) ≤ _ ∧ _ + 2 ≤ 10
    omega

/-! ### texts are exact -/
theorem val_lt {l : List Nat} (ad : NumText.AllDigits l) : NumText.digitsVal l < 10 ^ l.length := by
  have : ∀ (n : Nat) (l : List Nat), l.length = n → NumText.AllDigits l → NumText.digitsVal l < 10 ^ l.length := by
    intro n
    induction n with
    | zero =>
      intro l h _
      rw [List.length_eq_zero_iff.mp h]
      decide
    | succ n ih =>
      intro l h ad
      have ne : l ≠ [] := fun z => by rw [z] at h; cases h
      have e := List.dropLast_concat_getLast ne
      have hd : (l.dropLast).length = n := by rw [List.length_dropLast]; omega
      have i := ih l.dropLast hd fun c m => ad c (List.dropLast_subset l m)
      have lc := ad _ (List.getLast_mem ne)
      rw [hd] at i
      rw [h, ← e, NumText.digitsVal_snoc, Nat.pow_succ]
      omega
  exact this _ l rfl ad
theorem numL_of {l : List Nat} (ad : NumText.AllDigits l) (ne : l ≠ []) (hz : l.head? = some 48 → l = [48]) : TL.numL (NumText.digitsVal l) = l := by
  have z := NumText.toDigits_digitsVal (l.length - 1) l (by have := List.length_pos_iff.mpr ne; omega) ad (by
    match l, ne with
    | [c], _ => exact .inl rfl
    | c :: d :: r, _ =>
      refine .inr ⟨c, d :: r, rfl, ?_⟩
      have := ad c (by simp)
      by_cases h : c = 48
      · have := hz (by rw [h]; rfl)
        cases this
      · omega)
  unfold TL.numL
  rw [z, List.map_map]
  have : ∀ c ∈ l, (Char.toNat ∘ Char.ofNat) c = c := fun c m => by
    have := ad c m
    show (Char.ofNat c).toNat = c
    have : c = 48 ∨ c = 49 ∨ c = 50 ∨ c = 51 ∨ c = 52 ∨ c = 53 ∨ c = 54 ∨ c = 55 ∨ c = 56 ∨ c = 57 := by omega
    rcases this with rfl | rfl | rfl | rfl | rfl | rfl | rfl | rfl | rfl | rfl <;> rfl
  exact (List.map_congr_left this).trans (List.map_id l)
theorem readI_exact {l : List Nat} {n : Int} (h : readI l = some n) : TL.tl (showI n) = l ∧ n.natAbs < 10 ^ 45 := by
  unfold readI at h
  by_cases o : okI l = true
  case neg => rw [if_neg o] at h; cases h
  rw [if_pos o] at h
  have e := Option.some.inj h
  subst e
  obtain ⟨h1, h2, h3, h4⟩ := okI_parts o
  have ad := digL_all.mp h3
  have ne : unneg l ≠ [] := fun z => by rw [z] at h1; exact absurd h1 (by decide)
  have lt : NumText.digitsVal (unneg l) < 10 ^ 45 := Nat.lt_of_lt_of_le (val_lt ad) (Nat.pow_le_pow_right (by decide) h2)
  have nb : (numI l).natAbs = NumText.digitsVal (unneg l) := by
    unfold numI
    split <;> omega
  refine ⟨?_, by rw [nb]; exact lt⟩
  rw [tl_showI, nb]
  rcases neg_cases l with ⟨e1, e2⟩ | ⟨e1, e2⟩
  · have hz : (unneg l).head? = some 48 → unneg l = [48] := fun z => by
      have := h4 z
      rw [this] at e1
      cases e1
    rw [numL_of ad ne hz]
    have nz : NumText.digitsVal (unneg l) ≠ 0 := fun z => by
      have q := numL_of ad ne hz
      rw [z] at q
      have hd : (unneg l).head? = some 48 := by rw [← q]; rfl
      have := h4 hd
      rw [this] at e1
      cases e1
    have neg : numI l < 0 := by
      unfold numI
      rw [if_pos e1]
      omega
    rw [if_pos neg]
    exact e2.symm
  · rw [numL_of ad ne fun z => by rw [e2]; exact h4 z]
    have neg : ¬ numI l < 0 := by
      unfold numI
      rw [if_neg (by rw [e1]; exact Bool.false_ne_true)]
      omega
    rw [if_neg neg, List.nil_append, e2]
theorem readB_exact {l : List Nat} {o : Option Int} (h : readB l = some o) : TL.tl (showB o) = l ∧ ∀ n, o = some n → n.natAbs < 10 ^ 45 := by
  unfold readB at h
  by_cases e : l = []
  · rw [if_pos e] at h
    cases h
    exact ⟨by rw [e]; exact tl_empty, fun n z => nomatch z⟩
  · rw [if_neg e] at h
    obtain ⟨n, hn, rfl⟩ := Option.map_eq_some_iff.mp h
    obtain ⟨h1, h2⟩ := readI_exact hn
    exact ⟨h1, fun m z => by cases z; exact h2⟩
theorem par_exact {S : List Nat} : ∀ (l acc : List Nat) {a b : List Nat}, TL.par S acc l = some (a, b) → acc ++ l = a ++ (S ++ b)
  | [], acc, a, b, h => by cases h
  | c :: r, acc, a, b, h => by
    by_cases p : TL.pre S (c :: r) = true
    · rw [TL.par_hit p] at h
      cases h
      have e : (c :: r).take S.length = S := eq_of_beq p
      have z := List.take_append_drop S.length (c :: r)
      rw [e] at z
      rw [z]
    · have p' : TL.pre S (c :: r) = false := by simpa using p
      rw [TL.par_miss p'] at h
      have := par_exact r (acc ++ [c]) h
      rw [← this, List.append_assoc]
      rfl
theorem readP_exact {l : List Nat} {p : Option Int × Option Int} (h : readP l = some p) : TL.tl (showP p) = l ∧ Rg45 (some p) ∧ up (some p) = false := by
  unfold readP at h
  cases e : TL.par [46, 46] [] l with
  | none => rw [e] at h; cases h
  | some ab =>
    obtain ⟨a, b⟩ := ab
    rw [e] at h
    dsimp only at h
    cases ea : readB a with
    | none => rw [ea] at h; cases h
    | some x =>
      cases eb : readB b with
      | none => rw [ea, eb] at h; cases h
      | some y =>
        rw [ea, eb] at h
        dsimp only at h
        obtain ⟨x1, x2⟩ := readB_exact ea
        obtain ⟨y1, y2⟩ := readB_exact eb
        have ex := par_exact l [] e
        cases u : up (some (x, y)) with
        | true => rw [u, if_pos rfl] at h; cases h
        | false =>
          rw [u, if_neg Bool.false_ne_true] at h
          cases h
          refine ⟨?_, fun q z => ?_, u⟩
          · rw [tl_showP, x1, y1]
            exact ex.symm
          · cases z
            exact ⟨x2, y2⟩
/-! ### cut and joined -/
theorem join_spl {S : List Nat} (hS : S ≠ []) : ∀ (n : Nat) (l acc : List Nat), l.length ≤ n → TL.joinL S (TL.spl S 0 acc l) = acc ++ l := by
  intro n
  induction n with
  | zero =>
    intro l acc h
    have e : l = [] := List.length_eq_zero_iff.mp (by omega)
    subst e
    rw [TL.spl_nil, List.append_nil]
    rfl
  | succ n ih =>
    intro l acc h
    rw [spl_par hS l acc]
    cases e : TL.par S acc l with
    | none => rfl
    | some ab =>
      obtain ⟨a, b⟩ := ab
      have ex := par_exact l acc e
      have lb : b.length ≤ n := by
        have := congrArg List.length ex
        have pl := par_len l acc e
        have s1 := List.length_pos_iff.mpr hS
        rw [List.length_append, List.length_append, List.length_append] at this
        have la : acc.length ≤ a.length := by
          clear ih this
          have : ∀ (l acc : List Nat) {a b : List Nat}, TL.par S acc l = some (a, b) → acc.length ≤ a.length := by
            intro l
            induction l with
            | nil => intro acc a b h; cases h
            | cons c r ih =>
              intro acc a b h
              by_cases p : TL.pre S (c :: r) = true
              · rw [TL.par_hit p] at h
                cases h
                exact Nat.le_refl _
              · have p' : TL.pre S (c :: r) = false := by simpa using p
                rw [TL.par_miss p'] at h
                have := ih _ h
                rw [List.length_append] at this
                simp only [List.length_cons, List.length_nil] at this
                omega
          exact this l acc e
        omega
      dsimp only
      have := ih b [] lb
      rw [List.nil_append] at this
      obtain ⟨c0, cs, ec⟩ : ∃ c0 cs, TL.spl S 0 [] b = c0 :: cs := by
        rw [spl_par hS b []]
        cases TL.par S [] b with
        | none => exact ⟨_, _, rfl⟩
        | some p => exact ⟨_, _, rfl⟩
      rw [ex]
      rw [ec] at this ⊢
      show a ++ (S ++ TL.joinL S (c0 :: cs)) = _
      rw [this]
theorem join_words (l : List Nat) : TL.joinL [32] (wordsT l) = l := by
  have := join_spl (S := [32]) (by simp) l.length l [] (Nat.le_refl _)
  rw [List.nil_append] at this
  exact this
/-! ### rules' texts -/
structure CdOk (c : Cd) : Prop where
  nm : nameOk c.1 = true
  ne : c.2 ≠ none
  r45 : Rg45 c.2
  nu : up c.2 = false
theorem nameOk_toS (l : List Nat) : nameOk (toS l) = nameL l := by rw [nameL_ok, tl_toS]
theorem tl_inn : TL.tl (Str.ofString " in ") = [32, 105, 110, 32] := TL.tl_ofString " in "
theorem readC_exact {l : List Nat} {c : Cd} (h : readC l = some c) : TL.tl (showC c) = l ∧ CdOk c := by
  have jw := join_words l
  unfold readC at h
  split at h
  · rename_i n i r e
    split at h
    · rename_i hc
      obtain ⟨p, ep, rfl⟩ := Option.map_eq_some_iff.mp h
      obtain ⟨p1, p2, p3⟩ := readP_exact ep
      rw [e] at jw
      refine ⟨?_, (by rw [nameOk_toS]; exact hc.2), (fun z => nomatch z), p2, p3⟩
      unfold showC
      rw [TL.tl_append, TL.tl_append, tl_inn, tl_toS]
      show n ++ [32, 105, 110, 32] ++ TL.tl (showP p) = l
      rw [p1, ← jw, hc.1]
      show _ = n ++ ([32] ++ ([105, 110] ++ ([32] ++ r)))
      rw [List.append_assoc]
      rfl
    · cases h
  · cases h
theorem joinL_len (S : List Nat) : ∀ ps : List (List Nat), (TL.joinL S ps).length ≤ (ps.map List.length).sum + ps.length * S.length
  | [] => Nat.zero_le _
  | [p] => by
    show p.length ≤ p.length + 0 + 1 * S.length
    omega
  | p :: q :: r => by
    have i := joinL_len S (q :: r)
    show (p ++ (S ++ TL.joinL S (q :: r))).length ≤ _
    rw [List.length_append, List.length_append, List.map_cons, List.sum_cons, List.length_cons, Nat.add_mul]
    omega
theorem spl_some (S l : List Nat) : ∃ c0 cs, TL.spl S 0 [] l = c0 :: cs := by
  cases e : TL.spl S 0 [] l with
  | nil => exact absurd e (spl_ne S l [] 0)
  | cons a b => exact ⟨a, b, rfl⟩
theorem tl_condsT (cs : List Cd) : TL.tl (condsT cs) = TL.joinL [44, 32] ((cs.map showC).map TL.tl) := by
  unfold condsT
  rw [TL.join_eq, TL.tl_join, tl_comma]
theorem readCs_exact {l : List Nat} {cs : List Cd} (h : readCs l = some cs) : TL.tl (condsT cs) = l ∧ (∀ c ∈ cs, CdOk c) ∧ cs ≠ [] ∧ cs.length ≤ l.length + 1 := by
  have m : (TL.spl [44, 32] 0 [] l).map readC = cs.map some := allS_some h
  have jl := join_spl (S := [44, 32]) (by simp) l.length l [] (Nat.le_refl _)
  rw [List.nil_append] at jl
  have sm := (spl_sum (S := [44, 32]) l [] 0).2
  have ne := spl_ne [44, 32] l [] 0
  generalize TL.spl [44, 32] 0 [] l = ps at m jl sm ne
  have len : ps.length = cs.length := by have := congrArg List.length m; rwa [List.length_map, List.length_map] at this
  have all : ∀ (ps : List (List Nat)) (cs : List Cd), ps.map readC = cs.map some → ps = (cs.map showC).map TL.tl ∧ ∀ c ∈ cs, CdOk c := by
    intro ps
    induction ps with
    | nil =>
      intro cs e
      cases cs with
      | nil => exact ⟨rfl, fun c m => nomatch m⟩
      | cons c cs => cases e
    | cons p ps ih =>
      intro cs e
      cases cs with
      | nil => cases e
      | cons c cs =>
        rw [List.map_cons, List.map_cons] at e
        obtain ⟨e1, e2⟩ := List.cons.inj e
        obtain ⟨x1, x2⟩ := readC_exact e1
        obtain ⟨i1, i2⟩ := ih cs e2
        refine ⟨by rw [List.map_cons, List.map_cons, x1, ← i1], fun d m => ?_⟩
        rcases List.mem_cons.mp m with rfl | m
        · exact x2
        · exact i2 d m
  obtain ⟨a1, a2⟩ := all ps cs m
  refine ⟨by rw [tl_condsT, ← a1, jl], a2, fun z => ?_, by omega⟩
  rw [z] at len
  exact ne (List.length_eq_zero_iff.mp len)
/-- the words behind a rule's begin -/
def wordsW (cs : List Cd) : List (List Nat) := if cs = [] then [] else [[119, 104, 101, 110], TL.tl (condsT cs)]
theorem joinL_tail (S : List Nat) {r : List (List Nat)} (hr : r ≠ []) : ∀ A : List (List Nat), TL.joinL S (A ++ r) = TL.joinL S (A ++ [TL.joinL S r])
  | [] => rfl
  | [p] => by
    cases r with
    | nil => exact absurd rfl hr
    | cons q r => rfl
  | p :: q :: A => by
    have i := joinL_tail S hr (q :: A)
    show p ++ (S ++ TL.joinL S (q :: A ++ r)) = p ++ (S ++ TL.joinL S (q :: A ++ [TL.joinL S r]))
    rw [i]
theorem readCs_nil : readCs [] = none := rfl
theorem wh_exact {rest : List (List Nat)} {cs : List Cd} (h : readWh rest = some cs) : (∀ A : List (List Nat), TL.joinL [32] (A ++ rest) = TL.joinL [32] (A ++ wordsW cs)) ∧ (∀ c ∈ cs, CdOk c) ∧ cs.length ≤ (rest.map List.length).sum + rest.length + 1 := by
  match rest, h with
  | [], h =>
    cases h
    exact ⟨fun A => rfl, (fun c m => nomatch m), Nat.zero_le _⟩
  | w :: r, h =>
    have h' : (if w = [119, 104, 101, 110] then readCs (TL.joinL [32] r) else none) = some cs := h
    by_cases c : w = [119, 104, 101, 110]
    · rw [if_pos c] at h'
      obtain ⟨x1, x2, x3, x4⟩ := readCs_exact h'
      have ne : r ≠ [] := fun z => by rw [z] at h'; cases h'
      have jl := joinL_len [32] r
      refine ⟨fun A => ?_, x2, ?_⟩
      · have z := joinL_tail [32] ne (A ++ [w])
        rw [List.append_assoc, List.append_assoc] at z
        unfold wordsW
        rw [if_neg x3, x1, ← c]
        exact z
      · rw [List.map_cons, List.sum_cons, List.length_cons]
        have e1 : ([32] : List Nat).length = 1 := rfl
        rw [e1] at jl
        omega
    · rw [if_neg c] at h'
      cases h'
theorem wh_head {n : List Nat} {r : List (List Nat)} {cs : List Cd} (h : readWh (n :: r) = some cs) : n = [119, 104, 101, 110] := by
  have h' : (if n = [119, 104, 101, 110] then readCs (TL.joinL [32] r) else none) = some cs := h
  by_cases c : n = [119, 104, 101, 110]
  · exact c
  · rw [if_neg c] at h'
    cases h'
/-! ### a sign and a number -/
theorem numL0 : TL.numL 0 = [48] := TL.numL_lt (by decide)
theorem readI_zero {l : List Nat} (h : readI l = some 0) : l = [48] := by
  have z := (readI_exact h).1
  rw [tl_showI, if_neg (by decide)] at z
  rw [← z]
  exact numL0
theorem readI_pos {l : List Nat} {n : Int} (h : readI l = some n) (hn : isneg l = false) : 0 ≤ n := by
  unfold readI at h
  by_cases o : okI l = true
  · rw [if_pos o] at h
    cases h
    unfold numI
    rw [if_neg (by rw [hn]; exact Bool.false_ne_true)]
    omega
  · rw [if_neg o] at h
    cases h
theorem readI_minus {l : List Nat} {n : Int} (h : readI (45 :: l) = some n) : n < 0 ∧ readI l = some (-n) := by
  obtain ⟨e1, e2⟩ := readI_exact h
  have ng : n < 0 := by
    rw [tl_showI] at e1
    by_cases c : n < 0
    · exact c
    · rw [if_neg c, List.nil_append] at e1
      exact absurd rfl (numL_not45 e1)
  rw [tl_showI, if_pos ng] at e1
  have e3 : TL.numL n.natAbs = l := List.append_cancel_left e1
  have z := read_showI (n := -n) (by rw [Int.natAbs_neg]; exact e2)
  rw [tl_showI, if_neg (by omega), List.nil_append, Int.natAbs_neg, e3] at z
  exact ⟨ng, z⟩
theorem readSg_told {s d : List Nat} {m : Int} (h : readSg s d = some m) : (s = [45] ∧ m < 0 ∧ readI d = some (-m)) ∨ (s = [43] ∧ 0 ≤ m ∧ readI d = some m) := by
  unfold readSg at h
  by_cases c : s = [45]
  · rw [if_pos c] at h
    exact .inl ⟨c, readI_minus h⟩
  · rw [if_neg c] at h
    by_cases c2 : s = [43] ∧ isneg d = false
    · rw [if_pos c2] at h
      exact .inr ⟨c2.1, readI_pos h c2.2, h⟩
    · rw [if_neg c2] at h
      cases h
/-! ### the law's rule of a text -/
def at0 (ws : List (List Nat)) (i : Nat) : List Nat := ws.getD i []
def sizeW (ws : List (List Nat)) : Nat := if (ws.drop 1).take 1 = [[105, 115]] then 3 else if (ws.drop 6).take 1 = [[105, 110]] then 8 else 6
def foundL (z : Nat) (ws : List (List Nat)) (cs : List Cd) : Option Rl :=
  if z = 3 then (readP (at0 ws 2)).map fun p => .set (toS (at0 ws 0)) (some p) cs
  else if at0 ws 1 = [102, 114, 111, 109] ∧ (at0 ws 4 = [43] ∨ at0 ws 4 = [45]) ∧ nameL (at0 ws 3) = true then
    (match readI (at0 ws 2), readI (at0 ws 5), (if z = 8 then readP (at0 ws 7) else some (none, none)) with
      | some f, some a, some p => if f = 0 then none else some (.stp (toS (at0 ws 0)) (toS (at0 ws 3)) f (a * (if at0 ws 4 = [45] then -1 else 1)) (some p) cs)
      | _, _, _ => none)
  else none
def candL (ws : List (List Nat)) : Option Rl := match readWh (ws.drop (sizeW ws)) with
  | none => none
  | some cs => if ws.length < sizeW ws ∨ nameL (at0 ws 0) = false then none else foundL (sizeW ws) ws cs
theorem TxOk.of {r : Rl} (h1 : ∀ x ∈ r.names, nameOk x = true) (h2 : ∀ g ∈ r.rgs, g ≠ none ∧ Rg45 g ∧ up g = false) (h3 : ∀ x y f a g cs, r = .stp x y f a g cs → f ≠ 0 ∧ Int45 f ∧ Int45 a) (h4 : r.cs.length ≤ 70000) : TxOk r := ⟨h1, h2, h3, h4⟩
theorem txok_set {x : List Nat} {p : Option Int × Option Int} {cs : List Cd} (hx : nameL x = true) (hp : Rg45 (some p) ∧ up (some p) = false) (hc : ∀ c ∈ cs, CdOk c) (l : cs.length ≤ 70000) : TxOk (.set (toS x) (some p) cs) := by
  refine ⟨fun y my => ?_, fun g mg => ?_, (fun _ _ _ _ _ _ e => nomatch e), l⟩
  · rcases List.mem_cons.mp my with rfl | my
    · rw [nameOk_toS]; exact hx
    · obtain ⟨c, mc, rfl⟩ := List.mem_map.mp my
      exact (hc c mc).nm
  · rcases List.mem_cons.mp mg with rfl | mg
    · exact ⟨(fun z => nomatch z), hp.1, hp.2⟩
    · obtain ⟨c, mc, rfl⟩ := List.mem_map.mp mg
      exact ⟨(hc c mc).ne, (hc c mc).r45, (hc c mc).nu⟩
theorem txok_stp {x y : List Nat} {f a : Int} {p : Option Int × Option Int} {cs : List Cd} (hx : nameL x = true) (hy : nameL y = true) (hf : f ≠ 0 ∧ Int45 f ∧ Int45 a) (hp : Rg45 (some p) ∧ up (some p) = false) (hc : ∀ c ∈ cs, CdOk c) (l : cs.length ≤ 70000) : TxOk (.stp (toS x) (toS y) f a (some p) cs) := by
  refine ⟨fun y' my => ?_, fun g mg => ?_, fun _ _ _ _ _ _ e => by cases e; exact hf, l⟩
  · rcases List.mem_cons.mp my with rfl | my
    · rw [nameOk_toS]; exact hx
    · rcases List.mem_cons.mp my with rfl | my
      · rw [nameOk_toS]; exact hy
      · obtain ⟨c, mc, rfl⟩ := List.mem_map.mp my
        exact (hc c mc).nm
  · rcases List.mem_cons.mp mg with rfl | mg
    · exact ⟨(fun z => nomatch z), hp.1, hp.2⟩
    · obtain ⟨c, mc, rfl⟩ := List.mem_map.mp mg
      exact ⟨(hc c mc).ne, (hc c mc).r45, (hc c mc).nu⟩
theorem rg_nn : Rg45 (some (none, none)) ∧ up (some (none, none)) = false := ⟨fun p e => by cases e; exact ⟨(fun n z => nomatch z), (fun n z => nomatch z)⟩, rfl⟩
theorem drop_len (k : Nat) (ws : List (List Nat)) : ((ws.drop k).map List.length).sum + (ws.drop k).length ≤ (ws.map List.length).sum + ws.length := by
  have e := List.take_append_drop k ws
  have s : (ws.map List.length).sum = ((ws.take k).map List.length).sum + ((ws.drop k).map List.length).sum := by
    conv => lhs; rw [← e]
    rw [List.map_append, List.sum_append]
  rw [List.length_drop]
  omega
theorem cand_ok {ws : List (List Nat)} {r : Rl} (h : candL ws = some r) (l : (ws.map List.length).sum + ws.length ≤ 69000) : TxOk r := by
  unfold candL at h
  cases ew : readWh (ws.drop (sizeW ws)) with
  | none => rw [ew] at h; cases h
  | some cs =>
    rw [ew] at h
    dsimp only at h
    obtain ⟨_, cok, cl⟩ := wh_exact ew
    have dl := drop_len (sizeW ws) ws
    by_cases b : ws.length < sizeW ws ∨ nameL (at0 ws 0) = false
    · rw [if_pos b] at h; cases h
    rw [if_neg b] at h
    have nx : nameL (at0 ws 0) = true := by
      cases e : nameL (at0 ws 0) with
      | true => rfl
      | false => exact absurd (.inr e) b
    unfold foundL at h
    by_cases z3 : sizeW ws = 3
    · rw [if_pos z3] at h
      obtain ⟨p, ep, rfl⟩ := Option.map_eq_some_iff.mp h
      obtain ⟨_, p2, p3⟩ := readP_exact ep
      exact txok_set nx ⟨p2, p3⟩ cok (by omega)
    · rw [if_neg z3] at h
      by_cases c : at0 ws 1 = [102, 114, 111, 109] ∧ (at0 ws 4 = [43] ∨ at0 ws 4 = [45]) ∧ nameL (at0 ws 3) = true
      · rw [if_pos c] at h
        cases ef : readI (at0 ws 2) with
        | none => rw [ef] at h; cases h
        | some f =>
          cases ea : readI (at0 ws 5) with
          | none => rw [ef, ea] at h; cases h
          | some a =>
            cases ep : (if sizeW ws = 8 then readP (at0 ws 7) else some (none, none)) with
            | none => rw [ef, ea, ep] at h; cases h
            | some p =>
              rw [ef, ea, ep] at h
              dsimp only at h
              by_cases f0 : f = 0
              · rw [if_pos f0] at h; cases h
              rw [if_neg f0] at h
              cases h
              have hp : Rg45 (some p) ∧ up (some p) = false := by
                by_cases z8 : sizeW ws = 8
                · rw [if_pos z8] at ep
                  exact (readP_exact ep).2
                · rw [if_neg z8] at ep
                  cases ep
                  exact rg_nn
              refine txok_stp nx c.2.2 ⟨f0, (readI_exact ef).2, ?_⟩ hp cok (by omega)
              have a45 := (readI_exact ea).2
              show (_ : Int).natAbs < _
              split <;> omega
      · rw [if_neg c] at h
        cases h
/-! ### what the program reads, the law finds -/
theorem readW_cases {ws : List (List Nat)} {r : Rl} (h : readW ws = some r) :
    (∃ x w rest p cs, ws = x :: [105, 115] :: w :: rest ∧ nameL x = true ∧ readP w = some p ∧ readWh rest = some cs ∧ r = .set (toS x) (some p) cs) ∨
    (∃ x f y s d g more rest n m cs, ws = x :: [102, 114, 111, 109] :: f :: y :: s :: d :: more ∧ stepHd x y f s d = some (n, m) ∧ readWh rest = some cs ∧ r = .stp (toS x) (toS y) n m (some g) cs ∧
      ((∃ w, more = [105, 110] :: w :: rest ∧ w ≠ [46, 46] ∧ readP w = some g) ∨ (more = rest ∧ g = (none, none)))) := by
  match ws, h with
  | x :: i :: w :: rest, h =>
    have h : (if i = [105, 115] then (if nameL x = true then (match readP w, readWh rest with
      | some p, some cs => some (.set (toS x) (some p) cs)
      | _, _ => none) else none) else if i = [102, 114, 111, 109] then readSw x w rest else none) = some r := h
    by_cases c : i = [105, 115]
    · rw [if_pos c] at h
      by_cases n : nameL x = true
      · rw [if_pos n] at h
        cases ep : readP w with
        | none => rw [ep] at h; cases h
        | some p =>
          cases ec : readWh rest with
          | none => rw [ep, ec] at h; cases h
          | some cs =>
            rw [ep, ec] at h
            cases h
            exact .inl ⟨x, w, rest, p, cs, by rw [c], n, ep, ec, rfl⟩
      · rw [if_neg n] at h; cases h
    · rw [if_neg c] at h
      by_cases c2 : i = [102, 114, 111, 109]
      · rw [if_pos c2] at h
        match rest, h with
        | y :: s :: d :: more, h =>
          have fin : ∀ (g : Option (Option Int × Option Int)) (rst : List (List Nat)), readSt x w y s d (g.map some) (readWh rst) = some r → ∃ n m p cs, g = some p ∧ stepHd x y w s d = some (n, m) ∧ readWh rst = some cs ∧ r = .stp (toS x) (toS y) n m (some p) cs := by
            intro g rst e
            rw [readSt_eq] at e
            cases eh : stepHd x y w s d with
            | none => rw [eh] at e; cases e
            | some nm =>
              cases g with
              | none => rw [eh] at e; cases e
              | some p =>
                cases ec : readWh rst with
                | none => rw [eh, ec] at e; cases e
                | some cs =>
                  rw [eh, ec] at e
                  cases e
                  exact ⟨nm.1, nm.2, p, cs, rfl, rfl, rfl, rfl⟩
          by_cases hm : ∃ n w2 r2, more = n :: w2 :: r2 ∧ n = [105, 110] ∧ w2 ≠ [46, 46]
          · obtain ⟨n, w2, r2, rfl, e1, e2⟩ := hm
            rw [readSw_in e1 e2] at h
            obtain ⟨n', m, p, cs, ep, eh, ec, er⟩ := fin (readP w2) r2 h
            exact .inr ⟨x, w, y, s, d, p, _, r2, n', m, cs, by rw [c2], eh, ec, er, .inl ⟨w2, by rw [e1], e2, ep⟩⟩
          · rw [readSw_no (fun n w2 r2 e z => hm ⟨n, w2, r2, e, z⟩)] at h
            obtain ⟨n', m, p, cs, ep, eh, ec, er⟩ := fin (some (none, none)) more h
            cases ep
            exact .inr ⟨x, w, y, s, d, (none, none), more, more, n', m, cs, by rw [c2], eh, ec, er, .inr ⟨rfl, rfl⟩⟩
      · rw [if_neg c2] at h; cases h
theorem stepHd_told {x y f s d : List Nat} {n m : Int} (h : stepHd x y f s d = some (n, m)) : f ≠ [48] ∧ nameL x = true ∧ nameL y = true ∧ readI f = some n ∧ readSg s d = some m := by
  unfold stepHd at h
  by_cases c : f = [48]
  · rw [if_pos c] at h; cases h
  rw [if_neg c] at h
  by_cases n2 : nameL x = true ∧ nameL y = true
  · rw [if_pos n2] at h
    cases ef : readI f with
    | none => rw [ef] at h; cases h
    | some f' =>
      cases es : readSg s d with
      | none => rw [ef, es] at h; cases h
      | some m' =>
        rw [ef, es] at h
        cases h
        exact ⟨c, n2.1, n2.2, rfl, rfl⟩
  · rw [if_neg n2] at h; cases h
theorem foundL_stp {z : Nat} {ws : List (List Nat)} {cs : List Cd} {f a : Int} {p : Option Int × Option Int} (h3 : z ≠ 3) (h1 : at0 ws 1 = [102, 114, 111, 109]) (h4 : at0 ws 4 = [43] ∨ at0 ws 4 = [45]) (ny : nameL (at0 ws 3) = true) (ef : readI (at0 ws 2) = some f) (ea : readI (at0 ws 5) = some a) (ep : (if z = 8 then readP (at0 ws 7) else some (none, none)) = some p) (f0 : f ≠ 0) :
    foundL z ws cs = some (.stp (toS (at0 ws 0)) (toS (at0 ws 3)) f (a * (if at0 ws 4 = [45] then -1 else 1)) (some p) cs) := by
  unfold foundL
  rw [if_neg h3, if_pos ⟨h1, h4, ny⟩, ef, ea, ep]
  dsimp only
  rw [if_neg f0]
theorem read_cand {ws : List (List Nat)} {r : Rl} (h : readW ws = some r) : candL ws = some r := by
  rcases readW_cases h with ⟨x, w, rest, p, cs, rfl, nx, ep, ec, rfl⟩ | ⟨x, f, y, s, d, g, more, rest, n, m, cs, rfl, eh, ec, rfl, hm⟩
  · show (match readWh rest with
      | none => none
      | some cs => if rest.length + 1 + 1 + 1 < 3 ∨ nameL x = false then none else (readP w).map fun p => Rl.set (toS x) (some p) cs) = _
    rw [ec, ep]
    dsimp only
    rw [if_neg (by rw [nx]; rintro (z | z); omega; cases z)]
    rfl
  · obtain ⟨f48, nx, ny, ef, es⟩ := stepHd_told eh
    have n0 : n ≠ 0 := fun z => f48 (readI_zero (by rw [← z]; exact ef))
    have sg : ∃ a, readI d = some a ∧ (s = [43] ∨ s = [45]) ∧ a * (if s = [45] then -1 else 1) = m := by
      rcases readSg_told es with ⟨rfl, _, e⟩ | ⟨rfl, _, e⟩
      · exact ⟨_, e, .inr rfl, by rw [if_pos rfl]; omega⟩
      · exact ⟨_, e, .inl rfl, by rw [if_neg (by decide)]; omega⟩
    obtain ⟨a, ea, hs, em⟩ := sg
    rcases hm with ⟨w, rfl, wd, ew⟩ | ⟨hm1, rfl⟩
    · show (match readWh rest with
        | none => none
        | some cs => if rest.length + 1 + 1 + 1 + 1 + 1 + 1 + 1 + 1 < 8 ∨ nameL x = false then none else foundL 8 (x :: [102, 114, 111, 109] :: f :: y :: s :: d :: [105, 110] :: w :: rest) cs) = _
      rw [ec]
      dsimp only
      rw [if_neg (by rw [nx]; rintro (z | z); omega; cases z)]
      have z := foundL_stp (z := 8) (ws := x :: [102, 114, 111, 109] :: f :: y :: s :: d :: [105, 110] :: w :: rest) (cs := cs) (by decide) rfl hs ny ef ea ew n0
      rw [z]
      show some (Rl.stp (toS x) (toS y) n (a * (if s = [45] then -1 else 1)) (some g) cs) = _
      rw [em]
    · subst hm1
      have zz : sizeW (x :: [102, 114, 111, 109] :: f :: y :: s :: d :: more) = 6 := by
        show (if ([[102, 114, 111, 109]] : List (List Nat)) = [[105, 115]] then 3 else if more.take 1 = [[105, 110]] then 8 else 6) = 6
        rw [if_neg (by decide)]
        show (if more.take 1 = [[105, 110]] then 8 else 6) = 6
        rw [if_neg ?_]
        match more, ec with
        | [], _ => exact fun z => nomatch z
        | w :: r, ec =>
          have := wh_head ec
          rw [this]
          show ¬ ([[119, 104, 101, 110]] : List (List Nat)) = [[105, 110]]
          decide
      unfold candL
      rw [zz]
      show (match readWh more with
        | none => none
        | some cs => if more.length + 1 + 1 + 1 + 1 + 1 + 1 < 6 ∨ nameL x = false then none else foundL 6 (x :: [102, 114, 111, 109] :: f :: y :: s :: d :: more) cs) = _
      rw [ec]
      dsimp only
      rw [if_neg (by rw [nx]; rintro (z | z); omega; cases z)]
      have z := foundL_stp (z := 6) (ws := x :: [102, 114, 111, 109] :: f :: y :: s :: d :: more) (cs := cs) (p := (none, none)) (by decide) rfl hs ny ef ea rfl n0
      rw [z]
      show some (Rl.stp (toS x) (toS y) n (a * (if s = [45] then -1 else 1)) (some (none, none)) cs) = _
      rw [em]
theorem wordsR_tl (r : Rl) : (wordsR r).map TL.tl = (wordsS r).map TL.tl ++ wordsW r.cs := by
  unfold wordsR wordsW
  rw [List.map_append]
  congr 1
  by_cases c : r.cs = []
  · rw [if_pos c, if_pos c]
    rfl
  · rw [if_neg c, if_neg c, List.map_cons, tl_when]
    rfl
theorem tl_showRl (r : Rl) : TL.tl (showRl r) = TL.joinL [32] ((wordsS r).map TL.tl ++ wordsW r.cs) := by
  unfold showRl
  rw [TL.join_eq, TL.tl_join, tl_space, wordsR_tl]
theorem wordsS_stp (x y : Str) (f a : Int) (g : Rg) (cs : List Cd) : (wordsS (.stp x y f a g cs)).map TL.tl = [TL.tl x, [102, 114, 111, 109], TL.tl (showI f), TL.tl y, (if a < 0 then [45] else [43]), TL.tl (showI (if a < 0 then -a else a))] ++ (if g = some (none, none) then [] else [[105, 110], TL.tl (showR g)]) := by
  have e : wordsS (.stp x y f a g cs) = [x, Str.ofString "from", showI f, y, (if a < 0 then Str.ofString "-" else Str.ofString "+"), showI (if a < 0 then -a else a)] ++ (if g = some (none, none) then [] else [Str.ofString "in", showR g]) := rfl
  rw [e, List.map_append]
  congr 1
  · show [TL.tl x, TL.tl (Str.ofString "from"), _, _, TL.tl (if a < 0 then Str.ofString "-" else Str.ofString "+"), _] = _
    rw [tl_from]
    by_cases c : a < 0
    · rw [if_pos c, if_pos c, if_pos c, show TL.tl (Str.ofString "-") = [45] from tl_minus]
    · rw [if_neg c, if_neg c, if_neg c, tl_plus]
  · by_cases c : g = some (none, none)
    · rw [if_pos c, if_pos c]
      rfl
    · rw [if_neg c, if_neg c, List.map_cons, tl_in]
      rfl
theorem tl_nn : TL.tl (showP (none, none)) = [46, 46] := by
  rw [tl_showP]
  show TL.tl "" ++ ([46, 46] ++ TL.tl "") = _
  rw [tl_empty]
  rfl
theorem read_exact {ws : List (List Nat)} {r : Rl} (h : readW ws = some r) : TL.tl (showRl r) = TL.joinL [32] ws := by
  rw [tl_showRl]
  rcases readW_cases h with ⟨x, w, rest, p, cs, rfl, nx, ep, ec, rfl⟩ | ⟨x, f, y, s, d, g, more, rest, n, m, cs, rfl, eh, ec, rfl, hm⟩
  · have z := (wh_exact ec).1 [x, [105, 115], w]
    have e : (wordsS (.set (toS x) (some p) cs)).map TL.tl = [x, [105, 115], w] := by
      show [TL.tl (toS x), TL.tl (Str.ofString "is"), TL.tl (showP p)] = _
      rw [tl_toS, tl_is, (readP_exact ep).1]
    rw [e]
    exact z.symm
  · obtain ⟨f48, nx, ny, ef, es⟩ := stepHd_told eh
    have sg : (if m < 0 then ([45] : List Nat) else [43]) = s ∧ TL.tl (showI (if m < 0 then -m else m)) = d := by
      rcases readSg_told es with ⟨rfl, c, e⟩ | ⟨rfl, c, e⟩
      · rw [if_pos c, if_pos c]
        exact ⟨rfl, (readI_exact e).1⟩
      · rw [if_neg (by omega), if_neg (by omega)]
        exact ⟨rfl, (readI_exact e).1⟩
    rw [wordsS_stp, tl_toS, tl_toS, sg.1, sg.2, (readI_exact ef).1]
    rcases hm with ⟨w, rfl, wd, ew⟩ | ⟨hm1, rfl⟩
    · have pe := (readP_exact ew).1
      rw [if_neg (fun z => by cases z; exact wd (by rw [← pe, tl_nn]))]
      have z := (wh_exact ec).1 [x, [102, 114, 111, 109], f, y, s, d, [105, 110], w]
      show TL.joinL [32] ([x, [102, 114, 111, 109], f, y, s, d, [105, 110], TL.tl (showP g)] ++ wordsW cs) = _
      rw [pe]
      exact z.symm
    · subst hm1
      rw [if_pos rfl, List.append_nil]
      exact ((wh_exact ec).1 [x, [102, 114, 111, 109], f, y, s, d]).symm
/-! ### shown and read again -/
theorem spl_tail {s : Nat} {t : List Nat} : ∀ A : List (List Nat), (∀ p ∈ A, s ∉ p) → TL.spl [s] 0 [] (TL.joinL [s] (A ++ [t])) = A ++ TL.spl [s] 0 [] t
  | [], _ => rfl
  | p :: A, h => by
    have i := spl_tail (t := t) A fun q m => h q (by simp [m])
    have e : TL.joinL [s] (p :: A ++ [t]) = p ++ ([s] ++ TL.joinL [s] (A ++ [t])) := by
      cases A <;> rfl
    rw [e]
    have z := TL.spl_part1 (s := s) (S := []) (p := p) (rest := TL.joinL [s] (A ++ [t])) (acc := []) (h p (by simp))
    rw [List.nil_append] at z
    exact z.trans (by rw [i]; rfl)
theorem dig_no {l : List Nat} {k : Nat} (hk : k = 32 ∨ k = 44) (h : ∀ c ∈ l, c = 45 ∨ c = 46 ∨ (48 ≤ c ∧ c ≤ 57)) : k ∉ l := fun m => by
  have := h k m
  omega
theorem showI_dig (n : Int) : ∀ c ∈ TL.tl (showI n), c = 45 ∨ c = 46 ∨ (48 ≤ c ∧ c ≤ 57) := fun c m => by
  rw [tl_showI] at m
  rcases List.mem_append.mp m with m | m
  · split at m
    · rw [List.mem_singleton.mp m]; exact .inl rfl
    · cases m
  · exact .inr (.inr (TL.numL_digits _ c m))
theorem showB_dig (o : Option Int) : ∀ c ∈ TL.tl (showB o), c = 45 ∨ c = 46 ∨ (48 ≤ c ∧ c ≤ 57) := by
  cases o with
  | none =>
    show ∀ c ∈ TL.tl "", _
    rw [tl_empty]
    exact fun c m => nomatch m
  | some n => exact showI_dig n
theorem showP_dig (p : Option Int × Option Int) : ∀ c ∈ TL.tl (showP p), c = 45 ∨ c = 46 ∨ (48 ≤ c ∧ c ≤ 57) := fun c m => by
  rw [tl_showP] at m
  rcases List.mem_append.mp m with m | m
  · exact showB_dig _ c m
  · rcases List.mem_append.mp m with m | m
    · simp only [List.mem_cons, List.not_mem_nil, or_false] at m
      exact .inr (.inl (by omega))
    · exact showB_dig _ c m
theorem name_no {x : Str} {k : Nat} (hk : k = 32 ∨ k = 44) (h : nameOk x = true) : k ∉ TL.tl x := fun m => by
  rw [nameL_ok] at h
  unfold nameL at h
  simp only [Bool.and_eq_true, List.all_eq_true, decide_eq_true_eq] at h
  have := h.2 k m
  omega
theorem showC_read {c : Cd} (ok : CdOk c) : readC (TL.tl (showC c)) = some c ∧ 44 ∉ TL.tl (showC c) := by
  obtain ⟨x, g⟩ := c
  obtain ⟨nm, ne, r45, nu⟩ := ok
  match g, ne with
  | some p, _ =>
    obtain ⟨b1, b2⟩ := r45 p rfl
    have e : TL.tl (showC (x, some p)) = TL.joinL [32] [TL.tl x, [105, 110], TL.tl (showP p)] := by
      unfold showC
      rw [TL.tl_append, TL.tl_append, tl_inn, List.append_assoc]
      rfl
    have w : wordsT (TL.tl (showC (x, some p))) = [TL.tl x, [105, 110], TL.tl (showP p)] := by
      rw [e]
      refine TL.spl_join (S := []) (by simp) fun q m => ?_
      simp only [List.mem_cons, List.not_mem_nil, or_false] at m
      rcases m with rfl | rfl | rfl
      · exact name_no (.inl rfl) nm
      · decide
      · exact dig_no (.inl rfl) (showP_dig p)
    refine ⟨?_, ?_⟩
    · have rd : readC (TL.tl (showC (x, some p))) = (match wordsT (TL.tl (showC (x, some p))) with
        | [n, i, r] => if i = [105, 110] ∧ nameL n = true then (readP r).map fun p => (toS n, some p) else none
        | _ => none) := rfl
      rw [rd, w]
      dsimp only
      rw [if_pos ⟨rfl, by rw [← nameL_ok]; exact nm⟩, read_showP b1 b2 nu, toS_tl]
      rfl
    · rw [e]
      show 44 ∉ TL.tl x ++ ([32] ++ ([105, 110] ++ ([32] ++ TL.tl (showP p))))
      intro m
      simp only [List.mem_append, List.mem_cons, List.not_mem_nil, or_false] at m
      have h1 := name_no (x := x) (.inr rfl) nm
      have h2 := dig_no (.inr rfl) (showP_dig p)
      rcases m with m | m | m | m | m
      · exact h1 m
      · omega
      · omega
      · omega
      · exact h2 m
theorem condsT_read {cs : List Cd} (hc : ∀ c ∈ cs, CdOk c) (ne : cs ≠ []) : readCs (TL.tl (condsT cs)) = some cs := by
  have e : TL.spl [44, 32] 0 [] (TL.tl (condsT cs)) = (cs.map showC).map TL.tl := by
    rw [tl_condsT]
    refine TL.spl_join (S := [32]) (by simpa using ne) fun p m => ?_
    obtain ⟨t, mt, rfl⟩ := List.mem_map.mp m
    obtain ⟨c, mc, rfl⟩ := List.mem_map.mp mt
    exact (showC_read (hc c mc)).2
  unfold readCs
  rw [e, List.map_map, List.map_map]
  have : ∀ c ∈ cs, ((readC ∘ TL.tl) ∘ showC) c = some c := fun c m => (showC_read (hc c m)).1
  rw [List.map_congr_left this]
  exact allS_map cs
/-- the words of a shown rule -/
theorem words_shown {cs : List Cd} (hc : ∀ c ∈ cs, CdOk c) {A : List (List Nat)} (hA : A ≠ []) (hf : ∀ p ∈ A, 32 ∉ p) : ∃ rest, wordsT (TL.joinL [32] (A ++ wordsW cs)) = A ++ rest ∧ readWh rest = some cs := by
  by_cases c : cs = []
  · subst c
    refine ⟨[], ?_, rfl⟩
    unfold wordsW
    rw [if_pos rfl, List.append_nil]
    exact TL.spl_join (S := []) hA hf
  · refine ⟨[119, 104, 101, 110] :: wordsT (TL.tl (condsT cs)), ?_, ?_⟩
    · unfold wordsW
      rw [if_neg c]
      have z := spl_tail (s := 32) (t := TL.tl (condsT cs)) (A ++ [[119, 104, 101, 110]]) fun p m => by
        rcases List.mem_append.mp m with m | m
        · exact hf p m
        · rw [List.mem_singleton.mp m]
          decide
      rw [List.append_assoc, List.append_assoc] at z
      exact z
    · show (if ([119, 104, 101, 110] : List Nat) = [119, 104, 101, 110] then readCs (TL.joinL [32] (wordsT (TL.tl (condsT cs)))) else none) = _
      rw [if_pos rfl, join_words]
      exact condsT_read hc c
theorem TxOk.cdok {r : Rl} (ok : TxOk r) : ∀ c ∈ r.cs, CdOk c := fun c m => by
  obtain ⟨a, b, c', d⟩ := ok.cds c m
  exact ⟨a, b, c', d⟩
theorem readSg_mk {a : Int} (h : a.natAbs < 10 ^ 45) : readSg (if a < 0 then [45] else [43]) (TL.tl (showI (if a < 0 then -a else a))) = some a := by
  have z := read_showI h
  rw [tl_showI] at z
  by_cases c : a < 0
  · rw [if_pos c] at z
    rw [if_pos c, if_pos c, tl_showI, if_neg (by omega), List.nil_append, Int.natAbs_neg]
    unfold readSg
    rw [if_pos rfl]
    exact z
  · rw [if_neg c, List.nil_append] at z
    rw [if_neg c, if_neg c, tl_showI, if_neg c, List.nil_append]
    unfold readSg
    rw [if_neg (by decide), if_pos ⟨rfl, (isneg_num _).1⟩]
    exact z
theorem showP_nn {p : Option Int × Option Int} (h : TL.tl (showP p) = [46, 46]) : p = (none, none) := by
  obtain ⟨l, u⟩ := p
  rw [tl_showP] at h
  have len : (TL.tl (showB l)).length + (2 + (TL.tl (showB u)).length) = 2 := by
    have len := congrArg List.length h
    rw [List.length_append, List.length_append] at len
    exact len
  have n1 : ∀ o : Option Int, (TL.tl (showB o)).length = 0 → o = none := fun o z => by
    cases o with
    | none => rfl
    | some n => exact absurd (List.length_eq_zero_iff.mp z) (showI_ne n)
  rw [n1 l (by omega), n1 u (by omega)]
theorem show_read {r : Rl} (ok : TxOk r) : readRl (TL.tl (showRl r)) = some r := by
  rw [tl_showRl]
  have cok := ok.cdok
  match r, ok, cok with
  | .set x g cs, ok, cok =>
    have cok : ∀ c ∈ cs, CdOk c := cok
    have nx := ok.nm x (by simp [Rl.names])
    obtain ⟨g0, g45, gu⟩ := ok.rg g (by simp [Rl.rgs])
    match g, g0, g45, gu with
    | some p, _, g45, gu =>
      obtain ⟨b1, b2⟩ := g45 p rfl
      have e : (wordsS (.set x (some p) cs)).map TL.tl = [TL.tl x, [105, 115], TL.tl (showP p)] := by
        show [TL.tl x, TL.tl (Str.ofString "is"), TL.tl (showP p)] = _
        rw [tl_is]
      rw [e]
      obtain ⟨rest, e1, e2⟩ := words_shown (cs := cs) (A := [TL.tl x, [105, 115], TL.tl (showP p)]) cok (by simp) fun q m => by
        simp only [List.mem_cons, List.not_mem_nil, or_false] at m
        rcases m with rfl | rfl | rfl
        · exact name_no (.inl rfl) nx
        · decide
        · exact dig_no (.inl rfl) (showP_dig p)
      unfold readRl
      show readW (wordsT (TL.joinL [32] ([TL.tl x, [105, 115], TL.tl (showP p)] ++ wordsW cs))) = _
      rw [e1]
      show (if ([105, 115] : List Nat) = [105, 115] then (if nameL (TL.tl x) = true then (match readP (TL.tl (showP p)), readWh rest with
        | some p, some cs => some (Rl.set (toS (TL.tl x)) (some p) cs)
        | _, _ => none) else none) else if ([105, 115] : List Nat) = [102, 114, 111, 109] then readSw (TL.tl x) (TL.tl (showP p)) rest else none) = _
      rw [if_pos rfl, if_pos (by rw [← nameL_ok]; exact nx), read_showP b1 b2 gu, e2, toS_tl]
  | .stp x y f a g cs, ok, cok =>
    have cok : ∀ c ∈ cs, CdOk c := cok
    have nx := ok.nm x (by simp [Rl.names])
    have ny := ok.nm y (by simp [Rl.names])
    obtain ⟨g0, g45, gu⟩ := ok.rg g (by simp [Rl.rgs])
    obtain ⟨f0, f45, a45⟩ := ok.nb x y f a g cs rfl
    match g, g0, g45, gu with
    | some p, _, g45, gu =>
      obtain ⟨b1, b2⟩ := g45 p rfl
      rw [wordsS_stp]
      have sh : stepHd (TL.tl x) (TL.tl y) (TL.tl (showI f)) (if a < 0 then [45] else [43]) (TL.tl (showI (if a < 0 then -a else a))) = some (f, a) := by
        unfold stepHd
        have rf := read_showI f45
        rw [if_neg (fun z => by
          rw [z] at rf
          exact f0 (Option.some.inj rf).symm), if_pos ⟨by rw [← nameL_ok]; exact nx, by rw [← nameL_ok]; exact ny⟩, rf, readSg_mk a45]
      have six : ∀ q ∈ [TL.tl x, [102, 114, 111, 109], TL.tl (showI f), TL.tl y, (if a < 0 then [45] else [43]), TL.tl (showI (if a < 0 then -a else a))], 32 ∉ q := fun q m => by
        simp only [List.mem_cons, List.not_mem_nil, or_false] at m
        rcases m with rfl | rfl | rfl | rfl | rfl | rfl
        · exact name_no (.inl rfl) nx
        · decide
        · exact dig_no (.inl rfl) (showI_dig f)
        · exact name_no (.inl rfl) ny
        · split <;> decide
        · exact dig_no (.inl rfl) (showI_dig _)
      by_cases c : p = (none, none)
      · rw [if_pos (show some p = some (none, none) from by rw [c]), List.append_nil]
        obtain ⟨rest, e1, e2⟩ := words_shown (cs := cs) cok (by simp) six
        unfold readRl
        show readW (wordsT (TL.joinL [32] (_ ++ wordsW cs))) = _
        rw [e1]
        refine (readSw_no (x := TL.tl x) (f := TL.tl (showI f)) (y := TL.tl y) (s := (if a < 0 then [45] else [43])) (a := TL.tl (showI (if a < 0 then -a else a))) (more := rest) fun n w r e z => ?_).trans ?_
        · rw [e] at e2
          have := wh_head e2
          rw [this] at z
          exact absurd z.1 (by decide)
        · rw [e2]
          have z := readSt_yes (r := some (none, none)) (cs := cs) sh
          rw [toS_tl, toS_tl] at z
          rw [c]
          exact z
      · rw [if_neg (show ¬ some p = some (none, none) from fun z => c (Option.some.inj z))]
        obtain ⟨rest, e1, e2⟩ := words_shown (cs := cs) (A := [TL.tl x, [102, 114, 111, 109], TL.tl (showI f), TL.tl y, (if a < 0 then [45] else [43]), TL.tl (showI (if a < 0 then -a else a))] ++ [[105, 110], TL.tl (showP p)]) cok (by simp) fun q m => by
          rcases List.mem_append.mp m with m | m
          · exact six q m
          · simp only [List.mem_cons, List.not_mem_nil, or_false] at m
            rcases m with rfl | rfl
            · decide
            · exact dig_no (.inl rfl) (showP_dig p)
        unfold readRl
        show readW (wordsT (TL.joinL [32] (_ ++ [[105, 110], TL.tl (showP p)] ++ wordsW cs))) = _
        rw [e1]
        refine (readSw_in (x := TL.tl x) (f := TL.tl (showI f)) (y := TL.tl y) (s := (if a < 0 then [45] else [43])) (a := TL.tl (showI (if a < 0 then -a else a))) (n := [105, 110]) (w := TL.tl (showP p)) (r := rest) rfl fun z => c (showP_nn z)).trans ?_
        rw [e2, read_showP b1 b2 gu]
        have z := readSt_yes (r := some p) (cs := cs) sh
        rw [toS_tl, toS_tl] at z
        exact z
/-- the law's answer is the program's -/
theorem cand_read {l : List Nat} (len : ((wordsT l).map List.length).sum + (wordsT l).length ≤ 69000) : (match candL (wordsT l) with
    | some r => if TL.tl (showRl r) = l then some r else none
    | none => none) = readRl l := by
  cases er : readRl l with
  | some r =>
    rw [read_cand er]
    dsimp only
    rw [if_pos (by rw [read_exact er, join_words])]
  | none =>
    cases ec : candL (wordsT l) with
    | none => rfl
    | some r =>
      dsimp only
      by_cases c : TL.tl (showRl r) = l
      · have z := show_read (cand_ok ec len)
        rw [c, er] at z
        cases z
      · rw [if_neg c]
def beginS (r : Rl) : Str := Txt.join (Str.ofString " ") (wordsS r)
theorem tl_beginS (r : Rl) : TL.tl (beginS r) = TL.joinL [32] ((wordsS r).map TL.tl) := by
  unfold beginS
  rw [TL.join_eq, TL.tl_join, tl_space]
theorem tl_isS : TL.tl (Str.ofString " is ") = [32, 105, 115, 32] := TL.tl_ofString " is "
theorem tl_fromS : TL.tl (Str.ofString " from ") = [32, 102, 114, 111, 109, 32] := TL.tl_ofString " from "
theorem tl_whenS : TL.tl (Str.ofString " when ") = [32, 119, 104, 101, 110, 32] := TL.tl_ofString " when "
theorem tl_plusS : TL.tl (Str.ofString " + ") = [32, 43, 32] := TL.tl_ofString " + "
theorem tl_minusS : TL.tl (Str.ofString " - ") = [32, 45, 32] := TL.tl_ofString " - "
theorem begin_set (x : Str) (g : Rg) (cs : List Cd) : x ++ Str.ofString " is " ++ showR g = beginS (.set x g cs) := by
  apply TL.ext_tl
  rw [tl_beginS, TL.tl_append, TL.tl_append, tl_isS]
  show _ = TL.tl x ++ ([32] ++ (TL.tl (Str.ofString "is") ++ ([32] ++ TL.tl (showR g))))
  rw [tl_is, List.append_assoc]
  rfl
theorem begin_stp (x y : Str) (f a : Int) (g : Rg) (cs : List Cd) : x ++ Str.ofString " from " ++ showI f ++ Str.ofString " " ++ (y ++ (if a < 0 then Str.ofString " - " else Str.ofString " + ") ++ showI (if a < 0 then -a else a)) ++ (if g = some (none, none) then Str.empty else Str.ofString " in " ++ showR g) = beginS (.stp x y f a g cs) := by
  apply TL.ext_tl
  have sg : TL.tl (if a < 0 then Str.ofString " - " else Str.ofString " + ") = [32] ++ ((if a < 0 then [45] else [43]) ++ [32]) := by
    by_cases c : a < 0
    · rw [if_pos c, if_pos c, tl_minusS]; rfl
    · rw [if_neg c, if_neg c, tl_plusS]; rfl
  rw [tl_beginS, wordsS_stp]
  simp only [TL.tl_append, sg, tl_fromS, tl_space]
  by_cases c : g = some (none, none)
  · rw [if_pos c, if_pos c]
    show _ = TL.tl x ++ ([32] ++ ([102, 114, 111, 109] ++ ([32] ++ (TL.tl (showI f) ++ ([32] ++ (TL.tl y ++ ([32] ++ ((if a < 0 then [45] else [43]) ++ ([32] ++ TL.tl (showI (if a < 0 then -a else a)))))))))))
    rw [show TL.tl Str.empty = [] from rfl, List.append_nil]
    simp only [List.append_assoc, List.cons_append, List.nil_append]
  · rw [if_neg c, if_neg c, TL.tl_append, tl_inn]
    show _ = TL.tl x ++ ([32] ++ ([102, 114, 111, 109] ++ ([32] ++ (TL.tl (showI f) ++ ([32] ++ (TL.tl y ++ ([32] ++ ((if a < 0 then [45] else [43]) ++ ([32] ++ (TL.tl (showI (if a < 0 then -a else a)) ++ ([32] ++ ([105, 110] ++ ([32] ++ TL.tl (showR g))))))))))))))
    simp only [List.append_assoc, List.cons_append, List.nil_append]
theorem showRl_nil {r : Rl} (h : r.cs = []) : showRl r = beginS r := by
  unfold showRl beginS wordsR
  rw [if_pos h, List.append_nil]
theorem joinL_two (S : List Nat) : ∀ {A : List (List Nat)} {p q : List Nat}, A ≠ [] → TL.joinL S (A ++ [p, q]) = TL.joinL S A ++ (S ++ (p ++ (S ++ q)))
  | [a], p, q, _ => rfl
  | a :: b :: A, p, q, _ => by
    have i := joinL_two S (A := b :: A) (p := p) (q := q) (by simp)
    show a ++ (S ++ TL.joinL S (b :: A ++ [p, q])) = (a ++ (S ++ TL.joinL S (b :: A))) ++ _
    rw [i, List.append_assoc, List.append_assoc]
theorem wordsS_ne (r : Rl) : (wordsS r).map TL.tl ≠ [] := by cases r <;> exact fun z => nomatch z
theorem showRl_cons {r : Rl} (h : r.cs ≠ []) : showRl r = beginS r ++ (Str.ofString " when " ++ condsT r.cs) := by
  apply TL.ext_tl
  rw [tl_showRl, TL.tl_append, TL.tl_append, tl_beginS, tl_whenS]
  unfold wordsW
  rw [if_neg h, joinL_two [32] (wordsS_ne r)]
  rfl
theorem okT_dig {l : List Nat} (h : ∀ c ∈ l, c = 45 ∨ c = 46 ∨ (48 ≤ c ∧ c ≤ 57)) : okT l := fun c m => by have := h c m; omega
theorem okT_name {x : Str} (h : nameOk x = true) : okT (TL.tl x) := fun c m => by
  rw [nameL_ok] at h
  unfold nameL at h
  simp only [Bool.and_eq_true, List.all_eq_true, decide_eq_true_eq] at h
  have := h.2 c m
  omega
theorem okT_lit {s : String} (h : (s.toList.map Char.toNat).all (fun c => decide (c < 1114112)) = true) : okT (TL.tl (Str.ofString s)) := by
  rw [tl_lit]
  intro c m
  exact of_decide_eq_true (List.all_eq_true.mp h c m)
theorem showC_ok {c : Cd} (ok : CdOk c) : okT (TL.tl (showC c)) := by
  obtain ⟨x, g⟩ := c
  obtain ⟨nm, ne, r45, nu⟩ := ok
  match g, ne with
  | some p, _ =>
    unfold showC
    rw [TL.tl_append, TL.tl_append]
    exact ((okT_name nm).app (okT_lit (by decide))).app (okT_dig (showP_dig p))
theorem beginS_len {r : Rl} (ok : TxOk r) : (beginS r).length ≤ 400 := by
  have j := join_len (y := Str.ofString " ") (wordsS r)
  rw [ln1] at j
  have : ((wordsS r).map (·.length)).sum ≤ 300 ∧ (wordsS r).length ≤ 8 := wordsS_sum ok
  unfold beginS
  omega
theorem app_e (x : Str) : x ++ Str.empty = x := by
  apply TL.ext_tl
  rw [TL.tl_append]
  exact List.append_nil _
/-! ### the law's rule of a text, piece by piece -/
theorem cutV_mid (xs : List V) (i j : Nat) (h : i ≤ j) : cutV xs (some (i : Int)) (some (j : Int)) = (xs.drop i).take (j - i) := by
  unfold cutV
  rw [HT.sIx_nat, HT.sIx_nat]
  by_cases c : i ≤ xs.length
  · rw [Nat.min_eq_left c]
    by_cases d : j ≤ xs.length
    · rw [Nat.min_eq_left d]
    · rw [Nat.min_eq_right (by omega), List.take_of_length_le (by rw [List.length_drop]; omega), List.take_of_length_le (by rw [List.length_drop]; omega)]
  · rw [Nat.min_eq_right (by omega), List.drop_of_length_le (by omega), List.drop_of_length_le (by omega)]
    simp
theorem eqvA_strs : ∀ l m : List Str, PyData.eqvAll (l.map PyData.str) (m.map PyData.str) = decide (l = m)
  | [], [] => rfl
  | [], _ :: _ => rfl
  | _ :: _, [] => rfl
  | x :: l, y :: m => by
    show ((x == y) && PyData.eqvAll (l.map PyData.str) (m.map PyData.str)) = _
    rw [eqvA_strs l m, Bool.eq_iff_iff]
    simp
theorem eqv_strs (l m : List Str) : PyData.eqv (.list (l.map PyData.str)) (.list (m.map PyData.str)) = decide (l = m) := eqvA_strs l m
theorem map_tl_iff {l m : List Str} : l = m ↔ l.map TL.tl = m.map TL.tl := ⟨fun h => by rw [h], fun h => TL.map_tl_inj h⟩
theorem dec_strs {l m : List Str} : decide (l = m) = decide (l.map TL.tl = m.map TL.tl) := decide_eq_decide.mpr map_tl_iff
theorem ly_cs {o : Option (List Cd)} (h : ∀ cs, o = some cs → ∀ c ∈ cs, CdOk c) : Ly 5 (.list (o.toList.map fun c => .tuple (c.map cdD))) := Ly.list (lyA_of fun d md => by
  obtain ⟨cs, mc, rfl⟩ := List.mem_map.mp md
  exact ly_cds fun c m => okT_str.mpr (okT_name (h cs (Option.mem_toList.mp mc) c m).nm))
theorem ly_fd {o : Option Rl} (h : ∀ r, o = some r → TxOk r) : Ly 6 (.list (o.toList.map Rl.d)) := Ly.list (lyA_of fun d md => by
  obtain ⟨r, mr, rfl⟩ := List.mem_map.mp md
  exact ly_rl fun x m => okT_str.mpr (okT_name ((h r (Option.mem_toList.mp mr)).nm x m)))
/-- conditions behind a rule's begin, whatever word stands before them -/
def condW (rest : List (List Nat)) : Option (List Cd) := if rest = [] then some [] else readCs (TL.joinL [32] (rest.drop 1))
theorem condW_ok {rest : List (List Nat)} {cs : List Cd} (h : condW rest = some cs) : ∀ c ∈ cs, CdOk c := by
  unfold condW at h
  by_cases e : rest = []
  · rw [if_pos e] at h
    cases h
    exact fun c m => nomatch m
  · rw [if_neg e] at h
    exact (readCs_exact h).2.1
theorem readWh_eq (rest : List (List Nat)) : readWh rest = if rest.take 1 = [] ∨ rest.take 1 = [[119, 104, 101, 110]] then condW rest else none := by
  match rest with
  | [] => rfl
  | w :: r =>
    show (if w = [119, 104, 101, 110] then readCs (TL.joinL [32] r) else none) = if [w] = [] ∨ [w] = [[119, 104, 101, 110]] then readCs (TL.joinL [32] r) else none
    by_cases c : w = [119, 104, 101, 110]
    · rw [if_pos c, if_pos (.inr (by rw [c]))]
    · rw [if_neg c, if_neg (by
        rintro (z | z)
        · cases z
        · exact c (List.cons.inj z).1)]
theorem get_w {ws : List Str} {i : Nat} (h : i < ws.length) : ∃ w, atI (ws.map V.str) (i : Int) = some (.str w) ∧ at0 (ws.map TL.tl) i = TL.tl w ∧ w ∈ ws := by
  have e : ws[i]? = some ws[i] := List.getElem?_eq_getElem h
  refine ⟨ws[i], atI_nat (by rw [List.getElem?_map, e]; rfl), ?_, List.getElem_mem h⟩
  unfold at0
  rw [List.getD_eq_getElem?_getD, List.getElem?_map, e]
  rfl
theorem name_join {xs : List Str} (h1 : 1 ≤ xs.length) (h2 : xs.length ≤ 8) (al : ∀ x ∈ xs, ∃ k, TL.tl x = [k] ∧ 97 ≤ k ∧ k ≤ 122) : nameOk (Txt.join (Str.ofString "") xs) = true := by
  rw [nameL_ok, TL.join_eq, TL.tl_join, show TL.tl (Str.ofString "") = [] from tl_empty]
  have main : ∀ l : List Str, (∀ x ∈ l, ∃ k, TL.tl x = [k] ∧ 97 ≤ k ∧ k ≤ 122) → (TL.joinL [] (l.map TL.tl)).length = l.length ∧ ∀ c ∈ TL.joinL [] (l.map TL.tl), 97 ≤ c ∧ c ≤ 122 := by
    intro l
    induction l with
    | nil => intro _; exact ⟨rfl, fun c m => nomatch m⟩
    | cons x l ih =>
      intro h
      obtain ⟨k, e, k1, k2⟩ := h x (by simp)
      obtain ⟨i1, i2⟩ := ih fun y m => h y (by simp [m])
      have e2 : TL.joinL [] ((x :: l).map TL.tl) = k :: TL.joinL [] (l.map TL.tl) := by
        rw [List.map_cons, e]
        cases l with
        | nil => rfl
        | cons y l => rfl
      rw [e2]
      refine ⟨by rw [List.length_cons, List.length_cons, i1], fun c m => ?_⟩
      rcases List.mem_cons.mp m with rfl | m
      · exact ⟨k1, k2⟩
      · exact i2 c m
  obtain ⟨l1, l2⟩ := main xs al
  unfold nameL
  rw [l1, decide_eq_true h1, decide_eq_true h2]
  simp only [Bool.true_and, List.all_eq_true, Bool.and_eq_true, decide_eq_true_eq]
  exact l2
theorem rg45_in {g : Rg} (h : RgIn (10 ^ 31) g) : Rg45 g := fun p e => by
  subst e
  have b1 : (10 : Int) ^ 31 = 10000000000000000000000000000000 := by decide
  have b2 : (10 : Nat) ^ 45 = 1000000000000000000000000000000000000000000000 := by decide
  obtain ⟨i1, i2⟩ : BdOk (10 ^ 31) p.1 ∧ BdOk (10 ^ 31) p.2 := h
  refine ⟨fun n e => ?_, fun n e => ?_⟩
  · rw [e] at i1
    have i1' : -(10 ^ 31) ≤ n ∧ n ≤ 10 ^ 31 := i1
    rw [b1] at i1'
    rw [b2]
    omega
  · rw [e] at i2
    have i2' : -(10 ^ 31) ≤ n ∧ n ≤ 10 ^ 31 := i2
    rw [b1] at i2'
    rw [b2]
    omega
theorem txok_gd {ts : List Str} {r : Rl} (hw : ∀ x ∈ ts, nameOk x = true) (gd : RlGd ts r) : TxOk r := by
  have b2 : (10 : Nat) ^ 45 = 1000000000000000000000000000000000000000000000 := by decide
  have b3 : (10 : Nat) ^ 32 = 100000000000000000000000000000000 := by decide
  refine ⟨fun x m => hw x (gd.nm x m), fun g m => ?_, fun x y f a g cs e => ?_, Nat.le_trans gd.cs (by decide)⟩
  · obtain ⟨b, i⟩ := gd.rg g m
    unfold badR at b
    rw [Bool.or_eq_false_iff] at b
    exact ⟨(fun z => by rw [z] at b; exact absurd b.1 (by decide)), rg45_in i, b.2⟩
  · subst e
    have z := gd.nz
    have nb : f.natAbs ≤ 10 ∧ a.natAbs ≤ 10 ^ 32 := gd.nb
    have nb2 := nb.2
    rw [b3] at nb2
    refine ⟨of_decide_eq_false z, ?_, ?_⟩
    · show f.natAbs < 10 ^ 45
      rw [b2]
      omega
    · show a.natAbs < 10 ^ 45
      rw [b2]
      omega
theorem okT_showR {g : Rg} (h : g ≠ none) : okT (TL.tl (showR g)) := by
  match g, h with
  | some p, _ => exact okT_dig (showP_dig p)
theorem wordsR_ok {r : Rl} (ok : TxOk r) : ∀ w ∈ wordsR r, okT (TL.tl w) := fun w m => by
  have cok := ok.cdok
  unfold wordsR at m
  rcases List.mem_append.mp m with m | m
  · match r, ok, m with
    | .set x g cs, ok, m =>
      have m : w ∈ [x, Str.ofString "is", showR g] := m
      simp only [List.mem_cons, List.not_mem_nil, or_false] at m
      rcases m with rfl | rfl | rfl
      · exact okT_name (ok.nm w (by simp [Rl.names]))
      · exact okT_lit (by decide)
      · exact okT_showR (ok.rg g (by simp [Rl.rgs])).1
    | .stp x y f a g cs, ok, m =>
      have m : w ∈ [x, Str.ofString "from", showI f, y, (if a < 0 then Str.ofString "-" else Str.ofString "+"), showI (if a < 0 then -a else a)] ++ (if g = some (none, none) then [] else [Str.ofString "in", showR g]) := m
      rcases List.mem_append.mp m with m | m
      · simp only [List.mem_cons, List.not_mem_nil, or_false] at m
        rcases m with rfl | rfl | rfl | rfl | rfl | rfl
        · exact okT_name (ok.nm w (by simp [Rl.names]))
        · exact okT_lit (by decide)
        · exact okT_dig (showI_dig _)
        · exact okT_name (ok.nm w (by simp [Rl.names]))
        · split <;> exact okT_lit (by decide)
        · exact okT_dig (showI_dig _)
      · split at m
        · cases m
        · simp only [List.mem_cons, List.not_mem_nil, or_false] at m
          rcases m with rfl | rfl
          · exact okT_lit (by decide)
          · exact okT_showR (ok.rg g (by simp [Rl.rgs])).1
  · split at m
    · cases m
    · simp only [List.mem_cons, List.not_mem_nil, or_false] at m
      rcases m with rfl | rfl
      · exact okT_lit (by decide)
      · exact join_ok (okT_lit (by decide)) fun x mx => by
          obtain ⟨c, mc, rfl⟩ := List.mem_map.mp mx
          exact showC_ok (cok c mc)
theorem showRl_ok {r : Rl} (ok : TxOk r) : okT (TL.tl (showRl r)) := join_ok (okT_lit (by decide)) (wordsR_ok ok)
theorem showRl_len {r : Rl} (ok : TxOk r) (h : r.cs.length ≤ 2) : (showRl r).length ≤ 1000 := by
  have j := join_len (y := Str.ofString " ") (wordsR r)
  obtain ⟨s1, s2⟩ := wordsR_sum ok
  rw [ln1] at j
  unfold showRl
  omega
theorem read_txok {o : Str} (l : o.length ≤ 30000) : ∀ r, readRl (TL.tl o) = some r → TxOk r := fun r e => by
  obtain ⟨sp1, sp2, sp3⟩ := split_sp o
  refine cand_ok (read_cand e) ?_
  show ((wordsT (TL.tl o)).map List.length).sum + (wordsT (TL.tl o)).length ≤ 69000
  rw [← sp1, tl_lens, List.length_map]
  omega
theorem ly_r {r : Rl} (ok : TxOk r) : Ly 5 r.d := ly_rl fun x m => okT_str.mpr (okT_name (ok.nm x m))

def sp__law_rule_text (K : PySem.W.Frag) : Sp := fun vs H Q _ => ∃ (v : V) (r : Rl), vs = [v] ∧ Dp K H v r.d ∧ TxOk r ∧ ∀ H', Same H H' → Q (.str (showRl r)) H'

theorem let_in (c : Nat) : decide (c ∈ (Str.ofString "abcdefghijklmnopqrstuvwxyz").cps.toList) = (decide (97 ≤ c) && decide (c ≤ 122)) := by
  have e : (Str.ofString "abcdefghijklmnopqrstuvwxyz").cps.toList = (List.range 26).map (· + 97) := by decide +kernel
  rw [e, Bool.eq_iff_iff, Bool.and_eq_true, decide_eq_true_iff, decide_eq_true_iff, decide_eq_true_iff, List.mem_map]
  constructor
  · rintro ⟨k, mk, rfl⟩
    have := List.mem_range.mp mk
    omega
  · rintro ⟨a, b⟩
    exact ⟨c - 97, List.mem_range.mpr (by omega), by omega⟩
def sp__law_is_title (_ : PySem.W.Frag) : Sp := fun vs H Q _ => ∃ a : Str, vs = [.str a] ∧ a.length ≤ 90000 ∧ okT (TL.tl a) ∧ ∀ H', Same H H' → Q (.bl (nameL (TL.tl a))) H'

theorem dp_lst_inv {K : PySem.W.Frag} {H : Hp} {v : V} {ds : List PyData} (h : Dp K H v (.list ds)) : ∃ p xs, v = .ref p ∧ SqL K H p xs ∧ DpAll K H xs ds := by
  cases h with
  | lst s a => exact ⟨_, _, rfl, s, a⟩
theorem allS_snoc {α : Type} {x : Option α} : ∀ {l : List (Option α)} {r : List α}, allS l = some r → allS (l ++ [x]) = x.map fun y => r ++ [y]
  | [], r, h => by
    cases h
    cases x <;> rfl
  | none :: l, r, h => by cases h
  | some y :: l, r, h => by
    obtain ⟨r', h', e⟩ := Option.map_eq_some_iff.mp h
    subst e
    show (allS (l ++ [x])).map (y :: ·) = _
    rw [allS_snoc h']
    cases x <;> rfl
def sp__law_conditions_of (K : PySem.W.Frag) : Sp := fun vs H Q _ => ∃ a : Str, vs = [.str a] ∧ a.length ≤ 80000 ∧ okT (TL.tl a) ∧ ∀ p xs H', Same H H' → H p = none → H' p = some (.lst xs) → DpAll K H' xs ((readCs (TL.tl a)).toList.map fun c => .tuple (c.map cdD)) → Q (.ref p) H'

def sp__law_rule_of (K : PySem.W.Frag) : Sp := fun vs H Q _ => ∃ a : Str, vs = [.str a] ∧ a.length ≤ 30000 ∧ okT (TL.tl a) ∧ ∀ v H', Same H H' → Dp K H' v (.list ((readRl (TL.tl a)).toList.map Rl.d)) → Q v H'

def sp__law_told (K : PySem.W.Frag) (_ : List Addr) : Sp := fun vs H Q _ => ∃ a : Str, vs = [.str a] ∧ a.length ≤ 30000 ∧ ∀ p xs H', Same H H' → H p = none → H' p = some (.lst xs) → DpAll K H' xs ((readRl (TL.tl a)).toList.map Rl.d) → Q (.ref p) H'

def sp__law_title (_ : PySem.W.Frag) : Sp := fun vs H Q _ => ∃ b ga n, vs = [.ref b] ∧ Bg n H b ga ∧ n ≤ 900000 ∧ ∀ (x : Str) H', nameOk x = true → Kb b ga H H' → Bg (n + 20) H' b ga → Q (.str x) H'

def sp__law_empty_right (_ : PySem.W.Frag) (_ : List Addr) : Sp := fun vs H Q _ => vs = [] ∧ ∀ H', Same H H' → Q (.bl true) H'

def sp_law (K : PySem.W.Frag) : Sp := fun vs H Q _ => ∃ (a : Addr) (ns : List Int), vs = [.ref a] ∧ SqL K H a (ns.map V.int) ∧ ns.length ≤ 63 ∧ ∀ H', Q (.bl true) H'

end Pk43

namespace Pk43
open PySem PySem.Spec PyProof.Rows L2 Gd
section
variable {P : Program} {w : World} {K : PySem.W.Frag} {mg : Str → Option Value} {base : Heap}
set_option maxHeartbeats 8000000 in
-- is_upside_down: level 1; builtins []; cells []; slots: 0 one, 1 low, 2 high
theorem ok_is_upside_down (h : At K mg "is_upside_down" s_is_upside_down ["one"]) : Dn P w K mg base 1 "is_upside_down" s_is_upside_down ["one"] (sp_is_upside_down K) := by
  refine .mk' h fun f fd F => F.ok sc_is_upside_down (fun vs H Q E h => ?_) (fun cdv A outer s H vs Q E hr h => ?_)
  · obtain ⟨v, r, rfl, hv, q⟩ := h
    rfl
  · obtain ⟨v, r, rfl, hv, q⟩ := h
    refine ⟨_, (pss_cons (ps_if (pt_cmpR op_isN (pv 0) pe_non (nomark _))
        (pss_one (ps_ret pe_bl))
        pss_nil)
      (pss_cons (ps_asg (pv 0) (pg_tup (by rfl) (pgs_cons (pg_name (i := 1) sc_is_upside_down.nd rfl (.inl rfl)) (pgs_cons (pg_name (i := 2) sc_is_upside_down.nd rfl (.inl rfl)) pgs_nil))))
      (pss_one (ps_ret (pe_and (pe_cmpR op_notN (pv 1) pe_non (nomark _)) (pe_and (pe_cmpR op_notN (pv 2) pe_non (nomark _)) (pe_one (pe_cmpR op_gt (pv 1) (pv 2) (nomark _))))))))), ?_⟩
    match r, hv with
    | none, hv =>
      have e : v = .non := hv
      subst e
      exact ⟨_, rfl, rfl, _, rfl, iteT q⟩
    | some (l, u), hv =>
      obtain ⟨p, rfl, s⟩ := hv
      refine ⟨_, rfl, rfl, _, rfl, iteF ?_⟩
      refine ⟨_, rfl, p, _, rfl, s, rfl, _, _, rfl, _, _, rfl, rfl, ?_⟩
      match l, u with
      | none, _ => exact ⟨_, rfl, rfl, _, rfl, iteF q⟩
      | some l, none => exact ⟨_, rfl, rfl, _, rfl, iteT ⟨_, rfl, rfl, _, rfl, iteF q⟩⟩
      | some l, some u => exact ⟨_, rfl, rfl, _, rfl, iteT ⟨_, rfl, rfl, _, rfl, iteT ⟨_, rfl, _, rfl, _, _, rfl, rfl, q⟩⟩⟩
end

end Pk43
namespace Pk43
open PySem PySem.Spec PyProof.Rows L2 Gd
section
variable {P : Program} {w : World} {K : PySem.W.Frag} {mg : Str → Option Value} {base : Heap}
set_option maxHeartbeats 8000000 in
-- check_range: level 2; builtins []; cells []; slots: 0 one
theorem ok_check_range (h : At K mg "check_range" s_check_range ["one"]) (D_is_upside_down : Dn P w K mg base 1 "is_upside_down" s_is_upside_down ["one"] (sp_is_upside_down K)) : Dn P w K mg base 2 "check_range" s_check_range ["one"] (sp_check_range K) := by
  refine .mk' h fun f fd F => F.ok sc_check_range (fun vs H Q E h => ?_) (fun cdv A outer s H vs Q E hr h => ?_)
  · obtain ⟨v, r, rfl, hv, ho, q⟩ := h
    rfl
  · obtain ⟨v, r, rfl, hv, ho, q⟩ := h
    refine ⟨_, (pss_one (ps_if (pt_val (pe_c D_is_upside_down hr (by rfl) (pa_cons (pv 0) pa_nil)))
        (pss_one ps_never)
        pss_nil)), ?_⟩
    refine ⟨_, rfl, v, r, rfl, hv, ?_⟩
    rw [up_ok ho]
    exact ⟨_, rfl, iteF q⟩
end

end Pk43
namespace Pk43
open PySem PySem.Spec PyProof.Rows L2 Gd
section
variable {P : Program} {w : World} {K : PySem.W.Frag} {mg : Str → Option Value} {base : Heap}
set_option maxHeartbeats 8000000 in
-- RangeError.__init__: level 1; builtins []; cells []; slots: 0 self, 1 value
theorem ok_RangeError___init__ {fI : Addr} (h : AtI K fI "RangeError.__init__" s_RangeError___init__ ["self", "value"]) : DnI P w K mg base 1 fI "RangeError.__init__" s_RangeError___init__ ["self", "value"] (spIni K) := by
  refine .mk' h fun f fd F => F.ok sc_RangeError___init__ (fun vs H Q E h => ?_) (fun cdv A outer s H vs Q E hr h => ?_)
  · obtain ⟨a, c, v, rfl, ox, nv, ea, q⟩ := h
    rfl
  · obtain ⟨a, c, v, rfl, ox, nv, ea, q⟩ := h
    refine ⟨_, (pss_one (ps_ost (pv 0) (pv 1) rfl)), ?_⟩
    exact ⟨_, rfl, _, rfl, a, c, rfl, ox, nv, .inl ⟨ea, fun dx n ne => q dx n ne⟩⟩
end

end Pk43
namespace Pk43
open PySem PySem.Spec PyProof.Rows L2 Gd
section
variable {P : Program} {w : World} {K : PySem.W.Frag} {mg : Str → Option Value} {base : Heap}
set_option maxHeartbeats 8000000 in
-- is_name: level 1; builtins ['all', 'len']; cells []; slots: 0 text, 1 sign
theorem ok_is_name (h : At K mg "is_name" s_is_name ["text"]) (m_all : mg "all" = none) (m_len : mg "len" = none) : Dn P w K mg base 1 "is_name" s_is_name ["text"] (sp_is_name K) := by
  refine .mk' h fun f fd F => F.ok sc_is_name (fun vs H Q E h => ?_) (fun cdv A outer s H vs Q E hr h => ?_)
  · obtain ⟨x, rfl, hx, q⟩ := h
    rfl
  · obtain ⟨x, rfl, hx, q⟩ := h
    refine ⟨_, (pss_one (ps_ret (pe_and (pe_chain op_le op_le pe_int (pe_callB call_len_str (by rfl) m_len PySem.boot_len (pa_cons (pv 0) pa_nil)) pe_int) (pe_one (pe_callB (cr_all rfl) (by rfl) m_all (by decide +kernel) (pa_cons (pe_lc (own := [("sign", 1)]) (g := gName 1) rfl sc_is_name.nd (pi_str (pv 0)) (blkOk_by (N := ["text", "sign"]) (sc := defScope s_is_name) (by decide +kernel)) (fun _ _ _ _ _ => pg_name (i := 1) sc_is_name.nd rfl (Or.inl rfl)) (fun _ _ _ _ _ => pts_nil) (fun _ _ _ _ _ => (pe_chain op_le_str op_le_str pe_str (pv 1) pe_str))) pa_nil)))))), ?_⟩
    have hl : x.length ≤ 100000 := hx
    have q' : ∀ H', Same H H' → Q (.bl ((decide (1 ≤ x.cps.size) && decide (x.cps.size ≤ 8)) && x.cps.toList.all fun c => decide (97 ≤ c) && decide (c ≤ 122))) H' := q
    refine ⟨_, rfl, x, rfl, Nat.le_trans (by omega : x.length ≤ 100000) (by decide), _, _, rfl, rfl, _, rfl, ?_⟩
    by_cases c1 : 1 ≤ x.cps.size
    · rw [decide_eq_true (show (1 : Int) ≤ (x.length : Int) from Int.ofNat_le.mpr c1)]
      rw [decide_eq_true c1, Bool.true_and] at q'
      refine iteT ⟨_, _, rfl, rfl, _, rfl, ?_⟩
      by_cases c2 : x.cps.size ≤ 8
      · rw [decide_eq_true (show (x.length : Int) ≤ 8 from Int.ofNat_le.mpr c2)]
        rw [decide_eq_true c2, Bool.true_and] at q'
        refine iteT ⟨_, rfl, x, rfl, fun D nD => lc_strB x (fun c => decide (97 ≤ c) && decide (c ≤ 122)) (by omega) nD (fun _ => rfl) ?_ ?_⟩
        · intro c H' R k
          refine ⟨_, rfl, _, _, rfl, rfl, _, rfl, ?_⟩
          have e1 : (!decide (([c] : List Nat) < [97])) = decide (97 ≤ c) := lt_one c 97
          have e2 : (!decide (([122] : List Nat) < [c])) = decide (c ≤ 122) := lt_one 122 c
          show if (!decide (([c] : List Nat) < [97])) = true then _ else _
          rw [e1]
          cases h : decide (97 ≤ c) with
          | false =>
            rw [h] at k
            exact iteF k
          | true =>
            rw [h, Bool.true_and] at k
            refine iteT ⟨_, _, rfl, rfl, ?_⟩
            show R (.bl (!decide (([122] : List Nat) < [c]))) H'
            rw [e2]
            exact k
        · refine ⟨D, _, rfl, .inl (.inl upd_same), ?_⟩
          rw [List.all_map]
          exact q' _ (Same.new nD)
      · rw [decide_eq_false (show ¬ (x.length : Int) ≤ 8 from fun z => c2 (Int.ofNat_le.mp z))]
        rw [decide_eq_false c2, Bool.false_and] at q'
        exact iteF (q' _ (fun _ _ e => e))
    · rw [decide_eq_false (show ¬ (1 : Int) ≤ (x.length : Int) from fun z => c1 (Int.ofNat_le.mp z))]
      rw [decide_eq_false c1, Bool.false_and, Bool.false_and] at q'
      exact iteF ⟨_, rfl, iteF (q' _ (fun _ _ e => e))⟩
end

end Pk43
namespace Pk43
open PySem PySem.Spec PyProof.Rows L2 Gd
section
variable {P : Program} {w : World} {K : PySem.W.Frag} {mg : Str → Option Value} {base : Heap}
set_option maxHeartbeats 8000000 in
-- _law_bag: level 1; builtins ['abs', 'int']; cells []; slots: 0 script, 1 blend, 2 great, 3 cell
theorem ok__law_bag (h : At K mg "_law_bag" s__law_bag ["script"]) (m_abs : mg "abs" = none) (m_int : mg "int" = none) : Dn P w K mg base 1 "_law_bag" s__law_bag ["script"] (sp__law_bag K) := by
  refine .mk' h fun f fd F => F.ok sc__law_bag (fun vs H Q E h => ?_) (fun cdv A outer s H vs Q E hr h => ?_)
  · obtain ⟨a, ns, rfl, hS, hn, q⟩ := h
    rfl
  · obtain ⟨a, ns, rfl, hS, hn, q⟩ := h
    refine ⟨_, (pss_cons (ps_par (i := 1) (j := 2) rfl sc__law_bag.nd rfl rfl (by decide) rfl rfl (pa_cons pe_int (pa_cons (pe_lst pa_nil) pa_nil)) (by rfl))
      (pss_cons (ps_for PassesOwn.never rfl (pi_list (pv 0)) (pg_name (i := 3) sc__law_bag.nd rfl (.inl rfl))
        (pss_cons (ps_set (i := 1) sc__law_bag.nd rfl (.inl rfl) (pe_op op_mod (pe_callTy call_int1 (by rfl) m_int (by decide +kernel) (pa_cons (pe_op op_add (pe_op op_mulW (pv 1) pe_int) (pv 3)) pa_nil)) pe_int))
        (pss_one (ps_if (pt_cmpR op_ge (pe_callB call_abs (by rfl) m_abs (by decide +kernel) (pa_cons (pv 3) pa_nil)) (pe_op op_powW pe_int pe_int) (nomark _))
          (pss_one (ps_expr (pe_bm PySem.F.plainAttrs_list PySem.F.slot_list_append PySem.F.type_list_append mt_append (pv 2) (pa_cons (pe_callB call_abs (by rfl) m_abs (by decide +kernel) (pa_cons (pv 3) pa_nil)) pa_nil))))
          pss_nil))))
      (pss_one (ps_ret (pe_disp (pps_cons pe_str (pv 2) (pps_cons pe_str pe_int (pps_cons pe_str pe_int (pps_cons pe_str (pv 1) pps_nil)))) rfl rfl (by decide) (by decide)))))), ?_⟩
    skip
    refine ⟨by show 0 ≤ sizeLine; decide, fun ga nga => ?_⟩
    have sga := Same.new (o := .lst []) nga
    have oga : upd H ga (.lst []) ga = some (.lst []) := upd_same
    generalize upd H ga (HO.lst ([] : List V)) = H0 at sga oga
    refine ⟨_, _, rfl, _, rfl, a, rfl, ⟨_, sga.seq hS⟩, for_list (xs := ns.map V.int) (fun i σ H' => Same H H' ∧ ∃ (ms : List Int) (bl : Int) (y3 : Option V), H' ga = some (.lst (ms.map V.int)) ∧ ms.length ≤ i ∧ (∀ m ∈ ms, 0 ≤ m) ∧ σ = [some (.ref a), some (.int bl), some (.ref ga), y3] ∧ 0 ≤ bl ∧ bl < 2305843009213693951) ⟨sga, [], 11, none, oga, Nat.le_refl _, by simp, rfl, by decide, by decide⟩ (fun i σ G _ h => h.1.seq hS) ?_ ?_⟩
    · rintro i x σ G hx ⟨s1, ms, bl, y3, og, lm, pm, rfl, b0, b1⟩
      have hi : i < (ns.map V.int).length := (List.getElem?_eq_some_iff.mp hx).1
      rw [List.length_map] at hi
      obtain ⟨z, ez, rfl⟩ := map_get hx
      refine ⟨_, rfl, _, _, rfl, rfl, wide_mul (a := 64) (b := 64) (by omega) (by decide) (by decide) (by decide) (by decide), _, rfl, _, _, rfl, rfl, .inl ⟨_, rfl, _, _, rfl, rfl, (by show (0 : Int) < _; decide), ?_⟩⟩
      have c0 : 0 ≤ (bl * 1000003 + z) % 2305843009213693951 := Int.emod_nonneg _ (by decide)
      have c1 : (bl * 1000003 + z) % 2305843009213693951 < 2305843009213693951 := Int.emod_lt_of_pos _ (by decide)
      refine ⟨_, rfl, z, rfl, _, _, rfl, rfl, ten18, _, _, rfl, rfl, _, rfl, ite2 (fun c => ?_) (fun c => ?_)⟩
      · refine ⟨_, rfl, ty_lst og, _, rfl, z, rfl, ga, _, _, rfl, rfl, og, by rw [List.length_map]; exact Nat.lt_of_le_of_lt (by omega : ms.length ≤ 100) (by decide), ?_⟩
        refine ⟨fun b o e => ?_, ms ++ [if z < 0 then -z else z], _, _, ?_, by rw [List.length_append]; show ms.length + 1 ≤ _; omega, fun m h => ?_, rfl, c0, c1⟩
        · rw [upd_ne (ne_of_none e nga)]
          exact s1 _ _ e
        · rw [upd_same, List.map_append]
          rfl
        · rcases List.mem_append.mp h with h | h
          · exact pm m h
          · rw [List.mem_singleton.mp h]
            split <;> omega
      · exact ⟨s1, ms, _, _, og, by omega, pm, rfl, c0, c1⟩
    · rintro σ G ⟨s1, ms, bl, y3, og, lm, pm, rfl, b0, b1⟩
      rw [List.length_map] at lm
      refine fun p np => ⟨_, rfl, _, rfl, upd_same, bagK ga 0 0 bl, rfl, by show 4 ≤ 15; decide, ?_⟩
      have pa : p ≠ ga := fun z => by rw [z, og] at np; cases np
      have hp : H p = none := by
        cases e : H p with
        | none => rfl
        | some u => rw [s1 _ _ e] at np; cases np
      refine q p ga _ (fun c o e => ?_) hp nga ⟨ms, 0, 0, bl, upd_same, ?_, by omega, pm, by decide, by decide, by decide, b0, b1⟩
      · have cp : c ≠ p := ne_of_none e hp
        rw [upd_ne cp, upd_ne cp]
        exact s1 _ _ e
      · rw [upd_ne (Ne.symm pa), upd_ne (Ne.symm pa)]
        exact og
end

end Pk43
namespace Pk43
open PySem PySem.Spec PyProof.Rows L2 Gd
section
variable {P : Program} {w : World} {K : PySem.W.Frag} {mg : Str → Option Value} {base : Heap}
set_option maxHeartbeats 8000000 in
-- _law_draw: level 1; builtins ['int', 'len']; cells []; slots: 0 bag, 1 many, 2 drawn, 3 turn, 4 mixed
theorem ok__law_draw (h : At K mg "_law_draw" s__law_draw ["bag", "many"]) (m_int : mg "int" = none) (m_len : mg "len" = none) : Dn P w K mg base 1 "_law_draw" s__law_draw ["bag", "many"] (sp__law_draw K) := by
  refine .mk' h fun f fd F => F.ok sc__law_draw (fun vs H Q E h => ?_) (fun cdv A outer s H vs Q E hr h => ?_)
  · obtain ⟨b, ga, m, n, rfl, bg, hn, m0, m1, q⟩ := h
    rfl
  · obtain ⟨b, ga, m, n, rfl, bg, hn, m0, m1, q⟩ := h
    refine ⟨_, (C8.pss_cut (ps_if (PW.pt (pw_and (pt_cmpR op_lt (pe_dget (hu_of hr) (pv 0) pe_str (fun _ _ => rfl)) (pv 1) (nomark _)) (pw_and1 (pt_cmpR op_gt (pe_callB call_len_seq (by rfl) m_len PySem.boot_len (pa_cons (pe_dget (hu_of hr) (pv 0) pe_str (fun _ _ => rfl)) pa_nil)) pe_int (nomark _)))))
        (pss_one (ps_dput (hu_of hr) (pv 0) pe_str (pe_bm PySem.F.plainAttrs_list PySem.F.slot_list_pop PySem.F.type_list_pop mt_popAt (pe_dget (hu_of hr) (pv 0) pe_str (fun _ _ => rfl)) (pa_cons pe_int pa_nil)) rfl))
        pss_nil)
      (pss_cons (ps_if (pt_cmpR op_ge (pe_dget (hu_of hr) (pv 0) pe_str (fun _ _ => rfl)) (pv 1) (nomark _))
        (pss_cons (ps_set (i := 2) sc__law_draw.nd rfl (.inl rfl) (pe_op op_mod (pe_callTy call_int1 (by rfl) m_int (by decide +kernel) (pa_cons (pe_dget (hu_of hr) (pv 0) pe_str (fun _ _ => rfl)) pa_nil)) (pv 1)))
        (pss_cons (ps_dput (hu_of hr) (pv 0) pe_str (pe_op op_fdivW (pe_callTy call_int1 (by rfl) m_int (by decide +kernel) (pa_cons (pe_dget (hu_of hr) (pv 0) pe_str (fun _ _ => rfl)) pa_nil)) (pv 1)) rfl)
        (pss_one (ps_ret (pv 2)))))
        pss_nil)
      (pss_cons (ps_daug (hu_of hr) (pv 0) pe_str pe_int ip_add (fun _ _ _ => rfl))
      (pss_cons (ps_set (i := 3) sc__law_draw.nd rfl (.inl rfl) (pe_dget (hu_of hr) (pv 0) pe_str (fun _ _ => rfl)))
      (pss_cons (ps_set (i := 4) sc__law_draw.nd rfl (.inl rfl) (pe_op op_add (pe_op op_mulW (pe_op op_add (pe_dget (hu_of hr) (pv 0) pe_str (fun _ _ => rfl)) (pe_op op_mulW pe_int (pv 3))) (pe_op op_powW (pe_op op_add (pv 3) pe_int) pe_int)) (pe_op op_mulW pe_int (pv 3))))
      (pss_cons (ps_set (i := 4) sc__law_draw.nd rfl (.inl rfl) (pe_op op_mod (pe_callTy call_int1 (by rfl) m_int (by decide +kernel) (pa_cons (pv 4) pa_nil)) pe_int))
      (pss_one (ps_ret (pe_op op_mod (pe_callTy call_int1 (by rfl) m_int (by decide +kernel) (pa_cons (pe_op op_fdivW (pe_op op_mod (pe_callTy call_int1 (by rfl) m_int (by decide +kernel) (pa_cons (pe_op op_powW (pv 4) pe_int) pa_nil)) (pe_op op_add (pe_op op_powW pe_int pe_int) pe_int)) pe_int) pa_nil)) (pv 1)))))))))), ?_⟩
    obtain ⟨ms, l, t, bl, hb, hg, lm, pm, l0, t0, t1, b0, b1⟩ := bg.ok
    -- a new great cell, where what is left is too little
    refine ⟨fun σ' G => ∃ (ms : List Int) (l : Int), σ' = [some (.ref b), some (.int m), none, none, none] ∧ Kb b ga H G ∧ G b = some (.dK (bagK ga l t bl)) ∧ G ga = some (.lst (ms.map V.int)) ∧ ms.length ≤ 63 ∧ (∀ m ∈ ms, 0 ≤ m) ∧ 0 ≤ l, ?_, ?_⟩
    · refine ⟨_, rfl, b, _, rfl, bag_left hb, _, rfl, _, _, rfl, rfl, _, rfl, ite2 (fun c1 => ?_) (fun c1 => ?_)⟩
      · refine ⟨_, rfl, b, _, rfl, bag_great hb, ga, _, rfl, .inl (.inl (.inl hg)), _, _, rfl, rfl, _, rfl, ite2 (fun c2 => ?_) (fun c2 => ?_)⟩
        · match ms, hg, lm, pm, c2 with
          | [], _, _, _, c2 => exact absurd c2 (by decide)
          | m0' :: rest, hg, lm, pm, _ =>
            have ne : b ≠ ga := fun z => by rw [z, hg] at hb; cases hb
            have hb1 : upd H ga (.lst (((m0' :: rest).map V.int).eraseIdx 0)) b = some (.dK (bagK ga l t bl)) := by rw [upd_ne ne]; exact hb
            refine ⟨_, rfl, b, _, rfl, bag_great hb, ty_lst hg, ga, _, 0, 0, .int m0', rfl, rfl, hg, by decide, by decide, (ixN_seq (by unfold ixN; simp)).1, rfl, _, rfl, b, _, rfl, bag_put_left hb1, rest, m0', rfl, fun c o cb cg e => ?_, upd_same, ?_, Nat.le_of_succ_le (show rest.length + 1 ≤ 63 from lm), fun m h => pm m (List.mem_cons_of_mem _ h), pm m0' List.mem_cons_self⟩
            · rw [upd_ne cb, upd_ne cg]
              exact e
            · rw [upd_ne (Ne.symm ne), upd_same]
              rfl
        · exact ⟨ms, l, rfl, Kb.refl, hb, hg, lm, pm, l0⟩
      · exact ⟨ms, l, rfl, Kb.refl, hb, hg, lm, pm, l0⟩
    rintro σ' G ⟨ms, l, rfl, kg, hb, hg, lm, pm, l0⟩
    have ne : b ≠ ga := fun z => by rw [z, hg] at hb; cases hb
    refine ⟨_, rfl, b, _, rfl, bag_left hb, _, rfl, _, _, rfl, rfl, _, rfl, ite2 (fun c => ?_) (fun c => ?_)⟩
    · refine ⟨_, rfl, b, _, rfl, bag_left hb, .inl ⟨_, rfl, _, rfl, _, _, rfl, rfl, m0, ?_⟩⟩
      refine ⟨_, rfl, b, _, rfl, bag_left hb, .inl ⟨_, rfl, _, rfl, _, _, rfl, rfl, wide_div m0 m1 (by decide) (by decide), _, rfl, b, _, rfl, bag_put_left hb, ?_⟩⟩
      refine ⟨_, rfl, q _ _ (Int.emod_nonneg _ (by omega)) (Int.emod_lt_of_pos _ m0) (fun c o cb cg e => ?_) ⟨ms, _, t, bl, upd_same, ?_, lm, pm, Int.ediv_nonneg l0 (by omega), t0, by omega, b0, b1⟩⟩
      · rw [upd_ne cb]
        exact kg _ _ cb cg e
      · rw [upd_ne (Ne.symm ne)]
        exact hg
    refine ⟨_, rfl, b, _, rfl, bag_turn hb, _, _, rfl, rfl, _, bag_put_turn hb, ?_⟩
    have hb2 : upd G b (.dK (bagK ga l (t + 1) bl)) b = some (.dK (bagK ga l (t + 1) bl)) := upd_same
    have k2 : Kb b ga H (upd G b (.dK (bagK ga l (t + 1) bl))) := fun c o cb cg e => by
      rw [upd_ne cb]
      exact kg _ _ cb cg e
    have bg2 : Bg (n + 1) (upd G b (.dK (bagK ga l (t + 1) bl))) b ga := ⟨ms, l, t + 1, bl, hb2, by rw [upd_ne (Ne.symm ne)]; exact hg, lm, pm, l0, by omega, by omega, b0, b1⟩
    generalize upd G b (.dK (bagK ga l (t + 1) bl)) = G2 at hb2 k2 bg2
    refine ⟨_, rfl, b, _, rfl, bag_turn hb2, ?_⟩
    have sq : ((t + 1 + 29) ^ (2 : Int).toNat).natAbs < 2 ^ 64 := by
      show ((t + 1 + 29) ^ 2).natAbs < 2 ^ 64
      rw [Int.pow_succ, Int.pow_succ, Int.pow_zero, Int.one_mul, Int.natAbs_mul]
      have h : (t + 1 + 29).natAbs ≤ 1000030 := by omega
      exact Nat.lt_of_le_of_lt (Nat.mul_le_mul h h) (by decide)
    refine ⟨_, rfl, b, _, rfl, bag_blend hb2, _, rfl, _, _, rfl, rfl, wide_mul (a := 30) (b := 30) (by decide) (by omega) (by decide) (by decide) (by decide), _, _, rfl, rfl, _, rfl, _, _, rfl, rfl, _, _, rfl, rfl, sqW (a := 30) (by omega) (by decide) (by decide), _, _, rfl, rfl, wide_mul (a := 64) (b := 64) (by omega) sq (by decide) (by decide) (by decide), _, rfl, _, _, rfl, rfl, wide_mul (a := 30) (b := 30) (by decide) (by omega) (by decide) (by decide) (by decide), _, _, rfl, rfl, ?_⟩
    refine ⟨_, rfl, .inl ⟨_, rfl, _, _, rfl, rfl, (by show (0 : Int) < _; decide), ?_⟩⟩
    have c0 := Int.emod_nonneg ((bl + 17 * (t + 1)) * (t + 1 + 29) ^ (2 : Int).toNat + 7919 * (t + 1)) (show (2305843009213693951 : Int) ≠ 0 by decide)
    have c1 := Int.emod_lt_of_pos ((bl + 17 * (t + 1)) * (t + 1 + 29) ^ (2 : Int).toNat + 7919 * (t + 1)) (show (0 : Int) < 2305843009213693951 by decide)
    generalize ((bl + 17 * (t + 1)) * (t + 1 + 29) ^ (2 : Int).toNat + 7919 * (t + 1)) % 2305843009213693951 = mx at c0 c1
    refine ⟨_, rfl, _, _, rfl, rfl, powW_ok (a := 64) (by omega) (by decide) (by decide), .inl ⟨_, rfl, _, _, rfl, rfl, ten18, _, _, rfl, rfl, _, _, rfl, rfl, (by show (0 : Int) < _; decide), _, _, rfl, rfl, wide_div (b := 30) (by decide) (by decide) (by decide) (by decide), .inl ⟨_, rfl, _, rfl, _, _, rfl, rfl, m0, ?_⟩⟩⟩
    exact q _ _ (Int.emod_nonneg _ (by omega)) (Int.emod_lt_of_pos _ m0) k2 bg2
end

end Pk43
namespace Pk43
open PySem PySem.Spec PyProof.Rows L2 Gd
section
variable {P : Program} {w : World} {K : PySem.W.Frag} {mg : Str → Option Value} {base : Heap}
set_option maxHeartbeats 8000000 in
-- _law_reach: level 2; builtins []; cells []; slots: 0 bag, 1 span, 2 low_now, 3 high_now, 4 way_now, 5 some
theorem ok__law_reach (h : At K mg "_law_reach" s__law_reach ["bag", "span"]) (D__law_draw : Dn P w K mg base 1 "_law_draw" s__law_draw ["bag", "many"] (sp__law_draw K)) : Dn P w K mg base 2 "_law_reach" s__law_reach ["bag", "span"] (sp__law_reach K) := by
  refine .mk' h fun f fd F => F.ok sc__law_reach (fun vs H Q E h => ?_) (fun cdv A outer s H vs Q E hr h => ?_)
  · obtain ⟨b, ga, span, n, rfl, bg, hn, s0, s1, q⟩ := h
    rfl
  · obtain ⟨b, ga, span, n, rfl, bg, hn, s0, s1, q⟩ := h
    refine ⟨_, (pss_cons (ps_set (i := 2) sc__law_reach.nd rfl (.inl rfl) (pe_op op_sub (pe_c D__law_draw hr (by rfl) (pa_cons (pv 0) (pa_cons (pe_op op_add (pe_op op_mulW pe_int (pv 1)) pe_int) pa_nil))) (pv 1)))
      (pss_cons (ps_set (i := 3) sc__law_reach.nd rfl (.inl rfl) (pe_op op_add (pv 2) (pe_c D__law_draw hr (by rfl) (pa_cons (pv 0) (pa_cons (pe_op op_add (pv 1) pe_int) pa_nil)))))
      (pss_cons (ps_set (i := 4) sc__law_reach.nd rfl (.inl rfl) (pe_c D__law_draw hr (by rfl) (pa_cons (pv 0) (pa_cons pe_int pa_nil))))
      (pss_cons (ps_set (i := 5) sc__law_reach.nd rfl (.inl rfl) (pe_lst (pa_cons (pe_tup (pa_cons (pv 2) (pa_cons (pv 3) pa_nil))) (pa_cons (pe_tup (pa_cons pe_non (pa_cons (pv 3) pa_nil))) (pa_cons (pe_tup (pa_cons (pv 2) (pa_cons pe_non pa_nil))) (pa_cons (pe_tup (pa_cons (pv 2) (pa_cons (pv 2) pa_nil))) pa_nil))))))
      (pss_cons (ps_expr (pe_bm PySem.F.plainAttrs_list PySem.F.slot_list_extend PySem.F.type_list_extend mt_extend (pv 5) (pa_cons (pe_lst (pa_cons (pe_tup (pa_cons (pv 2) (pa_cons (pv 3) pa_nil))) (pa_cons (pe_tup (pa_cons pe_non (pa_cons pe_non pa_nil))) pa_nil))) pa_nil)))
      (pss_one (ps_ret (pe_ix ix_list (pv 5) (pv 4) (fun _ _ => rfl))))))))), ?_⟩
    have p200 : (2 : Nat) ^ 200 = 1606938044258990275541962092341162602522202993782792835301376 := by decide
    refine ⟨_, rfl, _, rfl, _, _, rfl, rfl, wide_mul (a := 30) (b := 30) (by decide) (by omega) (by decide) (by decide) (by decide), _, _, rfl, rfl, b, ga, _, n, rfl, bg, by omega, by omega, by rw [p200]; omega, fun d1 H1 a0 a1 k1 bg1 => ⟨_, rfl, _, _, rfl, rfl, ?_⟩⟩
    refine ⟨_, rfl, _, rfl, _, rfl, _, _, rfl, rfl, b, ga, _, _, rfl, bg1, by omega, by omega, by rw [p200]; omega, fun d2 H2 c0 c1 k2 bg2 => ⟨_, _, rfl, rfl, ?_⟩⟩
    refine ⟨_, rfl, b, ga, 6, _, rfl, bg2, by omega, by decide, by decide, fun w H3 w0 w1 k3 bg3 => ?_⟩
    dsimp only
    have l0 : -span ≤ d1 - span ∧ d1 - span ≤ span := by omega
    have h0 : d1 - span ≤ d1 - span + d2 ∧ d1 - span + d2 ≤ 2 * span := by omega
    generalize d1 - span + d2 = h at h0 ⊢
    generalize d1 - span = l at l0 h0 ⊢
    refine ⟨_, rfl, _, rfl, by show 2 ≤ sizeLine; decide, fun t1 nt1 => ?_⟩
    have st1 := Same.new (o := .tup [.int l, .int h]) nt1
    have ot1 : upd H3 t1 (.tup [.int l, .int h]) t1 = some (.tup [.int l, .int h]) := upd_same
    generalize upd H3 t1 (HO.tup ([.int l, .int h] : List V)) = G1 at st1 ot1
    refine ⟨_, rfl, by show 2 ≤ sizeLine; decide, fun t2 nt2 => ?_⟩
    have st2 := Same.new (o := .tup [.non, .int h]) nt2
    have ot2 : upd G1 t2 (.tup [.non, .int h]) t2 = some (.tup [.non, .int h]) := upd_same
    generalize upd G1 t2 (HO.tup ([.non, .int h] : List V)) = G2 at st2 ot2
    refine ⟨_, rfl, by show 2 ≤ sizeLine; decide, fun t3 nt3 => ?_⟩
    have st3 := Same.new (o := .tup [.int l, .non]) nt3
    have ot3 : upd G2 t3 (.tup [.int l, .non]) t3 = some (.tup [.int l, .non]) := upd_same
    generalize upd G2 t3 (HO.tup ([.int l, .non] : List V)) = G3 at st3 ot3
    refine ⟨_, rfl, _, rfl, by show 2 ≤ sizeLine; decide, fun t4 nt4 => ?_⟩
    have st4 := Same.new (o := .tup [.int l, .int l]) nt4
    have ot4 : upd G3 t4 (.tup [.int l, .int l]) t4 = some (.tup [.int l, .int l]) := upd_same
    generalize upd G3 t4 (HO.tup ([.int l, .int l] : List V)) = G4 at st4 ot4
    refine ⟨by show 4 ≤ sizeLine; decide, fun L nL => ?_⟩
    have sL := Same.new (o := .lst [.ref t1, .ref t2, .ref t3, .ref t4]) nL
    have oL : upd G4 L (.lst [.ref t1, .ref t2, .ref t3, .ref t4]) L = some (.lst [.ref t1, .ref t2, .ref t3, .ref t4]) := upd_same
    generalize upd G4 L (HO.lst ([.ref t1, .ref t2, .ref t3, .ref t4] : List V)) = G5 at sL oL
    refine ⟨_, rfl, ty_lst oL, _, rfl, _, rfl, by show 2 ≤ sizeLine; decide, fun t5 nt5 => ?_⟩
    have st5 := Same.new (o := .tup [.int l, .int h]) nt5
    have ot5 : upd G5 t5 (.tup [.int l, .int h]) t5 = some (.tup [.int l, .int h]) := upd_same
    generalize upd G5 t5 (HO.tup ([.int l, .int h] : List V)) = G6 at st5 ot5
    refine ⟨by show 2 ≤ sizeLine; decide, fun t6 nt6 => ?_⟩
    have st6 := Same.new (o := .tup [.non, .non]) nt6
    have ot6 : upd G6 t6 (.tup [.non, .non]) t6 = some (.tup [.non, .non]) := upd_same
    generalize upd G6 t6 (HO.tup ([.non, .non] : List V)) = G7 at st6 ot6
    refine ⟨by show 2 ≤ sizeLine; decide, fun M nM => ?_⟩
    have sM := Same.new (o := .lst [.ref t5, .ref t6]) nM
    have oM : upd G7 M (.lst [.ref t5, .ref t6]) M = some (.lst [.ref t5, .ref t6]) := upd_same
    generalize upd G7 M (HO.lst ([.ref t5, .ref t6] : List V)) = G8 at sM oM
    have oL8 := sM _ _ (st6 _ _ (st5 _ _ oL))
    refine ⟨L, M, _, _, rfl, rfl, oL8, oM, by show 4 + 2 ≤ sizeLine; decide, ?_⟩
    have o8 : ∀ {t : Addr} {ys : List V}, G8 t = some (.tup ys) → upd G8 L (.lst ([.ref t1, .ref t2, .ref t3, .ref t4] ++ [.ref t5, .ref t6])) t = some (.tup ys) := fun {t ys} e => by
      rw [upd_ne (fun z => by rw [z, oL8] at e; cases e)]
      exact e
    have p6 := o8 (sM _ _ ot6)
    have p5 := o8 (sM _ _ (st6 _ _ ot5))
    have s5 := st6.trans sM
    have s4 := (sL.trans st5).trans s5
    have p4 := o8 (s4 _ _ ot4)
    have p3 := o8 (s4 _ _ (st4 _ _ ot3))
    have p2 := o8 (s4 _ _ (st4 _ _ (st3 _ _ ot2)))
    have p1 := o8 (s4 _ _ (st4 _ _ (st3 _ _ (st2 _ _ ot1))))
    have oL9 : upd G8 L (.lst ([.ref t1, .ref t2, .ref t3, .ref t4] ++ [.ref t5, .ref t6])) L = some (.lst [.ref t1, .ref t2, .ref t3, .ref t4, .ref t5, .ref t6]) := upd_same
    have s0' := (((st1.trans st2).trans st3).trans st4)
    have nL3 : H3 L = none := s0'.free nL
    have kL : ∀ c o, H3 c = some o → upd G8 L (.lst ([.ref t1, .ref t2, .ref t3, .ref t4] ++ [.ref t5, .ref t6])) c = some o := fun c o e => by
      rw [upd_ne (ne_of_none e nL3)]
      exact s4 _ _ (s0' _ _ e)
    generalize upd G8 L (HO.lst ([V.ref t1, .ref t2, .ref t3, .ref t4] ++ [.ref t5, .ref t6])) = G9 at p1 p2 p3 p4 p5 p6 oL9 kL
    obtain ⟨v, r, ev, bv, iv, rv⟩ : ∃ v r, atI [V.ref t1, .ref t2, .ref t3, .ref t4, .ref t5, .ref t6] w = some v ∧ badR r = false ∧ RgIn (2 * span) r ∧ RgV K G9 v r := by
      obtain ⟨v, ev, mv⟩ := pick_mem (xs := [V.ref t1, .ref t2, .ref t3, .ref t4, .ref t5, .ref t6]) w0 w1
      have two : badR (some (some l, some h)) = false := by
        show (false || decide (l > h)) = false
        rw [decide_eq_false (by omega)]
        rfl
      have one : badR (some (some l, some l)) = false := by
        show (false || decide (l > l)) = false
        rw [decide_eq_false (by omega)]
        rfl
      simp only [List.mem_cons, List.not_mem_nil, or_false] at mv
      rcases mv with rfl | rfl | rfl | rfl | rfl | rfl
      · exact ⟨_, some (some l, some h), ev, two, ⟨by show _ ∧ _; omega, by show _ ∧ _; omega⟩, t1, rfl, .inl (.inl p1)⟩
      · exact ⟨_, some (none, some h), ev, rfl, ⟨trivial, by show _ ∧ _; omega⟩, t2, rfl, .inl (.inl p2)⟩
      · exact ⟨_, some (some l, none), ev, rfl, ⟨by show _ ∧ _; omega, trivial⟩, t3, rfl, .inl (.inl p3)⟩
      · exact ⟨_, some (some l, some l), ev, one, ⟨by show _ ∧ _; omega, by show _ ∧ _; omega⟩, t4, rfl, .inl (.inl p4)⟩
      · exact ⟨_, some (some l, some h), ev, two, ⟨by show _ ∧ _; omega, by show _ ∧ _; omega⟩, t5, rfl, .inl (.inl p5)⟩
      · exact ⟨_, some (none, none), ev, rfl, ⟨trivial, trivial⟩, t6, rfl, .inl (.inl p6)⟩
    exact ⟨_, rfl, _, rfl, L, _, w, v, rfl, rfl, .inl (.inl oL9), ev, q v r G9 bv iv rv (((k1.trans k2).trans k3).trans (Kb.of kL)) (bg3.same kL)⟩
end

end Pk43
namespace Pk43
open PySem PySem.Spec PyProof.Rows L2 Gd
section
variable {P : Program} {w : World} {K : PySem.W.Frag} {mg : Str → Option Value} {base : Heap}
set_option maxHeartbeats 8000000 in
-- _law_rule: level 3; builtins ['len']; cells []; slots: 0 bag, 1 titles, 2 title, 3 source, 4 some, 5 low_now, 6 factor
theorem ok__law_rule (h : At K mg "_law_rule" s__law_rule ["bag", "titles"]) (D__law_draw : Dn P w K mg base 1 "_law_draw" s__law_draw ["bag", "many"] (sp__law_draw K)) (D__law_reach : Dn P w K mg base 2 "_law_reach" s__law_reach ["bag", "span"] (sp__law_reach K)) (m_len : mg "len" = none) : Dn P w K mg base 3 "_law_rule" s__law_rule ["bag", "titles"] (sp__law_rule K) := by
  refine .mk' h fun f fd F => F.ok sc__law_rule (fun vs H Q E h => ?_) (fun cdv A outer s H vs Q E hr h => ?_)
  · obtain ⟨b, ga, w, n, ts, rfl, bg, hn, wb, wg, hw, t0, tl, q⟩ := h
    rfl
  · obtain ⟨b, ga, w, n, ts, rfl, bg, hn, wb, wg, hw, t0, tl, q⟩ := h
    refine ⟨_, (pss_cons (ps_par (i := 2) (j := 3) rfl sc__law_rule.nd rfl rfl (by decide) rfl rfl (pa_cons (pe_ix ix_list (pv 1) (pe_c D__law_draw hr (by rfl) (pa_cons (pv 0) (pa_cons (pe_callB call_len_seq (by rfl) m_len PySem.boot_len (pa_cons (pv 1) pa_nil)) pa_nil))) (fun _ _ => rfl)) (pa_cons (pe_ix ix_list (pv 1) (pe_c D__law_draw hr (by rfl) (pa_cons (pv 0) (pa_cons (pe_callB call_len_seq (by rfl) m_len PySem.boot_len (pa_cons (pv 1) pa_nil)) pa_nil))) (fun _ _ => rfl)) pa_nil)) (by rfl))
      (pss_cons (ps_set (i := 4) sc__law_rule.nd rfl (.inl rfl) (pe_tup pa_nil))
      (C8.pss_cut (ps_if (pt_cmpR op_eq (pe_c D__law_draw hr (by rfl) (pa_cons (pv 0) (pa_cons pe_int pa_nil))) pe_int (nomark _))
        (pss_one (ps_set (i := 4) sc__law_rule.nd rfl (.inl rfl) (pe_tup (pa_cons (pe_tup (pa_cons (pe_ix ix_list (pv 1) (pe_c D__law_draw hr (by rfl) (pa_cons (pv 0) (pa_cons (pe_callB call_len_seq (by rfl) m_len PySem.boot_len (pa_cons (pv 1) pa_nil)) pa_nil))) (fun _ _ => rfl)) (pa_cons (pe_c D__law_reach hr (by rfl) (pa_cons (pv 0) (pa_cons pe_int pa_nil))) pa_nil))) pa_nil))))
        pss_nil)
      (C8.pss_cut (ps_if (pt_cmpR op_eq (pe_c D__law_draw hr (by rfl) (pa_cons (pv 0) (pa_cons pe_int pa_nil))) pe_int (nomark _))
        (pss_one (ps_set (i := 4) sc__law_rule.nd rfl (.inl rfl) (pe_op op_catA (pv 4) (pe_tup (pa_cons (pe_tup (pa_cons (pe_ix ix_list (pv 1) (pe_c D__law_draw hr (by rfl) (pa_cons (pv 0) (pa_cons (pe_callB call_len_seq (by rfl) m_len PySem.boot_len (pa_cons (pv 1) pa_nil)) pa_nil))) (fun _ _ => rfl)) (pa_cons (pe_c D__law_reach hr (by rfl) (pa_cons (pv 0) (pa_cons pe_int pa_nil))) pa_nil))) pa_nil)))))
        pss_nil)
      (pss_cons (ps_if (pt_cmpR op_eq (pe_c D__law_draw hr (by rfl) (pa_cons (pv 0) (pa_cons pe_int pa_nil))) pe_int (nomark _))
        (pss_cons (ps_set (i := 5) sc__law_rule.nd rfl (.inl rfl) (pe_op op_sub (pe_c D__law_draw hr (by rfl) (pa_cons (pv 0) (pa_cons pe_int pa_nil))) pe_int))
        (pss_one (ps_ret (pe_tup (pa_cons pe_str (pa_cons (pv 2) (pa_cons (pe_tup (pa_cons (pv 5) (pa_cons (pe_op op_add (pv 5) (pe_c D__law_draw hr (by rfl) (pa_cons (pv 0) (pa_cons pe_int pa_nil)))) pa_nil))) (pa_cons (pv 4) pa_nil))))))))
        pss_nil)
      (pss_cons (ps_set (i := 6) sc__law_rule.nd rfl (.inl rfl) (pe_ix ix_tup (pe_tup (pa_cons pe_int (pa_cons pe_int (pa_cons pe_int (pa_cons (pe_un un_neg pe_int) (pa_cons pe_int (pa_cons (pe_un un_neg pe_int) (pa_cons pe_int pa_nil)))))))) (pe_c D__law_draw hr (by rfl) (pa_cons (pv 0) (pa_cons pe_int pa_nil))) (fun _ _ => rfl)))
      (pss_one (ps_ret (pe_tup (pa_cons pe_str (pa_cons (pv 2) (pa_cons (pv 3) (pa_cons (pv 6) (pa_cons (pe_op op_sub (pe_c D__law_draw hr (by rfl) (pa_cons (pv 0) (pa_cons pe_int pa_nil))) pe_int) (pa_cons (pe_c D__law_reach hr (by rfl) (pa_cons (pv 0) (pa_cons pe_int pa_nil))) (pa_cons (pv 4) pa_nil)))))))))))))))), ?_⟩
    have p200 : (2 : Nat) ^ 200 = 1606938044258990275541962092341162602522202993782792835301376 := by decide
    have tpos : 0 < ts.length := List.length_pos_iff.mpr t0
    have lt : (((ts.map V.str).length : Nat) : Int) = (ts.length : Int) := by rw [List.length_map]
    refine ⟨_, rfl, _, rfl, _, rfl, w, _, rfl, .inl hw, b, ga, _, n, rfl, bg, by omega, by rw [lt]; omega, by rw [lt, p200]; omega, fun d1 H1 a0 a1 k1 bg1 => ?_⟩
    rw [lt] at a1
    obtain ⟨x, mx, ex⟩ := str_at a0 a1
    refine ⟨w, _, d1, _, rfl, rfl, k1.lst wb wg hw, ex, _, rfl, _, rfl, _, rfl, w, _, rfl, .inl (k1.lst wb wg hw), b, ga, _, _, rfl, bg1, by omega, by rw [lt]; omega, by rw [lt, p200]; omega, fun d2 H2 b0 b1 k2 bg2 => ?_⟩
    rw [lt] at b1
    obtain ⟨y, my, ey⟩ := str_at b0 b1
    have k12 := k1.trans k2
    refine ⟨w, _, d2, _, rfl, rfl, k12.lst wb wg hw, ey, _, _, rfl, ?_⟩
    skip
    refine ⟨by show 0 ≤ sizeLine; decide, fun e ne => ?_⟩
    have se := Same.new (o := .tup []) ne
    have oe : upd H2 e (.tup []) e = some (.tup []) := upd_same
    generalize upd H2 e (HO.tup ([] : List V)) = H3 at se oe
    have k3 := k12.trans (Kb.of se)
    have bg3 := bg2.same se
    -- a first condition
    refine ⟨fun σ' G => ∃ (t4 : Addr) (ys : List V) (cs : List Cd), σ' = [some (.ref b), some (.ref w), some (.str x), some (.str y), some (.ref t4), none, none] ∧ SqT K G t4 ys ∧ DpAll K G ys (cs.map cdD) ∧ cs.length ≤ 1 ∧ (∀ z ∈ cs, z.1 ∈ ts ∧ RgGd z.2) ∧ Kb b ga H G ∧ Bg (n + 8) G b ga, ?_, ?_⟩
    · refine ⟨_, rfl, b, ga, 3, _, rfl, bg3, by omega, by decide, by decide, fun d3 H4 c0 c1 k4 bg4 => ⟨rfl, _, rfl, ite2 (fun _ => ?_) (fun _ => ?_)⟩⟩
      · have k34 := k3.trans k4
        refine ⟨_, rfl, _, rfl, _, rfl, w, _, rfl, .inl (k34.lst wb wg hw), b, ga, _, _, rfl, bg4, by omega, by rw [lt]; omega, by rw [lt, p200]; omega, fun d4 H5 e0 e1 k5 bg5 => ?_⟩
        rw [lt] at e1
        obtain ⟨z, mz, ez⟩ := str_at e0 e1
        refine ⟨w, _, d4, _, rfl, rfl, (k34.trans k5).lst wb wg hw, ez, _, rfl, b, ga, 20, _, rfl, bg5, by omega, by decide, by decide, fun v r H6 bv iv rv k6 bg6 => ?_⟩
        refine ⟨by show 2 ≤ sizeLine; decide, fun p np => ?_⟩
        have sp := Same.new (o := .tup [.str z, v]) np
        have op : upd H6 p (.tup [.str z, v]) p = some (.tup [.str z, v]) := upd_same
        generalize upd H6 p (HO.tup ([.str z, v] : List V)) = H7 at sp op
        refine ⟨by show 1 ≤ sizeLine; decide, fun o no => ?_⟩
        have so := Same.new (o := .tup [.ref p]) no
        have oo : upd H7 o (.tup [.ref p]) o = some (.tup [.ref p]) := upd_same
        generalize upd H7 o (HO.tup ([.ref p] : List V)) = H8 at so oo
        refine ⟨o, _, [(z, r)], rfl, .inl (.inl oo), .cons (.tup (.inl (.inl (so _ _ op))) (.cons (.str _) (.cons (dp_rg (rv.same (sp.trans so))) .nil))) .nil, Nat.le_refl _, fun c m => ?_, ((k34.trans k5).trans k6).trans (Kb.of (sp.trans so)), ((bg6.same sp).same so).mono (by omega)⟩
        obtain rfl := List.mem_singleton.mp m
        exact ⟨mz, bv, iv.up (by decide)⟩
      · exact ⟨e, [], [], rfl, SqT.kb bg3 k4 (.inl (.inl oe)), .nil, by decide, by simp, k3.trans k4, bg4.mono (by omega)⟩
    rintro σ' G1 ⟨t4, ys, cs, rfl, st, dc, lc, gc, kg, bgG⟩
    -- a second one
    refine ⟨fun σ' G => ∃ (t4 : Addr) (ys : List V) (cs : List Cd), σ' = [some (.ref b), some (.ref w), some (.str x), some (.str y), some (.ref t4), none, none] ∧ SqT K G t4 ys ∧ DpAll K G ys (cs.map cdD) ∧ cs.length ≤ 2 ∧ (∀ z ∈ cs, z.1 ∈ ts ∧ RgGd z.2) ∧ Kb b ga H G ∧ Bg (n + 13) G b ga, ?_, ?_⟩
    · refine ⟨_, rfl, b, ga, 9, _, rfl, bgG, by omega, by decide, by decide, fun d3 H4 c0 c1 k4 bg4 => ⟨rfl, _, rfl, ite2 (fun _ => ?_) (fun _ => ?_)⟩⟩
      · have k34 := kg.trans k4
        refine ⟨_, rfl, _, rfl, _, rfl, _, rfl, w, _, rfl, .inl (k34.lst wb wg hw), b, ga, _, _, rfl, bg4, by omega, by rw [lt]; omega, by rw [lt, p200]; omega, fun d4 H5 e0 e1 k5 bg5 => ?_⟩
        rw [lt] at e1
        obtain ⟨z, mz, ez⟩ := str_at e0 e1
        refine ⟨w, _, d4, _, rfl, rfl, (k34.trans k5).lst wb wg hw, ez, _, rfl, b, ga, 9, _, rfl, bg5, by omega, by decide, by decide, fun v r H6 bv iv rv k6 bg6 => ?_⟩
        have k46 := (k4.trans k5).trans k6
        refine ⟨by show 2 ≤ sizeLine; decide, fun p np => ?_⟩
        have sp := Same.new (o := .tup [.str z, v]) np
        have op : upd H6 p (.tup [.str z, v]) p = some (.tup [.str z, v]) := upd_same
        generalize upd H6 p (HO.tup ([.str z, v] : List V)) = H7 at sp op
        refine ⟨by show 1 ≤ sizeLine; decide, fun o no => ?_⟩
        have so := Same.new (o := .tup [.ref p]) no
        have oo : upd H7 o (.tup [.ref p]) o = some (.tup [.ref p]) := upd_same
        generalize upd H7 o (HO.tup ([.ref p] : List V)) = H8 at so oo
        have s8 := sp.trans so
        have ly : ys.length ≤ 1 := by rw [dpa_len dc, List.length_map]; exact lc
        refine catA (SqT.kb bg6 (Kb.of s8) (SqT.kb bgG k46 st)) (.inl (.inl oo)) (by show ys.length + 1 ≤ 1000; omega) fun f G9 s9 sf => ?_
        refine ⟨f, _, cs ++ [(z, r)], rfl, sf, dpa_snoc (dpa_same (s8.trans s9) (dpa_kb bgG k46 dc (noL_map cs))) (.tup (.inl (.inl (s9 _ _ (so _ _ op)))) (.cons (.str _) (.cons (dp_rg (rv.same (s8.trans s9))) .nil))), by rw [List.length_append]; show cs.length + 1 ≤ 2; omega, fun c m => ?_, (kg.trans k46).trans (Kb.of (s8.trans s9)), ((bg6.same s8).same s9).mono (by omega)⟩
        rcases List.mem_append.mp m with m | m
        · exact gc c m
        · obtain rfl := List.mem_singleton.mp m
          exact ⟨mz, bv, iv.up (by decide)⟩
      · exact ⟨t4, ys, cs, rfl, SqT.kb bgG k4 st, dpa_kb bgG k4 dc (noL_map cs), by omega, gc, kg.trans k4, bg4.mono (by omega)⟩
    clear st dc lc gc kg bgG cs ys t4
    rintro σ' G2 ⟨t4, ys, cs, rfl, st, dc, lc, gc, kg, bgG⟩
    refine ⟨_, rfl, b, ga, 3, _, rfl, bgG, by omega, by decide, by decide, fun d3 H4 c0 c1 k4 bg4 => ⟨rfl, _, rfl, ite2 (fun _ => ?_) (fun _ => ?_)⟩⟩
    · -- a set
      refine ⟨_, rfl, b, ga, 9, _, rfl, bg4, by omega, by decide, by decide, fun d5 H5 e0 e1 k5 bg5 => ⟨_, _, rfl, rfl, ?_⟩⟩
      refine ⟨_, rfl, _, rfl, _, rfl, _, rfl, b, ga, 4, _, rfl, bg5, by omega, by decide, by decide, fun d6 H6 g0 g1 k6 bg6 => ⟨_, _, rfl, rfl, ?_⟩⟩
      have k46 := (k4.trans k5).trans k6
      dsimp only
      refine ⟨by show 2 ≤ sizeLine; decide, fun p np => ?_⟩
      have sp := Same.new (o := .tup [.int (d5 - 4), .int (d5 - 4 + d6)]) np
      have op : upd H6 p (.tup [.int (d5 - 4), .int (d5 - 4 + d6)]) p = some (.tup [.int (d5 - 4), .int (d5 - 4 + d6)]) := upd_same
      generalize upd H6 p (HO.tup ([.int (d5 - 4), .int (d5 - 4 + d6)] : List V)) = H7 at sp op
      refine ⟨_, rfl, by show 4 ≤ sizeLine; decide, fun o no => ?_⟩
      have so := Same.new (o := .tup [.str "set", .str x, .ref p, .ref t4]) no
      have oo : upd H7 o (.tup [.str "set", .str x, .ref p, .ref t4]) o = some (.tup [.str "set", .str x, .ref p, .ref t4]) := upd_same
      generalize upd H7 o (HO.tup ([.str "set", .str x, .ref p, .ref t4] : List V)) = H8 at so oo
      have s8 := sp.trans so
      refine q _ (.set x (some (some (d5 - 4), some (d5 - 4 + d6))) cs) _ ⟨fun z mz => ?_, fun z mz => ?_, rfl, lc, trivial⟩ ((kg.trans k46).trans (Kb.of s8)) ((bg6.same s8).mono (by omega)) ?_
      · rcases List.mem_cons.mp mz with rfl | mz
        · exact mx
        · obtain ⟨cd, mcd, rfl⟩ := List.mem_map.mp mz
          exact (gc cd mcd).1
      · rcases List.mem_cons.mp mz with rfl | mz
        · refine ⟨?_, ?_⟩
          · show (false || decide (d5 - 4 > d5 - 4 + d6)) = false
            rw [decide_eq_false (by omega)]
            rfl
          · have b31 : (10 : Int) ^ 31 = 10000000000000000000000000000000 := by decide
            rw [b31]
            exact ⟨by show _ ∧ _; omega, by show _ ∧ _; omega⟩
        · obtain ⟨cd, mcd, rfl⟩ := List.mem_map.mp mz
          exact (gc cd mcd).2
      · exact .tup (.inl (.inl oo)) (.cons (.str _) (.cons (.str _) (.cons (.tup (.inl (.inl (so _ _ op))) (.cons (.int _) (.cons (.int _) .nil))) (.cons (.tup (SqT.kb bg6 (Kb.of s8) (SqT.kb bgG k46 st)) (dpa_same s8 (dpa_kb bgG k46 dc (noL_map cs)))) .nil))))
    -- a step
    skip
    refine ⟨_, rfl, _, rfl, by show 7 ≤ sizeLine; decide, fun t7 nt7 => ?_⟩
    have st7 := Same.new (o := .tup [.int 1, .int 1, .int 1, .int (-1), .int 2, .int (-2), .int 3]) nt7
    have ot7 : upd H4 t7 (.tup [.int 1, .int 1, .int 1, .int (-1), .int 2, .int (-2), .int 3]) t7 = some (.tup [.int 1, .int 1, .int 1, .int (-1), .int 2, .int (-2), .int 3]) := upd_same
    generalize upd H4 t7 (HO.tup ([.int 1, .int 1, .int 1, .int (-1), .int 2, .int (-2), .int 3] : List V)) = H5 at st7 ot7
    have bg5 := bg4.same st7
    refine ⟨_, rfl, b, ga, 7, _, rfl, bg5, by omega, by decide, by decide, fun d6 H6 g0 g1 k6 bg6 => ?_⟩
    obtain ⟨fa, ef, f0, fb⟩ : ∃ fa : Int, atI [V.int 1, .int 1, .int 1, .int (-1), .int 2, .int (-2), .int 3] d6 = some (.int fa) ∧ fa ≠ 0 ∧ fa.natAbs ≤ 10 := by
      obtain ⟨v, ev, mv⟩ := pick_mem (xs := [V.int 1, .int 1, .int 1, .int (-1), .int 2, .int (-2), .int 3]) g0 g1
      simp only [List.mem_cons, List.not_mem_nil, or_false] at mv
      rcases mv with rfl | rfl | rfl | rfl | rfl | rfl | rfl <;> exact ⟨_, ev, by decide, by decide⟩
    refine ⟨t7, _, d6, _, rfl, rfl, SqT.kb bg5 k6 (.inl (.inl ot7)), ef, ?_⟩
    refine ⟨_, rfl, _, rfl, _, rfl, _, rfl, b, ga, 9, _, rfl, bg6, by omega, by decide, by decide, fun d7 H7 h0 h1 k7 bg7 => ⟨_, _, rfl, rfl, _, rfl, b, ga, 30, _, rfl, bg7, by omega, by decide, by decide, fun v r H8 bv iv rv k8 bg8 => ?_⟩⟩
    have k48 := ((k4.trans (Kb.of st7)).trans k6).trans (k7.trans k8)
    dsimp only
    refine ⟨_, rfl, by show 7 ≤ sizeLine; decide, fun o no => ?_⟩
    have so := Same.new (o := .tup [.str "step", .str x, .str y, .int fa, .int (d7 - 4), v, .ref t4]) no
    have oo : upd H8 o (.tup [.str "step", .str x, .str y, .int fa, .int (d7 - 4), v, .ref t4]) o = some (.tup [.str "step", .str x, .str y, .int fa, .int (d7 - 4), v, .ref t4]) := upd_same
    generalize upd H8 o (HO.tup ([.str "step", .str x, .str y, .int fa, .int (d7 - 4), v, .ref t4] : List V)) = H9 at so oo
    refine q _ (.stp x y fa (d7 - 4) r cs) _ ⟨fun z mz => ?_, fun z mz => ?_, decide_eq_false f0, lc, fb, ?_⟩ ((kg.trans k48).trans (Kb.of so)) ((bg8.same so).mono (by omega)) ?_
    · rcases List.mem_cons.mp mz with rfl | mz
      · exact mx
      rcases List.mem_cons.mp mz with rfl | mz
      · exact my
      · obtain ⟨cd, mcd, rfl⟩ := List.mem_map.mp mz
        exact (gc cd mcd).1
    · rcases List.mem_cons.mp mz with rfl | mz
      · exact ⟨bv, iv.up (by decide)⟩
      · obtain ⟨cd, mcd, rfl⟩ := List.mem_map.mp mz
        exact (gc cd mcd).2
    · have b32 : (10 : Nat) ^ 32 = 100000000000000000000000000000000 := by decide
      rw [b32]
      omega
    · exact .tup (.inl (.inl oo)) (.cons (.str _) (.cons (.str _) (.cons (.str _) (.cons (.int _) (.cons (.int _) (.cons (dp_rg (rv.same so)) (.cons (.tup (SqT.kb bg8 (Kb.of so) (SqT.kb bgG k48 st)) (dpa_same so (dpa_kb bgG k48 dc (noL_map cs)))) .nil)))))))
end

end Pk43
namespace Pk43
open PySem PySem.Spec PyProof.Rows L2 Gd
section
variable {P : Program} {w : World} {K : PySem.W.Frag} {mg : Str → Option Value} {base : Heap}
set_option maxHeartbeats 8000000 in
-- _shown_integer: level 1; builtins ['abs', 'divmod', 'str']; cells []; slots: 0 number, 1 left, 2 parts, 3 part
theorem ok__shown_integer (h : At K mg "_shown_integer" s__shown_integer ["number"]) (k_PART : ∃ t, mg "PART" = some (.int 10000000000000000000000000000000000000000000000000000000000000000 t)) (k_PART_DIGITS : ∃ t, mg "PART_DIGITS" = some (.int 64 t)) (m_abs : mg "abs" = none) (m_divmod : mg "divmod" = none) (m_str : mg "str" = none) : Dn P w K mg base 1 "_shown_integer" s__shown_integer ["number"] (sp__shown_integer K) := by
  refine .mk' h fun f fd F => F.ok sc__shown_integer (fun vs H Q E h => ?_) (fun cdv A outer s H vs Q E hr h => ?_)
  · obtain ⟨n, rfl, hn, q⟩ := h
    rfl
  · obtain ⟨n, rfl, hn, q⟩ := h
    refine ⟨_, (pss_cons (ps_set (i := 1) sc__shown_integer.nd rfl (.inl rfl) (pe_callB call_abs (by rfl) m_abs (by decide +kernel) (pa_cons (pv 0) pa_nil)))
      (pss_cons (ps_set (i := 2) sc__shown_integer.nd rfl (.inl rfl) (pe_lst pa_nil))
      (pss_cons (ps_while PassesOwn.never (pt_cmpR op_ge (pv 1) (pe_glob (v := .int 10000000000000000000000000000000000000000000000000000000000000000) rfl k_PART.choose_spec ⟨_, rfl⟩) (nomark _))
        (pss_cons (ps_asg (pe_callB call_divmod (by rfl) m_divmod (by decide +kernel) (pa_cons (pv 1) (pa_cons (pe_glob (v := .int 10000000000000000000000000000000000000000000000000000000000000000) rfl k_PART.choose_spec ⟨_, rfl⟩) pa_nil))) (pg_tup (by rfl) (pgs_cons (pg_name (i := 1) sc__shown_integer.nd rfl (.inl rfl)) (pgs_cons (pg_name (i := 3) sc__shown_integer.nd rfl (.inl rfl)) pgs_nil))))
        (pss_one (ps_expr (pe_bm PySem.F.plainAttrs_list PySem.F.slot_list_append PySem.F.type_list_append mt_append (pv 2) (pa_cons (pe_bm PySem.F.plainAttrs_str PySem.F.slot_str_zfill PySem.F.type_str_zfill mt_zfill (pe_callTy call_str_int (by rfl) m_str (by decide +kernel) (pa_cons (pv 3) pa_nil)) (pa_cons (pe_glob (v := .int 64) rfl k_PART_DIGITS.choose_spec ⟨_, rfl⟩) pa_nil)) pa_nil))))))
      (pss_cons (ps_expr (pe_bm PySem.F.plainAttrs_list PySem.F.slot_list_append PySem.F.type_list_append mt_append (pv 2) (pa_cons (pe_callTy call_str_int (by rfl) m_str (by decide +kernel) (pa_cons (pv 1) pa_nil)) pa_nil)))
      (pss_one (ps_ret (pe_op op_add_str (pe_ifExp (pt_cmpR op_lt (pv 0) pe_int (nomark _)) pe_str pe_str) (pe_bm PySem.F.plainAttrs_str PySem.F.slot_str_join PySem.F.type_str_join mt_join pe_str (pa_cons (pe_revL (pv 2)) pa_nil))))))))), ?_⟩
    have e45 : (10 : Nat) ^ 45 = 1000000000000000000000000000000000000000000000 := by decide
    have m0 : (if n < 0 then -n else n).natAbs < 10 ^ 45 := by split <;> omega
    have big : ¬ ((10000000000000000000000000000000000000000000000000000000000000000 : Int) ≤ (if n < 0 then -n else n)) := by
      split <;> omega
    have cut := showI_cut (n := n)
    have ln : (showI (if n < 0 then -n else n)).length ≤ 46 := showI_len m0
    refine ⟨_, rfl, n, rfl, ?_⟩
    generalize (if n < 0 then -n else n) = m at m0 big cut ln ⊢
    refine ⟨by show 0 ≤ sizeLine; decide, fun P nP => ?_⟩
    have sP := Same.new (o := .lst []) nP
    have oP : upd H P (.lst []) P = some (.lst []) := upd_same
    generalize upd H P (HO.lst ([] : List V)) = H1 at sP oP
    refine ⟨fun k σ G => G = H1 ∧ σ = [some (.int n), some (.int m), some (.ref P), none], ⟨0, rfl, rfl⟩, ?_⟩
    rintro k σ G ⟨rfl, rfl⟩
    refine ⟨_, rfl, _, _, rfl, rfl, false, congrArg V.bl (decide_eq_false big), iteF ?_⟩
    refine ⟨_, rfl, ty_lst oP, _, rfl, m, rfl, log45 m0, P, [], _, rfl, rfl, oP, (by show 0 < sizeLine; decide), ?_⟩
    have k2 : Same H (upd G P (.lst ([] ++ [V.str (Str.ofString (toString m))]))) := fun b o e => by
      rw [upd_ne (ne_of_none e nP)]
      exact sP _ _ e
    have o2 : upd G P (.lst ([] ++ [V.str (Str.ofString (toString m))])) P = some (.lst [V.str (showI m)]) := upd_same
    generalize upd G P (HO.lst ([] ++ [V.str (Str.ofString (toString m))])) = G2 at k2 o2 ⊢
    refine ⟨_, rfl, _, _, rfl, rfl, decide (n < 0), rfl, ?_⟩
    by_cases c : n < 0
    · rw [if_pos c] at cut
      rw [decide_eq_true c]
      refine iteT ⟨rfl, _, rfl, P, _, rfl, .inl (.inl o2), fun p np => ?_⟩
      refine ⟨_, p, [showI m], rfl, rfl, .inl (.inl (.inl upd_same)), by show (showI m).length + 0 + 1 * (Str.ofString "").length ≤ _; rw [len_e]; omega, _, _, rfl, rfl, ?_, ?_⟩
      · rw [join_one, len_m, sizeLine_eq]
        omega
      · rw [join_one, cut]
        exact q _ (k2.trans (Same.new np))
    · rw [if_neg c] at cut
      rw [decide_eq_false c]
      refine iteF ⟨rfl, _, rfl, P, _, rfl, .inl (.inl o2), fun p np => ?_⟩
      refine ⟨_, p, [showI m], rfl, rfl, .inl (.inl (.inl upd_same)), by show (showI m).length + 0 + 1 * (Str.ofString "").length ≤ _; rw [len_e]; omega, _, _, rfl, rfl, ?_, ?_⟩
      · rw [join_one, len_e, sizeLine_eq]
        omega
      · rw [join_one, cut]
        exact q _ (k2.trans (Same.new np))
end

end Pk43
namespace Pk43
open PySem PySem.Spec PyProof.Rows L2 Gd
section
variable {P : Program} {w : World} {K : PySem.W.Frag} {mg : Str → Option Value} {base : Heap}
set_option maxHeartbeats 8000000 in
-- _shown_bound: level 2; builtins []; cells []; slots: 0 bound
theorem ok__shown_bound (h : At K mg "_shown_bound" s__shown_bound ["bound"]) (D__shown_integer : Dn P w K mg base 1 "_shown_integer" s__shown_integer ["number"] (sp__shown_integer K)) : Dn P w K mg base 2 "_shown_bound" s__shown_bound ["bound"] (sp__shown_bound K) := by
  refine .mk' h fun f fd F => F.ok sc__shown_bound (fun vs H Q E h => ?_) (fun cdv A outer s H vs Q E hr h => ?_)
  · obtain ⟨o, rfl, ho, q⟩ := h
    rfl
  · obtain ⟨o, rfl, ho, q⟩ := h
    refine ⟨_, (pss_one (ps_ret (pe_ifExp (pt_cmpR op_isN (pv 0) pe_non (nomark _)) pe_str (pe_c D__shown_integer hr (by rfl) (pa_cons (pv 0) pa_nil))))), ?_⟩
    cases o with
    | none => exact ⟨_, rfl, rfl, true, rfl, iteT (q _ (Same.refl _))⟩
    | some n => exact ⟨_, rfl, rfl, false, rfl, iteF ⟨_, rfl, n, rfl, ho n rfl, q⟩⟩
end

end Pk43
namespace Pk43
open PySem PySem.Spec PyProof.Rows L2 Gd
section
variable {P : Program} {w : World} {K : PySem.W.Frag} {mg : Str → Option Value} {base : Heap}
set_option maxHeartbeats 8000000 in
-- show_range: level 3; builtins []; cells []; slots: 0 one, 1 low, 2 high
theorem ok_show_range (h : At K mg "show_range" s_show_range ["one"]) (D__shown_bound : Dn P w K mg base 2 "_shown_bound" s__shown_bound ["bound"] (sp__shown_bound K)) (D_check_range : Dn P w K mg base 2 "check_range" s_check_range ["one"] (sp_check_range K)) : Dn P w K mg base 3 "show_range" s_show_range ["one"] (sp_show_range K) := by
  refine .mk' h fun f fd F => F.ok sc_show_range (fun vs H Q E h => ?_) (fun cdv A outer s H vs Q E hr h => ?_)
  · obtain ⟨v, r, rfl, hv, h45, fit, q⟩ := h
    rfl
  · obtain ⟨v, r, rfl, hv, h45, fit, q⟩ := h
    refine ⟨_, (pss_cons (ps_expr (pe_c D_check_range hr (by rfl) (pa_cons (pv 0) pa_nil)))
      (pss_cons (ps_if (pt_cmpR op_isN (pv 0) pe_non (nomark _))
        (pss_one (ps_ret pe_str))
        pss_nil)
      (pss_cons (ps_asg (pv 0) (pg_tup (by rfl) (pgs_cons (pg_name (i := 1) sc_show_range.nd rfl (.inl rfl)) (pgs_cons (pg_name (i := 2) sc_show_range.nd rfl (.inl rfl)) pgs_nil))))
      (pss_one (ps_ret (pe_op op_add_str (pe_op op_add_str (pe_c D__shown_bound hr (by rfl) (pa_cons (pv 1) pa_nil)) pe_str) (pe_c D__shown_bound hr (by rfl) (pa_cons (pv 2) pa_nil)))))))), ?_⟩
    refine ⟨_, rfl, v, r, rfl, hv, fit, ?_⟩
    match r, hv with
    | none, hv =>
      have e : v = .non := hv
      subst e
      exact ⟨_, rfl, rfl, true, rfl, iteT (q _ (Same.refl _))⟩
    | some (l, h), hv =>
      obtain ⟨p, rfl, s⟩ := hv
      obtain ⟨b1, b2⟩ := h45 _ rfl
      have l1 : (showB l).length ≤ 46 := showB_len b1
      have l2 : (showB h).length ≤ 46 := showB_len b2
      refine ⟨_, rfl, rfl, false, rfl, iteF ?_⟩
      refine ⟨_, rfl, p, _, rfl, s, rfl, _, _, rfl, _, _, rfl, rfl, ?_⟩
      refine ⟨_, rfl, l, rfl, b1, fun H1 k1 => ⟨_, _, rfl, rfl, by rw [len_dd, sizeLine_eq]; omega, _, rfl, h, rfl, b2, fun H2 k2 => ⟨_, _, rfl, rfl, by rw [len_app, len_dd, sizeLine_eq]; omega, ?_⟩⟩⟩
      exact q _ (k1.trans k2)
end

end Pk43
namespace Pk43
open PySem PySem.Spec PyProof.Rows L2 Gd
section
variable {P : Program} {w : World} {K : PySem.W.Frag} {mg : Str → Option Value} {base : Heap}
set_option maxHeartbeats 8000000 in
-- _integer_of: level 3; builtins ['all', 'int', 'len']; cells []; slots: 0 text, 1 digits, 2 sign
theorem ok__integer_of {c0 c1 c2 c3 fI : Addr} (X : ErrT K mg [c0, c1, c2, c3] ["RangeError", "InvalidRange", "InvalidSystem", "Unreadable"] fI) (h : At K mg "_integer_of" s__integer_of ["text"]) (D_RangeError___init__ : DnI P w K mg base 1 fI "RangeError.__init__" s_RangeError___init__ ["self", "value"] (spIni K)) (kI_value : ∀ fd, Fun K "__init__" "RangeError.__init__" s_RangeError___init__ fI fd → ∀ (s : Shared) (a u : Value), BindsTo s fd ⟨[a], [("value", u)]⟩ ((["self", "value"] : List Str).zip [a, u])) (k_MOST_DIGITS : ∃ t, mg "MOST_DIGITS" = some (.int 45 t)) (m_all : mg "all" = none) (m_int : mg "int" = none) (m_len : mg "len" = none) : DnN P w K mg base 3 "_integer_of" s__integer_of ["text"] (sp__integer_of K [c0, c1, c2, c3]) := by
  refine .mk' h fun f fd F => okN F sc__integer_of (fun vs H Q E h => ?_) (fun cdv A outer s H vs Q E hr h => ?_)
  · obtain ⟨a, rfl, la, q, qE⟩ := h
    rfl
  · obtain ⟨a, rfl, la, q, qE⟩ := h
    refine ⟨_, (pss_cons (ps_set (i := 1) sc__integer_of.nd rfl (.inl rfl) (pe_bm PySem.F.plainAttrs_str PySem.F.slot_str_removeprefix PySem.F.type_str_removeprefix mt_removeprefix (pv 0) (pa_cons pe_str pa_nil)))
      (pss_cons (ps_if (PW.pt (pw_or (pt_not (pt_chain op_le op_le pe_int (pe_callB call_len_str (by rfl) m_len PySem.boot_len (pa_cons (pv 1) pa_nil)) (pe_glob (v := .int 45) rfl k_MOST_DIGITS.choose_spec ⟨_, rfl⟩))) (pw_or1 (pt_not (pt_val (pe_callB (cr_all rfl) (by rfl) m_all (by decide +kernel) (pa_cons (pe_lc (own := [("sign", 2)]) (g := gName 2) rfl sc__integer_of.nd (pi_str (pv 1)) (blkOk_by (N := ["text", "digits", "sign"]) (sc := defScope s__integer_of) (by decide +kernel)) (fun _ _ _ _ _ => pg_name (i := 2) sc__integer_of.nd rfl (Or.inl rfl)) (fun _ _ _ _ _ => pts_nil) (fun _ _ _ _ _ => (pe_chain op_le_str op_le_str pe_str (pv 2) pe_str))) pa_nil)))))))
        (pss_one (ps_raiseN rfl (X.t 3 _ _ rfl rfl) D_RangeError___init__ hr (L2N.takes_of rfl rfl rfl rfl) (by rfl) (pa_cons (pv 0) pa_nil)))
        pss_nil)
      (pss_cons (ps_if (PW.pt (pw_and (pt_cmpR op_eq (pe_ix ix_str (pv 1) pe_int (fun _ _ => rfl)) pe_str (nomark _)) (pw_and1 (pt_cmpR op_ne (pv 0) pe_str (nomark _)))))
        (pss_one (ps_raiseN rfl (X.t 3 _ _ rfl rfl) D_RangeError___init__ hr (L2N.takes_of rfl rfl rfl rfl) (by rfl) (pa_cons (pv 0) pa_nil)))
        pss_nil)
      (pss_one (ps_ret (pe_callTy call_int_str (by rfl) m_int (by decide +kernel) (pa_cons (pv 0) pa_nil))))))), ?_⟩
    have TR := X.t 3 _ _ rfl rfl
    have bad : ∀ G, Same H G → readI (TL.tl a) = none → tMkO c3 (spIni K) [] (tCons (tVar 0) tNil) [some (V.str a), some (.str (Txt.removeprefix a "-")), none] G fun cls d H' => E cls d H' := fun G k z => by
      obtain ⟨c, ec, e'⟩ := (qE z a).same k
      obtain rfl := Option.some.inj ec
      exact ⟨_, rfl, by show 1 ≤ 1000; decide, mk_raise TR.ox TR.nV fun d' H4 k4 nd' hd' => e' d' H4 k4 nd' hd'⟩
    refine ⟨_, rfl, rfl, _, _, rfl, rfl, by rw [sizeLine_eq]; omega, ?_⟩
    have td := tl_removeprefix a
    have ld : (Txt.removeprefix a "-").length = (unneg (TL.tl a)).length := by rw [TL.len_tl, td]
    have ldl : (Txt.removeprefix a "-").length ≤ 100000 := by
      rw [ld]
      have := unneg_len (TL.tl a)
      rw [← TL.len_tl] at this
      omega
    generalize Txt.removeprefix a "-" = g at td ld ldl bad ⊢
    have lg : g.length ≤ sizeLine := by rw [sizeLine_eq]; omega
    refine ⟨_, rfl, g, rfl, lg, _, _, rfl, rfl, decide ((1 : Int) ≤ (g.length : Int)), rfl, ?_⟩
    by_cases h1 : 1 ≤ g.length
    case neg =>
      rw [decide_eq_false (by omega)]
      refine iteF ⟨_, rfl, ?_⟩
      refine bad _ (Same.refl _) (if_neg fun z => ?_)
      have := (okI_parts z).1
      omega
    rw [decide_eq_true (by omega)]
    refine iteT ⟨_, _, rfl, rfl, decide ((g.length : Int) ≤ 45), rfl, ?_⟩
    by_cases h2 : g.length ≤ 45
    case neg =>
      rw [decide_eq_false (by omega)]
      refine bad _ (Same.refl _) (if_neg fun z => ?_)
      have := (okI_parts z).2.1
      omega
    rw [decide_eq_true (by omega)]
    refine iteF ⟨_, rfl, g, rfl, fun D nD => lc_strB g (fun c => decide (48 ≤ c) && decide (c ≤ 57)) (by show g.length ≤ 1000; omega) nD (fun _ => rfl) ?_ ?_⟩
    · intro c H' R k
      refine ⟨_, rfl, _, _, rfl, rfl, _, rfl, ?_⟩
      have e1 : (!decide ((⟨#[c]⟩ : Str).cps.toList < (Str.ofString "0").cps.toList)) = decide (48 ≤ c) := by
        rw [show (Str.ofString "0").cps.toList = [48] from tl_zero]
        exact lt_one c 48
      have e2 : (!decide ((Str.ofString "9").cps.toList < (⟨#[c]⟩ : Str).cps.toList)) = decide (c ≤ 57) := by
        rw [show (Str.ofString "9").cps.toList = [57] from (TL.tl_ofString "9")]
        exact lt_one 57 c
      rw [e1]
      cases h : decide (48 ≤ c) with
      | false =>
        rw [h] at k
        exact iteF k
      | true =>
        rw [h, Bool.true_and] at k
        refine iteT ⟨_, _, rfl, rfl, ?_⟩
        show R (.bl (!decide ((Str.ofString "9").cps.toList < (⟨#[c]⟩ : Str).cps.toList))) H'
        rw [e2]
        exact k
    refine ⟨D, _, rfl, .inl (.inl upd_same), _, rfl, ?_⟩
    have ea : ((g.cps.toList.map fun c => decide (48 ≤ c) && decide (c ≤ 57)).all id) = digL (unneg (TL.tl a)) := by
      rw [← td, List.all_map]
      unfold digL
      congr 1
      funext c
      simp
    rw [ea]
    have k1 := Same.new (o := HO.lst (List.map V.bl (List.map (fun c => decide (48 ≤ c) && decide (c ≤ 57)) g.cps.toList))) nD
    generalize upd H D (HO.lst (List.map V.bl (List.map (fun c => decide (48 ≤ c) && decide (c ≤ 57)) g.cps.toList))) = H1 at k1 ⊢
    cases hd : digL (unneg (TL.tl a)) with
    | false =>
      refine iteT (bad _ k1 (if_neg fun z => ?_))
      have := (okI_parts z).2.2.1
      rw [hd] at this
      cases this
    | true =>
      obtain ⟨c0, r0, e0⟩ : ∃ c0 r0, unneg (TL.tl a) = c0 :: r0 := by
        cases e : unneg (TL.tl a) with
        | nil => rw [e] at ld; rw [ld] at h1; exact absurd h1 (by decide)
        | cons c r => exact ⟨c, r, rfl⟩
      have at0 : atI g.cps.toList 0 = some c0 := atI_nat (j := 0) (by rw [show g.cps.toList = c0 :: r0 from td.trans e0]; rfl)
      have fin : ((unneg (TL.tl a)).head? = some 48 → TL.tl a = [48]) → Q (.int (numI (TL.tl a))) H1 ∧ PySem.intText? a = some (numI (TL.tl a)) ∧ a.length ≤ 640 := fun h4 => by
        have ok := okI_mk (by rw [← ld]; exact h1) (by rw [← ld]; exact h2) hd h4
        exact ⟨q _ (if_pos ok) _ k1, int_read ok⟩
      refine iteF ?_
      refine ⟨_, rfl, g, 0, c0, rfl, rfl, lg, at0, rfl, decide (V.str ⟨#[c0]⟩ = V.str "0"), rfl, ?_⟩
      rw [str_dec, tl_zero, show TL.tl (⟨#[c0]⟩ : Str) = [c0] from rfl]
      by_cases hc : c0 = 48
      · rw [decide_eq_true (by rw [hc])]
        refine iteT ⟨_, rfl, rfl, !decide (V.str a = V.str "0"), rfl, ?_⟩
        rw [str_dec, tl_zero]
        by_cases hz : TL.tl a = [48]
        · rw [decide_eq_true hz]
          obtain ⟨f1, f2, f3⟩ := fin fun _ => hz
          exact iteF ⟨_, rfl, a, _, rfl, f2, f3, f1⟩
        · rw [decide_eq_false hz]
          refine iteT (bad _ k1 (if_neg fun z => hz ((okI_parts z).2.2.2 ?_)))
          rw [e0, hc]
          rfl
      · rw [decide_eq_false (fun z => hc (List.cons.inj z).1)]
        obtain ⟨f1, f2, f3⟩ := fin fun z => by
          rw [e0] at z
          exact absurd (Option.some.inj z) hc
        exact iteF (iteF ⟨_, rfl, a, _, rfl, f2, f3, f1⟩)
end

end Pk43
namespace Pk43
open PySem PySem.Spec PyProof.Rows L2 Gd
section
variable {P : Program} {w : World} {K : PySem.W.Frag} {mg : Str → Option Value} {base : Heap}
set_option maxHeartbeats 8000000 in
-- _bound_of: level 4; builtins []; cells []; slots: 0 text
theorem ok__bound_of {c0 c1 c2 c3 fI : Addr} (X : ErrT K mg [c0, c1, c2, c3] ["RangeError", "InvalidRange", "InvalidSystem", "Unreadable"] fI) (h : At K mg "_bound_of" s__bound_of ["text"]) (D__integer_of : DnN P w K mg base 3 "_integer_of" s__integer_of ["text"] (sp__integer_of K [c0, c1, c2, c3])) : DnN P w K mg base 4 "_bound_of" s__bound_of ["text"] (sp__bound_of K [c0, c1, c2, c3]) := by
  refine .mk' h fun f fd F => okN F sc__bound_of (fun vs H Q E h => ?_) (fun cdv A outer s H vs Q E hr h => ?_)
  · obtain ⟨a, rfl, la, q, qE⟩ := h
    rfl
  · obtain ⟨a, rfl, la, q, qE⟩ := h
    refine ⟨_, (pss_one (ps_ret (pe_ifExp (pt_cmpR op_eq (pv 0) pe_str (nomark _)) pe_non (pe_cN (L2N.takes_of rfl rfl rfl rfl) D__integer_of hr (by rfl) (pa_cons (pv 0) pa_nil))))), ?_⟩
    have tn : ∀ {l : List Nat}, l ≠ [] → readB l = (readI l).map some := fun h => if_neg h
    refine ⟨_, rfl, rfl, decide (V.str a = V.str ""), rfl, ?_⟩
    rw [str_dec, tl_empty]
    by_cases c : TL.tl a = []
    · rw [decide_eq_true c]
      exact iteT (q none (if_pos c) _ (Same.refl _))
    · rw [decide_eq_false c]
      refine iteF ⟨_, rfl, a, rfl, la, fun n e H' k => q (some n) (by rw [tn c, e]; rfl) _ k, fun e => qE (by rw [tn c, e]; rfl)⟩
end

end Pk43
namespace Pk43
open PySem PySem.Spec PyProof.Rows L2 Gd
section
variable {P : Program} {w : World} {K : PySem.W.Frag} {mg : Str → Option Value} {base : Heap}
set_option maxHeartbeats 8000000 in
-- _bounds_of: level 5; builtins []; cells []; slots: 0 text, 1 low, 2 dots, 3 high, 4 one
theorem ok__bounds_of {c0 c1 c2 c3 fI : Addr} (X : ErrT K mg [c0, c1, c2, c3] ["RangeError", "InvalidRange", "InvalidSystem", "Unreadable"] fI) (h : At K mg "_bounds_of" s__bounds_of ["text"]) (D_RangeError___init__ : DnI P w K mg base 1 fI "RangeError.__init__" s_RangeError___init__ ["self", "value"] (spIni K)) (kI_value : ∀ fd, Fun K "__init__" "RangeError.__init__" s_RangeError___init__ fI fd → ∀ (s : Shared) (a u : Value), BindsTo s fd ⟨[a], [("value", u)]⟩ ((["self", "value"] : List Str).zip [a, u])) (D__bound_of : DnN P w K mg base 4 "_bound_of" s__bound_of ["text"] (sp__bound_of K [c0, c1, c2, c3])) (D_is_upside_down : Dn P w K mg base 1 "is_upside_down" s_is_upside_down ["one"] (sp_is_upside_down K)) : DnN P w K mg base 5 "_bounds_of" s__bounds_of ["text"] (sp__bounds_of K [c0, c1, c2, c3]) := by
  refine .mk' h fun f fd F => okN F sc__bounds_of (fun vs H Q E h => ?_) (fun cdv A outer s H vs Q E hr h => ?_)
  · obtain ⟨a, rfl, la, q, qE⟩ := h
    rfl
  · obtain ⟨a, rfl, la, q, qE⟩ := h
    refine ⟨_, (pss_cons (ps_asg (pe_bm PySem.F.plainAttrs_str PySem.F.slot_str_partition PySem.F.type_str_partition mt_partition (pv 0) (pa_cons pe_str pa_nil)) (pg_tup (by rfl) (pgs_cons (pg_name (i := 1) sc__bounds_of.nd rfl (.inl rfl)) (pgs_cons (pg_name (i := 2) sc__bounds_of.nd rfl (.inl rfl)) (pgs_cons (pg_name (i := 3) sc__bounds_of.nd rfl (.inl rfl)) pgs_nil)))))
      (pss_cons (ps_set (i := 4) sc__bounds_of.nd rfl (.inl rfl) (pe_tup (pa_cons (pe_cN (L2N.takes_of rfl rfl rfl rfl) D__bound_of hr (by rfl) (pa_cons (pv 1) pa_nil)) (pa_cons (pe_cN (L2N.takes_of rfl rfl rfl rfl) D__bound_of hr (by rfl) (pa_cons (pv 3) pa_nil)) pa_nil))))
      (pss_cons (ps_if (PW.pt (pw_or (pt_not (pt_truth (pv 2) (fun _ => rfl))) (pw_or1 (pt_val (pe_c D_is_upside_down hr (by rfl) (pa_cons (pv 4) pa_nil))))))
        (pss_one (ps_raiseN rfl (X.t 3 _ _ rfl rfl) D_RangeError___init__ hr (L2N.takes_of rfl rfl rfl rfl) (by rfl) (pa_cons (pv 0) pa_nil)))
        pss_nil)
      (pss_one (ps_ret (pv 4)))))), ?_⟩
    have TR := X.t 3 _ _ rfl rfl
    have bad : ∀ G σ, Same H G → readP (TL.tl a) = none → σ[0]? = some (some (V.str a)) → tMkO c3 (spIni K) [] (tCons (tVar 0) tNil) σ G fun cls d H' => E cls d H' := fun G σ k z e => by
      obtain ⟨c, ec, e'⟩ := (qE z a).same k
      obtain rfl := Option.some.inj ec
      exact ⟨_, e, by show 1 ≤ 1000; decide, mk_raise TR.ox TR.nV fun d' H4 k4 nd' hd' => e' d' H4 k4 nd' hd'⟩
    refine ⟨_, rfl, rfl, _, _, rfl, rfl, by show ((Str.ofString "..").length == 0) = false; rw [len_dd]; rfl, by rw [sizeLine_eq]; omega, fun p np => ?_⟩
    obtain ⟨x, ds, y, ep, lx, ly, ld, rel⟩ := part_dots a
    rw [ep]
    dsimp only
    have s1 := Same.new (o := HO.tup [V.str x, .str ds, .str y]) np
    have o1 : upd H p (.tup [V.str x, .str ds, .str y]) p = some (.tup [V.str x, .str ds, .str y]) := upd_same
    generalize upd H p (HO.tup [V.str x, .str ds, .str y]) = H1 at s1 o1 ⊢
    refine ⟨p, _, rfl, .inl (.inl o1), rfl, _, _, rfl, _, _, rfl, _, _, rfl, rfl, ?_⟩
    have n1 : readB (TL.tl x) = none → readP (TL.tl a) = none := fun z => by
      rcases rel with ⟨_, r⟩ | ⟨_, r⟩
      · exact r
      · rw [r, z]
    have n2 : readB (TL.tl y) = none → readP (TL.tl a) = none := fun z => by
      rcases rel with ⟨_, r⟩ | ⟨_, r⟩
      · exact r
      · rw [r, z]
        cases readB (TL.tl x) <;> rfl
    refine ⟨_, rfl, x, rfl, by omega, fun o e H2 k2 => ⟨_, rfl, y, rfl, by omega, fun o2 e2 H3 k3 => ?_, fun z w => (qE (n2 z) w).same (s1.trans k2)⟩, fun z w => (qE (n1 z) w).same s1⟩
    have k13 := (s1.trans k2).trans k3
    refine ⟨by show 2 ≤ sizeLine; decide, fun T nT => ?_⟩
    have sT := Same.new (o := .tup [ov o, ov o2]) nT
    have oT : upd H3 T (.tup [ov o, ov o2]) T = some (.tup [ov o, ov o2]) := upd_same
    generalize upd H3 T (HO.tup ([ov o, ov o2] : List V)) = H4 at sT oT
    have k4 := k13.trans sT
    have rv : RgV K H4 (.ref T) (some (o, o2)) := ⟨T, rfl, .inl (.inl oT)⟩
    refine ⟨_, rfl, _, ⟨by rw [sizeLine_eq]; omega, rfl⟩, ?_⟩
    rcases rel with ⟨l0, r⟩ | ⟨l0, r⟩
    · have e0 : ((ds.length : Int) != 0) = false := by rw [l0]; rfl
      rw [e0]
      exact iteT (iteT (bad _ _ k4 r rfl))
    · have e0 : ((ds.length : Int) != 0) = true := by
        rw [bne_iff_ne]
        omega
      rw [e0, e, e2] at *
      dsimp only at r
      refine iteF ⟨_, rfl, _, _, rfl, rv, _, rfl, ?_⟩
      cases u : up (some (o, o2)) with
      | true =>
        rw [u, if_pos rfl] at r
        exact iteT (bad _ _ k4 r rfl)
      | false =>
        rw [u, if_neg Bool.false_ne_true] at r
        exact iteF ⟨_, rfl, q _ r _ _ k4 rv⟩
end

end Pk43
namespace Pk43
open PySem PySem.Spec PyProof.Rows L2 Gd
section
variable {P : Program} {w : World} {K : PySem.W.Frag} {mg : Str → Option Value} {base : Heap}
set_option maxHeartbeats 8000000 in
-- _name_of: level 3; builtins []; cells []; slots: 0 text
theorem ok__name_of {c0 c1 c2 c3 fI : Addr} (X : ErrT K mg [c0, c1, c2, c3] ["RangeError", "InvalidRange", "InvalidSystem", "Unreadable"] fI) (h : At K mg "_name_of" s__name_of ["text"]) (D_RangeError___init__ : DnI P w K mg base 1 fI "RangeError.__init__" s_RangeError___init__ ["self", "value"] (spIni K)) (kI_value : ∀ fd, Fun K "__init__" "RangeError.__init__" s_RangeError___init__ fI fd → ∀ (s : Shared) (a u : Value), BindsTo s fd ⟨[a], [("value", u)]⟩ ((["self", "value"] : List Str).zip [a, u])) (D_is_name : Dn P w K mg base 1 "is_name" s_is_name ["text"] (sp_is_name K)) : DnN P w K mg base 3 "_name_of" s__name_of ["text"] (sp__name_of K [c0, c1, c2, c3]) := by
  refine .mk' h fun f fd F => okN F sc__name_of (fun vs H Q E h => ?_) (fun cdv A outer s H vs Q E hr h => ?_)
  · obtain ⟨a, rfl, la, q, qE⟩ := h
    rfl
  · obtain ⟨a, rfl, la, q, qE⟩ := h
    refine ⟨_, (pss_cons (ps_if (pt_not (pt_val (pe_c D_is_name hr (by rfl) (pa_cons (pv 0) pa_nil))))
        (pss_one (ps_raiseN rfl (X.t 3 _ _ rfl rfl) D_RangeError___init__ hr (L2N.takes_of rfl rfl rfl rfl) (by rfl) (pa_cons (pv 0) pa_nil)))
        pss_nil)
      (pss_one (ps_ret (pv 0)))), ?_⟩
    have TR := X.t 3 _ _ rfl rfl
    have raise1 : ∀ (j : Nat) (z : Str) (σ : L2.St) (G : Hp), Same H G → (∀ z : Str, BadX [c0, c1, c2, c3] 3 H (.str z) E) → σ[j]? = some (some (.str z)) → tMkO c3 (spIni K) [] (tCons (tVar j) tNil) σ G fun cls d H' => E cls d H' := fun j z σ G k b e => by
      obtain ⟨c, ec, e'⟩ := (b z).same k
      obtain rfl := Option.some.inj ec
      exact ⟨_, e, by show 1 ≤ 1000; decide, mk_raise TR.ox TR.nV fun d' H4 k4 nd' hd' => e' d' H4 k4 nd' hd'⟩

    refine ⟨_, rfl, a, rfl, la, fun H1 k1 => ⟨_, rfl, ?_⟩⟩
    rw [nameL_ok]
    cases h45 : nameL (TL.tl a) with
    | true => exact iteF ⟨_, rfl, q h45 _ k1⟩
    | false => exact iteT (raise1 0 a _ _ k1 (qE h45) rfl)
end

end Pk43
namespace Pk43
open PySem PySem.Spec PyProof.Rows L2 Gd
section
variable {P : Program} {w : World} {K : PySem.W.Frag} {mg : Str → Option Value} {base : Heap}
set_option maxHeartbeats 8000000 in
-- _signed: level 4; builtins []; cells []; slots: 0 sign, 1 digits
theorem ok__signed {c0 c1 c2 c3 fI : Addr} (X : ErrT K mg [c0, c1, c2, c3] ["RangeError", "InvalidRange", "InvalidSystem", "Unreadable"] fI) (h : At K mg "_signed" s__signed ["sign", "digits"]) (D_RangeError___init__ : DnI P w K mg base 1 fI "RangeError.__init__" s_RangeError___init__ ["self", "value"] (spIni K)) (kI_value : ∀ fd, Fun K "__init__" "RangeError.__init__" s_RangeError___init__ fI fd → ∀ (s : Shared) (a u : Value), BindsTo s fd ⟨[a], [("value", u)]⟩ ((["self", "value"] : List Str).zip [a, u])) (D__integer_of : DnN P w K mg base 3 "_integer_of" s__integer_of ["text"] (sp__integer_of K [c0, c1, c2, c3])) : DnN P w K mg base 4 "_signed" s__signed ["sign", "digits"] (sp__signed K [c0, c1, c2, c3]) := by
  refine .mk' h fun f fd F => okN F sc__signed (fun vs H Q E h => ?_) (fun cdv A outer s H vs Q E hr h => ?_)
  · obtain ⟨s, a, rfl, la, q, qE⟩ := h
    rfl
  · obtain ⟨s, a, rfl, la, q, qE⟩ := h
    refine ⟨_, (pss_cons (ps_if (pt_cmpR op_eq (pv 0) pe_str (nomark _))
        (pss_one (ps_ret (pe_cN (L2N.takes_of rfl rfl rfl rfl) D__integer_of hr (by rfl) (pa_cons (pe_op op_add_str pe_str (pv 1)) pa_nil))))
        pss_nil)
      (pss_cons (ps_if (PW.pt (pw_or (pt_cmpR op_ne (pv 0) pe_str (nomark _)) (pw_or1 (pt_val (pe_bm PySem.F.plainAttrs_str PySem.F.slot_str_startswith PySem.F.type_str_startswith mt_startswith (pv 1) (pa_cons pe_str pa_nil))))))
        (pss_one (ps_raiseN rfl (X.t 3 _ _ rfl rfl) D_RangeError___init__ hr (L2N.takes_of rfl rfl rfl rfl) (by rfl) (pa_cons (pv 0) pa_nil)))
        pss_nil)
      (pss_one (ps_ret (pe_cN (L2N.takes_of rfl rfl rfl rfl) D__integer_of hr (by rfl) (pa_cons (pv 1) pa_nil)))))), ?_⟩
    have TR := X.t 3 _ _ rfl rfl
    have raise1 : ∀ (j : Nat) (z : Str) (σ : L2.St) (G : Hp), Same H G → (∀ z : Str, BadX [c0, c1, c2, c3] 3 H (.str z) E) → σ[j]? = some (some (.str z)) → tMkO c3 (spIni K) [] (tCons (tVar j) tNil) σ G fun cls d H' => E cls d H' := fun j z σ G k b e => by
      obtain ⟨c, ec, e'⟩ := (b z).same k
      obtain rfl := Option.some.inj ec
      exact ⟨_, e, by show 1 ≤ 1000; decide, mk_raise TR.ox TR.nV fun d' H4 k4 nd' hd' => e' d' H4 k4 nd' hd'⟩

    have sg : readSg (TL.tl s) (TL.tl a) = (if TL.tl s = [45] then readI (45 :: TL.tl a) else if TL.tl s = [43] ∧ isneg (TL.tl a) = false then readI (TL.tl a) else none) := rfl
    refine ⟨_, rfl, rfl, decide (V.str s = V.str (Str.ofString "-")), rfl, ?_⟩
    rw [str_dec, show TL.tl (Str.ofString "-") = [45] from tl_minus]
    by_cases c : TL.tl s = [45]
    · rw [decide_eq_true c]
      rw [if_pos c] at sg
      have e1 : TL.tl (Str.ofString "-" ++ a) = 45 :: TL.tl a := by
        rw [TL.tl_append, show TL.tl (Str.ofString "-") = [45] from tl_minus]
        rfl
      refine iteT ⟨_, rfl, _, _, rfl, rfl, by rw [show (Str.ofString "-").length = 1 from len_m, sizeLine_eq]; omega, _, rfl, by rw [len_app, show (Str.ofString "-").length = 1 from len_m]; omega, fun n e H' k => q n ?_ H' k, fun e => qE ?_⟩
      · rw [sg, ← e1]
        exact e
      · rw [sg, ← e1]
        exact e
    · rw [decide_eq_false c]
      rw [if_neg c] at sg
      refine iteF ⟨_, rfl, rfl, !decide (V.str s = V.str (Str.ofString "+")), rfl, ?_⟩
      rw [str_dec, tl_plus]
      by_cases c2 : TL.tl s = [43]
      · rw [decide_eq_true c2]
        refine iteF ⟨_, rfl, rfl, _, _, rfl, rfl, _, rfl, ?_⟩
        rw [starts_m]
        cases n45 : isneg (TL.tl a) with
        | true =>
          refine iteT (raise1 0 s _ _ (Same.refl _) (qE ?_) rfl)
          rw [sg, n45, if_neg (by intro z; cases z.2)]
        | false =>
          refine iteF ⟨_, rfl, a, rfl, by omega, fun n e H' k => q n ?_ H' k, fun e => qE ?_⟩
          · rw [sg, if_pos ⟨c2, n45⟩]
            exact e
          · rw [sg, if_pos ⟨c2, n45⟩]
            exact e
      · rw [decide_eq_false c2]
        refine iteT (raise1 0 s _ _ (Same.refl _) (qE ?_) rfl)
        rw [sg, if_neg fun z => c2 z.1]
end

end Pk43
namespace Pk43
open PySem PySem.Spec PyProof.Rows L2 Gd
section
variable {P : Program} {w : World} {K : PySem.W.Frag} {mg : Str → Option Value} {base : Heap}
set_option maxHeartbeats 8000000 in
-- _step_of: level 5; builtins []; cells []; slots: 0 x, 1 y, 2 factor, 3 sign, 4 add
theorem ok__step_of {c0 c1 c2 c3 fI : Addr} (X : ErrT K mg [c0, c1, c2, c3] ["RangeError", "InvalidRange", "InvalidSystem", "Unreadable"] fI) (h : At K mg "_step_of" s__step_of ["x", "y", "factor", "sign", "add"]) (D_RangeError___init__ : DnI P w K mg base 1 fI "RangeError.__init__" s_RangeError___init__ ["self", "value"] (spIni K)) (kI_value : ∀ fd, Fun K "__init__" "RangeError.__init__" s_RangeError___init__ fI fd → ∀ (s : Shared) (a u : Value), BindsTo s fd ⟨[a], [("value", u)]⟩ ((["self", "value"] : List Str).zip [a, u])) (D__integer_of : DnN P w K mg base 3 "_integer_of" s__integer_of ["text"] (sp__integer_of K [c0, c1, c2, c3])) (D__name_of : DnN P w K mg base 3 "_name_of" s__name_of ["text"] (sp__name_of K [c0, c1, c2, c3])) (D__signed : DnN P w K mg base 4 "_signed" s__signed ["sign", "digits"] (sp__signed K [c0, c1, c2, c3])) : DnN P w K mg base 5 "_step_of" s__step_of ["x", "y", "factor", "sign", "add"] (sp__step_of K [c0, c1, c2, c3]) := by
  refine .mk' h fun f fd F => okN F sc__step_of (fun vs H Q E h => ?_) (fun cdv A outer s H vs Q E hr h => ?_)
  · obtain ⟨x, y, f, s, a, rfl, lx, ly, lf, la, q, qE⟩ := h
    rfl
  · obtain ⟨x, y, f, s, a, rfl, lx, ly, lf, la, q, qE⟩ := h
    refine ⟨_, (pss_cons (ps_if (pt_cmpR op_eq (pv 2) pe_str (nomark _))
        (pss_one (ps_raiseN rfl (X.t 3 _ _ rfl rfl) D_RangeError___init__ hr (L2N.takes_of rfl rfl rfl rfl) (by rfl) (pa_cons (pv 2) pa_nil)))
        pss_nil)
      (pss_one (ps_ret (pe_tup (pa_cons pe_str (pa_cons (pe_cN (L2N.takes_of rfl rfl rfl rfl) D__name_of hr (by rfl) (pa_cons (pv 0) pa_nil)) (pa_cons (pe_cN (L2N.takes_of rfl rfl rfl rfl) D__name_of hr (by rfl) (pa_cons (pv 1) pa_nil)) (pa_cons (pe_cN (L2N.takes_of rfl rfl rfl rfl) D__integer_of hr (by rfl) (pa_cons (pv 2) pa_nil)) (pa_cons (pe_cN (L2N.takes_of rfl rfl rfl rfl) D__signed hr (by rfl) (pa_cons (pv 3) (pa_cons (pv 4) pa_nil))) pa_nil))))))))), ?_⟩
    have TR := X.t 3 _ _ rfl rfl
    have raise1 : ∀ (j : Nat) (z : Str) (σ : L2.St) (G : Hp), Same H G → (∀ z : Str, BadX [c0, c1, c2, c3] 3 H (.str z) E) → σ[j]? = some (some (.str z)) → tMkO c3 (spIni K) [] (tCons (tVar j) tNil) σ G fun cls d H' => E cls d H' := fun j z σ G k b e => by
      obtain ⟨c, ec, e'⟩ := (b z).same k
      obtain rfl := Option.some.inj ec
      exact ⟨_, e, by show 1 ≤ 1000; decide, mk_raise TR.ox TR.nV fun d' H4 k4 nd' hd' => e' d' H4 k4 nd' hd'⟩

    have hd : stepHd (TL.tl x) (TL.tl y) (TL.tl f) (TL.tl s) (TL.tl a) = if TL.tl f = [48] then none else if nameL (TL.tl x) = true ∧ nameL (TL.tl y) = true then (match readI (TL.tl f), readSg (TL.tl s) (TL.tl a) with
      | some f, some a => some (f, a)
      | _, _ => none) else none := rfl
    refine ⟨_, rfl, rfl, decide (V.str f = V.str (Str.ofString "0")), rfl, ?_⟩
    rw [str_dec, show TL.tl (Str.ofString "0") = [48] from tl_zero]
    by_cases c : TL.tl f = [48]
    · rw [decide_eq_true c]
      exact iteT (raise1 2 f _ _ (Same.refl _) (qE (by rw [hd, if_pos c])) rfl)
    rw [decide_eq_false c]
    rw [if_neg c] at hd
    refine iteF ⟨_, rfl, x, rfl, by omega, fun nx H1 k1 => ⟨_, rfl, y, rfl, by omega, fun ny H2 k2 => ⟨_, rfl, f, rfl, by omega, fun n en H3 k3 => ⟨_, rfl, _, rfl, s, a, rfl, la, fun m em H4 k4 => ⟨by show 5 ≤ sizeLine; decide, fun p np => ?_⟩, fun e z => ?_⟩, fun e z => ?_⟩, fun e z => ?_⟩, fun e z => ?_⟩
    · have k14 := ((k1.trans k2).trans k3).trans k4
      refine q n m ?_ p _ (k14.trans (Same.new np)) (.inl (.inl upd_same))
      rw [hd, if_pos ⟨nx, ny⟩, en, em]
    · refine (qE ?_ z).same ((k1.trans k2).trans k3)
      rw [hd, if_pos ⟨nx, ny⟩, en, e]
    · refine (qE ?_ z).same (k1.trans k2)
      rw [hd, if_pos ⟨nx, ny⟩, e]
    · refine (qE ?_ z).same k1
      rw [hd, if_neg (by rw [e]; exact fun z => Bool.false_ne_true z.2)]
    · refine qE ?_ z
      rw [hd, if_neg (by rw [e]; exact fun z => Bool.false_ne_true z.1)]
end

end Pk43
namespace Pk43
open PySem PySem.Spec PyProof.Rows L2 Gd
section
variable {P : Program} {w : World} {K : PySem.W.Frag} {mg : Str → Option Value} {base : Heap}
set_option maxHeartbeats 8000000 in
-- _condition_of: level 6; builtins []; cells []; slots: 0 text, 1 name, 2 one
theorem ok__condition_of {c0 c1 c2 c3 fI : Addr} (X : ErrT K mg [c0, c1, c2, c3] ["RangeError", "InvalidRange", "InvalidSystem", "Unreadable"] fI) (h : At K mg "_condition_of" s__condition_of ["text"]) (D_RangeError___init__ : DnI P w K mg base 1 fI "RangeError.__init__" s_RangeError___init__ ["self", "value"] (spIni K)) (kI_value : ∀ fd, Fun K "__init__" "RangeError.__init__" s_RangeError___init__ fI fd → ∀ (s : Shared) (a u : Value), BindsTo s fd ⟨[a], [("value", u)]⟩ ((["self", "value"] : List Str).zip [a, u])) (D__bounds_of : DnN P w K mg base 5 "_bounds_of" s__bounds_of ["text"] (sp__bounds_of K [c0, c1, c2, c3])) (D__name_of : DnN P w K mg base 3 "_name_of" s__name_of ["text"] (sp__name_of K [c0, c1, c2, c3])) : DnN P w K mg base 6 "_condition_of" s__condition_of ["text"] (sp__condition_of K [c0, c1, c2, c3]) := by
  refine .mk' h fun f fd F => okN F sc__condition_of (fun vs H Q E h => ?_) (fun cdv A outer s H vs Q E hr h => ?_)
  · obtain ⟨a, rfl, la, q, qE⟩ := h
    rfl
  · obtain ⟨a, rfl, la, q, qE⟩ := h
    refine ⟨_, (pss_cons (ps_match (pe_bm PySem.F.plainAttrs_str PySem.F.slot_str_split PySem.F.type_str_split mt_split (pv 0) (pa_cons pe_str pa_nil)) (pcs_seq rfl sc__condition_of.nd (.cap (i := 1) (.val (.cap (i := 2) .nil))) (slots_cons rfl (.inl rfl) (slots_cons rfl (.inl rfl) slots_nil)) 
        (pss_one (ps_ret (pe_tup (pa_cons (pe_cN (L2N.takes_of rfl rfl rfl rfl) D__name_of hr (by rfl) (pa_cons (pv 1) pa_nil)) (pa_cons (pe_cN (L2N.takes_of rfl rfl rfl rfl) D__bounds_of hr (by rfl) (pa_cons (pv 2) pa_nil)) pa_nil)))))
        pcs_nil))
      (pss_one (ps_raiseN rfl (X.t 3 _ _ rfl rfl) D_RangeError___init__ hr (L2N.takes_of rfl rfl rfl rfl) (by rfl) (pa_cons (pv 0) pa_nil)))), ?_⟩
    have TR := X.t 3 _ _ rfl rfl
    have raise1 : ∀ (j : Nat) (z : Str) (σ : L2.St) (G : Hp), Same H G → (∀ z : Str, BadX [c0, c1, c2, c3] 3 H (.str z) E) → σ[j]? = some (some (.str z)) → tMkO c3 (spIni K) [] (tCons (tVar j) tNil) σ G fun cls d H' => E cls d H' := fun j z σ G k b e => by
      obtain ⟨c, ec, e'⟩ := (b z).same k
      obtain rfl := Option.some.inj ec
      exact ⟨_, e, by show 1 ≤ 1000; decide, mk_raise TR.ox TR.nV fun d' H4 k4 nd' hd' => e' d' H4 k4 nd' hd'⟩
    obtain ⟨sp1, sp2, sp3⟩ := split_sp a
    refine ⟨_, rfl, rfl, _, _, rfl, rfl, by show ((Str.ofString " ").length == 0) = false; rw [ln1]; rfl, by rw [sizeLine_eq]; omega, fun P nP => ?_⟩
    have rd : readC (TL.tl a) = (match wordsT (TL.tl a) with
      | [n, i, r] => if i = [105, 110] ∧ nameL n = true then (readP r).map fun p => (toS n, some p) else none
      | _ => none) := rfl
    rw [← sp1] at rd
    generalize Txt.split a (Str.ofString " ") = ps at rd sp2 sp3 ⊢
    have sP := Same.new (o := HO.lst (ps.map V.str)) nP
    have oP : upd H P (.lst (ps.map V.str)) P = some (.lst (ps.map V.str)) := upd_same
    generalize upd H P (HO.lst (ps.map V.str)) = H1 at sP oP ⊢
    refine ⟨P, ps, rfl, oP, by omega, ?_⟩
    by_cases c3 : ps.length = 3
    · obtain ⟨n, i, o, rfl⟩ : ∃ n i o, ps = [n, i, o] := by
        match ps, c3 with
        | [n, i, o], _ => exact ⟨n, i, o, rfl⟩
      have ln : n.length ≤ 90000 := Nat.le_trans (len_in (ws := [n, i, o]) (by simp)) (by omega)
      have lo : o.length ≤ 90000 := Nat.le_trans (len_in (ws := [n, i, o]) (by simp)) (by omega)
      have rd' : readC (TL.tl a) = if TL.tl i = [105, 110] ∧ nameL (TL.tl n) = true then (readP (TL.tl o)).map fun p => (toS (TL.tl n), some p) else none := rd
      rw [toS_tl] at rd'
      by_cases ci : i = Str.ofString "in"
      · have ci' : TL.tl i = [105, 110] := by rw [ci, tl_in]
        show if (true && (decide (i = Str.ofString "in") && true)) = true then _ else _
        rw [if_pos (by rw [decide_eq_true ci]; rfl)]
        refine ⟨_, rfl, n, rfl, by omega, fun nn H2 k2 => ⟨_, rfl, o, rfl, by omega, fun p ep v H3 k3 rv => ⟨by show 2 ≤ sizeLine; decide, fun w nw => ?_⟩, fun e z => (qE ?_ z).same (sP.trans k2)⟩, fun e z => (qE ?_ z).same sP⟩
        · have k := (sP.trans k2).trans k3
          have sw := Same.new (o := HO.tup [V.str n, v]) nw
          exact q (n, some p) (by rw [rd', if_pos ⟨ci', nn⟩, ep]; rfl) _ _ (k.trans sw) (.tup (.inl (.inl upd_same)) (.cons (.str _) (.cons (dp_rg (rv.same sw)) .nil)))
        · rw [rd', if_pos ⟨ci', nn⟩, e]
          rfl
        · rw [rd', if_neg (by rw [e]; exact fun z => Bool.false_ne_true z.2)]
      · have ci' : ¬ TL.tl i = [105, 110] := fun z => ci (TL.ext_tl (z.trans tl_in.symm))
        show if (true && (decide (i = Str.ofString "in") && true)) = true then _ else _
        rw [if_neg (by rw [decide_eq_false ci]; exact Bool.false_ne_true)]
        exact raise1 0 a _ _ sP (qE (by rw [rd', if_neg fun z => ci' z.1])) rfl
    · have no : readC (TL.tl a) = none := by
        rw [rd]
        match ps, c3 with
        | [], _ => rfl
        | [_], _ => rfl
        | [_, _], _ => rfl
        | [_, _, _], c3 => exact absurd rfl c3
        | _ :: _ :: _ :: _ :: _, _ => rfl
      show if (decide (ps.length = 3) && _) = true then _ else _
      rw [if_neg (by rw [decide_eq_false c3]; exact Bool.false_ne_true)]
      exact raise1 0 a _ _ sP (qE no) rfl
end

end Pk43
namespace Pk43
open PySem PySem.Spec PyProof.Rows L2 Gd
section
variable {P : Program} {w : World} {K : PySem.W.Frag} {mg : Str → Option Value} {base : Heap}
set_option maxHeartbeats 8000000 in
-- _conditions_of: level 7; builtins ['tuple']; cells []; slots: 0 words, 1 text
theorem ok__conditions_of {c0 c1 c2 c3 fI : Addr} (X : ErrT K mg [c0, c1, c2, c3] ["RangeError", "InvalidRange", "InvalidSystem", "Unreadable"] fI) (h : At K mg "_conditions_of" s__conditions_of ["words"]) (D_RangeError___init__ : DnI P w K mg base 1 fI "RangeError.__init__" s_RangeError___init__ ["self", "value"] (spIni K)) (kI_value : ∀ fd, Fun K "__init__" "RangeError.__init__" s_RangeError___init__ fI fd → ∀ (s : Shared) (a u : Value), BindsTo s fd ⟨[a], [("value", u)]⟩ ((["self", "value"] : List Str).zip [a, u])) (D__condition_of : DnN P w K mg base 6 "_condition_of" s__condition_of ["text"] (sp__condition_of K [c0, c1, c2, c3])) (m_tuple : mg "tuple" = none) : DnN P w K mg base 7 "_conditions_of" s__conditions_of ["words"] (sp__conditions_of K [c0, c1, c2, c3]) := by
  refine .mk' h fun f fd F => okN F sc__conditions_of (fun vs H Q E h => ?_) (fun cdv A outer s H vs Q E hr h => ?_)
  · obtain ⟨p, ws, rfl, hw, lw, q, qE⟩ := h
    rfl
  · obtain ⟨p, ws, rfl, hw, lw, q, qE⟩ := h
    refine ⟨_, (pss_cons (ps_if (pt_not (pt_truth (pv 0) (fun _ => rfl)))
        (pss_one (ps_ret (pe_tup pa_nil)))
        pss_nil)
      (pss_cons (ps_if (pt_cmpR op_ne (pe_ix ix_list (pv 0) pe_int (fun _ _ => rfl)) pe_str (nomark _))
        (pss_one (ps_raiseN rfl (X.t 3 _ _ rfl rfl) D_RangeError___init__ hr (L2N.takes_of rfl rfl rfl rfl) (by rfl) (pa_cons (pe_ix ix_list (pv 0) pe_int (fun _ _ => rfl)) pa_nil)))
        pss_nil)
      (pss_one (ps_ret (pe_callTy call_tuple_of (by rfl) m_tuple (by decide +kernel) (pa_cons (pe_lcX (own := [("text", 1)]) (g := gName 1) rfl rfl (L2N.takes_of rfl rfl rfl rfl) rfl sc__conditions_of.nd (pi_list (pe_bm PySem.F.plainAttrs_str PySem.F.slot_str_split PySem.F.type_str_split mt_split (pe_bm PySem.F.plainAttrs_str PySem.F.slot_str_join PySem.F.type_str_join mt_join pe_str (pa_cons (pe_slice sl_list (pv 0) (po_some pe_int) po_none) pa_nil)) (pa_cons pe_str pa_nil))) (blkOk_by (N := ["words", "text"]) (sc := defScope s__conditions_of) (by decide +kernel)) (fun _ _ _ _ _ => pg_name (i := 1) sc__conditions_of.nd rfl (Or.inl rfl)) (fun _ _ _ _ _ => pts_nil) (fun _ _ _ _ _ _ hp => (pe_cB hp D__condition_of hr (by rfl) (pa_cons (pv 1) pa_nil)))) pa_nil)))))), ?_⟩
    have TR := X.t 3 _ _ rfl rfl
    have line : (sizeLine : Nat) = 16777216 := sizeLine_eq
    refine ⟨_, rfl, !(ws.map V.str).isEmpty, .inl ⟨_, .inl (.inl hw), rfl⟩, ?_⟩
    cases ws with
    | nil =>
      refine iteT ⟨by show 0 ≤ sizeLine; decide, fun p np => ?_⟩
      exact q [] rfl _ _ (Same.new np) (.tup (.inl (.inl upd_same)) .nil)
    | cons w r =>
      have a0 : atI ((w :: r).map V.str) 0 = some (.str w) := atI_nat (j := 0) rfl
      refine iteF ⟨_, rfl, p, _, 0, .str w, rfl, rfl, .inl (.inl hw), a0, rfl, !decide (V.str w = V.str (Str.ofString "when")), rfl, ?_⟩
      have rd : readWh ((w :: r).map TL.tl) = if TL.tl w = [119, 104, 101, 110] then readCs (TL.joinL [32] (r.map TL.tl)) else none := rfl
      rw [str_dec, tl_when]
      by_cases c : TL.tl w = [119, 104, 101, 110]
      case neg =>
        rw [decide_eq_false c]
        refine iteT ⟨_, rfl, p, _, 0, .str w, rfl, rfl, .inl (.inl hw), a0, by show 1 ≤ 1000; decide, ?_⟩
        obtain ⟨cc, ec, e'⟩ := qE (by rw [rd, if_neg c]) w
        obtain rfl := Option.some.inj ec
        exact mk_raise TR.ox TR.nV fun d' H4 k4 nd' hd' => e' d' H4 k4 nd' hd'
      rw [decide_eq_true c]
      rw [if_pos c] at rd
      rw [List.map_cons, List.sum_cons, List.length_cons] at lw
      refine iteF ⟨rfl, _, rfl, _, rfl, slLn (.inl (.inl hw)) fun p1 H1 k1 n1 o1 => ?_⟩
      rw [show cutV ((w :: r).map V.str) (some 1) none = r.map V.str from cutV_drop _ 1] at o1
      have jl := join_len (y := Str.ofString " ") r
      rw [ln1] at jl
      have tj : TL.tl (Txt.join (Str.ofString " ") r) = TL.joinL [32] (r.map TL.tl) := by
        rw [TL.join_eq, TL.tl_join, tl_space]
      refine ⟨_, p1, r, rfl, rfl, .inl (.inl (.inl o1)), by rw [ln1]; omega, ?_⟩
      rw [← tj] at rd
      have lj : (Txt.join (Str.ofString " ") r).length ≤ 80000 := by omega
      generalize Txt.join (Str.ofString " ") r = b at rd lj ⊢
      obtain ⟨sp1, sp2, sp3⟩ := split_cm b
      have rc : readCs (TL.tl b) = allS ((TL.spl [44, 32] 0 [] (TL.tl b)).map readC) := rfl
      rw [rc, ← sp1] at rd
      refine ⟨rfl, _, _, rfl, rfl, by show ((Str.ofString ", ").length == 0) = false; rw [ln2]; rfl, by omega, fun P nP => ?_⟩
      generalize Txt.split b (Str.ofString ", ") = ps at rd sp2 sp3 ⊢
      have sP := Same.new (o := HO.lst (ps.map V.str)) nP
      have oP : upd H1 P (.lst (ps.map V.str)) P = some (.lst (ps.map V.str)) := upd_same
      generalize upd H1 P (HO.lst (ps.map V.str)) = H2 at sP oP ⊢
      have k2 := k1.trans sP
      refine ⟨P, rfl, ⟨_, .inl (.inl oP)⟩, fun D nD => ?_⟩
      refine lc_rel (fun i G y => ∃ x c, ps[i]? = some x ∧ readC (TL.tl x) = some c ∧ Dp K G y (cdD c)) (.inl (.inl oP)) (by rw [List.length_map]; omega) nD ?_ (fun _ => rfl) ?_ ?_
      · rintro i G G' y acc k ol ⟨x, c, ex, ec, h⟩
        exact ⟨x, c, ex, ec, dp_kl ⟨⟨_, ol⟩, k⟩ h (noL_cd c)⟩
      · intro i z G R' ez sm k
        obtain ⟨x, ex, rfl⟩ := map_get ez
        have mx := List.mem_of_getElem? ex
        refine ⟨_, rfl, x, rfl, Nat.le_trans (len_in mx) (by omega), fun c ec v H4 k4 dv => k _ _ k4 ⟨x, c, ex, ec, dv⟩, fun e z => (qE ?_ z).same (k2.trans sm)⟩
        rw [rd]
        exact allS_none (by rw [← e]; exact List.mem_map_of_mem (List.mem_map_of_mem mx))
      · intro G ys sm oD ly ok
        rw [List.length_map] at ly
        obtain ⟨cs, e, da⟩ := dpa_read ps ys ly ok
        refine ⟨_, ys, rfl, .inl ⟨.inl (.inl oD), fun l nl => ?_⟩⟩
        exact q cs (by rw [rd, e]) _ _ ((k2.trans sm).trans (Same.new nl)) (.tup (.inl (.inl upd_same)) (dpa_same (Same.new nl) da))
end

end Pk43
namespace Pk43
open PySem PySem.Spec PyProof.Rows L2 Gd
section
variable {P : Program} {w : World} {K : PySem.W.Frag} {mg : Str → Option Value} {base : Heap}
set_option maxHeartbeats 8000000 in
-- _rule_of: level 8; builtins []; cells []; slots: 0 text, 1 x, 2 within, 3 rest, 4 factor, 5 y, 6 sign, 7 add
theorem ok__rule_of {c0 c1 c2 c3 fI : Addr} (X : ErrT K mg [c0, c1, c2, c3] ["RangeError", "InvalidRange", "InvalidSystem", "Unreadable"] fI) (h : At K mg "_rule_of" s__rule_of ["text"]) (D_RangeError___init__ : DnI P w K mg base 1 fI "RangeError.__init__" s_RangeError___init__ ["self", "value"] (spIni K)) (kI_value : ∀ fd, Fun K "__init__" "RangeError.__init__" s_RangeError___init__ fI fd → ∀ (s : Shared) (a u : Value), BindsTo s fd ⟨[a], [("value", u)]⟩ ((["self", "value"] : List Str).zip [a, u])) (D__bounds_of : DnN P w K mg base 5 "_bounds_of" s__bounds_of ["text"] (sp__bounds_of K [c0, c1, c2, c3])) (D__conditions_of : DnN P w K mg base 7 "_conditions_of" s__conditions_of ["words"] (sp__conditions_of K [c0, c1, c2, c3])) (D__name_of : DnN P w K mg base 3 "_name_of" s__name_of ["text"] (sp__name_of K [c0, c1, c2, c3])) (D__step_of : DnN P w K mg base 5 "_step_of" s__step_of ["x", "y", "factor", "sign", "add"] (sp__step_of K [c0, c1, c2, c3])) : DnN P w K mg base 8 "_rule_of" s__rule_of ["text"] (sp__rule_of K [c0, c1, c2, c3]) := by
  refine .mk' h fun f fd F => okN F sc__rule_of (fun vs H Q E h => ?_) (fun cdv A outer s H vs Q E hr h => ?_)
  · obtain ⟨a, rfl, la, q, qE⟩ := h
    rfl
  · obtain ⟨a, rfl, la, q, qE⟩ := h
    refine ⟨_, (pss_cons (ps_match (pe_bm PySem.F.plainAttrs_str PySem.F.slot_str_split PySem.F.type_str_split mt_split (pv 0) (pa_cons pe_str pa_nil)) (pcs_star rfl sc__rule_of.nd (.cap (i := 1) (.val (.cap (i := 2) (.star (j := 3))))) (slots_cons rfl (.inl rfl) (slots_cons rfl (.inl rfl) (slots_cons rfl (.inl rfl) slots_nil))) (.inl ⟨rfl, rfl⟩) 
        (pss_one (ps_ret (pe_tup (pa_cons pe_str (pa_cons (pe_cN (L2N.takes_of rfl rfl rfl rfl) D__name_of hr (by rfl) (pa_cons (pv 1) pa_nil)) (pa_cons (pe_cN (L2N.takes_of rfl rfl rfl rfl) D__bounds_of hr (by rfl) (pa_cons (pv 2) pa_nil)) (pa_cons (pe_cN (L2N.takes_of rfl rfl rfl rfl) D__conditions_of hr (by rfl) (pa_cons (pv 3) pa_nil)) pa_nil)))))))
        (pcs_star rfl sc__rule_of.nd (.cap (i := 1) (.val (.cap (i := 4) (.cap (i := 5) (.cap (i := 6) (.cap (i := 7) (.val (.cap (i := 2) (.star (j := 3)))))))))) (slots_cons rfl (.inl rfl) (slots_cons rfl (.inl rfl) (slots_cons rfl (.inl rfl) (slots_cons rfl (.inl rfl) (slots_cons rfl (.inl rfl) (slots_cons rfl (.inl rfl) (slots_cons rfl (.inl rfl) slots_nil))))))) (.inr ⟨_, rfl, (pt_cmpR op_ne (pv 2) pe_str (nomark _))⟩) 
        (pss_one (ps_ret (pe_op op_catA (pe_cN (L2N.takes_of rfl rfl rfl rfl) D__step_of hr (by rfl) (pa_cons (pv 1) (pa_cons (pv 5) (pa_cons (pv 4) (pa_cons (pv 6) (pa_cons (pv 7) pa_nil)))))) (pe_tup (pa_cons (pe_cN (L2N.takes_of rfl rfl rfl rfl) D__bounds_of hr (by rfl) (pa_cons (pv 2) pa_nil)) (pa_cons (pe_cN (L2N.takes_of rfl rfl rfl rfl) D__conditions_of hr (by rfl) (pa_cons (pv 3) pa_nil)) pa_nil))))))
        (pcs_star rfl sc__rule_of.nd (.cap (i := 1) (.val (.cap (i := 4) (.cap (i := 5) (.cap (i := 6) (.cap (i := 7) (.star (j := 3)))))))) (slots_cons rfl (.inl rfl) (slots_cons rfl (.inl rfl) (slots_cons rfl (.inl rfl) (slots_cons rfl (.inl rfl) (slots_cons rfl (.inl rfl) (slots_cons rfl (.inl rfl) slots_nil)))))) (.inl ⟨rfl, rfl⟩) 
        (pss_one (ps_ret (pe_op op_catA (pe_cN (L2N.takes_of rfl rfl rfl rfl) D__step_of hr (by rfl) (pa_cons (pv 1) (pa_cons (pv 5) (pa_cons (pv 4) (pa_cons (pv 6) (pa_cons (pv 7) pa_nil)))))) (pe_tup (pa_cons (pe_tup (pa_cons pe_non (pa_cons pe_non pa_nil))) (pa_cons (pe_cN (L2N.takes_of rfl rfl rfl rfl) D__conditions_of hr (by rfl) (pa_cons (pv 3) pa_nil)) pa_nil))))))
        pcs_nil))))
      (pss_one (ps_raiseN rfl (X.t 3 _ _ rfl rfl) D_RangeError___init__ hr (L2N.takes_of rfl rfl rfl rfl) (by rfl) (pa_cons (pv 0) pa_nil)))), ?_⟩
    have TR := X.t 3 _ _ rfl rfl
    have raise1 : ∀ (j : Nat) (z : Str) (σ : L2.St) (G : Hp), Same H G → (∀ z : Str, BadX [c0, c1, c2, c3] 3 H (.str z) E) → σ[j]? = some (some (.str z)) → tMkO c3 (spIni K) [] (tCons (tVar j) tNil) σ G fun cls d H' => E cls d H' := fun j z σ G k b e => by
      obtain ⟨c, ec, e'⟩ := (b z).same k
      obtain rfl := Option.some.inj ec
      exact ⟨_, e, by show 1 ≤ 1000; decide, mk_raise TR.ox TR.nV fun d' H4 k4 nd' hd' => e' d' H4 k4 nd' hd'⟩

    obtain ⟨sp1, sp2, sp3⟩ := split_sp a
    refine ⟨_, rfl, rfl, _, _, rfl, rfl, by show ((Str.ofString " ").length == 0) = false; rw [ln1]; rfl, by rw [sizeLine_eq]; omega, fun L nL => ?_⟩
    have rd : readRl (TL.tl a) = readW (wordsT (TL.tl a)) := rfl
    rw [← sp1] at rd
    generalize Txt.split a (Str.ofString " ") = ps at rd sp2 sp3 ⊢
    have sL := Same.new (o := HO.lst (ps.map V.str)) nL
    have oL : upd H L (.lst (ps.map V.str)) L = some (.lst (ps.map V.str)) := upd_same
    generalize upd H L (HO.lst (ps.map V.str)) = H1 at sL oL ⊢
    refine ⟨L, ps, rfl, oL, by omega, ?_⟩
    have wl : ∀ z ∈ ps, z.length ≤ 30000 := fun z mz => Nat.le_trans (len_in mz) (by omega)
    match ps, rd, sp2, sp3, wl with
    | [], rd, _, _, _ => exact raise1 0 a _ _ sL (qE rd) rfl
    | [_], rd, _, _, _ => exact raise1 0 a _ _ sL (qE rd) rfl
    | [_, _], rd, _, _, _ => exact raise1 0 a _ _ sL (qE rd) rfl
    | x :: i :: w :: rest, rd, sp2, sp3, wl =>
      have lx := wl x (by simp)
      have lw := wl w (by simp)
      simp only [List.map_cons, List.sum_cons, List.length_cons] at sp2 sp3
      have rd1 : readRl (TL.tl a) = if TL.tl i = [105, 115] then (if nameL (TL.tl x) = true then (match readP (TL.tl w), readWh (rest.map TL.tl) with
          | some p, some cs => some (.set (toS (TL.tl x)) (some p) cs)
          | _, _ => none) else none) else if TL.tl i = [102, 114, 111, 109] then readSw (TL.tl x) (TL.tl w) (rest.map TL.tl) else none := rd
      rw [toS_tl] at rd1
      show if (decide (3 ≤ rest.length + 1 + 1 + 1) && (decide (i = Str.ofString "is") && true)) = true then _ else _
      rw [decide_eq_true (by omega), Bool.true_and, Bool.and_true, dec_str, tl_is]
      by_cases ci : TL.tl i = [105, 115]
      · rw [if_pos (by rw [decide_eq_true ci])]
        rw [if_pos ci] at rd1
        intro P nP
        have sP := Same.new (o := HO.lst (((x :: i :: w :: rest).drop 3).map V.str)) nP
        have oP : upd H1 P (.lst (((x :: i :: w :: rest).drop 3).map V.str)) P = some (.lst (rest.map V.str)) := upd_same
        generalize upd H1 P (HO.lst (((x :: i :: w :: rest).drop 3).map V.str)) = H2 at sP oP
        have k2 := sL.trans sP
        refine ⟨_, rfl, x, rfl, by omega, fun nx H3 k3 => ⟨_, rfl, w, rfl, by omega, fun p ep v H4 k4 rv => ⟨_, rfl, P, rest, rfl, (k3.trans k4) _ _ oP, by omega, fun cs ec u H5 k5 dc => ⟨by show 4 ≤ sizeLine; decide, fun t nt => ?_⟩, fun e z => ?_⟩, fun e z => ?_⟩, fun e z => ?_⟩
        · have st := Same.new (o := HO.tup [V.str (Str.ofString "set"), .str x, v, u]) nt
          exact q (.set x (some p) cs) (by rw [rd1, if_pos nx, ep, ec]) _ _ ((((k2.trans k3).trans k4).trans k5).trans st) (.tup (.inl (.inl upd_same)) (.cons (.str _) (.cons (.str _) (.cons (dp_rg ((rv.same k5).same st)) (.cons (dp_same st dc) .nil)))))
        · exact (qE (by rw [rd1, if_pos nx, ep, e]) z).same ((k2.trans k3).trans k4)
        · exact (qE (by rw [rd1, if_pos nx, e]) z).same (k2.trans k3)
        · exact (qE (by rw [rd1, if_neg (by rw [e]; exact Bool.false_ne_true)]) z).same k2
      · rw [if_neg (by rw [decide_eq_false ci]; exact Bool.false_ne_true)]
        rw [if_neg ci] at rd1
        by_cases cf : TL.tl i = [102, 114, 111, 109]
        case neg =>
          rw [if_neg cf] at rd1
          have cf' : i ≠ Str.ofString "from" := fun z => cf (by rw [z, tl_from])
          refine caseS_no ?_ (caseS_no ?_ (raise1 0 a _ _ sL (qE rd1) rfl))
          · show (_ && (decide (i = Str.ofString "from") && _)) = false
            rw [decide_eq_false cf', Bool.false_and, Bool.and_false]
          · show (_ && (decide (i = Str.ofString "from") && _)) = false
            rw [decide_eq_false cf', Bool.false_and, Bool.and_false]
        rw [if_pos cf] at rd1
        have cf' : decide (i = Str.ofString "from") = true := decide_eq_true (TL.ext_tl (by rw [cf, tl_from]))
        match rest, rd1, sp2, sp3, wl with
        | [], rd1, _, _, _ => exact caseS_no rfl (caseS_no rfl (raise1 0 a _ _ sL (qE rd1) rfl))
        | [_], rd1, _, _, _ => exact caseS_no rfl (caseS_no rfl (raise1 0 a _ _ sL (qE rd1) rfl))
        | [_, _], rd1, _, _, _ => exact caseS_no rfl (caseS_no rfl (raise1 0 a _ _ sL (qE rd1) rfl))
        | y :: s :: d :: more, rd1, sp2, sp3, wl =>
          have ly := wl y (by simp)
          have ld := wl d (by simp)
          simp only [List.map_cons, List.sum_cons, List.length_cons] at sp2 sp3
          refine caseS_two (fun σ' G => (∃ o1 o2 o3 o4 o5 o6 o7, σ' = [some (V.str a), o1, o2, o3, o4, o5, o6, o7]) ∧ Same H1 G ∧ ∀ n w r, more.map TL.tl = n :: w :: r → ¬ (n = [105, 110] ∧ w ≠ [46, 46])) (fun no => ⟨⟨_, _, _, _, _, _, _, rfl⟩, Same.refl _, ?_⟩) ?_ ?_
          · intro n w2 r em ⟨e1, _⟩
            match more, em with
            | n' :: w' :: r', em =>
              rw [List.map_cons, List.map_cons] at em
              cases em
              have no : (decide (8 ≤ r'.length + 1 + 1 + 1 + 1 + 1 + 1 + 1 + 1) && (decide (i = Str.ofString "from") && (decide (n' = Str.ofString "in") && true))) = false := no
              rw [decide_eq_true (by omega), cf', decide_eq_true (TL.ext_tl (by rw [e1, tl_in]))] at no
              cases no
          · intro yes P nP R R1 R2
            match more, yes, rd1, sp2, sp3, wl with
            | [], yes, _, _, _, _ => cases yes
            | [_], yes, _, _, _, _ => cases yes
            | n :: w2 :: r, yes, rd1, sp2, sp3, wl =>
              have lw2 := wl w2 (by simp)
              simp only [List.map_cons, List.sum_cons, List.length_cons] at sp2 sp3
              have yes : (decide (8 ≤ r.length + 1 + 1 + 1 + 1 + 1 + 1 + 1 + 1) && (decide (i = Str.ofString "from") && (decide (n = Str.ofString "in") && true))) = true := yes
              have cn : TL.tl n = [105, 110] := by
                simp only [Bool.and_eq_true, decide_eq_true_eq] at yes
                rw [yes.2.2.1, tl_in]
              have sP := Same.new (o := HO.lst (r.map V.str)) nP
              have oP : upd H1 P (.lst (r.map V.str)) P = some (.lst (r.map V.str)) := upd_same
              refine ⟨_, rfl, rfl, !decide (V.str w2 = V.str (Str.ofString "..")), rfl, ?_⟩
              show R _ (upd H1 P (.lst (r.map V.str)))
              generalize upd H1 P (HO.lst (r.map V.str)) = H2 at sP oP ⊢
              rw [str_dec, show TL.tl (Str.ofString "..") = [46, 46] from tl_dots]
              by_cases cd : TL.tl w2 = [46, 46]
              · rw [decide_eq_true cd]
                refine R2 _ (sP _ _ oL) ⟨⟨_, _, _, _, _, _, _, rfl⟩, sP, ?_⟩
                intro n' w' r' em
                rw [List.map_cons, List.map_cons] at em
                cases em
                exact fun z => z.2 cd
              · rw [decide_eq_false cd]
                refine (R1 _).mpr ?_
                have k2 := sL.trans sP
                have rd2 := rd1.trans (readSw_in (x := TL.tl x) (f := TL.tl w) (y := TL.tl y) (s := TL.tl s) (a := TL.tl d) (r := r.map TL.tl) cn cd)
                refine ⟨_, rfl, _, rfl, _, rfl, _, rfl, _, rfl, x, y, w, s, d, rfl, by omega, by omega, by omega, by omega, fun m1 m2 em p1 H3 k3 sq => ?_, fun e z => (qE (by rw [rd2, readSt_no1 e]) z).same k2⟩
                refine ⟨_, rfl, w2, rfl, by omega, fun p ep v H4 k4 rv => ⟨_, rfl, P, r, rfl, (k3.trans k4) _ _ oP, by omega, fun cs ec u H5 k5 dc => ⟨by show 2 ≤ sizeLine; decide, fun t nt => ?_⟩, fun e z => ?_⟩, fun e z => ?_⟩
                · have st := Same.new (o := HO.tup [v, u]) nt
                  refine catA (xs := [V.str (Str.ofString "step"), .str x, .str y, .int m1, .int m2]) (SqT.same ((k4.trans k5).trans st) sq) (.inl (.inl upd_same)) (by show 5 + 2 ≤ 1000; decide) fun p2 H6 k6 s6 => ?_
                  have k15 := k5.trans (st.trans k6)
                  refine q (.stp x y m1 m2 (some p) cs) ?_ _ _ (((k2.trans k3).trans k4).trans k15) (.tup s6 (.cons (.str _) (.cons (.str _) (.cons (.str _) (.cons (.int _) (.cons (.int _) (.cons (dp_rg (rv.same k15)) (.cons (dp_same (st.trans k6) dc) .nil))))))))
                  rw [rd2, ep, ec]
                  have z := readSt_yes (r := some p) (cs := cs) em
                  rw [toS_tl, toS_tl] at z
                  exact z
                · exact (qE (by rw [rd2, e, readSt_no3]) z).same ((k2.trans k3).trans k4)
                · exact (qE (by rw [rd2, e]; exact readSt_no2) z).same (k2.trans k3)
          · rintro σ' G ⟨⟨o1, o2, o3, o4, o5, o6, o7, rfl⟩, kG, hno⟩
            have rd2 := rd1.trans (readSw_no (x := TL.tl x) (f := TL.tl w) (y := TL.tl y) (s := TL.tl s) (a := TL.tl d) hno)
            refine caseS_yes ?_ fun P nP => ?_
            · show (decide (6 ≤ more.length + 1 + 1 + 1 + 1 + 1 + 1) && (decide (i = Str.ofString "from") && true)) = true
              rw [decide_eq_true (by omega), cf']
              rfl
            have sP := Same.new (o := HO.lst (more.map V.str)) nP
            have oP : upd G P (.lst (more.map V.str)) P = some (.lst (more.map V.str)) := upd_same
            have k2 := (sL.trans kG).trans sP
            refine ⟨_, rfl, _, rfl, _, rfl, _, rfl, _, rfl, x, y, w, s, d, rfl, by omega, by omega, by omega, by omega, fun m1 m2 em p1 H3 k3 sq => ?_, fun e z => (qE (by rw [rd2, readSt_no1 e]) z).same k2⟩
            refine ⟨by show 2 ≤ sizeLine; decide, fun T nT => ?_⟩
            have sT := Same.new (o := HO.tup [V.non, .non]) nT
            have rv : RgV K (upd H3 T (HO.tup [V.non, .non])) (.ref T) (some (none, none)) := ⟨T, rfl, .inl (.inl upd_same)⟩
            refine ⟨_, rfl, P, more, rfl, (k3.trans sT) _ _ oP, by omega, fun cs ec u H5 k5 dc => ⟨by show 2 ≤ sizeLine; decide, fun t nt => ?_⟩, fun e z => ?_⟩
            · have st := Same.new (o := HO.tup [V.ref T, u]) nt
              refine catA (xs := [V.str (Str.ofString "step"), .str x, .str y, .int m1, .int m2]) (SqT.same ((sT.trans k5).trans st) sq) (.inl (.inl upd_same)) (by show 5 + 2 ≤ 1000; decide) fun p2 H6 k6 s6 => ?_
              have k15 := k5.trans (st.trans k6)
              refine q (.stp x y m1 m2 (some (none, none)) cs) ?_ _ _ (((k2.trans k3).trans sT).trans k15) (.tup s6 (.cons (.str _) (.cons (.str _) (.cons (.str _) (.cons (.int _) (.cons (.int _) (.cons (dp_rg (rv.same k15)) (.cons (dp_same (st.trans k6) dc) .nil))))))))
              rw [rd2, ec]
              have z := readSt_yes (r := some (none, none)) (cs := cs) em
              rw [toS_tl, toS_tl] at z
              exact z
            · exact (qE (by rw [rd2, e, readSt_no3]) z).same ((k2.trans k3).trans sT)
end

end Pk43
namespace Pk43
open PySem PySem.Spec PyProof.Rows L2 Gd
section
variable {P : Program} {w : World} {K : PySem.W.Frag} {mg : Str → Option Value} {base : Heap}
set_option maxHeartbeats 8000000 in
-- read_rule: level 9; builtins []; cells []; slots: 0 text
theorem ok_read_rule {c0 c1 c2 c3 fI : Addr} (X : ErrT K mg [c0, c1, c2, c3] ["RangeError", "InvalidRange", "InvalidSystem", "Unreadable"] fI) (h : At K mg "read_rule" s_read_rule ["text"]) (D_RangeError___init__ : DnI P w K mg base 1 fI "RangeError.__init__" s_RangeError___init__ ["self", "value"] (spIni K)) (kI_value : ∀ fd, Fun K "__init__" "RangeError.__init__" s_RangeError___init__ fI fd → ∀ (s : Shared) (a u : Value), BindsTo s fd ⟨[a], [("value", u)]⟩ ((["self", "value"] : List Str).zip [a, u])) (D__rule_of : DnN P w K mg base 8 "_rule_of" s__rule_of ["text"] (sp__rule_of K [c0, c1, c2, c3])) : DnX P w K mg base 9 "read_rule" s_read_rule ["text"] (sp_read_rule K [c0, c1, c2, c3]) := by
  refine .mk' h fun f fd F => F.okX sc_read_rule (fun vs H Q E h => ?_) (fun cdv A outer s H vs Q E hr h => ?_)
  · obtain ⟨a, rfl, la, q, qE⟩ := h
    rfl
  · obtain ⟨a, rfl, la, q, qE⟩ := h
    refine ⟨_, (pss_one (L2H.ps_try_onlyX rfl rfl ⟨rfl, by decide, .inl (X.t 3 _ _ rfl rfl).mg_⟩ (fun hd => L2H.passesAt_of rfl hd) (takes_of rfl rfl rfl rfl) (fun W pn xe tk tk2 own =>
        (pss_one (ps_ret (pe_cN tk D__rule_of hr (by rfl) (pa_cons (pv 0) pa_nil))))) (fun a oe cls d pn zn fl tkS hot =>
        (pss_one (L2H.ps_raiseHN hot tkS (pmk5_oexD (X.t 3 _ _ rfl rfl) (iniH D_RangeError___init__) (roomS hr) hot (by rfl) (pa_cons (pv 0) pa_nil))))))), ?_⟩
    have TR := X.t 3 _ _ rfl rfl
    have xm := exm_same (i := 3) X rfl (by decide)
    refine ⟨_, rfl, a, rfl, la, q, fun e z => ⟨c3, rfl, fun d H1 k1 nd ed => ⟨true, xm, fun _ a' na => ?_, fun z => nomatch z⟩⟩⟩
    obtain ⟨c', ec, e'⟩ := (qE e).same k1
    obtain rfl := Option.some.inj ec
    exact ⟨_, rfl, by show 1 ≤ 1000; decide, mk_raise TR.ox TR.nV fun d' H4 k4 nd' hd' => e' d' H4 k4 nd' hd'⟩
end

end Pk43
namespace Pk43
open PySem PySem.Spec PyProof.Rows L2 Gd
section
variable {P : Program} {w : World} {K : PySem.W.Frag} {mg : Str → Option Value} {base : Heap}
theorem ok_read_rule_Q {C : Addr} {c0 c1 c2 c3 : Addr} (D : DnX P w K mg base 9 "read_rule" s_read_rule ["text"] (sp_read_rule K [c0, c1, c2, c3])) : Dn P w K mg base 9 "read_rule" s_read_rule_Q ["text"] (sp_read_rule_Q K [c0, c1, c2, c3]) := Dn.ofX D (fun vs H Q E h => by
    obtain ⟨a, r, rfl, la, hr, q⟩ := h
    exact ⟨a, rfl, la, fun r' e => by rw [hr] at e; cases e; exact q, fun e => by rw [hr] at e; cases e⟩)
end

end Pk43
namespace Pk43
open PySem PySem.Spec PyProof.Rows L2 Gd
section
variable {P : Program} {w : World} {K : PySem.W.Frag} {mg : Str → Option Value} {base : Heap}
set_option maxHeartbeats 8000000 in
-- _words_of_step: level 4; builtins ['abs']; cells []; slots: 0 rule, 1 x, 2 y, 3 factor, 4 add, 5 within, 6 words
theorem ok__words_of_step (h : At K mg "_words_of_step" s__words_of_step ["rule"]) (D__shown_integer : Dn P w K mg base 1 "_shown_integer" s__shown_integer ["number"] (sp__shown_integer K)) (D_show_range : Dn P w K mg base 3 "show_range" s_show_range ["one"] (sp_show_range K)) (m_abs : mg "abs" = none) : Dn P w K mg base 4 "_words_of_step" s__words_of_step ["rule"] (sp__words_of_step K) := by
  refine .mk' h fun f fd F => F.ok sc__words_of_step (fun vs H Q E h => ?_) (fun cdv A outer s H vs Q E hr h => ?_)
  · obtain ⟨v, x, y, f, a, g, cs, rfl, dv, ok, q⟩ := h
    rfl
  · obtain ⟨v, x, y, f, a, g, cs, rfl, dv, ok, q⟩ := h
    refine ⟨_, (pss_cons (ps_asg (pe_slice sl_tup (pv 0) (po_some pe_int) (po_some pe_int)) (pg_tup (by rfl) (pgs_cons (pg_name (i := 1) sc__words_of_step.nd rfl (.inl rfl)) (pgs_cons (pg_name (i := 2) sc__words_of_step.nd rfl (.inl rfl)) (pgs_cons (pg_name (i := 3) sc__words_of_step.nd rfl (.inl rfl)) (pgs_cons (pg_name (i := 4) sc__words_of_step.nd rfl (.inl rfl)) (pgs_cons (pg_name (i := 5) sc__words_of_step.nd rfl (.inl rfl)) pgs_nil)))))))
      (pss_cons (ps_set (i := 6) sc__words_of_step.nd rfl (.inl rfl) (pe_lst (pa_cons (pv 1) (pa_cons pe_str (pa_cons (pe_c D__shown_integer hr (by rfl) (pa_cons (pv 3) pa_nil)) (pa_cons (pv 2) (pa_cons (pe_ifExp (pt_cmpR op_lt (pv 4) pe_int (nomark _)) pe_str pe_str) (pa_cons (pe_c D__shown_integer hr (by rfl) (pa_cons (pe_callB call_abs (by rfl) m_abs (by decide +kernel) (pa_cons (pv 4) pa_nil)) pa_nil)) pa_nil))))))))
      (pss_one (ps_ret (pe_ifExp (pt_cmpR (op_eqD hr.units) (pv 5) (pe_tup (pa_cons pe_non (pa_cons pe_non pa_nil))) (nomark _)) (pv 6) (pe_op op_cat (pv 6) (pe_lst (pa_cons pe_str (pa_cons (pe_c D_show_range hr (by rfl) (pa_cons (pv 5) pa_nil)) pa_nil))))))))), ?_⟩
    obtain ⟨p, vr, q1, ys, rfl, s, hr, s2, da⟩ := stp_inv dv
    obtain ⟨g0, g45, gu⟩ := ok.rg g (by simp [Rl.rgs])
    obtain ⟨f0, f45, a45⟩ := ok.nb x y f a g cs rfl
    have ab45 : (if a < 0 then -a else a).natAbs < 10 ^ 45 := by
      have : a.natAbs < 10 ^ 45 := a45
      split <;> omega
    refine ⟨_, rfl, _, rfl, _, rfl, p, _, rfl, s, fun z => absurd (show (1 : Nat) = 0 from z.1) (by decide), fun p2 n2 => ?_⟩
    have k2 := Same.new (o := HO.tup [V.str x, .str y, .int f, .int a, vr]) n2
    have o2 : upd H p2 (.tup [V.str x, .str y, .int f, .int a, vr]) p2 = some (.tup [V.str x, .str y, .int f, .int a, vr]) := upd_same
    show gTup K 5 _ _ _ (upd H p2 (.tup [V.str x, .str y, .int f, .int a, vr])) _
    generalize upd H p2 (HO.tup [V.str x, .str y, .int f, .int a, vr]) = H2 at k2 o2 ⊢
    refine ⟨p2, _, rfl, .inl (.inl o2), rfl, _, _, rfl, _, _, rfl, _, _, rfl, _, _, rfl, _, _, rfl, rfl, ?_⟩
    refine ⟨_, rfl, _, rfl, f, rfl, f45, fun H3 k3 => ⟨_, rfl, _, rfl, _, _, rfl, rfl, decide (a < 0), rfl, ?_⟩⟩
    obtain ⟨sg, esg, ew⟩ : ∃ sg, (if a < 0 then Str.ofString "-" else Str.ofString "+") = sg ∧ wordsS (.stp x y f a g cs) = [x, Str.ofString "from", showI f, y, sg, showI (if a < 0 then -a else a)] ++ (if g = some (none, none) then [] else [Str.ofString "in", showR g]) := ⟨_, rfl, rfl⟩
    have rest : ∀ H4 L, Same H3 H4 → H4 L = none → ∀ σ : L2.St, σ[5]? = some (some vr) → σ[6]? = some (some (.ref L)) → ∀ R : VK, (∀ v H', Q v H' → R v H') →
        tIf (tTest (tOp (rEqD K) (tVar 5) (tTup (tCons (tC V.non) (tCons (tC V.non) tNil))))) (tVar 6) (tOp rCat (tVar 6) (tLst (tCons (tC (V.str (Str.ofString "in"))) (tCons (tCl (sp_show_range K) (tCons (tVar 5) tNil)) tNil)))) σ (upd H4 L (.lst ([x, Str.ofString "from", showI f, y, sg, showI (if a < 0 then -a else a)].map V.str))) R := by
      intro H4 L k4 nL σ e5 e6 R hR
      have sL := Same.new (o := HO.lst ([x, Str.ofString "from", showI f, y, sg, showI (if a < 0 then -a else a)].map V.str)) nL
      have oL : upd H4 L (.lst ([x, Str.ofString "from", showI f, y, sg, showI (if a < 0 then -a else a)].map V.str)) L = some (.lst ([x, Str.ofString "from", showI f, y, sg, showI (if a < 0 then -a else a)].map V.str)) := upd_same
      generalize upd H4 L (HO.lst ([x, Str.ofString "from", showI f, y, sg, showI (if a < 0 then -a else a)].map V.str)) = H5 at sL oL ⊢
      have k04 := (k2.trans k3).trans k4
      have k5 := k04.trans sL
      have nL0 : H L = none := k04.free nL
      refine ⟨_, e5, by show 2 ≤ sizeLine; decide, fun T nT => ?_⟩
      have sT := Same.new (o := HO.tup [V.non, .non]) nT
      refine ⟨rgD g, rgD (some (none, none)), dp_rg (hr.same (k5.trans sT)), .tup (.inl (.inl upd_same)) (.cons .non (.cons .non .nil)), shaped_rgD _, shaped_rgD _, _, rfl, ?_⟩
      rw [eqv_rgD]
      by_cases c : g = some (none, none)
      · rw [decide_eq_true c]
        rw [if_pos c, List.append_nil] at ew
        exact iteT ⟨_, e6, hR _ _ (q L _ (k5.trans sT) nL0 (by rw [ew]; exact sT _ _ oL))⟩
      · rw [decide_eq_false c]
        rw [if_neg c] at ew
        refine iteF ⟨_, e6, _, e5, vr, g, rfl, hr.same (k5.trans sT), g45, fit_up gu, fun H6 k6 => ⟨by show 2 ≤ sizeLine; decide, fun M nM => ?_⟩⟩
        have sM := Same.new (o := HO.lst [V.str (Str.ofString "in"), .str (showR g)]) nM
        refine ⟨L, M, _, _, rfl, rfl, ((sT.trans k6).trans sM) _ _ oL, upd_same, by show 6 + 2 ≤ sizeLine; decide, fun z nz => ?_⟩
        have k7 := ((k5.trans sT).trans k6).trans sM
        refine hR _ _ (q z _ (k7.trans (Same.new nz)) (k7.free nz) ?_)
        rw [ew, List.map_append]
        exact upd_same
    by_cases c : a < 0
    · rw [decide_eq_true c]
      rw [if_pos c] at esg
      subst esg
      exact iteT ⟨_, rfl, a, rfl, _, rfl, ab45, fun H4 k4 => ⟨by show 6 ≤ sizeLine; decide, fun L nL => rest H4 L k4 nL _ rfl rfl _ fun _ _ h => h⟩⟩
    · rw [decide_eq_false c]
      rw [if_neg c] at esg
      subst esg
      exact iteF ⟨_, rfl, a, rfl, _, rfl, ab45, fun H4 k4 => ⟨by show 6 ≤ sizeLine; decide, fun L nL => rest H4 L k4 nL _ rfl rfl _ fun _ _ h => h⟩⟩
end

end Pk43
namespace Pk43
open PySem PySem.Spec PyProof.Rows L2 Gd
section
variable {P : Program} {w : World} {K : PySem.W.Frag} {mg : Str → Option Value} {base : Heap}
set_option maxHeartbeats 8000000 in
-- show_rule: level 5; builtins []; cells []; slots: 0 rule, 1 words, 2 name, 3 one
theorem ok_show_rule (h : At K mg "show_rule" s_show_rule ["rule"]) (D__words_of_step : Dn P w K mg base 4 "_words_of_step" s__words_of_step ["rule"] (sp__words_of_step K)) (D_show_range : Dn P w K mg base 3 "show_range" s_show_range ["one"] (sp_show_range K)) : Dn P w K mg base 5 "show_rule" s_show_rule ["rule"] (sp_show_rule K) := by
  refine .mk' h fun f fd F => F.ok sc_show_rule (fun vs H Q E h => ?_) (fun cdv A outer s H vs Q E hr h => ?_)
  · obtain ⟨v, r, rfl, dv, ok, q⟩ := h
    rfl
  · obtain ⟨v, r, rfl, dv, ok, q⟩ := h
    refine ⟨_, (pss_cons (ps_set (i := 1) sc_show_rule.nd rfl (.inl rfl) (pe_ifExp (pt_cmpR op_eq (pe_ix ix_tup (pv 0) pe_int (fun _ _ => rfl)) pe_str (nomark _)) (pe_lst (pa_cons (pe_ix ix_tup (pv 0) pe_int (fun _ _ => rfl)) (pa_cons pe_str (pa_cons (pe_c D_show_range hr (by rfl) (pa_cons (pe_ix ix_tup (pv 0) pe_int (fun _ _ => rfl)) pa_nil)) pa_nil)))) (pe_c D__words_of_step hr (by rfl) (pa_cons (pv 0) pa_nil))))
      (C8.pss_cut (ps_if (pt_truth (pe_ix ix_tup (pv 0) (pe_un un_neg pe_int) (fun _ _ => rfl)) (fun _ => rfl))
        (pss_cons (ps_expr (pe_bm PySem.F.plainAttrs_list PySem.F.slot_list_append PySem.F.type_list_append mt_append (pv 1) (pa_cons pe_str pa_nil)))
        (pss_one (ps_expr (pe_bm PySem.F.plainAttrs_list PySem.F.slot_list_append PySem.F.type_list_append mt_append (pv 1) (pa_cons (pe_bm PySem.F.plainAttrs_str PySem.F.slot_str_join PySem.F.type_str_join mt_join pe_str (pa_cons (pe_lc (own := [("name", 2), ("one", 3)]) (g := (gTup K 2 (gCons (gName 2) (gCons (gName 3) gNil)))) rfl sc_show_rule.nd (pi_tup (pe_ix ix_tup (pv 0) (pe_un un_neg pe_int) (fun _ _ => rfl))) (blkOk_by (N := ["rule", "words", "name", "one"]) (sc := defScope s_show_rule) (by decide +kernel)) (fun _ _ _ _ _ => (pg_tup (by rfl) (pgs_cons (pg_name (i := 2) sc_show_rule.nd rfl (.inl rfl)) (pgs_cons (pg_name (i := 3) sc_show_rule.nd rfl (.inl rfl)) pgs_nil)))) (fun _ _ _ _ _ => pts_nil) (fun _ _ _ _ _ => (pe_joined (.cons (pe_fmt (pv 2)) (.cons pe_str (.cons (pe_fmt (pe_c D_show_range hr (by rfl) (pa_cons (pv 3) pa_nil))) .nil)))))) pa_nil)) pa_nil)))))
        pss_nil)
      (pss_one (ps_ret (pe_bm PySem.F.plainAttrs_str PySem.F.slot_str_join PySem.F.type_str_join mt_join pe_str (pa_cons (pv 1) pa_nil)))))), ?_⟩
    have line : (sizeLine : Nat) = 16777216 := sizeLine_eq
    obtain ⟨p, xs, vr0, cq, ys, rr, rfl, s, _, a1, _, s2, da, _⟩ := rl_last dv
    have first : ∀ (R : VK), (∀ L G, Same H G → H L = none → G L = some (.lst ((wordsS r).map V.str)) → R (.ref L) G) →
        tIf (tTest (tOp rEq (tOp (rIxT K) (tVar 0) (tC (V.int 0))) (tC (V.str (Str.ofString "set"))))) (tLst (tCons (tOp (rIxT K) (tVar 0) (tC (V.int 1))) (tCons (tC (V.str (Str.ofString "is"))) (tCons (tCl (sp_show_range K) (tCons (tOp (rIxT K) (tVar 0) (tC (V.int 2))) tNil)) tNil)))) (tCl (sp__words_of_step K) (tCons (tVar 0) tNil)) [some (.ref p), none, none, none] H R := by
      intro R hR
      match r, dv, ok with
      | .set x g cs, dv, ok =>
        obtain ⟨p', vr, q1, ys', e_, s', hr, _, _⟩ := set_inv dv
        cases e_
        obtain ⟨g0, g45, gu⟩ := ok.rg g (by simp [Rl.rgs])
        refine ⟨_, rfl, p, _, 0, _, rfl, rfl, s', atI_nat (j := 0) rfl, rfl, true, sEqT, iteT ?_⟩
        refine ⟨_, rfl, p, _, 1, _, rfl, rfl, s', atI_nat (j := 1) rfl, _, rfl, p, _, 2, vr, rfl, rfl, s', atI_nat (j := 2) rfl, vr, g, rfl, hr, g45, fit_up gu, fun G k => ⟨by show 3 ≤ sizeLine; decide, fun L nL => ?_⟩⟩
        exact hR L _ (k.trans (Same.new nL)) (k.free nL) upd_same
      | .stp x y f a g cs, dv, ok =>
        obtain ⟨p', vr, q1, ys', e_, s', hr, _, _⟩ := stp_inv dv
        cases e_
        refine ⟨_, rfl, p, _, 0, _, rfl, rfl, s', atI_nat (j := 0) rfl, rfl, false, (by decide +kernel), iteF ?_⟩
        exact ⟨_, rfl, _, x, y, f, a, g, cs, rfl, dv, ok, fun L G k n o => hR L G k n o⟩
    refine first _ fun L G k nL oL => ?_
    have sz := showCs_sum ok
    have lw : (wordsS r).length ≤ 8 := by
      cases r with
      | set => exact Nat.le_of_ble_eq_true rfl
      | stp x y f a g cs =>
        show (_ ++ _ : List Str).length ≤ 8
        rw [List.length_append]
        show 6 + (if g = some (none, none) then ([] : List Str) else [Str.ofString "in", showR g]).length ≤ 8
        split <;> exact Nat.le_of_ble_eq_true rfl
    refine ⟨fun σ G' => ∃ o2 o3, σ = [some (V.ref p), some (.ref L), o2, o3] ∧ Same H G' ∧ G' L = some (.lst ((wordsR r).map V.str)), ?_, ?_⟩
    · have tru : TruV K (.ref cq) G (!ys.isEmpty) := .inr (.inl ⟨ys, SqT.same k s2, rfl⟩)
      have ely : ys.isEmpty = r.cs.isEmpty := by
        have := dpa_len da
        rw [List.length_map] at this
        cases ys <;> cases hc : r.cs <;> rw [hc] at this <;> first | rfl | cases this
      refine ⟨_, rfl, _, rfl, p, _, -1, .ref cq, rfl, rfl, SqT.same k s, a1, _, tru, ?_⟩
      rw [ely]
      cases hc : r.cs with
      | nil =>
        refine iteF ⟨_, _, rfl, k, ?_⟩
        rw [oL]
        unfold wordsR
        rw [hc, if_pos rfl, List.append_nil]
      | cons c0 cs0 =>
        have ne : r.cs ≠ [] := by rw [hc]; simp
        refine iteT ?_
        have ew : wordsR r = wordsS r ++ [Str.ofString "when", condsT r.cs] := by
          unfold wordsR
          rw [if_neg ne]
        generalize wordsS r = ws at oL lw ew
        have ll : (ws.map V.str).length ≤ 8 := by rw [List.length_map]; exact lw
        refine ⟨_, rfl, ty_lst oL, L, _, _, rfl, rfl, oL, by omega, ?_⟩
        have k2 : Same H (upd G L (.lst (ws.map V.str ++ [V.str (Str.ofString "when")]))) := fun b o e => by
          rw [upd_ne (ne_of_none e nL)]
          exact k _ _ e
        have o2 : upd G L (.lst (ws.map V.str ++ [V.str (Str.ofString "when")])) L = some (.lst (ws.map V.str ++ [V.str (Str.ofString "when")])) := upd_same
        generalize upd G L (HO.lst (ws.map V.str ++ [V.str (Str.ofString "when")])) = G2 at k2 o2 ⊢
        refine ⟨_, rfl, ty_lst o2, rfl, _, rfl, _, rfl, p, _, -1, .ref cq, rfl, rfl, SqT.same k2 s, a1, cq, rfl, ⟨_, SqT.same k2 s2⟩, fun D nD => ?_⟩
        refine lc_conds (K := K) (j1 := 2) (j2 := 3) (σ := [some (V.ref p), some (.ref L), none, none]) (te := fun σ H Q => tJs [tFmt (tVar 2), tC (V.str (Str.ofString " in ")), tFmt (tCl (sp_show_range K) (tCons (tVar 3) tNil))] Str.empty σ H fun out H1 => Q (V.str out) H1) (fun c => .str (showC c)) (SqT.same k2 s2) (dpa_same k2 da) ok.ln nD ?_ ?_ ?_
        · exact fun _ _ => rfl
        · intro c mc v G3 R k3 rv hR
          obtain ⟨h1, h2, h3, h4⟩ := ok.cds c mc
          have l1 := name_len h1
          have l2 := showR_len' h3
          refine ⟨_, rfl, .inl ⟨c.1, rfl, by omega, c.1, rfl, by rw [cat_e]; omega, _, rfl, by rw [cat_e, len_app, ln4]; omega, _, rfl, v, c.2, rfl, rv, h3, fit_up h4, fun G4 k4 => .inl ⟨showR c.2, rfl, by omega, _, rfl, by rw [cat_e, len_app, len_app, ln4]; omega, ?_⟩⟩⟩
          rw [cat_e]
          exact hR G4 k4
        · intro G3 k3 oD
          have oD' : G3 D = some (.lst ((r.cs.map showC).map V.str)) := by rw [List.map_map]; exact oD
          have lcs : (r.cs.map showC).length ≤ 70000 := by rw [List.length_map]; exact ok.ln
          refine ⟨_, D, r.cs.map showC, rfl, rfl, .inl (.inl (.inl oD')), by rw [ln2]; omega, L, _, _, rfl, rfl, k3 _ _ o2, by rw [List.length_append]; show _ + 1 < _; omega, _, _, rfl, fun b o e => ?_, ?_⟩
          · rw [upd_ne (ne_of_none e nL)]
            exact k3 _ _ (k2 _ _ e)
          · rw [ew, upd_same, List.map_append, List.append_assoc]
            rfl
    · rintro σ' G' ⟨o2, o3, rfl, k', o'⟩
      obtain ⟨s1, s2⟩ := wordsR_sum ok
      have := ok.ln
      exact ⟨rfl, _, rfl, _, L, wordsR r, rfl, rfl, .inl (.inl (.inl o')), by rw [ln1]; omega, q _ k'⟩
end

end Pk43
namespace Pk43
open PySem PySem.Spec PyProof.Rows L2 Gd
section
variable {P : Program} {w : World} {K : PySem.W.Frag} {mg : Str → Option Value} {base : Heap}
set_option maxHeartbeats 8000000 in
-- _law_bound_text: level 1; builtins ['str']; cells []; slots: 0 bound
theorem ok__law_bound_text (h : At K mg "_law_bound_text" s__law_bound_text ["bound"]) (m_str : mg "str" = none) : Dn P w K mg base 1 "_law_bound_text" s__law_bound_text ["bound"] (sp__law_bound_text K) := by
  refine .mk' h fun f fd F => F.ok sc__law_bound_text (fun vs H Q E h => ?_) (fun cdv A outer s H vs Q E hr h => ?_)
  · obtain ⟨o, rfl, ho, q⟩ := h
    rfl
  · obtain ⟨o, rfl, ho, q⟩ := h
    refine ⟨_, (pss_cons (ps_if (pt_cmpR op_isN (pv 0) pe_non (nomark _))
        (pss_one (ps_ret pe_str))
        pss_nil)
      (pss_one (ps_ret (pe_callTy call_str_int (by rfl) m_str (by decide +kernel) (pa_cons (pv 0) pa_nil))))), ?_⟩
    cases o with
    | none => exact ⟨_, rfl, rfl, true, rfl, iteT q⟩
    | some n => exact ⟨_, rfl, rfl, false, rfl, iteF ⟨_, rfl, n, rfl, log45 (ho n rfl), q⟩⟩
end

end Pk43
namespace Pk43
open PySem PySem.Spec PyProof.Rows L2 Gd
section
variable {P : Program} {w : World} {K : PySem.W.Frag} {mg : Str → Option Value} {base : Heap}
set_option maxHeartbeats 8000000 in
-- _law_reach_text: level 2; builtins []; cells []; slots: 0 there
theorem ok__law_reach_text (h : At K mg "_law_reach_text" s__law_reach_text ["there"]) (D__law_bound_text : Dn P w K mg base 1 "_law_bound_text" s__law_bound_text ["bound"] (sp__law_bound_text K)) : Dn P w K mg base 2 "_law_reach_text" s__law_reach_text ["there"] (sp__law_reach_text K) := by
  refine .mk' h fun f fd F => F.ok sc__law_reach_text (fun vs H Q E h => ?_) (fun cdv A outer s H vs Q E hr h => ?_)
  · obtain ⟨v, r, rfl, hv, h45, q⟩ := h
    rfl
  · obtain ⟨v, r, rfl, hv, h45, q⟩ := h
    refine ⟨_, (pss_cons (ps_if (pt_cmpR op_isN (pv 0) pe_non (nomark _))
        (pss_one (ps_ret pe_str))
        pss_nil)
      (pss_one (ps_ret (pe_op op_add_str (pe_op op_add_str (pe_c D__law_bound_text hr (by rfl) (pa_cons (pe_ix ix_tup (pv 0) pe_int (fun _ _ => rfl)) pa_nil)) pe_str) (pe_c D__law_bound_text hr (by rfl) (pa_cons (pe_ix ix_tup (pv 0) pe_int (fun _ _ => rfl)) pa_nil)))))), ?_⟩
    match r, hv with
    | none, hv =>
      have e : v = .non := hv
      subst e
      exact ⟨_, rfl, rfl, true, rfl, iteT q⟩
    | some (l, h), hv =>
      obtain ⟨p, rfl, s⟩ := hv
      obtain ⟨b1, b2⟩ := h45 _ rfl
      have l1 : (showB l).length ≤ 46 := showB_len b1
      have l2 : (showB h).length ≤ 46 := showB_len b2
      refine ⟨_, rfl, rfl, false, rfl, iteF ?_⟩
      exact ⟨_, rfl, p, _, 0, _, rfl, rfl, s, atI_nat (j := 0) rfl, l, rfl, b1, _, _, rfl, rfl, by rw [len_dd, sizeLine_eq]; omega, _, rfl, p, _, 1, _, rfl, rfl, s, atI_nat (j := 1) rfl, h, rfl, b2, _, _, rfl, rfl, by rw [len_app, len_dd, sizeLine_eq]; omega, q⟩
end

end Pk43
namespace Pk43
open PySem PySem.Spec PyProof.Rows L2 Gd
section
variable {P : Program} {w : World} {K : PySem.W.Frag} {mg : Str → Option Value} {base : Heap}
set_option maxHeartbeats 8000000 in
-- _law_integer: level 1; builtins ['int', 'len']; cells []; slots: 0 wording, 1 digits, 2 sign
theorem ok__law_integer (h : At K mg "_law_integer" s__law_integer ["wording"]) (m_int : mg "int" = none) (m_len : mg "len" = none) : Dn P w K mg base 1 "_law_integer" s__law_integer ["wording"] (sp__law_integer K) := by
  refine .mk' h fun f fd F => F.ok sc__law_integer (fun vs H Q E h => ?_) (fun cdv A outer s H vs Q E hr h => ?_)
  · obtain ⟨a, rfl, la, oa, q⟩ := h
    rfl
  · obtain ⟨a, rfl, la, oa, q⟩ := h
    refine ⟨_, (pss_cons (ps_set (i := 1) sc__law_integer.nd rfl (.inl rfl) (pv 0))
      (C8.pss_cut (ps_if (pt_val (pe_bm PySem.F.plainAttrs_str PySem.F.slot_str_startswith PySem.F.type_str_startswith mt_startswith (pv 0) (pa_cons pe_str pa_nil)))
        (pss_one (ps_set (i := 1) sc__law_integer.nd rfl (.inl rfl) (pe_slice sl_str (pv 0) (po_some pe_int) po_none)))
        pss_nil)
      (pss_cons (ps_if (PW.pt (pw_or (pt_cmpR op_eq (pv 1) pe_str (nomark _)) (pw_or (pt_cmpR op_gt (pe_callB call_len_str (by rfl) m_len PySem.boot_len (pa_cons (pv 1) pa_nil)) pe_int (nomark _)) (pw_or1 (pt_cmpR (op_neD hr.units) (pe_lc (own := [("sign", 2)]) (g := gName 2) rfl sc__law_integer.nd (pi_str (pv 1)) (blkOk_by (N := ["wording", "digits", "sign"]) (sc := defScope s__law_integer) (by decide +kernel)) (fun _ _ _ _ _ => pg_name (i := 2) sc__law_integer.nd rfl (Or.inl rfl)) (fun _ _ _ _ _ => pts_one (pt_cmpR op_notIn_sign (pv 2) pe_str (by rfl))) (fun _ _ _ _ _ => (pv 2))) (pe_lst pa_nil) (nomark _))))))
        (pss_one (ps_ret (pe_lst pa_nil)))
        pss_nil)
      (pss_cons (ps_if (PW.pt (pw_and (pt_cmpR op_eq (pe_ix ix_str (pv 1) pe_int (fun _ _ => rfl)) pe_str (nomark _)) (pw_and1 (pt_cmpR op_ne (pv 0) pe_str (nomark _)))))
        (pss_one (ps_ret (pe_lst pa_nil)))
        pss_nil)
      (pss_one (ps_ret (pe_lst (pa_cons (pe_callTy call_int_str (by rfl) m_int (by decide +kernel) (pa_cons (pv 0) pa_nil)) pa_nil)))))))), ?_⟩
    have la2 := TL.len_tl a
    have ul := unneg_len (TL.tl a)
    refine ⟨_, rfl, ?_⟩
    refine ⟨fun σ G => G = H ∧ ∃ g : Str, TL.tl g = unneg (TL.tl a) ∧ σ = [some (V.str a), some (.str g), none], ?_, ?_⟩
    · refine ⟨_, rfl, rfl, _, _, rfl, rfl, _, rfl, ?_⟩
      rw [starts_minus]
      rcases neg_cases (TL.tl a) with ⟨e1, e2⟩ | ⟨e1, e2⟩
      · rw [e1]
        refine iteT ⟨_, rfl, 1, rfl, slSn (by omega) ⟨rfl, _, ?_, rfl⟩⟩
        have z := cut_from a 1
        rw [show TL.tl (cutS a (some 1) none) = (TL.tl a).drop 1 from z, e2]
        rfl
      · rw [e1]
        exact iteF ⟨rfl, a, e2.symm, rfl⟩
    rintro σ G ⟨rfl, g, eg, rfl⟩
    have lg : g.length = (unneg (TL.tl a)).length := by rw [TL.len_tl, eg]
    have lgs : g.length ≤ sizeLine := by rw [sizeLine_eq]; omega
    have og : okT (TL.tl g) := by
      rw [eg]
      refine oa.sub fun d hd => ?_
      rcases neg_cases (TL.tl a) with ⟨_, e2⟩ | ⟨_, e2⟩
      · rw [e2]; exact List.mem_cons_of_mem _ hd
      · rw [e2] at hd; exact hd
    refine ⟨_, rfl, rfl, decide (V.str g = V.str ""), rfl, ?_⟩
    rw [str_dec, tl_empty, eg]
    by_cases c1 : unneg (TL.tl a) = []
    · rw [decide_eq_true c1]
      have no : readI (TL.tl a) = none := if_neg fun z => by
        have := (okI_parts z).1
        rw [c1] at this
        exact absurd this (by decide)
      refine iteT (iteT ⟨by show 0 ≤ sizeLine; decide, fun p np => q p _ (Same.new np) np ?_⟩)
      rw [no]
      exact upd_same
    rw [decide_eq_false c1]
    have h1 : 1 ≤ (unneg (TL.tl a)).length := List.length_pos_iff.mpr c1
    refine iteF ⟨_, rfl, g, rfl, lgs, _, _, rfl, rfl, decide ((45 : Int) < (g.length : Int)), rfl, ?_⟩
    by_cases c2 : g.length ≤ 45
    case neg =>
      rw [decide_eq_true (by omega)]
      have no : readI (TL.tl a) = none := if_neg fun z => by
        have := (okI_parts z).2.1
        omega
      refine iteT (iteT ⟨by show 0 ≤ sizeLine; decide, fun p np => q p _ (Same.new np) np ?_⟩)
      rw [no]
      exact upd_same
    rw [decide_eq_false (by omega)]
    refine iteF ⟨_, rfl, g, rfl, fun D nD => ?_⟩
    refine lc_it (walk_str (z := g)) (fun i F => Same G F ∧ F D = some (.lst ((((TL.tl g).take i).filter fun c => !(decide (48 ≤ c) && decide (c ≤ 57))).map fun c => V.str ⟨#[c]⟩))) ⟨Same.new nD, upd_same⟩ (fun _ _ _ _ => trivial) ?_ ?_
    · rintro i z F F' hi ⟨sm, oD⟩ ⟨rfl, c, ec, rfl⟩
      have ec' : (TL.tl g)[i]? = some c := by
        show g.cps.toList[i]? = some c
        rw [Array.getElem?_toList]
        exact ec
      have tk : (TL.tl g).take (i + 1) = (TL.tl g).take i ++ [c] := by
        rw [List.take_add_one, ec']
        rfl
      have al : ((((TL.tl g).take i).filter fun c => !(decide (48 ≤ c) && decide (c ≤ 57))).map fun c => V.str ⟨#[c]⟩).length < sizeLine := by
        rw [List.length_map]
        refine Nat.lt_of_le_of_lt (Nat.le_trans (List.length_filter_le _ _) ?_) (by decide : 1000 < sizeLine)
        rw [List.length_take, ← TL.len_tl]
        omega
      rw [tk, List.filter_append, List.map_append]
      refine ⟨rfl, _, rfl, c, _, rfl, rfl, !(decide (48 ≤ c) && decide (c ≤ 57)), by rw [dig_in], ?_⟩
      cases y : !(decide (48 ≤ c) && decide (c ≤ 57)) with
      | true =>
        have f1 : ([c].filter fun c => !(decide (48 ≤ c) && decide (c ≤ 57))) = [c] := by rw [List.filter_cons, y]; rfl
        rw [f1]
        exact iteT ⟨_, rfl, _, oD, al, fun b o e => by rw [upd_ne (ne_of_none e nD)]; exact sm _ _ e, upd_same⟩
      | false =>
        have f1 : ([c].filter fun c => !(decide (48 ≤ c) && decide (c ≤ 57))) = [] := by rw [List.filter_cons, y]; rfl
        rw [f1]
        refine iteF ⟨sm, ?_⟩
        rw [List.map_nil, List.append_nil]
        exact oD
    rintro F ⟨sm, oD⟩
    have e0 : (TL.tl g).take g.cps.size = TL.tl g := by
      rw [← Array.length_toList, List.take_length]
    rw [e0, eg] at oD
    refine ⟨by show 0 ≤ sizeLine; decide, fun L nL => ?_⟩
    have sL := Same.new (o := .lst []) nL
    have oL : upd F L (.lst []) L = some (.lst []) := upd_same
    generalize upd F L (HO.lst ([] : List V)) = F1 at sL oL
    have k1 := sm.trans sL
    have fe : ((unneg (TL.tl a)).filter fun c => !(decide (48 ≤ c) && decide (c ≤ 57))).isEmpty = digL (unneg (TL.tl a)) := by
      generalize unneg (TL.tl a) = l
      induction l with
      | nil => rfl
      | cons c l ih =>
        show _ = (decide (48 ≤ c ∧ c ≤ 57) && digL l)
        rw [List.filter_cons]
        by_cases h : 48 ≤ c ∧ c ≤ 57
        · rw [decide_eq_true h, decide_eq_true h.1, decide_eq_true h.2, Bool.true_and, ← ih]
          rfl
        · rw [decide_eq_false h, Bool.false_and]
          have : (!(decide (48 ≤ c) && decide (c ≤ 57))) = true := by
            simp only [Bool.not_eq_true', Bool.and_eq_false_iff, decide_eq_false_iff_not]
            omega
          rw [this]
          rfl
    have oD1 := sL _ _ oD
    have mp : (((unneg (TL.tl a)).filter fun c => !(decide (48 ≤ c) && decide (c ≤ 57))).map fun c => V.str ⟨#[c]⟩) = ((((unneg (TL.tl a)).filter fun c => !(decide (48 ≤ c) && decide (c ≤ 57))).map fun c => (⟨#[c]⟩ : Str)).map V.str) := by
      rw [List.map_map]
      rfl
    rw [mp] at oD1
    refine ⟨_, _, .lst (.inl (.inl oD1)) (dpl_strs _), .lst (.inl (.inl oL)) .nil, (ly_strs fun x mx => ?_).shaped, (Ly.list (k := 0) LyAll.nil).shaped, _, rfl, ?_⟩
    · obtain ⟨c, mc, rfl⟩ := List.mem_map.mp mx
      intro d hd
      have hd' : d ∈ [c] := hd
      rw [List.mem_singleton.mp hd']
      rw [eg] at og
      exact og c (List.mem_filter.mp mc).1
    rw [eqv_nil, List.isEmpty_map, List.isEmpty_map, fe]
    cases hd : digL (unneg (TL.tl a)) with
    | false =>
      have no : readI (TL.tl a) = none := if_neg fun z => by
        have := (okI_parts z).2.2.1
        rw [hd] at this
        cases this
      refine iteT ⟨by show 0 ≤ sizeLine; decide, fun p np => q p _ (k1.trans (Same.new np)) (k1.free np) ?_⟩
      rw [no]
      exact upd_same
    | true =>
      obtain ⟨c0, r0, e1⟩ : ∃ c0 r0, unneg (TL.tl a) = c0 :: r0 := by
        cases e : unneg (TL.tl a) with
        | nil => exact absurd e c1
        | cons c r => exact ⟨c, r, rfl⟩
      have at0 : atI g.cps.toList 0 = some c0 := atI_nat (j := 0) (by rw [show g.cps.toList = c0 :: r0 from eg.trans e1]; rfl)
      have fin : ((unneg (TL.tl a)).head? = some 48 → TL.tl a = [48]) → readI (TL.tl a) = some (numI (TL.tl a)) ∧ PySem.intText? a = some (numI (TL.tl a)) ∧ a.length ≤ 640 := fun h4 => by
        have ok := okI_mk h1 (by omega) hd h4
        exact ⟨if_pos ok, int_read ok⟩
      refine iteF ?_
      refine ⟨_, rfl, g, 0, c0, rfl, rfl, lgs, at0, rfl, decide (V.str ⟨#[c0]⟩ = V.str "0"), rfl, ?_⟩
      rw [str_dec, tl_zero, show TL.tl (⟨#[c0]⟩ : Str) = [c0] from rfl]
      by_cases hc : c0 = 48
      · rw [decide_eq_true (by rw [hc])]
        refine iteT ⟨_, rfl, rfl, !decide (V.str a = V.str "0"), rfl, ?_⟩
        rw [str_dec, tl_zero]
        by_cases hz : TL.tl a = [48]
        · rw [decide_eq_true hz]
          obtain ⟨f1, f2, f3⟩ := fin fun _ => hz
          refine iteF ⟨_, rfl, a, _, rfl, f2, f3, by show 1 ≤ sizeLine; decide, fun p np => q p _ (k1.trans (Same.new np)) (k1.free np) ?_⟩
          rw [f1]
          exact upd_same
        · rw [decide_eq_false hz]
          have no : readI (TL.tl a) = none := if_neg fun z => hz ((okI_parts z).2.2.2 (by rw [e1, hc]; rfl))
          refine iteT ⟨by show 0 ≤ sizeLine; decide, fun p np => q p _ (k1.trans (Same.new np)) (k1.free np) ?_⟩
          rw [no]
          exact upd_same
      · rw [decide_eq_false (fun z => hc (List.cons.inj z).1)]
        obtain ⟨f1, f2, f3⟩ := fin fun z => by
          rw [e1] at z
          exact absurd (Option.some.inj z) hc
        refine iteF (iteF ⟨_, rfl, a, _, rfl, f2, f3, by show 1 ≤ sizeLine; decide, fun p np => q p _ (k1.trans (Same.new np)) (k1.free np) ?_⟩)
        rw [f1]
        exact upd_same
end

end Pk43
namespace Pk43
open PySem PySem.Spec PyProof.Rows L2 Gd
section
variable {P : Program} {w : World} {K : PySem.W.Frag} {mg : Str → Option Value} {base : Heap}
set_option maxHeartbeats 8000000 in
-- _law_reach_of: level 2; builtins ['len']; cells []; slots: 0 wording, 1 some, 2 bounds, 3 part
theorem ok__law_reach_of (h : At K mg "_law_reach_of" s__law_reach_of ["wording"]) (D__law_integer : Dn P w K mg base 1 "_law_integer" s__law_integer ["wording"] (sp__law_integer K)) (m_len : mg "len" = none) : Dn P w K mg base 2 "_law_reach_of" s__law_reach_of ["wording"] (sp__law_reach_of K) := by
  refine .mk' h fun f fd F => F.ok sc__law_reach_of (fun vs H Q E h => ?_) (fun cdv A outer s H vs Q E hr h => ?_)
  · obtain ⟨a, rfl, la, oa, q⟩ := h
    rfl
  · obtain ⟨a, rfl, la, oa, q⟩ := h
    refine ⟨_, (pss_cons (ps_set (i := 1) sc__law_reach_of.nd rfl (.inl rfl) (pe_bm PySem.F.plainAttrs_str PySem.F.slot_str_split PySem.F.type_str_split mt_split (pv 0) (pa_cons pe_str pa_nil)))
      (pss_cons (ps_if (pt_cmpR op_ne (pe_callB call_len_seq (by rfl) m_len PySem.boot_len (pa_cons (pv 1) pa_nil)) pe_int (nomark _))
        (pss_one (ps_ret (pe_lst pa_nil)))
        pss_nil)
      (pss_cons (ps_set (i := 2) sc__law_reach_of.nd rfl (.inl rfl) (pe_lst pa_nil))
      (pss_cons (ps_for PassesOwn.never rfl (pi_list (pv 1)) (pg_name (i := 3) sc__law_reach_of.nd rfl (.inl rfl))
        (pss_one (ps_if (pt_cmpR op_eq (pv 3) pe_str (nomark _))
          (pss_one (ps_expr (pe_bm PySem.F.plainAttrs_list PySem.F.slot_list_append PySem.F.type_list_append mt_append (pv 2) (pa_cons pe_non pa_nil))))
          (pss_one (ps_expr (pe_bm PySem.F.plainAttrs_list PySem.F.slot_list_extend PySem.F.type_list_extend mt_extend (pv 2) (pa_cons (pe_c D__law_integer hr (by rfl) (pa_cons (pv 3) pa_nil)) pa_nil)))))))
      (pss_cons (ps_if (pt_cmpR op_ne (pe_callB call_len_seq (by rfl) m_len PySem.boot_len (pa_cons (pv 2) pa_nil)) pe_int (nomark _))
        (pss_one (ps_ret (pe_lst pa_nil)))
        pss_nil)
      (pss_cons (ps_if (PW.pt (pw_and (pt_cmpR op_notN (pe_ix ix_list (pv 2) pe_int (fun _ _ => rfl)) pe_non (nomark _)) (pw_and (pt_cmpR op_notN (pe_ix ix_list (pv 2) pe_int (fun _ _ => rfl)) pe_non (nomark _)) (pw_and1 (pt_cmpR op_gt (pe_ix ix_list (pv 2) pe_int (fun _ _ => rfl)) (pe_ix ix_list (pv 2) pe_int (fun _ _ => rfl)) (nomark _))))))
        (pss_one (ps_ret (pe_lst pa_nil)))
        pss_nil)
      (pss_one (ps_ret (pe_lst (pa_cons (pe_tup (pa_cons (pe_ix ix_list (pv 2) pe_int (fun _ _ => rfl)) (pa_cons (pe_ix ix_list (pv 2) pe_int (fun _ _ => rfl)) pa_nil))) pa_nil)))))))))), ?_⟩
    have la2 := TL.len_tl a
    have sd := split_dots a
    have rp := readP_spl (TL.tl a)
    have sm := spl_sum (S := [46, 46]) (TL.tl a) [] 0
    rw [← sd] at rp sm
    have pok : ∀ x ∈ Txt.split a "..", okT (TL.tl x) := fun x mx => oa.sub fun d md => by
      have m2 : TL.tl x ∈ TL.spl [46, 46] 0 [] (TL.tl a) := by rw [← sd]; exact List.mem_map_of_mem mx
      rcases spl_sub _ _ _ _ m2 d md with z | z
      · cases z
      · exact z
    rw [tl_lens, List.length_map, List.length_nil] at sm
    have plen : ∀ x ∈ Txt.split a "..", x.length ≤ 100000 := fun x mx => by
      have : x.length ≤ ((Txt.split a "..").map (·.length)).sum := mem_sum (List.mem_map_of_mem mx)
      omega
    refine ⟨_, rfl, rfl, _, _, rfl, rfl, by show ((Str.ofString "..").length == 0) = false; rw [len_dd]; rfl, by rw [sizeLine_eq]; omega, fun P nP => ?_⟩
    generalize Txt.split a (Str.ofString "..") = ps at rp sm pok plen ⊢
    have sP := Same.new (o := HO.lst (ps.map V.str)) nP
    have oP : upd H P (.lst (ps.map V.str)) P = some (.lst (ps.map V.str)) := upd_same
    generalize upd H P (HO.lst (ps.map V.str)) = H1 at sP oP ⊢
    have emp : ∀ G, Same H G → readP (TL.tl a) = none → (List.length ([] : List V) ≤ sizeLine ∧ ∀ p, G p = none → Q (.ref p) (upd G p (.lst []))) := fun G k no => ⟨by show 0 ≤ sizeLine; decide, fun p np => q _ _ (k.trans (Same.new np)) (by rw [no]; exact .lst (.inl (.inl upd_same)) .nil)⟩
    refine ⟨_, rfl, P, _, rfl, .inl (.inl (.inl oP)), rfl, !decide (V.int (((ps.map V.str).length : Nat) : Int) = V.int 2), rfl, ?_⟩
    by_cases c2 : ps.length = 2
    case neg =>
      have e2 : decide (V.int (((ps.map V.str).length : Nat) : Int) = V.int 2) = false := decide_eq_false fun z => by
        have z' := V.int.inj z
        rw [List.length_map] at z'
        omega
      rw [e2]
      have no : readP (TL.tl a) = none := by
        rw [rp]
        match ps, c2 with
        | [], _ => rfl
        | [_], _ => rfl
        | [_, _], c2 => exact absurd rfl c2
        | _ :: _ :: _ :: _, _ => rfl
      exact iteT (emp _ sP no)
    obtain ⟨x, y, rfl⟩ : ∃ x y, ps = [x, y] := by
      match ps, c2 with
      | [x, y], _ => exact ⟨x, y, rfl⟩
    refine iteF ?_
    refine ⟨by show 0 ≤ sizeLine; decide, fun B nB => ?_⟩
    have sB := Same.new (o := .lst []) nB
    have oB : upd H1 B (.lst []) B = some (.lst []) := upd_same
    generalize upd H1 B (HO.lst ([] : List V)) = H2 at sB oB
    have s2 := sP.trans sB
    have oP2 := sB _ _ oP
    refine ⟨_, rfl, P, rfl, ⟨_, .inl (.inl oP2)⟩, for_list (xs := [V.str x, .str y]) (fun i σ G => Same H1 G ∧ G B = some (.lst (([x, y].take i).flatMap bB)) ∧ ∃ y3, σ = [some (.str a), some (.ref P), some (.ref B), y3]) ⟨sB, oB, _, rfl⟩ (fun i σ G _ h => .inl (.inl (h.1 _ _ oP))) ?_ ?_⟩
    · rintro i z σ G ez ⟨k, oG, y3, rfl⟩
      obtain ⟨u, eu, rfl⟩ : ∃ u, [x, y][i]? = some u ∧ z = V.str u := by
        match i, ez with
        | 0, ez => cases ez; exact ⟨x, rfl, rfl⟩
        | 1, ez => cases ez; exact ⟨y, rfl, rfl⟩
      have mu := List.mem_of_getElem? eu
      have tk : [x, y].take (i + 1) = [x, y].take i ++ [u] := by
        rw [List.take_add_one, eu]
        rfl
      have li : ∀ l : List Str, (l.flatMap bB).length ≤ l.length := fun l => by
        induction l with
        | nil => exact Nat.le_refl _
        | cons w l ih =>
          rw [List.flatMap_cons, List.length_append, List.length_cons]
          have : (bB w).length ≤ 1 := by
            unfold bB
            cases readB (TL.tl w) <;> simp
          omega
      have l1 := li ([x, y].take i)
      have l2 : ([x, y].take i).length ≤ 2 := by rw [List.length_take]; exact Nat.min_le_right _ _
      refine ⟨_, rfl, rfl, decide (V.str u = V.str ""), rfl, ?_⟩
      rw [str_dec, tl_empty, tk, List.flatMap_append]
      by_cases ce : TL.tl u = []
      · rw [decide_eq_true ce]
        have eb : [u].flatMap bB = [V.non] := by
          show bB u ++ [] = _
          unfold bB readB
          rw [if_pos ce]
          rfl
        rw [eb]
        refine iteT ⟨_, rfl, ty_lst oG, B, _, _, rfl, rfl, oG, Nat.lt_of_le_of_lt (by omega : _ ≤ 100) (by decide), fun b o e => ?_, upd_same, _, rfl⟩
        rw [upd_ne (ne_of_none e nB)]
        exact k _ _ e
      · rw [decide_eq_false ce]
        have eb : [u].flatMap bB = (readI (TL.tl u)).toList.map V.int := by
          show bB u ++ [] = _
          unfold bB readB
          rw [if_neg ce, List.append_nil]
          cases readI (TL.tl u) <;> rfl
        rw [eb]
        refine iteF ⟨_, rfl, ty_lst oG, _, rfl, u, rfl, plen u mu, pok u mu, fun p G2 k2 np op => ?_⟩
        have l3 : ((readI (TL.tl u)).toList.map V.int).length ≤ 1 := by cases readI (TL.tl u) <;> simp
        refine ⟨B, p, _, _, rfl, rfl, k2 _ _ oG, op, Nat.le_trans (by omega : _ ≤ 100) (by decide), fun b o e => ?_, upd_same, _, rfl⟩
        rw [upd_ne (ne_of_none e nB)]
        exact k2 _ _ (k _ _ e)
    rintro σ G ⟨k, oG, y3, rfl⟩
    have oG' : G B = some (.lst (bB x ++ bB y)) := by
      have e : ([x, y].take [V.str x, .str y].length).flatMap bB = bB x ++ bB y := by
        show bB x ++ (bB y ++ []) = _
        rw [List.append_nil]
      rw [e] at oG
      exact oG
    have k0 := sP.trans k
    have rp' : readP (TL.tl a) = match readB (TL.tl x), readB (TL.tl y) with
      | some x, some y => if up (some (x, y)) = true then none else some (x, y)
      | _, _ => none := rp
    unfold bB at oG'
    cases ex : readB (TL.tl x) with
    | none =>
      rw [ex] at oG' rp'
      have l3 : ((readB (TL.tl y)).toList.map ov).length ≤ 1 := by cases readB (TL.tl y) <;> simp
      generalize (readB (TL.tl y)).toList.map ov = w at oG' l3
      refine ⟨_, rfl, B, w, rfl, .inl (.inl (.inl oG')), rfl, !decide (V.int ((w.length : Nat) : Int) = V.int 2), rfl, ?_⟩
      have e2 : decide (V.int ((w.length : Nat) : Int) = V.int 2) = false := decide_eq_false fun z => by
        have := V.int.inj z
        omega
      rw [e2]
      exact iteT (emp _ k0 (by rw [rp']))
    | some o1 =>
      rw [ex] at oG' rp'
      cases ey : readB (TL.tl y) with
      | none =>
        rw [ey] at oG' rp'
        refine ⟨_, rfl, B, [ov o1], rfl, .inl (.inl (.inl oG')), rfl, !decide (V.int 1 = V.int 2), rfl, ?_⟩
        exact iteT (emp _ k0 (by rw [rp']))
      | some o2 =>
        rw [ey] at oG' rp'
        have oB2 : G B = some (.lst [ov o1, ov o2]) := oG'
        have hB : SqL K G B [ov o1, ov o2] := .inl (.inl oB2)
        dsimp only at rp'
        refine ⟨_, rfl, B, [ov o1, ov o2], rfl, .inl (.inl (.inl oB2)), rfl, !decide (V.int 2 = V.int 2), rfl, ?_⟩
        rw [decide_eq_true rfl]
        refine iteF ?_
        have a0 : atI [ov o1, ov o2] 0 = some (ov o1) := atI_nat (j := 0) rfl
        have a1 : atI [ov o1, ov o2] 1 = some (ov o2) := atI_nat (j := 1) rfl
        have fin : up (some (o1, o2)) = false → tRet (tLst (tCons (tTup (tCons (tOp (rIxL K) (tVar 2) (tC (V.int 0))) (tCons (tOp (rIxL K) (tVar 2) (tC (V.int 1))) tNil))) tNil)) { nx := fun _ H' => Q .non H', rt := Q } [some (V.str a), some (V.ref P), some (V.ref B), y3] G := fun u => by
          rw [u, if_neg Bool.false_ne_true] at rp'
          refine ⟨_, rfl, B, _, 0, _, rfl, rfl, hB, a0, _, rfl, B, _, 1, _, rfl, rfl, hB, a1, ?_⟩
          refine ⟨by show 2 ≤ sizeLine; decide, fun T nT => ?_⟩
          have sT := Same.new (o := .tup [ov o1, ov o2]) nT
          have oT : upd G T (.tup [ov o1, ov o2]) T = some (.tup [ov o1, ov o2]) := upd_same
          generalize upd G T (HO.tup ([ov o1, ov o2] : List V)) = G2 at sT oT
          refine ⟨by show 1 ≤ sizeLine; decide, fun L nL => q _ _ ((k0.trans sT).trans (Same.new nL)) ?_⟩
          rw [rp']
          exact .lst (.inl (.inl upd_same)) (.cons (.tup (.inl (.inl (Same.new nL _ _ oT))) (.cons (dp_ov o1) (.cons (dp_ov o2) .nil))) .nil)
        match o1, o2, a0, a1, fin, rp' with
        | none, o2, a0, a1, fin, rp' => exact ⟨_, rfl, B, _, 0, _, rfl, rfl, hB, a0, rfl, false, rfl, iteF (fin rfl)⟩
        | some l, none, a0, a1, fin, rp' => exact ⟨_, rfl, B, _, 0, _, rfl, rfl, hB, a0, rfl, true, rfl, iteT ⟨_, rfl, B, _, 1, _, rfl, rfl, hB, a1, rfl, false, rfl, iteF (fin rfl)⟩⟩
        | some l, some h, a0, a1, fin, rp' =>
          refine ⟨_, rfl, B, _, 0, _, rfl, rfl, hB, a0, rfl, true, rfl, iteT ⟨_, rfl, B, _, 1, _, rfl, rfl, hB, a1, rfl, true, rfl, iteT ⟨_, rfl, B, _, 0, _, rfl, rfl, hB, a0, _, rfl, B, _, 1, _, rfl, rfl, hB, a1, l, h, rfl, rfl, decide (h < l), rfl, ?_⟩⟩⟩
          by_cases c : h < l
          · rw [decide_eq_true c]
            refine iteT (emp _ k0 ?_)
            rw [rp', if_pos (show up (some (some l, some h)) = true from decide_eq_true c)]
          · rw [decide_eq_false c]
            exact iteF (fin (decide_eq_false c))
end

end Pk43
namespace Pk43
open PySem PySem.Spec PyProof.Rows L2 Gd
section
variable {P : Program} {w : World} {K : PySem.W.Frag} {mg : Str → Option Value} {base : Heap}
set_option maxHeartbeats 8000000 in
-- _law_changed: level 2; builtins ['len']; cells []; slots: 0 bag, 1 wording, 2 spot, 3 sign, 4 way_now, 5 long, 6 some, 7 begin, 8 dots, 9 rest, 10 glue, 11 one, 12 two, 13 first_part
theorem ok__law_changed (h : At K mg "_law_changed" s__law_changed ["bag", "wording"]) (D__law_draw : Dn P w K mg base 1 "_law_draw" s__law_draw ["bag", "many"] (sp__law_draw K)) (m_len : mg "len" = none) : Dn P w K mg base 2 "_law_changed" s__law_changed ["bag", "wording"] (sp__law_changed K) := by
  refine .mk' h fun f fd F => F.ok sc__law_changed (fun vs H Q E h => ?_) (fun cdv A outer s H vs Q E hr h => ?_)
  · obtain ⟨b, ga, n, a, rfl, bg, hn, la, oa, q⟩ := h
    rfl
  · obtain ⟨b, ga, n, a, rfl, bg, hn, la, oa, q⟩ := h
    refine ⟨_, (pss_cons (ps_set (i := 2) sc__law_changed.nd rfl (.inl rfl) (pe_c D__law_draw hr (by rfl) (pa_cons (pv 0) (pa_cons (pe_op op_add (pe_callB call_len_str (by rfl) m_len PySem.boot_len (pa_cons (pv 1) pa_nil)) pe_int) pa_nil))))
      (pss_cons (ps_set (i := 3) sc__law_changed.nd rfl (.inl rfl) (pe_ix ix_str pe_str (pe_c D__law_draw hr (by rfl) (pa_cons (pv 0) (pa_cons pe_int pa_nil))) (fun _ _ => rfl)))
      (pss_cons (ps_set (i := 4) sc__law_changed.nd rfl (.inl rfl) (pe_c D__law_draw hr (by rfl) (pa_cons (pv 0) (pa_cons pe_int pa_nil))))
      (pss_cons (ps_if (pt_cmpR op_eq (pv 4) pe_int (nomark _))
        (pss_one (ps_ret (pe_op op_add_str (pe_op op_add_str (pe_slice sl_str (pv 1) po_none (po_some (pv 2))) (pv 3)) (pe_slice sl_str (pv 1) (po_some (pv 2)) po_none))))
        pss_nil)
      (pss_cons (ps_if (pt_cmpR op_eq (pv 4) pe_int (nomark _))
        (pss_one (ps_ret (pe_op op_add_str (pe_slice sl_str (pv 1) po_none (po_some (pv 2))) (pe_slice sl_str (pv 1) (po_some (pe_op op_add (pv 2) pe_int)) po_none))))
        pss_nil)
      (pss_cons (ps_if (pt_cmpR op_eq (pv 4) pe_int (nomark _))
        (pss_one (ps_ret (pe_op op_add_str (pe_op op_add_str (pe_slice sl_str (pv 1) po_none (po_some (pv 2))) (pv 3)) (pe_slice sl_str (pv 1) (po_some (pe_op op_add (pv 2) pe_int)) po_none))))
        pss_nil)
      (pss_cons (ps_if (pt_cmpR op_eq (pv 4) pe_int (nomark _))
        (pss_opT (i := 5) sc__law_changed.nd rfl (.inl rfl) op_repS (pe_op op_add pe_int (pe_c D__law_draw hr (by rfl) (pa_cons (pv 0) (pa_cons pe_int pa_nil))))
        (psst_cons (pst_set (i := 6) sc__law_changed.nd rfl (.inl rfl) (pet_lst (pat_cons (CwR.PET.of (pe_op op_add_str pe_str (pv 1))) (pat_cons (CwR.PET.of (pe_op op_add_str (pv 1) pe_str)) (pat_cons (pet_repl1 (pv 1) pek_str) pat_nil)))))
        (psst_cons (pst_expr (pet_bm PySem.F.plainAttrs_list PySem.F.slot_list_append PySem.F.type_list_append mt_append (pv 6) (pat_cons (pet_repl1 (pv 1) (pek_cat (pv 5))) pat_nil)))
        (psst_cons (PST.of (ps_asg (pe_bm PySem.F.plainAttrs_str PySem.F.slot_str_partition PySem.F.type_str_partition mt_partition (pv 1) (pa_cons pe_str pa_nil)) (pg_tup (by rfl) (pgs_cons (pg_name (i := 7) sc__law_changed.nd rfl (.inl rfl)) (pgs_cons (pg_name (i := 8) sc__law_changed.nd rfl (.inl rfl)) (pgs_cons (pg_name (i := 9) sc__law_changed.nd rfl (.inl rfl)) pgs_nil))))))
        (psst_cut (PST.of (ps_if (pt_cmpR op_ne (pv 8) pe_str (nomark _))
          (pss_one (ps_expr (pe_bm PySem.F.plainAttrs_list PySem.F.slot_list_append PySem.F.type_list_append mt_append (pv 6) (pa_cons (pe_op op_add_str (pe_op op_add_str (pe_op op_add_str (pe_op op_add_str (pe_slice sl_str (pv 7) po_none (po_some (pe_op op_add (pe_bm PySem.F.plainAttrs_str PySem.F.slot_str_rfind PySem.F.type_str_rfind mt_rfind (pv 7) (pa_cons pe_str pa_nil)) pe_int))) pe_str) (pv 5)) (pv 8)) (pv 9)) pa_nil))))
          pss_nil))
        (psst_cons (pst_expr (pet_bm PySem.F.plainAttrs_list PySem.F.slot_list_append PySem.F.type_list_append mt_append (pv 6) (pat_cons (pet_repl1 (pv 1) (pek_cat (pv 5))) pat_nil)))
        (psst_cons (pst_expr (pet_bm PySem.F.plainAttrs_list PySem.F.slot_list_append PySem.F.type_list_append mt_append (pv 6) (pat_cons (pet_repl1 (pv 1) (pek_cat (pv 5))) pat_nil)))
        (CwR.psst_one (PST.of (ps_ret (pe_ix ix_list (pv 6) (pe_c D__law_draw hr (by rfl) (pa_cons (pv 0) (pa_cons (pe_callB call_len_seq (by rfl) m_len PySem.boot_len (pa_cons (pv 6) pa_nil)) pa_nil))) (fun _ _ => rfl))))))))))))
        pss_nil)
      (pss_cons (ps_set (i := 10) sc__law_changed.nd rfl (.inl rfl) (pe_ix ix_tup (pe_tup (pa_cons pe_str (pa_cons pe_str pa_nil))) (pe_op op_sub (pv 4) pe_int) (fun _ _ => rfl)))
      (pss_cons (ps_set (i := 6) sc__law_changed.nd rfl (.inl rfl) (pe_bm PySem.F.plainAttrs_str PySem.F.slot_str_split PySem.F.type_str_split mt_split (pv 1) (pa_cons (pv 10) pa_nil)))
      (pss_cons (ps_par (i := 11) (j := 12) rfl sc__law_changed.nd rfl rfl (by decide) rfl rfl (pa_cons (pe_c D__law_draw hr (by rfl) (pa_cons (pv 0) (pa_cons (pe_callB call_len_seq (by rfl) m_len PySem.boot_len (pa_cons (pv 6) pa_nil)) pa_nil))) (pa_cons (pe_c D__law_draw hr (by rfl) (pa_cons (pv 0) (pa_cons (pe_callB call_len_seq (by rfl) m_len PySem.boot_len (pa_cons (pv 6) pa_nil)) pa_nil))) pa_nil)) (by rfl))
      (pss_cons (ps_set (i := 13) sc__law_changed.nd rfl (.inl rfl) (pe_ix ix_list (pv 6) (pv 11) (fun _ _ => rfl)))
      (pss_cons (ps_asg (pe_ix ix_list (pv 6) (pv 12) (fun _ _ => rfl)) (pg_sub (pv 6) (pv 11) set_list))
      (pss_cons (ps_asg (pv 13) (pg_sub (pv 6) (pv 12) set_list))
      (pss_one (ps_ret (pe_bm PySem.F.plainAttrs_str PySem.F.slot_str_join PySem.F.type_str_join mt_join (pv 10) (pa_cons (pv 6) pa_nil))))))))))))))))), ?_⟩
    have p200 : (2 : Nat) ^ 200 = 1606938044258990275541962092341162602522202993782792835301376 := by decide
    have wa : Wd a.length a := ⟨Nat.le_refl _, oa⟩
    have las : a.length ≤ sizeLine := by rw [sizeLine_eq]; omega
    have line : (sizeLine : Nat) = 16777216 := sizeLine_eq
    refine ⟨_, rfl, _, rfl, a, rfl, las, _, _, rfl, rfl, b, ga, _, n, rfl, bg, by omega, by omega, by rw [p200]; omega, fun sp H1 s0 s1 k1 bg1 => ?_⟩
    have wl := Wd.lit "xy01 -.,;:+AZ_'(" (by decide +kernel)
    have ll : (Str.ofString "xy01 -.,;:+AZ_'(").length = 16 := len_lit _
    refine ⟨_, rfl, b, ga, 16, _, rfl, bg1, by omega, by decide, by decide, fun g H2 g0 g1 k2 bg2 => ?_⟩
    obtain ⟨c, ec, mc⟩ := sign_at (z := Str.ofString "xy01 -.,;:+AZ_'(") g0 (by rw [ll]; exact g1)
    have wc : Wd 1 ⟨#[c]⟩ := wl.sign mc
    refine ⟨_, g, c, rfl, rfl, by rw [ll, line]; decide, ec, ?_⟩
    generalize (⟨#[c]⟩ : Str) = sg at wc ⊢
    refine ⟨_, rfl, b, ga, 6, _, rfl, bg2, by omega, by decide, by decide, fun w H3 w0 w1 k3 bg3 => ?_⟩
    have k13 := (k1.trans k2).trans k3
    have fin : ∀ (r : Str) G, Wd (3 * a.length + 200) r → Kb b ga H3 G → Bg (n + 6) G b ga → Q (.str r) G := fun r G wr k bgG => q r G wr.len wr.ok (k13.trans k) bgG
    have w3 : ∀ {m m2 : Nat} {s t : Str}, Wd m s → m ≤ 50000 → Wd m2 t → m2 ≤ 50000 → s.length + t.length ≤ sizeLine := fun h l h2 l2 => by
      have := h.len
      have := h2.len
      omega
    refine ⟨_, rfl, rfl, decide (V.int w = V.int 0), rfl, ?_⟩
    by_cases c0 : w = 0
    · rw [decide_eq_true (by rw [c0])]
      refine iteT ⟨_, rfl, _, rfl, sp, rfl, slS (by omega) ⟨_, rfl, _, _, rfl, rfl, w3 wa.cut (by omega) wc (by omega), _, rfl, _, rfl, sp, rfl, slSn (by omega) ⟨_, _, rfl, rfl, w3 (wa.cut.app wc) (by omega) wa.cut (by omega), ?_⟩⟩⟩
      exact fin _ _ (((wa.cut.app wc).app wa.cut).mono (by omega)) Kb.refl (bg3.mono (by omega))
    rw [decide_eq_false (fun z => c0 (V.int.inj z))]
    refine iteF ⟨_, rfl, rfl, decide (V.int w = V.int 1), rfl, ?_⟩
    by_cases c1 : w = 1
    · rw [decide_eq_true (by rw [c1])]
      refine iteT ⟨_, rfl, _, rfl, sp, rfl, slS (by omega) ⟨_, rfl, _, rfl, _, _, rfl, rfl, _, rfl, slSn (by omega) ⟨_, _, rfl, rfl, w3 wa.cut (by omega) wa.cut (by omega), ?_⟩⟩⟩
      exact fin _ _ ((wa.cut.app wa.cut).mono (by omega)) Kb.refl (bg3.mono (by omega))
    rw [decide_eq_false (fun z => c1 (V.int.inj z))]
    refine iteF ⟨_, rfl, rfl, decide (V.int w = V.int 2), rfl, ?_⟩
    by_cases c2 : w = 2
    · rw [decide_eq_true (by rw [c2])]
      refine iteT ⟨_, rfl, _, rfl, sp, rfl, slS (by omega) ⟨_, rfl, _, _, rfl, rfl, w3 wa.cut (by omega) wc (by omega), _, rfl, _, rfl, _, _, rfl, rfl, _, rfl, slSn (by omega) ⟨_, _, rfl, rfl, w3 (wa.cut.app wc) (by omega) wa.cut (by omega), ?_⟩⟩⟩
      exact fin _ _ (((wa.cut.app wc).app wa.cut).mono (by omega)) Kb.refl (bg3.mono (by omega))
    rw [decide_eq_false (fun z => c2 (V.int.inj z))]
    refine iteF ⟨_, rfl, rfl, decide (V.int w = V.int 3), rfl, ?_⟩
    by_cases c3 : w = 3
    · rw [decide_eq_true (by rw [c3])]
      refine iteT ?_
      refine ⟨_, rfl, b, ga, 3, _, rfl, bg3, by omega, by decide, by decide, fun g4 H4 a0 a1 k4 bg4 => ⟨_, _, rfl, rfl, _, _, rfl, rfl, by omega, by omega, by rw [len_lit]; decide, fun lo llo mlo => ?_⟩⟩
      have ln : lo.length ≤ 46 ∧ 44 ≤ lo.length := by
        rw [llo, len_lit]
        show 1 * (44 + g4).toNat ≤ 46 ∧ 44 ≤ 1 * (44 + g4).toNat
        omega
      have wo : Wd 46 lo := (Wd.lit "9" (by decide +kernel)).sub ln.1 mlo
      have w1_ : Wd 1 (Str.ofString " ") := Wd.lit " " (by decide +kernel)
      have wd2 : Wd 2 (Str.ofString "..") := Wd.lit ".." (by decide +kernel)
      have wd3 : Wd 3 (Str.ofString "...") := Wd.lit "..." (by decide +kernel)
      have rep : ∀ {m : Nat} {z r : Str}, Wd m z → r.length ≤ a.length + 2 * z.length → (∀ d ∈ TL.tl r, d ∈ TL.tl a ∨ d ∈ TL.tl z) → Wd (a.length + 2 * m) r := fun hz lr mr => ⟨by have := hz.len; omega, fun d md => (mr d md).elim (oa d) (hz.ok d)⟩
      refine ⟨_, rfl, _, _, rfl, rfl, w3 w1_ (by omega) wa (by omega), _, rfl, _, _, rfl, rfl, w3 wa (by omega) w1_ (by omega), _, rfl, a, rfl, _, rfl, by decide +kernel, by rw [len_lit]; show a.length + 2 * 3 ≤ _; omega, fun r3 l3 m3 => ?_⟩
      have wr3 := rep wd3 l3 m3
      refine ⟨by show 3 ≤ sizeLine; decide, fun L nL => ?_⟩
      have sL := Same.new (o := .lst [.str (Str.ofString " " ++ a), .str (a ++ Str.ofString " "), .str r3]) nL
      have oL : upd H4 L (.lst [.str (Str.ofString " " ++ a), .str (a ++ Str.ofString " "), .str r3]) L = some (.lst [.str (Str.ofString " " ++ a), .str (a ++ Str.ofString " "), .str r3]) := upd_same
      generalize upd H4 L (HO.lst ([.str (Str.ofString " " ++ a), .str (a ++ Str.ofString " "), .str r3] : List V)) = H5 at sL oL
      have W5 : Ws (n + 4) H3 b ga L [Str.ofString " " ++ a, a ++ Str.ofString " ", r3] H5 := ⟨k4.trans (Kb.of sL), bg4.same sL, oL, bg4.fresh nL, kb_none k4 (bg4.fresh nL) nL⟩
      have N1 : ∀ w ∈ [Str.ofString " " ++ a, a ++ Str.ofString " ", r3], Wd (3 * a.length + 200) w := fun w m => by
        simp only [List.mem_cons, List.not_mem_nil, or_false] at m
        rcases m with rfl | rfl | rfl
        · exact (w1_.app wa).mono (by omega)
        · exact (wa.app w1_).mono (by omega)
        · exact wr3.mono (by omega)
      refine ⟨_, rfl, ty_lst W5.o, _, rfl, a, rfl, _, rfl, lo, rfl, by rw [len_dd]; decide, by omega, w3 wd2 (by omega) wo (by omega), _, rfl, ne_app (by omega), by have := (wd2.app wo).len; omega, fun r4 l4 m4 => ⟨L, _, _, rfl, rfl, W5.o, by show 3 < sizeLine; decide, ?_⟩⟩
      have wr4 := rep (wd2.app wo) l4 m4
      have W6 := W5.push r4
      have N2 : ∀ w ∈ [Str.ofString " " ++ a, a ++ Str.ofString " ", r3] ++ [r4], Wd (3 * a.length + 200) w := fun w m => by
        rcases List.mem_append.mp m with m | m
        · exact N1 w m
        · rw [List.mem_singleton.mp m]
          exact wr4.mono (by omega)
      generalize upd H5 L (HO.lst (List.map V.str [Str.ofString " " ++ a, a ++ Str.ofString " ", r3] ++ [V.str r4])) = H6 at W6 ⊢
      generalize ew : [Str.ofString " " ++ a, a ++ Str.ofString " ", r3] ++ [r4] = ws at W6 N2
      have lw : ws.length = 4 := by rw [← ew]; rfl
      refine ⟨_, rfl, rfl, _, _, rfl, rfl, by show ((Str.ofString "..").length == 0) = false; rw [len_dd]; rfl, las, fun p np => ?_⟩
      obtain ⟨x, ds, y, ep, lx, ly, ld, _⟩ := part_dots a
      obtain ⟨u1, u2, u3⟩ := part_sub a
      rw [ep] at u1 u2 u3 ⊢
      dsimp only at u1 u2 u3 ⊢
      have wx : Wd a.length x := wa.sub lx u1
      have wy : Wd a.length y := wa.sub ly u2
      have wds : Wd 2 ds := wd2.sub ld u3
      have W7 := W6.same (Same.new (o := HO.tup [V.str x, .str ds, .str y]) np)
      have o1 : upd H6 p (.tup [V.str x, .str ds, .str y]) p = some (.tup [V.str x, .str ds, .str y]) := upd_same
      generalize upd H6 p (HO.tup [V.str x, .str ds, .str y]) = H7 at W7 o1 ⊢
      refine ⟨p, _, rfl, .inl (.inl o1), rfl, _, _, rfl, _, _, rfl, _, _, rfl, rfl, ?_⟩
      refine ⟨fun σ G => ∃ vs : List Str, Ws (n + 4) H3 b ga L vs G ∧ vs.length ≤ 5 ∧ 4 ≤ vs.length ∧ (∀ w ∈ vs, Wd (3 * a.length + 200) w) ∧ σ = [some (.ref b), some (.str a), some (.int sp), some (.str sg), some (.int w), some (.str lo), some (.ref L), some (.str x), some (.str ds), some (.str y), none, none, none, none], ?_, ?_⟩
      · refine ⟨_, rfl, rfl, !decide (V.str ds = V.str ""), rfl, ?_⟩
        cases decide (V.str ds = V.str "") with
        | true => exact iteF ⟨ws, W7, by omega, by omega, N2, rfl⟩
        | false =>
          refine iteT ⟨_, rfl, ty_lst W7.o, _, rfl, _, rfl, rfl, x, _, rfl, rfl, _, _, rfl, rfl, _, rfl, slS (by omega) ⟨_, _, rfl, rfl, w3 wx.cut (by omega) (Wd.lit "-" (by decide +kernel)) (by decide), _, rfl, _, _, rfl, rfl, w3 (wx.cut.app (Wd.lit "-" (by decide +kernel))) (by show a.length + 1 ≤ _; omega) wo (by omega), _, rfl, _, _, rfl, rfl, w3 ((wx.cut.app (Wd.lit "-" (by decide +kernel))).app wo) (by show a.length + 1 + 46 ≤ _; omega) wds (by omega), _, rfl, _, _, rfl, rfl, w3 (((wx.cut.app (Wd.lit "-" (by decide +kernel))).app wo).app wds) (by show a.length + 1 + 46 + 2 ≤ _; omega) wy (by omega), L, _, _, rfl, rfl, W7.o, by rw [List.length_map, lw, line]; decide, ?_⟩⟩
          refine ⟨_, W7.push _, by rw [List.length_append, lw]; show 4 + 1 ≤ 5; decide, by rw [List.length_append, lw]; show 4 ≤ 4 + 1; decide, fun w m => ?_, rfl⟩
          rcases List.mem_append.mp m with m | m
          · exact N2 w m
          · rw [List.mem_singleton.mp m]
            exact ((((wx.cut.app (Wd.lit "-" (by decide +kernel))).app wo).app wds).app wy).mono (by show a.length + 1 + 46 + 2 + a.length ≤ _; omega)
      rintro σ G ⟨vs, W8, lv1, lv2, N3, rfl⟩
      have w6 : Wd 6 (Str.ofString " from ") := Wd.lit " from " (by decide +kernel)
      have w3p : Wd 3 (Str.ofString " + ") := Wd.lit " + " (by decide +kernel)
      refine ⟨_, rfl, ty_lst W8.o, _, rfl, a, rfl, _, rfl, lo, rfl, by rw [len_lit]; decide, by omega, w3 w6 (by omega) wo (by omega), _, rfl, ne_app (by omega), by have := (w6.app wo).len; omega, fun r6 l6 m6 => ⟨L, _, _, rfl, rfl, W8.o, by rw [List.length_map, line]; omega, ?_⟩⟩
      have W9 := W8.push r6
      generalize upd G L (HO.lst (List.map V.str vs ++ [V.str r6])) = G9 at W9 ⊢
      refine ⟨_, rfl, ty_lst W9.o, _, rfl, a, rfl, _, rfl, lo, rfl, by rw [len_lit]; decide, by omega, w3 w3p (by omega) wo (by omega), _, rfl, ne_app (by omega), by have := (w3p.app wo).len; omega, fun r7 l7 m7 => ⟨L, _, _, rfl, rfl, W9.o, by rw [List.length_map, List.length_append, line]; show vs.length + 1 < _; omega, ?_⟩⟩
      have W10 := W9.push r7
      generalize upd G9 L (HO.lst (List.map V.str (vs ++ [r6]) ++ [V.str r7])) = G10 at W10 ⊢
      have N4 : ∀ w ∈ vs ++ [r6] ++ [r7], Wd (3 * a.length + 200) w := fun w m => by
        rcases List.mem_append.mp m with m | m
        · rcases List.mem_append.mp m with m | m
          · exact N3 w m
          · rw [List.mem_singleton.mp m]
            exact (rep (w6.app wo) l6 m6).mono (by omega)
        · rw [List.mem_singleton.mp m]
          exact (rep (w3p.app wo) l7 m7).mono (by omega)
      have lu : (vs ++ [r6] ++ [r7]).length = vs.length + 2 := by rw [List.length_append, List.length_append]; rfl
      generalize vs ++ [r6] ++ [r7] = us at W10 N4 lu
      have lm : (us.map V.str).length = vs.length + 2 := by rw [List.length_map, lu]
      refine ⟨_, rfl, _, rfl, _, rfl, L, _, rfl, .inl (.inl (.inl W10.o)), b, ga, _, _, rfl, W10.bg, by omega, by rw [lm]; omega, by rw [p200, lm]; omega, fun d G11 d0 d1 k11 bg11 => ?_⟩
      have W11 := W10.draw k11 bg11
      obtain ⟨v, ev, mv⟩ := pick_mem d0 d1
      obtain ⟨r, mr, rfl⟩ := List.mem_map.mp mv
      exact ⟨L, _, d, _, rfl, rfl, .inl (.inl W11.o), ev, fin r _ (N4 r mr) W11.k (W11.bg.mono (by omega))⟩
    rw [decide_eq_false (fun z => c3 (V.int.inj z))]
    refine iteF ?_
    refine ⟨by show 2 ≤ sizeLine; decide, fun T nT => ?_⟩
    have sT := Same.new (o := .tup [.str (Str.ofString " "), .str (Str.ofString "; ")]) nT
    have oT : upd H3 T (.tup [.str (Str.ofString " "), .str (Str.ofString "; ")]) T = some (.tup [.str (Str.ofString " "), .str (Str.ofString "; ")]) := upd_same
    generalize upd H3 T (HO.tup ([.str (Str.ofString " "), .str (Str.ofString "; ")] : List V)) = H4 at sT oT
    obtain ⟨gl, eg, wg, hy, hk⟩ : ∃ gl : Str, atI [V.str (Str.ofString " "), .str (Str.ofString "; ")] (w - 4) = some (.str gl) ∧ Wd 2 gl ∧ TL.tl gl ≠ [] ∧ gl.cps.all (· < 256) = true := by
      have : w = 4 ∨ w = 5 := by omega
      rcases this with rfl | rfl
      · exact ⟨_, rfl, (Wd.lit " " (by decide +kernel)).mono (by decide), by rw [tl_lit]; decide, by decide +kernel⟩
      · exact ⟨_, rfl, Wd.lit "; " (by decide +kernel), by rw [tl_lit]; decide, by decide +kernel⟩
    obtain ⟨sm, sl, s1_, so⟩ := split_told a gl hy hk oa
    have gn : (gl.length == 0) = false := by
      have := List.length_pos_iff.mpr hy
      rw [← TL.len_tl] at this
      exact beq_eq_false_iff_ne.mpr (by omega)
    refine ⟨_, rfl, _, _, rfl, rfl, T, _, w - 4, .str gl, rfl, rfl, .inl (.inl oT), eg, ?_⟩
    refine ⟨_, rfl, rfl, _, rfl, _, _, rfl, rfl, gn, by omega, fun P nP => ?_⟩
    generalize Txt.split a gl = ps at sm sl s1_ so ⊢
    have bg4 := bg3.same sT
    have W5 : Ws (n + 3) H3 b ga P ps (upd H4 P (.lst (ps.map V.str))) := ⟨(Kb.of sT).trans (Kb.of (Same.new nP)), bg4.same (Same.new nP), upd_same, bg4.fresh nP, sT.free nP⟩
    generalize upd H4 P (HO.lst (ps.map V.str)) = H5 at W5 ⊢
    have lp : (ps.map V.str).length = ps.length := List.length_map _
    refine ⟨_, rfl, _, rfl, P, _, rfl, .inl (.inl (.inl W5.o)), b, ga, _, _, rfl, W5.bg, by omega, by rw [lp]; omega, by rw [p200, lp]; omega, fun d H6 d0 d1 k6 bg6 => ?_⟩
    have W6 := W5.draw k6 bg6
    refine ⟨_, rfl, _, rfl, P, _, rfl, .inl (.inl (.inl W6.o)), b, ga, _, _, rfl, W6.bg, by omega, by rw [lp]; omega, by rw [p200, lp]; omega, fun d' H7 d0' d1' k7 bg7 => ?_⟩
    have W7 := W6.draw k7 bg7
    rw [lp] at d1 d1'
    obtain ⟨i, rfl⟩ : ∃ i : Nat, d = (i : Int) := ⟨d.toNat, by omega⟩
    obtain ⟨j, rfl⟩ : ∃ j : Nat, d' = (j : Int) := ⟨d'.toNat, by omega⟩
    have hi : i < ps.length := by omega
    have hj : j < ps.length := by omega
    have ei : ps[i]? = some ps[i] := List.getElem?_eq_getElem hi
    have ej : ps[j]? = some ps[j] := List.getElem?_eq_getElem hj
    generalize ps[i] = x at ei
    generalize ps[j] = y at ej
    have ai : atI (ps.map V.str) (i : Int) = some (.str x) := atI_nat (by rw [List.getElem?_map, ei]; rfl)
    have aj : atI (ps.map V.str) (j : Int) = some (.str y) := atI_nat (by rw [List.getElem?_map, ej]; rfl)
    refine ⟨_, _, rfl, ?_⟩
    refine ⟨_, rfl, _, rfl, P, _, _, _, rfl, rfl, .inl (.inl W7.o), ai, ?_⟩
    refine ⟨_, rfl, _, rfl, P, _, _, _, rfl, rfl, .inl (.inl W7.o), aj, _, rfl, _, rfl, P, _, _, i, rfl, rfl, W7.o, ixN_nat (by rw [lp]; omega), ?_⟩
    have W8 := W7.put (ps.set i y)
    rw [List.map_set] at W8
    generalize upd H7 P (HO.lst ((ps.map V.str).set i (V.str y))) = H8 at W8 ⊢
    have l8 : ((ps.set i y).map V.str).length = ps.length := by rw [List.length_map, List.length_set]
    rw [List.map_set] at l8
    have oP8 : H8 P = some (.lst ((ps.map V.str).set i (V.str y))) := by rw [W8.o, List.map_set]
    refine ⟨_, rfl, _, rfl, _, rfl, P, _, _, j, rfl, rfl, oP8, ixN_nat (by rw [l8]; omega), ?_⟩
    have W9 := W8.put ((ps.set i y).set j x)
    rw [List.map_set, List.map_set] at W9
    generalize upd H8 P (HO.lst (((ps.map V.str).set i (V.str y)).set j (V.str x))) = H9 at W9 ⊢
    have sw := swap_sum (f := (·.length)) ei ej
    have mem2 : ∀ z ∈ (ps.set i y).set j x, okT (TL.tl z) := fun z mz => by
      rcases List.mem_or_eq_of_mem_set mz with m | rfl
      · rcases List.mem_or_eq_of_mem_set m with m | rfl
        · exact so z m
        · exact so _ (List.mem_of_getElem? ej)
      · exact so _ (List.mem_of_getElem? ei)
    have l9 : ((ps.set i y).set j x).length = ps.length := by rw [List.length_set, List.length_set]
    generalize (ps.set i y).set j x = qs at W9 sw mem2 l9
    have gl2 := wg.len
    have mul : qs.length * gl.length ≤ (a.length + 1) * 2 := Nat.mul_le_mul (by omega) gl2
    have jl := join_len (y := gl) qs
    refine ⟨_, rfl, rfl, _, rfl, gl, P, qs, rfl, rfl, .inl (.inl (.inl W9.o)), by omega, ?_⟩
    exact fin _ _ ⟨by omega, join_ok wg.ok mem2⟩ W9.k (W9.bg.mono (by omega))
end

end Pk43
namespace Pk43
open PySem PySem.Spec PyProof.Rows L2 Gd
section
variable {P : Program} {w : World} {K : PySem.W.Frag} {mg : Str → Option Value} {base : Heap}
set_option maxHeartbeats 8000000 in
-- _law_rule_text: level 3; builtins ['abs', 'int', 'str']; cells []; slots: 0 rule_now, 1 found, 2 sign, 3 some, 4 title, 5 there
theorem ok__law_rule_text (h : At K mg "_law_rule_text" s__law_rule_text ["rule_now"]) (D__law_reach_text : Dn P w K mg base 2 "_law_reach_text" s__law_reach_text ["there"] (sp__law_reach_text K)) (m_abs : mg "abs" = none) (m_int : mg "int" = none) (m_str : mg "str" = none) : Dn P w K mg base 3 "_law_rule_text" s__law_rule_text ["rule_now"] (sp__law_rule_text K) := by
  refine .mk' h fun f fd F => F.ok sc__law_rule_text (fun vs H Q E h => ?_) (fun cdv A outer s H vs Q E hr h => ?_)
  · obtain ⟨v, r, rfl, dv, ok, q⟩ := h
    rfl
  · obtain ⟨v, r, rfl, dv, ok, q⟩ := h
    refine ⟨_, (C8.pss_cut (ps_if (pt_cmpR op_eq (pe_ix ix_tup (pv 0) pe_int (fun _ _ => rfl)) pe_str (nomark _))
        (pss_one (ps_set (i := 1) sc__law_rule_text.nd rfl (.inl rfl) (pe_op op_add_str (pe_op op_add_str (pe_ix ix_tup (pv 0) pe_int (fun _ _ => rfl)) pe_str) (pe_c D__law_reach_text hr (by rfl) (pa_cons (pe_ix ix_tup (pv 0) pe_int (fun _ _ => rfl)) pa_nil)))))
        (pss_cons (ps_set (i := 2) sc__law_rule_text.nd rfl (.inl rfl) (pe_ix ix_tup (pe_tup (pa_cons pe_str (pa_cons pe_str pa_nil))) (pe_callTy call_int1 (by rfl) m_int (by decide +kernel) (pa_cons (pe_cmpR op_lt (pe_ix ix_tup (pv 0) pe_int (fun _ _ => rfl)) pe_int (nomark _)) pa_nil)) (fun _ _ => rfl)))
        (pss_cons (ps_set (i := 1) sc__law_rule_text.nd rfl (.inl rfl) (pe_op op_add_str (pe_op op_add_str (pe_op op_add_str (pe_ix ix_tup (pv 0) pe_int (fun _ _ => rfl)) pe_str) (pe_callTy call_str_int (by rfl) m_str (by decide +kernel) (pa_cons (pe_ix ix_tup (pv 0) pe_int (fun _ _ => rfl)) pa_nil))) pe_str))
        (pss_cons (ps_aug (i := 1) sc__law_rule_text.nd rfl (.inl rfl) (pe_op op_add_str (pe_op op_add_str (pe_ix ix_tup (pv 0) pe_int (fun _ _ => rfl)) (pv 2)) (pe_callTy call_str_int (by rfl) m_str (by decide +kernel) (pa_cons (pe_callB call_abs (by rfl) m_abs (by decide +kernel) (pa_cons (pe_ix ix_tup (pv 0) pe_int (fun _ _ => rfl)) pa_nil)) pa_nil))) iop_add_str)
        (pss_one (ps_if (pt_cmpR (op_neD hr.units) (pe_ix ix_tup (pv 0) pe_int (fun _ _ => rfl)) (pe_tup (pa_cons pe_non (pa_cons pe_non pa_nil))) (nomark _))
          (pss_one (ps_aug (i := 1) sc__law_rule_text.nd rfl (.inl rfl) (pe_op op_add_str pe_str (pe_c D__law_reach_text hr (by rfl) (pa_cons (pe_ix ix_tup (pv 0) pe_int (fun _ _ => rfl)) pa_nil))) iop_add_str))
          pss_nil))))))
      (pss_cons (ps_setLc (i := 3) (own := [("title", 4), ("there", 5)]) (g := (gTup K 2 (gCons (gName 4) (gCons (gName 5) gNil)))) rfl sc__law_rule_text.nd rfl rfl (sw_true rfl rfl rfl (by decide +kernel)) (pi_tup (pe_ix ix_tup (pv 0) (pe_un un_neg pe_int) (fun _ _ => rfl))) (blkOk_by (N := ["rule_now", "found", "sign", "some", "title", "there"]) (sc := defScope s__law_rule_text) (by decide +kernel)) (fun _ _ _ _ _ => (pg_tup (by rfl) (pgs_cons (pg_name (i := 4) sc__law_rule_text.nd rfl (.inl rfl)) (pgs_cons (pg_name (i := 5) sc__law_rule_text.nd rfl (.inl rfl)) pgs_nil)))) (fun _ _ _ _ _ => pts_nil) (fun _ _ _ _ _ => (pe_op op_add_str (pe_op op_add_str (pv 4) pe_str) (pe_c D__law_reach_text hr (by rfl) (pa_cons (pv 5) pa_nil)))))
      (C8.pss_cut (ps_if (pt_cmpR (op_neD hr.units) (pv 3) (pe_lst pa_nil) (nomark _))
        (pss_one (ps_aug (i := 1) sc__law_rule_text.nd rfl (.inl rfl) (pe_op op_add_str pe_str (pe_bm PySem.F.plainAttrs_str PySem.F.slot_str_join PySem.F.type_str_join mt_join pe_str (pa_cons (pv 3) pa_nil))) iop_add_str))
        pss_nil)
      (pss_one (ps_ret (pv 1)))))), ?_⟩
    have line : (sizeLine : Nat) = 16777216 := sizeLine_eq
    have cok := ok.cdok
    obtain ⟨p, xs, vr0, cq, ys, rr, rfl, s, _, a1, _, s2, da, _⟩ := rl_last dv
    have bl := beginS_len ok
    refine ⟨fun σ G => (∃ y2, σ = [some (V.ref p), some (.str (beginS r)), y2, none, none, none]) ∧ Same H G, ?_, ?_⟩
    · match r, dv, ok with
      | .set x g cs, dv, ok =>
        obtain ⟨p', vr, q1, ys', e_, s', hr, _, _⟩ := set_inv dv
        cases e_
        obtain ⟨g0, g45, gu⟩ := ok.rg g (by simp [Rl.rgs])
        have l1 := name_len (ok.nm x (by simp [Rl.names]))
        have l2 := showR_len' g45
        have l3 : (Str.ofString " is ").length = 4 := len_lit _
        refine ⟨_, rfl, p, _, 0, _, rfl, rfl, s', atI_nat (j := 0) rfl, rfl, true, sEqT, iteT ?_⟩
        refine ⟨_, rfl, p, _, 1, _, rfl, rfl, s', atI_nat (j := 1) rfl, _, _, rfl, rfl, by omega, _, rfl, p, _, 2, vr, rfl, rfl, s', atI_nat (j := 2) rfl, vr, g, rfl, hr, g45, _, _, rfl, rfl, by simp only [len_app]; omega, ?_⟩
        rw [begin_set x g cs]
        exact ⟨⟨_, rfl⟩, Same.refl _⟩
      | .stp x y f a g cs, dv, ok =>
        obtain ⟨p', vr, q1, ys', e_, s', hr, _, _⟩ := stp_inv dv
        cases e_
        obtain ⟨g0, g45, gu⟩ := ok.rg g (by simp [Rl.rgs])
        obtain ⟨f0, f45, a45⟩ := ok.nb x y f a g cs rfl
        have ab45 : (if a < 0 then -a else a).natAbs < 10 ^ 45 := by
          have : a.natAbs < 10 ^ 45 := a45
          split <;> omega
        have l1 := name_len (ok.nm x (by simp [Rl.names]))
        have l2 := name_len (ok.nm y (by simp [Rl.names]))
        have l3 := showR_len' g45
        have l4 := showI_len f45
        have l5 := showI_len ab45
        have l6 : (Str.ofString " from ").length = 6 := len_lit _
        have l7 := ln1
        have l8 := ln4
        have bs := begin_stp x y f a g cs
        obtain ⟨sg, esg, lsg, asg⟩ : ∃ sg : Str, (if a < 0 then Str.ofString " - " else Str.ofString " + ") = sg ∧ sg.length = 3 ∧ atI [V.str (Str.ofString " + "), .str (Str.ofString " - ")] (if decide (a < 0) = true then 1 else 0) = some (.str sg) := by
          by_cases c : a < 0
          · exact ⟨_, if_pos c, len_lit _, by rw [if_pos (decide_eq_true c)]; exact atI_nat (j := 1) rfl⟩
          · exact ⟨_, if_neg c, len_lit _, by rw [if_neg (by simpa using c)]; exact atI_nat (j := 0) rfl⟩
        rw [esg] at bs
        refine ⟨_, rfl, p, _, 0, _, rfl, rfl, s', atI_nat (j := 0) rfl, rfl, false, (by decide +kernel), iteF ?_⟩
        refine ⟨by show 2 ≤ sizeLine; decide, fun T nT => ?_⟩
        have sT := Same.new (o := HO.tup [V.str (Str.ofString " + "), .str (Str.ofString " - ")]) nT
        have oT : upd H T (.tup [V.str (Str.ofString " + "), .str (Str.ofString " - ")]) T = some (.tup [V.str (Str.ofString " + "), .str (Str.ofString " - ")]) := upd_same
        generalize upd H T (HO.tup [V.str (Str.ofString " + "), .str (Str.ofString " - ")]) = H1 at sT oT ⊢
        have s1 := SqT.same sT s'
        refine ⟨_, rfl, p, _, 4, _, rfl, rfl, s1, atI_nat (j := 4) rfl, _, _, rfl, rfl, .inr ⟨_, rfl, T, _, _, _, rfl, rfl, .inl (.inl oT), asg, ?_⟩⟩
        refine ⟨_, rfl, p, _, 1, _, rfl, rfl, s1, atI_nat (j := 1) rfl, _, _, rfl, rfl, by omega, _, rfl, p, _, 3, _, rfl, rfl, s1, atI_nat (j := 3) rfl, f, rfl, log45 f45, _, _, rfl, rfl, ?_, _, _, rfl, rfl, ?_, ?_⟩
        · show _ + (showI f).length ≤ _
          simp only [len_app]
          omega
        · show (_ ++ showI f : Str).length + _ ≤ _
          simp only [len_app]
          omega
        refine ⟨_, rfl, _, rfl, p, _, 2, _, rfl, rfl, s1, atI_nat (j := 2) rfl, _, rfl, _, _, rfl, rfl, by omega, _, rfl, p, _, 4, _, rfl, rfl, s1, atI_nat (j := 4) rfl, a, rfl, _, rfl, log45 ab45, _, _, rfl, rfl, ?_, _, _, rfl, rfl, ?_, ?_⟩
        · show _ + (showI _).length ≤ _
          simp only [len_app]
          omega
        · show (_ ++ showI f ++ _ : Str).length + (_ ++ showI _ : Str).length ≤ _
          simp only [len_app]
          omega
        refine ⟨_, rfl, p, _, 5, vr, rfl, rfl, s1, atI_nat (j := 5) rfl, by show 2 ≤ sizeLine; decide, fun T2 nT2 => ?_⟩
        have sT2 := Same.new (o := HO.tup [V.non, .non]) nT2
        have hr2 := hr.same (sT.trans sT2)
        refine ⟨rgD g, rgD (some (none, none)), dp_rg hr2, .tup (.inl (.inl upd_same)) (.cons .non (.cons .non .nil)), shaped_rgD _, shaped_rgD _, _, rfl, ?_⟩
        rw [eqv_rgD]
        by_cases c : g = some (none, none)
        · rw [decide_eq_true c]
          rw [if_pos c] at bs
          refine iteF ⟨⟨some (.str sg), ?_⟩, sT.trans sT2⟩
          rw [← bs, app_e]
          rfl
        · rw [decide_eq_false c]
          rw [if_neg c] at bs
          refine iteT ⟨_, rfl, _, rfl, p, _, 5, vr, rfl, rfl, SqT.same sT2 s1, atI_nat (j := 5) rfl, vr, g, rfl, hr2, g45, _, _, rfl, rfl, by omega, _, _, rfl, rfl, ?_, ⟨some (.str sg), ?_⟩, sT.trans sT2⟩
          · show (_ ++ showI f ++ _ ++ (_ ++ showI _) : Str).length + _ ≤ _
            simp only [len_app]
            omega
          · rw [← bs]
            rfl
    rintro σ G ⟨⟨y2, rfl⟩, k⟩
    refine ⟨_, rfl, _, rfl, p, _, -1, .ref cq, rfl, rfl, SqT.same k s, a1, cq, rfl, ⟨_, SqT.same k s2⟩, fun D nD => ?_⟩
    refine lc_conds (K := K) (j1 := 4) (j2 := 5) (σ := [some (V.ref p), some (.str (beginS r)), y2, none, none, none])
      (te := tOp (fun x y H Q => ∃ i j, x = V.str i ∧ y = V.str j ∧ i.length + j.length ≤ sizeLine ∧ Q (V.str (i ++ j)) H) (tOp (fun x y H Q => ∃ i j, x = V.str i ∧ y = V.str j ∧ i.length + j.length ≤ sizeLine ∧ Q (V.str (i ++ j)) H) (tVar 4) (tC (V.str (Str.ofString " in ")))) (tCl (sp__law_reach_text K) (tCons (tVar 5) tNil)))
      (fun c => .str (showC c)) (SqT.same k s2) (dpa_same k da) ok.ln nD ?_ ?_ ?_
    · exact fun _ _ => rfl
    · intro c mc v G3 R k3 rv hR
      obtain ⟨h1, h2, h3, h4⟩ := ok.cds c mc
      have l1 := name_len h1
      have l2 := showR_len' h3
      have l3 := ln4
      exact ⟨_, rfl, _, _, rfl, rfl, by omega, _, rfl, v, c.2, rfl, rv, h3, _, _, rfl, rfl, by simp only [len_app]; omega, hR G3 (Same.refl _)⟩
    · intro G3 k3 oD
      have oD' : G3 D = some (.lst ((r.cs.map showC).map V.str)) := by rw [List.map_map]; exact oD
      have kk := k.trans k3
      refine ⟨fun σ G => (∃ y2 y3 y4 y5, σ = [some (V.ref p), some (.str (showRl r)), y2, y3, y4, y5]) ∧ Same H G, ?_, ?_⟩
      · refine ⟨_, rfl, by show 0 ≤ sizeLine; decide, fun M nM => ?_⟩
        have sM := Same.new (o := HO.lst []) nM
        refine ⟨_, _, .lst (.inl (.inl (sM _ _ oD'))) (dpl_strs _), .lst (.inl (.inl upd_same)) .nil, (ly_strs fun x mx => ?_).shaped, (Ly.list (k := 0) LyAll.nil).shaped, _, rfl, ?_⟩
        · obtain ⟨c, mc, rfl⟩ := List.mem_map.mp mx
          exact showC_ok (cok c mc)
        rw [eqv_nil, List.isEmpty_map, List.isEmpty_map]
        by_cases hc : r.cs = []
        · rw [show r.cs.isEmpty = true from by rw [hc]; rfl]
          refine iteF ⟨⟨y2, some (.ref D), none, none, ?_⟩, kk.trans sM⟩
          rw [showRl_nil hc]
          rfl
        · rw [show r.cs.isEmpty = false from by cases h : r.cs with | nil => exact absurd h hc | cons => rfl]
          have sz := showCs_sum ok
          have jl := join_len (y := Str.ofString ", ") (r.cs.map showC)
          have l9 := ok.ln
          have l10 : (Str.ofString " when ").length = 6 := len_lit _
          rw [ln2, List.length_map] at jl
          refine iteT ⟨_, rfl, rfl, _, rfl, _, D, r.cs.map showC, rfl, rfl, .inl (.inl (.inl (sM _ _ oD'))), by rw [ln2, List.length_map]; omega, _, _, rfl, rfl, by omega, _, _, rfl, rfl, by rw [len_app]; omega, ⟨y2, some (.ref D), none, none, ?_⟩, kk.trans sM⟩
          rw [showRl_cons hc]
          rfl
      · rintro σ G' ⟨⟨y2', y3, y4, y5, rfl⟩, k'⟩
        exact ⟨_, rfl, q _ k'⟩
end

end Pk43
namespace Pk43
open PySem PySem.Spec PyProof.Rows L2 Gd
section
variable {P : Program} {w : World} {K : PySem.W.Frag} {mg : Str → Option Value} {base : Heap}
set_option maxHeartbeats 8000000 in
-- _law_is_title: level 1; builtins ['len']; cells []; slots: 0 wording, 1 odd, 2 sign
theorem ok__law_is_title (h : At K mg "_law_is_title" s__law_is_title ["wording"]) (m_len : mg "len" = none) : Dn P w K mg base 1 "_law_is_title" s__law_is_title ["wording"] (sp__law_is_title K) := by
  refine .mk' h fun f fd F => F.ok sc__law_is_title (fun vs H Q E h => ?_) (fun cdv A outer s H vs Q E hr h => ?_)
  · obtain ⟨a, rfl, la, oa, q⟩ := h
    rfl
  · obtain ⟨a, rfl, la, oa, q⟩ := h
    refine ⟨_, (pss_cons (ps_setLc (i := 1) (own := [("sign", 2)]) (g := gName 2) rfl sc__law_is_title.nd rfl rfl (sw_true rfl rfl rfl (by decide +kernel)) (pi_str (pv 0)) (blkOk_by (N := ["wording", "odd", "sign"]) (sc := defScope s__law_is_title) (by decide +kernel)) (fun _ _ _ _ _ => pg_name (i := 2) sc__law_is_title.nd rfl (Or.inl rfl)) (fun _ _ _ _ _ => pts_one (pt_cmpR op_notIn_sign (pv 2) pe_str (by rfl))) (fun _ _ _ _ _ => (pv 2)))
      (pss_one (ps_ret (pe_and (pe_chain op_lt op_lt pe_int (pe_callB call_len_str (by rfl) m_len PySem.boot_len (pa_cons (pv 0) pa_nil)) pe_int) (pe_one (pe_cmpR (op_eqD hr.units) (pv 1) (pe_lst pa_nil) (nomark _))))))), ?_⟩
    have la2 := TL.len_tl a
    have las : a.length ≤ sizeLine := by rw [sizeLine_eq]; omega
    refine ⟨_, rfl, a, rfl, fun D nD => ?_⟩
    refine lc_it (walk_str (z := a)) (fun i F => Same H F ∧ F D = some (.lst ((((TL.tl a).take i).filter fun c => !(decide (97 ≤ c) && decide (c ≤ 122))).map fun c => V.str ⟨#[c]⟩))) ⟨Same.new nD, upd_same⟩ (fun _ _ _ _ => trivial) ?_ ?_
    · rintro i z F F' hi ⟨sm, oD⟩ ⟨rfl, c, ec, rfl⟩
      have ec' : (TL.tl a)[i]? = some c := by
        show a.cps.toList[i]? = some c
        rw [Array.getElem?_toList]
        exact ec
      have tk : (TL.tl a).take (i + 1) = (TL.tl a).take i ++ [c] := by
        rw [List.take_add_one, ec']
        rfl
      have al : ((((TL.tl a).take i).filter fun c => !(decide (97 ≤ c) && decide (c ≤ 122))).map fun c => V.str ⟨#[c]⟩).length < sizeLine := by
        rw [List.length_map]
        refine Nat.lt_of_le_of_lt (Nat.le_trans (List.length_filter_le _ _) ?_) (by decide : 90000 < sizeLine)
        rw [List.length_take, ← TL.len_tl]
        omega
      rw [tk, List.filter_append, List.map_append]
      refine ⟨rfl, _, rfl, c, _, rfl, rfl, !(decide (97 ≤ c) && decide (c ≤ 122)), by rw [let_in], ?_⟩
      cases y : !(decide (97 ≤ c) && decide (c ≤ 122)) with
      | true =>
        have f1 : ([c].filter fun c => !(decide (97 ≤ c) && decide (c ≤ 122))) = [c] := by rw [List.filter_cons, y]; rfl
        rw [f1]
        exact iteT ⟨_, rfl, _, oD, al, fun b o e => by rw [upd_ne (ne_of_none e nD)]; exact sm _ _ e, upd_same⟩
      | false =>
        have f1 : ([c].filter fun c => !(decide (97 ≤ c) && decide (c ≤ 122))) = [] := by rw [List.filter_cons, y]; rfl
        rw [f1]
        refine iteF ⟨sm, ?_⟩
        rw [List.map_nil, List.append_nil]
        exact oD
    rintro F ⟨sm, oD⟩
    have e0 : (TL.tl a).take a.cps.size = TL.tl a := by
      rw [← Array.length_toList, List.take_length]
    rw [e0] at oD
    have fe : ((TL.tl a).filter fun c => !(decide (97 ≤ c) && decide (c ≤ 122))).isEmpty = (TL.tl a).all fun c => decide (97 ≤ c) && decide (c ≤ 122) := by
      generalize TL.tl a = l
      induction l with
      | nil => rfl
      | cons c l ih =>
        rw [List.filter_cons, List.all_cons]
        cases h : decide (97 ≤ c) && decide (c ≤ 122) with
        | true => rw [Bool.true_and, ← ih]; rfl
        | false => rfl
    have mp : (((TL.tl a).filter fun c => !(decide (97 ≤ c) && decide (c ≤ 122))).map fun c => V.str ⟨#[c]⟩) = ((((TL.tl a).filter fun c => !(decide (97 ≤ c) && decide (c ≤ 122))).map fun c => (⟨#[c]⟩ : Str)).map V.str) := by
      rw [List.map_map]
      rfl
    rw [mp] at oD
    have nl : nameL (TL.tl a) = (decide ((0 : Int) < (a.length : Int)) && decide ((a.length : Int) < 9) && (TL.tl a).all fun c => decide (97 ≤ c) && decide (c ≤ 122)) := by
      unfold nameL
      rw [← la2]
      congr 1
      congr 1 <;> exact decide_eq_decide.mpr (by omega)
    refine ⟨_, rfl, a, rfl, las, _, _, rfl, rfl, decide ((0 : Int) < (a.length : Int)), rfl, ?_⟩
    cases c1 : decide ((0 : Int) < (a.length : Int)) with
    | false =>
      rw [c1] at nl
      exact iteF ⟨_, rfl, iteF (by rw [nl] at q; exact q _ sm)⟩
    | true =>
      refine iteT ⟨_, _, rfl, rfl, decide ((a.length : Int) < 9), rfl, ?_⟩
      cases c2 : decide ((a.length : Int) < 9) with
      | false =>
        rw [c1, c2] at nl
        exact iteF (by rw [nl] at q; exact q _ sm)
      | true =>
        rw [c1, c2] at nl
        refine iteT ⟨_, rfl, by show 0 ≤ sizeLine; decide, fun L nL => ?_⟩
        have sL := Same.new (o := HO.lst []) nL
        refine ⟨_, _, .lst (.inl (.inl (sL _ _ oD))) (dpl_strs _), .lst (.inl (.inl upd_same)) .nil, (ly_strs fun x mx => ?_).shaped, (Ly.list (k := 0) LyAll.nil).shaped, ?_⟩
        · obtain ⟨c, mc, rfl⟩ := List.mem_map.mp mx
          intro d hd
          have hd' : d ∈ [c] := hd
          rw [List.mem_singleton.mp hd']
          exact oa c (List.mem_filter.mp mc).1
        rw [eqv_nil, List.isEmpty_map, List.isEmpty_map, fe]
        rw [nl] at q
        exact q _ (sm.trans sL)
end

end Pk43
namespace Pk43
open PySem PySem.Spec PyProof.Rows L2 Gd
section
variable {P : Program} {w : World} {K : PySem.W.Frag} {mg : Str → Option Value} {base : Heap}
set_option maxHeartbeats 8000000 in
-- _law_conditions_of: level 3; builtins ['len', 'tuple']; cells []; slots: 0 wording, 1 found, 2 part, 3 some
theorem ok__law_conditions_of (h : At K mg "_law_conditions_of" s__law_conditions_of ["wording"]) (D__law_is_title : Dn P w K mg base 1 "_law_is_title" s__law_is_title ["wording"] (sp__law_is_title K)) (D__law_reach_of : Dn P w K mg base 2 "_law_reach_of" s__law_reach_of ["wording"] (sp__law_reach_of K)) (m_len : mg "len" = none) (m_tuple : mg "tuple" = none) : Dn P w K mg base 3 "_law_conditions_of" s__law_conditions_of ["wording"] (sp__law_conditions_of K) := by
  refine .mk' h fun f fd F => F.ok sc__law_conditions_of (fun vs H Q E h => ?_) (fun cdv A outer s H vs Q E hr h => ?_)
  · obtain ⟨a, rfl, la, oa, q⟩ := h
    rfl
  · obtain ⟨a, rfl, la, oa, q⟩ := h
    refine ⟨_, (pss_cons (ps_set (i := 1) sc__law_conditions_of.nd rfl (.inl rfl) (pe_lst pa_nil))
      (pss_cons (ps_for PassesOwn.never rfl (pi_list (pe_bm PySem.F.plainAttrs_str PySem.F.slot_str_split PySem.F.type_str_split mt_split (pv 0) (pa_cons pe_str pa_nil))) (pg_name (i := 2) sc__law_conditions_of.nd rfl (.inl rfl))
        (pss_cons (ps_set (i := 3) sc__law_conditions_of.nd rfl (.inl rfl) (pe_bm PySem.F.plainAttrs_str PySem.F.slot_str_split PySem.F.type_str_split mt_split (pv 2) (pa_cons pe_str pa_nil)))
        (pss_cons (ps_if (PW.pt (pw_or (pt_cmpR op_ne (pe_callB call_len_seq (by rfl) m_len PySem.boot_len (pa_cons (pv 3) pa_nil)) pe_int (nomark _)) (pw_or (pt_cmpR op_ne (pe_ix ix_list (pv 3) pe_int (fun _ _ => rfl)) pe_str (nomark _)) (pw_or (pt_not (pt_val (pe_c D__law_is_title hr (by rfl) (pa_cons (pe_ix ix_list (pv 3) pe_int (fun _ _ => rfl)) pa_nil)))) (pw_or1 (pt_cmpR (op_eqD hr.units) (pe_c D__law_reach_of hr (by rfl) (pa_cons (pe_ix ix_list (pv 3) pe_int (fun _ _ => rfl)) pa_nil)) (pe_lst pa_nil) (nomark _)))))))
          (pss_one (ps_ret (pe_lst pa_nil)))
          pss_nil)
        (pss_one (ps_expr (pe_bm PySem.F.plainAttrs_list PySem.F.slot_list_append PySem.F.type_list_append mt_append (pv 1) (pa_cons (pe_tup (pa_cons (pe_ix ix_list (pv 3) pe_int (fun _ _ => rfl)) (pa_cons (pe_ix ix_list (pe_c D__law_reach_of hr (by rfl) (pa_cons (pe_ix ix_list (pv 3) pe_int (fun _ _ => rfl)) pa_nil)) pe_int (fun _ _ => rfl)) pa_nil))) pa_nil)))))))
      (pss_one (ps_ret (pe_lst (pa_cons (pe_callTy call_tuple_of (by rfl) m_tuple (by decide +kernel) (pa_cons (pv 1) pa_nil)) pa_nil)))))), ?_⟩
    have line : (sizeLine : Nat) = 16777216 := sizeLine_eq
    obtain ⟨sp1, sp2, sp3⟩ := split_cm a
    have so : ∀ x ∈ Txt.split a (Str.ofString ", "), okT (TL.tl x) := (split_told a (Str.ofString ", ") (by rw [tl_comma]; simp) (by decide +kernel) oa).2.2.2
    have rd : readCs (TL.tl a) = allS ((TL.spl [44, 32] 0 [] (TL.tl a)).map readC) := rfl
    rw [← sp1] at rd
    refine ⟨by show 0 ≤ sizeLine; decide, fun L nL => ?_⟩
    have sL := Same.new (o := .lst []) nL
    have oL : upd H L (.lst []) L = some (.lst []) := upd_same
    generalize upd H L (HO.lst ([] : List V)) = H1 at sL oL
    refine ⟨_, rfl, rfl, _, _, rfl, rfl, by show ((Str.ofString ", ").length == 0) = false; rw [ln2]; rfl, by omega, fun P nP => ?_⟩
    generalize Txt.split a (Str.ofString ", ") = ps at rd sp2 sp3 so ⊢
    have sP := Same.new (o := HO.lst (ps.map V.str)) nP
    have oP : upd H1 P (.lst (ps.map V.str)) P = some (.lst (ps.map V.str)) := upd_same
    have oL2 := sP _ _ oL
    generalize upd H1 P (HO.lst (ps.map V.str)) = H2 at sP oP oL2 ⊢
    have neLP : P ≠ L := fun z => by rw [z, oL] at nP; cases nP
    refine ⟨P, rfl, ⟨_, .inl (.inl oP)⟩, for_list (xs := ps.map V.str) (fun i σ G => (∃ y2 y3, σ = [some (.str a), some (.ref L), y2, y3]) ∧ Same H G ∧ G P = some (.lst (ps.map V.str)) ∧ ∃ zs cs, G L = some (.lst zs) ∧ zs.length = i ∧ allS (((ps.take i).map TL.tl).map readC) = some cs ∧ DpAll K G zs (cs.map cdD)) ⟨⟨_, _, rfl⟩, sL.trans sP, oP, [], [], oL2, rfl, rfl, .nil⟩ (fun i σ G _ h => .inl (.inl h.2.2.1)) ?_ ?_⟩
    · rintro i z σ G ez ⟨⟨y2, y3, rfl⟩, k, oPG, zs, cs, oLG, lz, eall, da⟩
      obtain ⟨x, ex, rfl⟩ := map_get ez
      have mx := List.mem_of_getElem? ex
      have lx : x.length ≤ 80000 := Nat.le_trans (len_in mx) (by omega)
      have ox := so x mx
      have il : i < ps.length := (List.getElem?_eq_some_iff.mp ex).1
      have bad : readC (TL.tl x) = none → ∀ G', Same H G' → (List.length ([] : List V) ≤ sizeLine ∧ ∀ p, G' p = none → Q (.ref p) (upd G' p (.lst []))) := fun no G' k' => ⟨by show 0 ≤ sizeLine; decide, fun p np => q p [] _ (k'.trans (Same.new np)) (k'.free np) upd_same (by
        rw [rd, allS_none (by rw [← no]; exact List.mem_map_of_mem (List.mem_map_of_mem mx))]
        exact .nil)⟩
      have tk : ps.take (i + 1) = ps.take i ++ [x] := take_succ ex
      obtain ⟨sq1, sq2, sq3⟩ := split_sp x
      have sqo : ∀ y ∈ Txt.split x (Str.ofString " "), okT (TL.tl y) := (split_told x (Str.ofString " ") (by rw [tl_space]; simp) (by decide +kernel) ox).2.2.2
      have rc : readC (TL.tl x) = (match wordsT (TL.tl x) with
        | [n, i, r] => if i = [105, 110] ∧ nameL n = true then (readP r).map fun p => (toS n, some p) else none
        | _ => none) := rfl
      rw [← sq1] at rc
      refine ⟨_, rfl, rfl, _, _, rfl, rfl, by show ((Str.ofString " ").length == 0) = false; rw [ln1]; rfl, by omega, fun M nM => ?_⟩
      generalize Txt.split x (Str.ofString " ") = qs at rc sq2 sq3 sqo ⊢
      have sM := Same.new (o := HO.lst (qs.map V.str)) nM
      have oM : upd G M (.lst (qs.map V.str)) M = some (.lst (qs.map V.str)) := upd_same
      generalize upd G M (HO.lst (qs.map V.str)) = G1 at sM oM ⊢
      have k1 := k.trans sM
      refine ⟨_, rfl, M, _, rfl, .inl (.inl (.inl oM)), rfl, !decide (V.int (((qs.map V.str).length : Nat) : Int) = V.int 3), rfl, ?_⟩
      by_cases c3 : qs.length = 3
      case neg =>
        have e3 : decide (V.int (((qs.map V.str).length : Nat) : Int) = V.int 3) = false := decide_eq_false fun z => by
          have z' := V.int.inj z
          rw [List.length_map] at z'
          omega
        rw [e3]
        refine iteT (iteT (bad ?_ _ k1))
        rw [rc]
        match qs, c3 with
        | [], _ => rfl
        | [_], _ => rfl
        | [_, _], _ => rfl
        | [_, _, _], c3 => exact absurd rfl c3
        | _ :: _ :: _ :: _ :: _, _ => rfl
      obtain ⟨n, j, o, rfl⟩ : ∃ n j o, qs = [n, j, o] := by
        match qs, c3 with
        | [n, j, o], _ => exact ⟨n, j, o, rfl⟩
      have rc' : readC (TL.tl x) = if TL.tl j = [105, 110] ∧ nameL (TL.tl n) = true then (readP (TL.tl o)).map fun p => (toS (TL.tl n), some p) else none := rc
      rw [toS_tl] at rc'
      have ln : n.length ≤ 80000 := Nat.le_trans (len_in (ws := [n, j, o]) (by simp)) (by omega)
      have lo : o.length ≤ 80000 := Nat.le_trans (len_in (ws := [n, j, o]) (by simp)) (by omega)
      have on := sqo n (by simp)
      have oo := sqo o (by simp)
      refine iteF ⟨_, rfl, M, _, 1, .str j, rfl, rfl, .inl (.inl oM), atI_nat (j := 1) rfl, rfl, !decide (V.str j = V.str (Str.ofString "in")), rfl, ?_⟩
      rw [str_dec, tl_in]
      by_cases cj : TL.tl j = [105, 110]
      case neg =>
        rw [decide_eq_false cj]
        exact iteT (iteT (bad (by rw [rc', if_neg fun z => cj z.1]) _ k1))
      rw [decide_eq_true cj]
      refine iteF ⟨_, rfl, M, _, 0, .str n, rfl, rfl, .inl (.inl oM), atI_nat (j := 0) rfl, n, rfl, by omega, on, fun G2 k2 => ⟨_, rfl, ?_⟩⟩
      have k12 := k1.trans k2
      cases cn : nameL (TL.tl n) with
      | false => exact iteT (iteT (bad (by rw [rc', if_neg (by rw [cn]; exact fun z => Bool.false_ne_true z.2)]) _ k12))
      | true =>
        rw [cn] at rc'
        rw [if_pos ⟨cj, rfl⟩] at rc'
        refine iteF ⟨_, rfl, M, _, 2, .str o, rfl, rfl, .inl (.inl (k2 _ _ oM)), atI_nat (j := 2) rfl, o, rfl, by omega, oo, fun v G3 k3 dv => ⟨by show 0 ≤ sizeLine; decide, fun N nN => ?_⟩⟩
        have sN := Same.new (o := HO.lst []) nN
        refine ⟨_, _, dp_same sN dv, .lst (.inl (.inl upd_same)) .nil, (Ly.list (k := 2) (lyA_of fun d md => ?_)).shaped, (Ly.list (k := 0) LyAll.nil).shaped, _, rfl, ?_⟩
        · obtain ⟨p, _, rfl⟩ := List.mem_map.mp md
          exact ly_rg _
        rw [eqv_nil, List.isEmpty_map]
        have k13 := (k12.trans k3).trans sN
        have kG := ((sM.trans k2).trans k3).trans sN
        cases ep : readP (TL.tl o) with
        | none =>
          rw [ep] at rc'
          exact iteT (bad rc' _ k13)
        | some p =>
          rw [ep] at rc'
          have oM2 := ((k2.trans k3).trans sN) _ _ oM
          generalize upd G3 N (HO.lst []) = G4 at sN k13 kG oM2 ⊢
          refine iteF ?_
          refine ⟨_, rfl, ty_lst (kG _ _ oLG), _, rfl, M, _, 0, .str n, rfl, rfl, .inl (.inl oM2), atI_nat (j := 0) rfl, _, rfl, M, _, 2, .str o, rfl, rfl, .inl (.inl oM2), atI_nat (j := 2) rfl, o, rfl, by omega, oo, fun v2 G5 k5 dv2 => ?_⟩
          rw [ep] at dv2
          obtain ⟨pv, xs, rfl, sx, ax⟩ := dp_lst_inv dv2
          obtain ⟨vv, w1, rfl, h1, ax⟩ := dpa_cons_inv ax
          obtain rfl := dpa_nil_inv ax
          refine ⟨pv, _, 0, vv, rfl, rfl, sx, atI_nat (j := 0) rfl, by show 2 ≤ sizeLine; decide, fun T nT => ?_⟩
          have sT := Same.new (o := HO.tup [V.str n, vv]) nT
          have kG2 := (kG.trans k5).trans sT
          have dT : Dp K (upd G5 T (HO.tup [V.str n, vv])) (.ref T) (cdD (n, some p)) := .tup (.inl (.inl upd_same)) (.cons (.str _) (.cons (dp_same sT h1) .nil))
          generalize upd G5 T (HO.tup [V.str n, vv]) = G6 at sT kG2 dT ⊢
          have oL6 := kG2 _ _ oLG
          have kl : Kl L G6 (upd G6 L (.lst (zs ++ [.ref T]))) := ⟨⟨_, oL6⟩, Kp.at⟩
          refine ⟨L, zs, .ref T, rfl, rfl, oL6, by rw [lz]; omega, ⟨_, _, rfl⟩, fun b u e => ?_, ?_, zs ++ [.ref T], cs ++ [(n, some p)], upd_same, by rw [List.length_append, lz]; rfl, ?_, ?_⟩
          · rw [upd_ne (ne_of_none e nL)]
            exact kG2 _ _ (k _ _ e)
          · rw [upd_ne neLP]
            exact kG2 _ _ oPG
          · rw [tk, List.map_append, List.map_append]
            show allS (_ ++ [readC (TL.tl x)]) = _
            rw [rc', allS_snoc eall]
            rfl
          · rw [List.map_append]
            exact dpa_app (dpa_kl kl (dpa_same kG2 da) (noL_map cs)) (.cons (dp_kl kl dT (noL_cd _)) .nil)
    · rintro σ G ⟨⟨y2, y3, rfl⟩, k, oPG, zs, cs, oLG, lz, eall, da⟩
      rw [List.length_map, List.take_length] at eall
      refine ⟨_, rfl, _, zs, rfl, .inl ⟨.inl (.inl oLG), fun l nl => ⟨by show 1 ≤ sizeLine; decide, fun z nz => ?_⟩⟩⟩
      have s1 := Same.new (o := HO.tup zs) nl
      have s2 := Same.new (o := HO.lst [V.ref l]) nz
      refine q z [.ref l] _ ((k.trans s1).trans s2) ((k.trans s1).free nz) upd_same ?_
      rw [rd, eall]
      exact .cons (.tup (.inl (.inl (s2 _ _ upd_same))) (dpa_same (s1.trans s2) da)) .nil
end

end Pk43
namespace Pk43
open PySem PySem.Spec PyProof.Rows L2 Gd
section
variable {P : Program} {w : World} {K : PySem.W.Frag} {mg : Str → Option Value} {base : Heap}
set_option maxHeartbeats 8000000 in
-- _law_rule_of: level 4; builtins ['int', 'len']; cells []; slots: 0 wording, 1 some, 2 found, 3 conditions, 4 size, 5 begin, 6 rest, 7 numbers, 8 there, 9 add
theorem ok__law_rule_of (h : At K mg "_law_rule_of" s__law_rule_of ["wording"]) (D__law_conditions_of : Dn P w K mg base 3 "_law_conditions_of" s__law_conditions_of ["wording"] (sp__law_conditions_of K)) (D__law_integer : Dn P w K mg base 1 "_law_integer" s__law_integer ["wording"] (sp__law_integer K)) (D__law_is_title : Dn P w K mg base 1 "_law_is_title" s__law_is_title ["wording"] (sp__law_is_title K)) (D__law_reach_of : Dn P w K mg base 2 "_law_reach_of" s__law_reach_of ["wording"] (sp__law_reach_of K)) (D__law_rule_text : Dn P w K mg base 3 "_law_rule_text" s__law_rule_text ["rule_now"] (sp__law_rule_text K)) (m_int : mg "int" = none) (m_len : mg "len" = none) : Dn P w K mg base 4 "_law_rule_of" s__law_rule_of ["wording"] (sp__law_rule_of K) := by
  refine .mk' h fun f fd F => F.ok sc__law_rule_of (fun vs H Q E h => ?_) (fun cdv A outer s H vs Q E hr h => ?_)
  · obtain ⟨a, rfl, la, oa, q⟩ := h
    rfl
  · obtain ⟨a, rfl, la, oa, q⟩ := h
    refine ⟨_, (pss_cons (ps_par3 (i := 1) (j := 2) (l := 3) rfl sc__law_rule_of.nd rfl rfl rfl (by decide) (by decide) (by decide) rfl rfl rfl (pa_cons (pe_bm PySem.F.plainAttrs_str PySem.F.slot_str_split PySem.F.type_str_split mt_split (pv 0) (pa_cons pe_str pa_nil)) (pa_cons (pe_lst pa_nil) (pa_cons (pe_lst (pa_cons (pe_tup pa_nil) pa_nil)) pa_nil))) (by rfl))
      (pss_cons (ps_set (i := 4) sc__law_rule_of.nd rfl (.inl rfl) pe_int)
      (C8.pss_cut (ps_if (pt_cmpR (op_eqD hr.units) (pe_slice sl_list (pv 1) (po_some pe_int) (po_some pe_int)) (pe_lst (pa_cons pe_str pa_nil)) (nomark _))
        (pss_one (ps_set (i := 4) sc__law_rule_of.nd rfl (.inl rfl) pe_int))
        (pss_one (ps_if (pt_cmpR (op_eqD hr.units) (pe_slice sl_list (pv 1) (po_some pe_int) (po_some pe_int)) (pe_lst (pa_cons pe_str pa_nil)) (nomark _))
          (pss_one (ps_set (i := 4) sc__law_rule_of.nd rfl (.inl rfl) pe_int))
          pss_nil)))
      (pss_cons (ps_par (i := 5) (j := 6) rfl sc__law_rule_of.nd rfl rfl (by decide) rfl rfl (pa_cons (pe_slice sl_list (pv 1) po_none (po_some (pv 4))) (pa_cons (pe_slice sl_list (pv 1) (po_some (pv 4)) po_none) pa_nil)) (by rfl))
      (C8.pss_cut (ps_if (pt_cmpR (op_neD hr.units) (pv 6) (pe_lst pa_nil) (nomark _))
        (pss_one (ps_set (i := 3) sc__law_rule_of.nd rfl (.inl rfl) (pe_c D__law_conditions_of hr (by rfl) (pa_cons (pe_bm PySem.F.plainAttrs_str PySem.F.slot_str_join PySem.F.type_str_join mt_join pe_str (pa_cons (pe_slice sl_list (pv 6) (po_some pe_int) po_none) pa_nil)) pa_nil))))
        pss_nil)
      (pss_cons (ps_if (PW.pt (pw_or (pt_cmpR (op_eqD hr.units) (pv 3) (pe_lst pa_nil) (nomark _)) (pw_or1 (pt_cmpR (op_notInT (unitsD hr)) (pe_slice sl_list (pv 6) po_none (po_some pe_int)) (pe_tup (pa_cons (pe_lst pa_nil) (pa_cons (pe_lst (pa_cons pe_str pa_nil)) pa_nil))) (by rfl)))))
        (pss_one (ps_ret (pe_lst pa_nil)))
        pss_nil)
      (pss_cons (ps_if (PW.pt (pw_or (pt_cmpR op_lt (pe_callB call_len_seq (by rfl) m_len PySem.boot_len (pa_cons (pv 5) pa_nil)) (pv 4) (nomark _)) (pw_or1 (pt_not (pt_val (pe_c D__law_is_title hr (by rfl) (pa_cons (pe_ix ix_list (pv 1) pe_int (fun _ _ => rfl)) pa_nil)))))))
        (pss_one (ps_ret (pe_lst pa_nil)))
        pss_nil)
      (C8.pss_cut (ps_if (PW.pt (pw_and (pt_cmpR op_eq (pv 4) pe_int (nomark _)) (pw_and1 (pt_cmpR (op_neD hr.units) (pe_c D__law_reach_of hr (by rfl) (pa_cons (pe_ix ix_list (pv 1) pe_int (fun _ _ => rfl)) pa_nil)) (pe_lst pa_nil) (nomark _)))))
        (pss_one (ps_set (i := 2) sc__law_rule_of.nd rfl (.inl rfl) (pe_lst (pa_cons (pe_tup (pa_cons pe_str (pa_cons (pe_ix ix_list (pv 1) pe_int (fun _ _ => rfl)) (pa_cons (pe_ix ix_list (pe_c D__law_reach_of hr (by rfl) (pa_cons (pe_ix ix_list (pv 1) pe_int (fun _ _ => rfl)) pa_nil)) pe_int (fun _ _ => rfl)) (pa_cons (pe_ix ix_list (pv 3) pe_int (fun _ _ => rfl)) pa_nil))))) pa_nil))))
        pss_nil)
      (C8.pss_cut (ps_if (PW.pt (pw_and (pt_cmpR op_gt (pv 4) pe_int (nomark _)) (pw_and (pt_cmpR op_eq (pe_ix ix_list (pv 1) pe_int (fun _ _ => rfl)) pe_str (nomark _)) (pw_and (pt_cmpR op_in_seq (pe_ix ix_list (pv 1) pe_int (fun _ _ => rfl)) (pe_tup (pa_cons pe_str (pa_cons pe_str pa_nil))) (by rfl)) (pw_and1 (pt_val (pe_c D__law_is_title hr (by rfl) (pa_cons (pe_ix ix_list (pv 1) pe_int (fun _ _ => rfl)) pa_nil))))))))
        (pss_cons (ps_par (i := 7) (j := 8) rfl sc__law_rule_of.nd rfl rfl (by decide) rfl rfl (pa_cons (pe_op op_cat (pe_c D__law_integer hr (by rfl) (pa_cons (pe_ix ix_list (pv 1) pe_int (fun _ _ => rfl)) pa_nil)) (pe_c D__law_integer hr (by rfl) (pa_cons (pe_ix ix_list (pv 1) pe_int (fun _ _ => rfl)) pa_nil))) (pa_cons (pe_lst (pa_cons (pe_tup (pa_cons pe_non (pa_cons pe_non pa_nil))) pa_nil)) pa_nil)) (by rfl))
        (C8.pss_cut (ps_if (pt_cmpR op_eq (pv 4) pe_int (nomark _))
          (pss_one (ps_set (i := 8) sc__law_rule_of.nd rfl (.inl rfl) (pe_c D__law_reach_of hr (by rfl) (pa_cons (pe_ix ix_list (pv 1) pe_int (fun _ _ => rfl)) pa_nil))))
          pss_nil)
        (pss_one (ps_if (PW.pt (pw_and (pt_cmpR op_eq (pe_callB call_len_seq (by rfl) m_len PySem.boot_len (pa_cons (pv 7) pa_nil)) pe_int (nomark _)) (pw_and (pt_cmpR op_ne (pe_ix ix_list (pv 7) pe_int (fun _ _ => rfl)) pe_int (nomark _)) (pw_and1 (pt_cmpR (op_neD hr.units) (pv 8) (pe_lst pa_nil) (nomark _))))))
          (pss_cons (ps_set (i := 9) sc__law_rule_of.nd rfl (.inl rfl) (pe_op op_mulW (pe_ix ix_list (pv 7) pe_int (fun _ _ => rfl)) (pe_ix ix_tup (pe_tup (pa_cons pe_int (pa_cons (pe_un un_neg pe_int) pa_nil))) (pe_callTy call_int1 (by rfl) m_int (by decide +kernel) (pa_cons (pe_cmpR op_eq (pe_ix ix_list (pv 1) pe_int (fun _ _ => rfl)) pe_str (nomark _)) pa_nil)) (fun _ _ => rfl))))
          (pss_one (ps_set (i := 2) sc__law_rule_of.nd rfl (.inl rfl) (pe_lst (pa_cons (pe_tup (pa_cons pe_str (pa_cons (pe_ix ix_list (pv 1) pe_int (fun _ _ => rfl)) (pa_cons (pe_ix ix_list (pv 1) pe_int (fun _ _ => rfl)) (pa_cons (pe_ix ix_list (pv 7) pe_int (fun _ _ => rfl)) (pa_cons (pv 9) (pa_cons (pe_ix ix_list (pv 8) pe_int (fun _ _ => rfl)) (pa_cons (pe_ix ix_list (pv 3) pe_int (fun _ _ => rfl)) pa_nil)))))))) pa_nil)))))
          pss_nil))))
        pss_nil)
      (pss_cons (ps_if (PW.pt (pw_or (pt_cmpR (op_eqD hr.units) (pv 2) (pe_lst pa_nil) (nomark _)) (pw_or1 (pt_cmpR op_ne (pe_c D__law_rule_text hr (by rfl) (pa_cons (pe_ix ix_list (pv 2) pe_int (fun _ _ => rfl)) pa_nil)) (pv 0) (nomark _)))))
        (pss_one (ps_ret (pe_lst pa_nil)))
        pss_nil)
      (pss_one (ps_ret (pv 2))))))))))))), ?_⟩
    have line : (sizeLine : Nat) = 16777216 := sizeLine_eq
    obtain ⟨sp1, sp2, sp3⟩ := split_sp a
    obtain ⟨_, _, so1, so⟩ := split_told a (Str.ofString " ") (by rw [tl_space]; simp) (by decide +kernel) oa
    have len : ((wordsT (TL.tl a)).map List.length).sum + (wordsT (TL.tl a)).length ≤ 69000 := by
      rw [← sp1, tl_lens, List.length_map]
      omega
    have cr := cand_read len
    have cok : ∀ r, candL (wordsT (TL.tl a)) = some r → TxOk r := fun r e => cand_ok e len
    rw [← sp1] at cr cok
    refine ⟨_, rfl, rfl, _, _, rfl, rfl, by show ((Str.ofString " ").length == 0) = false; rw [ln1]; rfl, by omega, fun P nP => ?_⟩
    generalize Txt.split a (Str.ofString " ") = ws at sp2 sp3 so1 so cr cok ⊢
    have sP := Same.new (o := HO.lst (ws.map V.str)) nP
    have oP : upd H P (.lst (ws.map V.str)) P = some (.lst (ws.map V.str)) := upd_same
    generalize upd H P (HO.lst (ws.map V.str)) = H1 at sP oP ⊢
    have badR : readRl (TL.tl a) = none → ∀ G, Same H1 G → (List.length ([] : List V) ≤ sizeLine ∧ ∀ p, G p = none → Q (.ref p) (upd G p (.lst []))) := fun no G k => ⟨by show 0 ≤ sizeLine; decide, fun p np => q _ _ ((sP.trans k).trans (Same.new np)) (by
      rw [no]
      exact .lst (.inl (.inl upd_same)) .nil)⟩
    have bad : candL (ws.map TL.tl) = none → ∀ G, Same H1 G → (List.length ([] : List V) ≤ sizeLine ∧ ∀ p, G p = none → Q (.ref p) (upd G p (.lst []))) := fun no => badR (by rw [← cr, no])
    refine ⟨by show 0 ≤ sizeLine; decide, fun F nF => ⟨by show 0 ≤ sizeLine; decide, fun T nT => ⟨by show 1 ≤ sizeLine; decide, fun C nC => ?_⟩⟩⟩
    have sF := Same.new (o := HO.lst []) nF
    have oF : upd H1 F (.lst []) F = some (.lst []) := upd_same
    generalize upd H1 F (HO.lst []) = H2 at sF oF nT nC ⊢
    have sT := Same.new (o := HO.tup []) nT
    have oT : upd H2 T (.tup []) T = some (.tup []) := upd_same
    generalize upd H2 T (HO.tup []) = H3 at sT oT nC ⊢
    have sC := Same.new (o := HO.lst [.ref T]) nC
    have dC : Dp K (upd H3 C (.lst [.ref T])) (.ref C) (.list [.tuple []]) := .lst (.inl (.inl upd_same)) (.cons (.tup (.inl (.inl (sC _ _ oT))) .nil) .nil)
    generalize upd H3 C (HO.lst [.ref T]) = H4 at sC dC ⊢
    have k14 := (sF.trans sT).trans sC
    have dF : Dp K H4 (.ref F) (.list []) := .lst (.inl (.inl ((sT.trans sC) _ _ oF))) .nil
    refine ⟨_, _, _, rfl, ?_⟩
    -- the size
    have tk : ∀ i j : Nat, cutV (ws.map V.str) (some (i : Int)) (some ((i + j : Nat) : Int)) = ((ws.drop i).take j).map V.str := fun i j => by
      rw [cutV_mid _ _ _ (Nat.le_add_right i j), List.map_take, List.map_drop, Nat.add_sub_cancel_left]
    have okS : ∀ i j, ∀ x ∈ (ws.drop i).take j, okT (TL.tl x) := fun i j x m => so x (List.mem_of_mem_drop (List.mem_of_mem_take m))
    have tkl : ∀ (i j : Nat) (w : Str), decide ((ws.drop i).take j = [w]) = decide (((ws.map TL.tl).drop i).take j = [TL.tl w]) := fun i j w => by
      rw [dec_strs, List.map_take, List.map_drop]
      rfl
    refine ⟨fun σ G => σ = [some (V.str a), some (.ref P), some (.ref F), some (.ref C), some (.int (sizeW (ws.map TL.tl) : Nat)), none, none, none, none, none] ∧ Same H4 G, ?_, ?_⟩
    · refine ⟨_, rfl, _, rfl, _, rfl, slL (.inl (.inl (k14 _ _ oP))) fun p H5 k5 n5 o5 => ⟨by show 1 ≤ sizeLine; decide, fun M nM => ?_⟩⟩
      rw [show cutV (ws.map V.str) (some 1) (some 2) = ((ws.drop 1).take 1).map V.str from tk 1 1] at o5
      have sM := Same.new (o := HO.lst [V.str (Str.ofString "is")]) nM
      refine ⟨_, .list ([Str.ofString "is"].map PyData.str), .lst (.inl (.inl (sM _ _ o5))) (dpl_strs _), .lst (.inl (.inl upd_same)) (dpl_strs [Str.ofString "is"]), (ly_strs (okS 1 1)).shaped, (ly_strs fun x m => ?_).shaped, _, rfl, ?_⟩
      · rw [List.mem_singleton.mp m]
        exact okT_lit (by decide)
      rw [eqv_strs, tkl, tl_is]
      by_cases c : ((ws.map TL.tl).drop 1).take 1 = [[105, 115]]
      · rw [decide_eq_true c]
        refine iteT ⟨?_, k5.trans sM⟩
        unfold sizeW
        rw [if_pos c]
        rfl
      · rw [decide_eq_false c]
        refine iteF ⟨_, rfl, _, rfl, _, rfl, slL (.inl (.inl ((k14.trans (k5.trans sM)) _ _ oP))) fun p2 H6 k6 n6 o6 => ⟨by show 1 ≤ sizeLine; decide, fun M2 nM2 => ?_⟩⟩
        rw [show cutV (ws.map V.str) (some 6) (some 7) = ((ws.drop 6).take 1).map V.str from tk 6 1] at o6
        have sM2 := Same.new (o := HO.lst [V.str (Str.ofString "in")]) nM2
        refine ⟨_, .list ([Str.ofString "in"].map PyData.str), .lst (.inl (.inl (sM2 _ _ o6))) (dpl_strs _), .lst (.inl (.inl upd_same)) (dpl_strs [Str.ofString "in"]), (ly_strs (okS 6 1)).shaped, (ly_strs fun x m => ?_).shaped, _, rfl, ?_⟩
        · rw [List.mem_singleton.mp m]
          exact okT_lit (by decide)
        rw [eqv_strs, tkl, tl_in]
        have kk := ((k5.trans sM).trans k6).trans sM2
        by_cases c2 : ((ws.map TL.tl).drop 6).take 1 = [[105, 110]]
        · rw [decide_eq_true c2]
          refine iteT ⟨?_, kk⟩
          unfold sizeW
          rw [if_neg c, if_pos c2]
          rfl
        · rw [decide_eq_false c2]
          refine iteF ⟨?_, kk⟩
          unfold sizeW
          rw [if_neg c, if_neg c2]
          rfl
    rintro σ G ⟨rfl, kG⟩
    have z38 : sizeW (ws.map TL.tl) = 3 ∨ sizeW (ws.map TL.tl) = 6 ∨ sizeW (ws.map TL.tl) = 8 := by
      unfold sizeW
      split
      · exact .inl rfl
      · split
        · exact .inr (.inr rfl)
        · exact .inr (.inl rfl)
    have cd : candL (ws.map TL.tl) = match readWh ((ws.map TL.tl).drop (sizeW (ws.map TL.tl))) with
      | none => none
      | some cs => if (ws.map TL.tl).length < sizeW (ws.map TL.tl) ∨ nameL (at0 (ws.map TL.tl) 0) = false then none else foundL (sizeW (ws.map TL.tl)) (ws.map TL.tl) cs := rfl
    generalize sizeW (ws.map TL.tl) = z at z38 cd ⊢
    have k1G := k14.trans kG
    have oPG := k1G _ _ oP
    refine ⟨_, rfl, _, rfl, _, rfl, slL (.inl (.inl oPG)) fun B H5 k5 n5 oB => ⟨_, rfl, _, rfl, _, rfl, slLn (.inl (.inl (k5 _ _ oPG))) fun R H6 k6 n6 oR => ⟨_, _, rfl, ?_⟩⟩⟩
    rw [cutV_take, ← List.map_take] at oB
    rw [cutV_drop, ← List.map_drop] at oR
    have oB6 := k6 _ _ oB
    have k6' := (kG.trans k5).trans k6
    have okR : ∀ x ∈ ws.drop z, okT (TL.tl x) := fun x m => so x (List.mem_of_mem_drop m)
    have mdr : (ws.map TL.tl).drop z = (ws.drop z).map TL.tl := by rw [List.map_drop]
    rw [mdr] at cd
    have sdr : ((ws.drop z).map (·.length)).sum + (ws.drop z).length ≤ 61000 := by
      have e := List.take_append_drop z ws
      have s : (ws.map (·.length)).sum = ((ws.take z).map (·.length)).sum + ((ws.drop z).map (·.length)).sum := by
        conv => lhs; rw [← e]
        rw [List.map_append, List.sum_append]
      rw [List.length_drop]
      omega
    refine ⟨fun σ G => (∃ vc, σ = [some (V.str a), some (.ref P), some (.ref F), some vc, some (.int (z : Nat)), some (.ref B), some (.ref R), none, none, none] ∧ Dp K G vc (.list ((condW ((ws.drop z).map TL.tl)).toList.map fun c => .tuple (c.map cdD)))) ∧ Same H6 G, ?_, ?_⟩
    · refine ⟨_, rfl, by show 0 ≤ sizeLine; decide, fun M nM => ?_⟩
      have sM := Same.new (o := HO.lst []) nM
      refine ⟨_, _, .lst (.inl (.inl (sM _ _ oR))) (dpl_strs _), .lst (.inl (.inl upd_same)) .nil, (ly_strs okR).shaped, (Ly.list (k := 0) LyAll.nil).shaped, _, rfl, ?_⟩
      rw [eqv_nil, List.isEmpty_map]
      generalize ws.drop z = rs at oR okR sdr ⊢
      cases rs with
      | nil =>
        refine iteF ⟨⟨.ref C, rfl, ?_⟩, sM⟩
        exact dp_same (k6'.trans sM) dC
      | cons w r =>
        refine iteT ⟨rfl, _, rfl, _, rfl, slLn (.inl (.inl (sM _ _ oR))) fun p1 H7 k7 n7 o7 => ?_⟩
        rw [show cutV ((w :: r).map V.str) (some 1) none = r.map V.str from cutV_drop _ 1] at o7
        rw [List.map_cons, List.sum_cons, List.length_cons] at sdr
        have jl := join_len (y := Str.ofString " ") r
        rw [ln1] at jl
        have tj : TL.tl (Txt.join (Str.ofString " ") r) = TL.joinL [32] (r.map TL.tl) := by
          rw [TL.join_eq, TL.tl_join, tl_space]
        refine ⟨_, p1, r, rfl, rfl, .inl (.inl (.inl o7)), by rw [ln1]; omega, _, rfl, by omega, join_ok (by rw [tl_space]; exact fun c m => by rw [List.mem_singleton.mp m]; decide) fun x m => okR x (List.mem_cons_of_mem _ m), fun p2 xs H8 k8 n8 o8 d8 => ?_⟩
        refine ⟨⟨.ref p2, rfl, ?_⟩, (sM.trans k7).trans k8⟩
        rw [tj] at d8
        exact .lst (.inl (.inl o8)) d8
    rintro σ G2 ⟨⟨vc, rfl, dvc⟩, k2⟩
    have k2G := k6'.trans k2
    refine ⟨_, rfl, by show 0 ≤ sizeLine; decide, fun M nM => ?_⟩
    have sM := Same.new (o := HO.lst []) nM
    refine ⟨_, _, dp_same sM dvc, .lst (.inl (.inl upd_same)) .nil, (ly_cs fun cs e => condW_ok e).shaped, (Ly.list (k := 0) LyAll.nil).shaped, _, rfl, ?_⟩
    rw [eqv_nil, List.isEmpty_map]
    have rwh := readWh_eq ((ws.drop z).map TL.tl)
    cases ec : condW ((ws.drop z).map TL.tl) with
    | none =>
      refine iteT (iteT (bad ?_ _ (k14.trans (k2G.trans sM))))
      rw [cd, rwh, ec, ite_self]
    | some cs =>
      rw [ec] at dvc rwh
      have cdk := condW_ok ec
      refine iteF ⟨_, rfl, _, rfl, slL (.inl (.inl ((k2.trans sM) _ _ oR))) fun p1 H7 k7 n7 o7 => ⟨by show 0 ≤ sizeLine; decide, fun M1 nM1 => ⟨by show 1 ≤ sizeLine; decide, fun M2 nM2 => ⟨by show 2 ≤ sizeLine; decide, fun M3 nM3 => ?_⟩⟩⟩⟩
      rw [show cutV ((ws.drop z).map V.str) none (some 1) = ((ws.drop z).map V.str).take 1 from cutV_take _ 1, ← List.map_take] at o7
      have s1 := Same.new (o := HO.lst []) nM1
      have s2 := Same.new (o := HO.lst [V.str (Str.ofString "when")]) nM2
      have s3 := Same.new (o := HO.tup [.ref M1, .ref M2]) nM3
      refine ⟨_, [.list (([] : List Str).map PyData.str), .list ([Str.ofString "when"].map PyData.str)], .lst (.inl (.inl (((s1.trans s2).trans s3) _ _ o7))) (dpl_strs _), .tup (.inl (.inl upd_same)) (.cons (.lst (.inl (.inl ((s2.trans s3) _ _ upd_same))) .nil) (.cons (.lst (.inl (.inl (s3 _ _ upd_same))) (dpl_strs [Str.ofString "when"])) .nil)), (ly_strs fun x m => okR x (List.mem_of_mem_take m)).shaped, (Ly.tuple (k := 2) (lyA_of fun d md => ?_)).shaped, _, rfl, ?_⟩
      · simp only [List.mem_cons, List.not_mem_nil, or_false] at md
        rcases md with rfl | rfl
        · exact ly_strs fun x m => nomatch m
        · refine ly_strs fun x m => ?_
          rw [List.mem_singleton.mp m]
          exact okT_lit (by decide)
      have kk := ((((k2G.trans sM).trans k7).trans s1).trans s2).trans s3
      have nin : (!([.list (([] : List Str).map PyData.str), .list ([Str.ofString "when"].map PyData.str)] : List PyData).any fun w => PyData.eqv w (.list (((ws.drop z).take 1).map PyData.str))) = !decide (((ws.drop z).map TL.tl).take 1 = [] ∨ ((ws.drop z).map TL.tl).take 1 = [[119, 104, 101, 110]]) := by
        rw [List.any_cons, List.any_cons, List.any_nil, eqv_strs, eqv_strs, Bool.or_false, dec_strs, dec_strs, ← List.map_take]
        rw [List.map_nil, List.map_cons, List.map_nil, tl_when]
        congr 1
        rw [Bool.eq_iff_iff]
        simp only [Bool.or_eq_true, decide_eq_true_eq]
        constructor
        · rintro (e | e)
          · exact .inl e.symm
          · exact .inr e.symm
        · rintro (e | e)
          · exact .inl e.symm
          · exact .inr e.symm
      rw [nin]
      by_cases hw : ((ws.drop z).map TL.tl).take 1 = [] ∨ ((ws.drop z).map TL.tl).take 1 = [[119, 104, 101, 110]]
      case neg =>
        rw [decide_eq_false hw]
        exact iteT (bad (by rw [cd, rwh, if_neg hw]) _ (k14.trans kk))
      rw [decide_eq_true hw]
      rw [if_pos hw] at rwh
      rw [rwh] at cd
      dsimp only at cd
      have kk6 := ((((k2.trans sM).trans k7).trans s1).trans s2).trans s3
      have dvc2 := dp_same (((((sM.trans k7).trans s1).trans s2).trans s3)) dvc
      generalize upd (upd (upd H7 M1 (HO.lst [])) M2 (HO.lst [V.str (Str.ofString "when")])) M3 (HO.tup [.ref M1, .ref M2]) = G3 at kk kk6 dvc2 ⊢
      have oP3 := kk _ _ (k14 _ _ oP)
      have lmin : ((((ws.take z).map V.str).length : Nat) : Int) < (z : Int) ↔ ws.length < z := by
        rw [List.length_map, List.length_take]
        omega
      refine iteF ⟨_, rfl, B, _, rfl, .inl (.inl (.inl (kk6 _ _ oB6))), _, rfl, _, _, rfl, rfl, decide (((((ws.take z).map V.str).length : Nat) : Int) < (z : Int)), rfl, ?_⟩
      by_cases hz : ws.length < z
      · rw [decide_eq_true (lmin.mpr hz)]
        exact iteT (iteT (bad (by rw [cd, if_pos (.inl (by rw [List.length_map]; exact hz))]) _ (k14.trans kk)))
      rw [decide_eq_false (fun y => hz (lmin.mp y))]
      obtain ⟨w0, a0, t0, m0⟩ := get_w (ws := ws) (i := 0) (by omega)
      have lw : ∀ w ∈ ws, w.length ≤ 30000 := fun w m => Nat.le_trans (len_in m) (by omega)
      refine iteF ⟨_, rfl, P, _, 0, .str w0, rfl, rfl, .inl (.inl oP3), a0, w0, rfl, Nat.le_trans (lw w0 m0) (by decide), so w0 m0, fun G4 k4 => ⟨_, rfl, ?_⟩⟩
      cases hn : nameL (TL.tl w0) with
      | false => exact iteT (bad (by rw [cd, if_pos (.inr (by rw [t0]; exact hn))]) _ (k14.trans (kk.trans k4)))
      | true =>
        rw [if_neg (by
          rintro (y | y)
          · rw [List.length_map] at y
            exact hz y
          · rw [t0, hn] at y
            cases y)] at cd
        have kk4 := kk.trans k4
        have oP4 := k4 _ _ oP3
        have dvc4 := dp_same k4 dvc2
        refine iteF ?_
        have wd : ∀ i : Nat, i < z → ∃ w, atI (ws.map V.str) (i : Int) = some (.str w) ∧ at0 (ws.map TL.tl) i = TL.tl w ∧ w.length ≤ 90000 ∧ okT (TL.tl w) := fun i hi => by
          obtain ⟨w, h1, h2, h3⟩ := get_w (ws := ws) (i := i) (by omega)
          exact ⟨w, h1, h2, Nat.le_trans (lw w h3) (by decide), so w h3⟩
        obtain ⟨pc, xc, rfl, sc, ac⟩ := dp_lst_inv dvc4
        obtain ⟨vcc, w', rfl, hcc, ac⟩ := dpa_cons_inv ac
        obtain rfl := dpa_nil_inv ac
        have dF4 := dp_same (kk.trans k4) dF
        have ac0 : atI [vcc] 0 = some vcc := atI_nat (j := 0) rfl
        refine ⟨fun σ G => (∃ vf, σ = [some (V.str a), some (.ref P), some vf, some (.ref pc), some (.int (z : Nat)), some (.ref B), some (.ref R), none, none, none] ∧ Dp K G vf (.list ((if z = 3 then foundL z (ws.map TL.tl) cs else none).toList.map Rl.d))) ∧ Same G4 G, ?_, ?_⟩
        · refine ⟨_, rfl, rfl, decide (V.int ((z : Nat) : Int) = V.int 3), rfl, ?_⟩
          by_cases c3 : z = 3
          case neg =>
            rw [decide_eq_false (fun y => c3 (by have := V.int.inj y; omega)), if_neg c3]
            exact iteF (iteF ⟨⟨_, rfl, dF4⟩, Same.refl _⟩)
          rw [decide_eq_true (by rw [c3]; rfl), if_pos c3]
          obtain ⟨w2, a2, t2, l2, o2⟩ := wd 2 (by omega)
          refine iteT ⟨_, rfl, P, _, 2, .str w2, rfl, rfl, .inl (.inl oP4), a2, w2, rfl, by omega, o2, fun v G5 k5 dv => ⟨by show 0 ≤ sizeLine; decide, fun M nM => ?_⟩⟩
          have sM := Same.new (o := HO.lst []) nM
          refine ⟨_, _, dp_same sM dv, .lst (.inl (.inl upd_same)) .nil, (Ly.list (k := 2) (lyA_of fun d md => ?_)).shaped, (Ly.list (k := 0) LyAll.nil).shaped, _, rfl, ?_⟩
          · obtain ⟨p, _, rfl⟩ := List.mem_map.mp md
            exact ly_rg _
          rw [eqv_nil, List.isEmpty_map]
          have fe : foundL z (ws.map TL.tl) cs = (readP (TL.tl w2)).map fun p => .set w0 (some p) cs := by
            unfold foundL
            rw [if_pos c3, t2, t0, toS_tl]
          rw [fe]
          cases ep : readP (TL.tl w2) with
          | none => exact iteF ⟨⟨_, rfl, dp_same (k5.trans sM) dF4⟩, k5.trans sM⟩
          | some p =>
            have oP5 := (k5.trans sM) _ _ oP4
            have k5M := k5.trans sM
            generalize upd G5 M (HO.lst []) = G6 at oP5 k5M
            refine iteT ⟨_, rfl, P, _, 0, .str w0, rfl, rfl, .inl (.inl oP5), a0, _, rfl, P, _, 2, .str w2, rfl, rfl, .inl (.inl oP5), a2, w2, rfl, by omega, o2, fun v2 G7 k7 dv2 => ?_⟩
            rw [ep] at dv2
            obtain ⟨pv, xs, rfl, sx, ax⟩ := dp_lst_inv dv2
            obtain ⟨vv, w1, rfl, h1, ax⟩ := dpa_cons_inv ax
            obtain rfl := dpa_nil_inv ax
            refine ⟨pv, _, 0, vv, rfl, rfl, sx, atI_nat (j := 0) rfl, _, rfl, pc, _, 0, vcc, rfl, rfl, (k5M.trans k7).seq sc, ac0, by show 4 ≤ sizeLine; decide, fun T nT => ⟨by show 1 ≤ sizeLine; decide, fun L nL => ?_⟩⟩
            have sT := Same.new (o := HO.tup [V.str (Str.ofString "set"), .str w0, vv, vcc]) nT
            have sL := Same.new (o := HO.lst [V.ref T]) nL
            refine ⟨⟨.ref L, rfl, .lst (.inl (.inl upd_same)) (.cons (.tup (.inl (.inl (sL _ _ upd_same))) (.cons (.str _) (.cons (.str _) (.cons (dp_same (sT.trans sL) h1) (.cons (dp_same (((k5M.trans k7).trans sT).trans sL) hcc) .nil))))) .nil)⟩, ((k5M.trans k7).trans sT).trans sL⟩
        rintro σ G5 ⟨⟨vf, rfl, dvf⟩, k5⟩
        refine ⟨fun σ G => (∃ vf y7 y8 y9, σ = [some (V.str a), some (.ref P), some vf, some (.ref pc), some (.int (z : Nat)), some (.ref B), some (.ref R), y7, y8, y9] ∧ Dp K G vf (.list ((foundL z (ws.map TL.tl) cs).toList.map Rl.d))) ∧ Same G4 G, ?_, ?_⟩
        · have oP5 := k5 _ _ oP4
          refine ⟨_, rfl, _, _, rfl, rfl, decide ((3 : Int) < ((z : Nat) : Int)), rfl, ?_⟩
          by_cases c3 : z = 3
          · rw [decide_eq_false (by omega)]
            rw [if_pos c3] at dvf
            exact iteF (iteF ⟨⟨vf, none, none, none, rfl, dvf⟩, k5⟩)
          rw [decide_eq_true (by omega)]
          rw [if_neg c3] at dvf
          obtain ⟨w1, a1, t1, l1, o1⟩ := wd 1 (by omega)
          obtain ⟨w2, a2, t2, l2, o2⟩ := wd 2 (by omega)
          obtain ⟨w3, a3, t3, l3, o3⟩ := wd 3 (by omega)
          obtain ⟨w4, a4, t4, l4, o4⟩ := wd 4 (by omega)
          obtain ⟨w5, a5, t5, l5, o5⟩ := wd 5 (by omega)
          have fe : foundL z (ws.map TL.tl) cs = if TL.tl w1 = [102, 114, 111, 109] ∧ (TL.tl w4 = [43] ∨ TL.tl w4 = [45]) ∧ nameL (TL.tl w3) = true then
              (match readI (TL.tl w2), readI (TL.tl w5), (if z = 8 then readP (at0 (ws.map TL.tl) 7) else some (none, none)) with
                | some f, some a, some p => if f = 0 then none else some (.stp w0 w3 f (a * (if TL.tl w4 = [45] then -1 else 1)) (some p) cs)
                | _, _, _ => none)
            else none := by
            unfold foundL
            rw [if_neg c3, t0, t1, t2, t3, t4, t5, toS_tl, toS_tl]
            all_goals rfl
          have no : foundL z (ws.map TL.tl) cs = none → ∀ G y7 y8 y9, Same G5 G → (∃ vf' y7' y8' y9', [some (V.str a), some (.ref P), some vf, some (.ref pc), some (.int (z : Nat)), some (.ref B), some (.ref R), y7, y8, y9] = [some (V.str a), some (.ref P), some vf', some (.ref pc), some (.int (z : Nat)), some (.ref B), some (.ref R), y7', y8', y9'] ∧ Dp K G vf' (.list ((foundL z (ws.map TL.tl) cs).toList.map Rl.d))) ∧ Same G4 G := fun e G y7 y8 y9 k => ⟨⟨vf, y7, y8, y9, rfl, by rw [e]; exact dp_same k dvf⟩, k5.trans k⟩
          refine iteT ⟨_, rfl, P, _, 1, .str w1, rfl, rfl, .inl (.inl oP5), a1, rfl, decide (V.str w1 = V.str (Str.ofString "from")), rfl, ?_⟩
          rw [str_dec, tl_from]
          by_cases c1 : TL.tl w1 = [102, 114, 111, 109]
          case neg =>
            rw [decide_eq_false c1]
            exact iteF (iteF (no (by rw [fe, if_neg fun y => c1 y.1]) _ _ _ _ (Same.refl _)))
          rw [decide_eq_true c1]
          refine iteT ⟨_, rfl, P, _, 4, .str w4, rfl, rfl, .inl (.inl oP5), a4, by show 2 ≤ sizeLine; decide, fun T nT => ?_⟩
          have sT := Same.new (o := HO.tup [V.str (Str.ofString "+"), .str (Str.ofString "-")]) nT
          have inn : inV (V.str w4) [V.str (Str.ofString "+"), .str (Str.ofString "-")] = decide (TL.tl w4 = [43] ∨ TL.tl w4 = [45]) := by
            show ((Str.ofString "+" == w4) || ((Str.ofString "-" == w4) || false)) = _
            rw [Bool.or_false, Bool.eq_iff_iff]
            simp only [Bool.or_eq_true, beq_iff_eq, decide_eq_true_eq]
            rw [str_eq, str_eq, tl_plus, show TL.tl (Str.ofString "-") = [45] from tl_minus]
            constructor
            · rintro (e | e)
              · exact .inl e.symm
              · exact .inr e.symm
            · rintro (e | e)
              · exact .inl e.symm
              · exact .inr e.symm
          refine ⟨T, _, rfl, .inr (.inl (.inl upd_same)), rfl, rfl, _, rfl, ?_⟩
          show (if (if false = true then !inV (V.str w4) [V.str (Str.ofString "+"), .str (Str.ofString "-")] else inV (V.str w4) [V.str (Str.ofString "+"), .str (Str.ofString "-")]) = true then _ else _)
          rw [if_neg Bool.false_ne_true, inn]
          by_cases c4 : TL.tl w4 = [43] ∨ TL.tl w4 = [45]
          case neg =>
            rw [decide_eq_false c4]
            exact iteF (iteF (no (by rw [fe, if_neg fun y => c4 y.2.1]) _ _ _ _ sT))
          rw [decide_eq_true c4]
          have oP6 := sT _ _ oP5
          generalize upd G5 T (HO.tup [V.str (Str.ofString "+"), .str (Str.ofString "-")]) = G6 at sT oP6 ⊢
          refine iteT ⟨_, rfl, P, _, 3, .str w3, rfl, rfl, .inl (.inl oP6), a3, w3, rfl, l3, o3, fun G7 k7 => ⟨_, rfl, ?_⟩⟩
          have k57 := sT.trans k7
          cases c5 : nameL (TL.tl w3) with
          | false => exact iteF (no (by rw [fe, if_neg (by rw [c5]; exact fun y => Bool.false_ne_true y.2.2)]) _ _ _ _ k57)
          | true =>
            rw [if_pos ⟨c1, c4, c5⟩] at fe
            have oP7 := k7 _ _ oP6
            refine iteT ⟨_, rfl, P, _, 2, .str w2, rfl, rfl, .inl (.inl oP7), a2, w2, rfl, by omega, o2, fun p2 G8 k8 n8 o8 => ⟨_, rfl, P, _, 5, .str w5, rfl, rfl, .inl (.inl (k8 _ _ oP7)), a5, w5, rfl, by omega, o5, fun p5 G9 k9 n9 o9 => ⟨p2, p5, _, _, rfl, rfl, k9 _ _ o8, o9, ?_, fun N nN => ⟨by show 2 ≤ sizeLine; decide, fun T1 nT1 => ⟨by show 1 ≤ sizeLine; decide, fun L1 nL1 => ⟨_, _, rfl, ?_⟩⟩⟩⟩⟩⟩
            · have tl1 : ∀ o : Option Int, o.toList.length ≤ 1 := fun o => by cases o <;> simp
              have h1 := tl1 (readI (TL.tl w2))
              have h2 := tl1 (readI (TL.tl w5))
              rw [List.length_map, List.length_map, line]
              omega
            have sN := Same.new (o := HO.lst ((readI (TL.tl w2)).toList.map V.int ++ (readI (TL.tl w5)).toList.map V.int)) nN
            have oN : upd G9 N (.lst ((readI (TL.tl w2)).toList.map V.int ++ (readI (TL.tl w5)).toList.map V.int)) N = some (.lst ((readI (TL.tl w2)).toList.map V.int ++ (readI (TL.tl w5)).toList.map V.int)) := upd_same
            generalize upd G9 N (HO.lst ((readI (TL.tl w2)).toList.map V.int ++ (readI (TL.tl w5)).toList.map V.int)) = G10 at sN oN nT1 nL1 ⊢
            have sT1 := Same.new (o := HO.tup [V.non, .non]) nT1
            have oT1 : upd G10 T1 (.tup [V.non, .non]) T1 = some (.tup [V.non, .non]) := upd_same
            generalize upd G10 T1 (HO.tup [V.non, .non]) = G11 at sT1 oT1 nL1 ⊢
            have sL1 := Same.new (o := HO.lst [V.ref T1]) nL1
            have oL1 : upd G11 L1 (.lst [V.ref T1]) L1 = some (.lst [V.ref T1]) := upd_same
            have dL1 : Dp K (upd G11 L1 (.lst [V.ref T1])) (.ref L1) (.list ((some (none, none) : Option (Option Int × Option Int)).toList.map fun p => rgD (some p))) := .lst (.inl (.inl oL1)) (.cons (.tup (.inl (.inl (sL1 _ _ oT1))) (.cons .non (.cons .non .nil))) .nil)
            generalize upd G11 L1 (HO.lst [V.ref T1]) = G12 at sL1 oL1 dL1 ⊢
            have k12 := ((((k57.trans k8).trans k9).trans sN).trans sT1).trans sL1
            have oN12 := (sT1.trans sL1) _ _ oN
            have oP12 := k12 _ _ oP5
            refine ⟨fun σ G => (∃ v8, σ = [some (V.str a), some (.ref P), some vf, some (.ref pc), some (.int (z : Nat)), some (.ref B), some (.ref R), some (.ref N), some v8, none] ∧ Dp K G v8 (.list ((if z = 8 then readP (at0 (ws.map TL.tl) 7) else some (none, none)).toList.map fun p => rgD (some p)))) ∧ Same G12 G, ?_, ?_⟩
            · refine ⟨_, rfl, rfl, decide (V.int ((z : Nat) : Int) = V.int 8), rfl, ?_⟩
              by_cases c8 : z = 8
              · rw [decide_eq_true (by rw [c8]; rfl), if_pos c8]
                obtain ⟨w7, a7, t7, l7, o7⟩ := wd 7 (by omega)
                rw [t7]
                exact iteT ⟨_, rfl, P, _, 7, .str w7, rfl, rfl, .inl (.inl oP12), a7, w7, rfl, by omega, o7, fun v G13 k13 dv => ⟨⟨v, rfl, dv⟩, k13⟩⟩
              · rw [decide_eq_false (fun y => c8 (by have := V.int.inj y; omega)), if_neg c8]
                exact iteF ⟨⟨_, rfl, dL1⟩, Same.refl _⟩
            rintro σ G13 ⟨⟨v8, rfl, dv8⟩, k13⟩
            have oN13 := k13 _ _ oN12
            have oP13 := k13 _ _ oP12
            have k513 := k12.trans k13
            refine ⟨_, rfl, N, _, rfl, .inl (.inl (.inl oN13)), rfl, decide (V.int (((((readI (TL.tl w2)).toList.map V.int ++ (readI (TL.tl w5)).toList.map V.int).length : Nat)) : Int) = V.int 2), rfl, ?_⟩
            cases e2 : readI (TL.tl w2) with
            | none =>
              rw [e2] at fe
              rw [decide_eq_false (by
                intro y
                have y' := V.int.inj y
                generalize readI (TL.tl w5) = o at y'
                cases o <;> simp at y')]
              exact iteF (iteF (no fe _ _ _ _ k513))
            | some f =>
              cases e5 : readI (TL.tl w5) with
              | none =>
                rw [e2, e5] at fe
                rw [decide_eq_false (by
                  intro y
                  have y' := V.int.inj y
                  simp at y')]
                exact iteF (iteF (no fe _ _ _ _ k513))
              | some ad =>
                rw [e2, e5] at fe oN13
                have n0 : atI ((some f).toList.map V.int ++ (some ad).toList.map V.int) 0 = some (.int f) := atI_nat (j := 0) rfl
                have n1 : atI ((some f).toList.map V.int ++ (some ad).toList.map V.int) 1 = some (.int ad) := atI_nat (j := 1) rfl
                refine iteT ⟨_, rfl, N, _, 0, .int f, rfl, rfl, .inl (.inl oN13), n0, rfl, !decide (V.int f = V.int 0), rfl, ?_⟩
                by_cases f0 : f = 0
                · rw [decide_eq_true (by rw [f0])]
                  refine iteF (iteF (no ?_ _ _ _ _ k513))
                  rw [fe]
                  cases (if z = 8 then readP (at0 (ws.map TL.tl) 7) else some (none, none)) with
                  | none => rfl
                  | some p => exact if_pos f0
                rw [decide_eq_false (fun y => f0 (V.int.inj y))]
                refine iteT ⟨_, rfl, by show 0 ≤ sizeLine; decide, fun M nM => ?_⟩
                have sM := Same.new (o := HO.lst []) nM
                refine ⟨_, _, dp_same sM dv8, .lst (.inl (.inl upd_same)) .nil, (Ly.list (k := 2) (lyA_of fun d md => ?_)).shaped, (Ly.list (k := 0) LyAll.nil).shaped, _, rfl, ?_⟩
                · obtain ⟨p, _, rfl⟩ := List.mem_map.mp md
                  exact ly_rg _
                rw [eqv_nil, List.isEmpty_map]
                cases ep : (if z = 8 then readP (at0 (ws.map TL.tl) 7) else some (none, none)) with
                | none =>
                  rw [ep] at fe
                  exact iteF (no fe _ _ _ _ (k513.trans sM))
                | some p =>
                  rw [ep] at fe dv8
                  have fe : foundL z (ws.map TL.tl) cs = some (.stp w0 w3 f (ad * (if TL.tl w4 = [45] then -1 else 1)) (some p) cs) := fe.trans (if_neg f0)
                  obtain ⟨p8, x8, rfl, sx8, ax8⟩ := dp_lst_inv dv8
                  obtain ⟨vv, w', rfl, hvv, ax8⟩ := dpa_cons_inv ax8
                  obtain rfl := dpa_nil_inv ax8
                  have k513M := k513.trans sM
                  have oPM := sM _ _ oP13
                  have oNM := sM _ _ oN13
                  have hvvM := dp_same sM hvv
                  have sx8M := sM.seq sx8
                  generalize upd G13 M (HO.lst []) = G14 at k513M oPM oNM hvvM sx8M
                  have a45 := (readI_exact e5).2
                  obtain ⟨sg, esg, asg, csg⟩ : ∃ sg : Int, (if TL.tl w4 = [45] then -1 else 1) = sg ∧ atI [V.int 1, .int (-1)] (if decide (V.str w4 = V.str (Str.ofString "-")) = true then 1 else 0) = some (.int sg) ∧ CMulW ad sg := by
                    have lg := log45 a45
                    rw [str_dec, show TL.tl (Str.ofString "-") = [45] from tl_minus]
                    by_cases c : TL.tl w4 = [45]
                    · exact ⟨_, if_pos c, by rw [if_pos (decide_eq_true c)]; exact atI_nat (j := 1) rfl, by show ad.natAbs.log2 + (1 : Nat).log2 < 1000000; rw [show (1 : Nat).log2 = 0 from by decide]; omega⟩
                    · exact ⟨_, if_neg c, by rw [if_neg (by simpa using c)]; exact atI_nat (j := 0) rfl, by show ad.natAbs.log2 + (1 : Nat).log2 < 1000000; rw [show (1 : Nat).log2 = 0 from by decide]; omega⟩
                  rw [esg] at fe
                  refine iteT ⟨_, rfl, N, _, 1, .int ad, rfl, rfl, .inl (.inl oNM), n1, _, rfl, by show 2 ≤ sizeLine; decide, fun T2 nT2 => ?_⟩
                  have sT2 := Same.new (o := HO.tup [V.int 1, .int (-1)]) nT2
                  refine ⟨_, rfl, P, _, 4, .str w4, rfl, rfl, .inl (.inl (sT2 _ _ oPM)), a4, rfl, .inr ⟨_, rfl, T2, _, _, _, rfl, rfl, .inl (.inl upd_same), asg, ad, sg, rfl, rfl, csg, ?_⟩⟩
                  have oPT := sT2 _ _ oPM
                  have oNT := sT2 _ _ oNM
                  have hvvT := dp_same sT2 hvvM
                  have sx8T := sT2.seq sx8M
                  have kT := k513M.trans sT2
                  generalize upd G14 T2 (HO.tup [V.int 1, .int (-1)]) = G15 at oPT oNT hvvT sx8T kT
                  refine ⟨_, rfl, P, _, 0, .str w0, rfl, rfl, .inl (.inl oPT), a0, _, rfl, P, _, 3, .str w3, rfl, rfl, .inl (.inl oPT), a3, _, rfl, N, _, 0, .int f, rfl, rfl, .inl (.inl oNT), n0, _, rfl, _, rfl, p8, _, 0, vv, rfl, rfl, sx8T, atI_nat (j := 0) rfl, _, rfl, pc, _, 0, vcc, rfl, rfl, (k5.trans kT).seq sc, ac0, by show 7 ≤ sizeLine; decide, fun T3 nT3 => ⟨by show 1 ≤ sizeLine; decide, fun L nL => ?_⟩⟩
                  have sT3 := Same.new (o := HO.tup [V.str (Str.ofString "step"), .str w0, .str w3, .int f, .int (ad * sg), vv, vcc]) nT3
                  have sL := Same.new (o := HO.lst [V.ref T3]) nL
                  refine ⟨⟨.ref L, _, _, _, rfl, ?_⟩, ((k5.trans kT).trans sT3).trans sL⟩
                  rw [fe]
                  exact .lst (.inl (.inl upd_same)) (.cons (.tup (.inl (.inl (sL _ _ upd_same))) (.cons (.str _) (.cons (.str _) (.cons (.str _) (.cons (.int _) (.cons (.int _) (.cons (dp_same (sT3.trans sL) hvvT) (.cons (dp_same (((k5.trans kT).trans sT3).trans sL) hcc) .nil)))))))) .nil)
        · rintro σ G6 ⟨⟨vf, y7, y8, y9, rfl, dvf⟩, k6⟩
          refine ⟨_, rfl, by show 0 ≤ sizeLine; decide, fun M nM => ?_⟩
          have sM := Same.new (o := HO.lst []) nM
          refine ⟨_, _, dp_same sM dvf, .lst (.inl (.inl upd_same)) .nil, (ly_fd fun r e => cok r (cd.trans e)).shaped, (Ly.list (k := 0) LyAll.nil).shaped, _, rfl, ?_⟩
          rw [eqv_nil, List.isEmpty_map]
          have kM := ((kk4.trans k6).trans sM)
          cases ef : foundL z (ws.map TL.tl) cs with
          | none => exact iteT (iteT (bad (cd.trans ef) _ (k14.trans kM)))
          | some r =>
            rw [ef] at dvf
            have okr := cok r (cd.trans ef)
            rw [cd, ef] at cr
            dsimp only at cr
            obtain ⟨pf, xf, rfl, sf, af⟩ := dp_lst_inv dvf
            obtain ⟨vr, w', rfl, hr, af⟩ := dpa_cons_inv af
            obtain rfl := dpa_nil_inv af
            refine iteF ⟨_, rfl, pf, _, 0, vr, rfl, rfl, sM.seq sf, atI_nat (j := 0) rfl, vr, r, rfl, dp_same sM hr, okr, fun G7 k7 => ⟨_, rfl, rfl, !decide (V.str (showRl r) = V.str a), rfl, ?_⟩⟩
            rw [str_dec]
            by_cases c : TL.tl (showRl r) = TL.tl a
            · rw [decide_eq_true c]
              rw [if_pos c] at cr
              refine iteF ⟨_, rfl, q _ _ ((sP.trans k14).trans (kM.trans k7)) ?_⟩
              rw [← cr]
              exact dp_same (sM.trans k7) dvf
            · rw [decide_eq_false c]
              rw [if_neg c] at cr
              exact iteT (badR cr.symm _ (k14.trans (kM.trans k7)))
end

end Pk43
namespace Pk43
open PySem PySem.Spec PyProof.Rows L2 Gd
section
variable {P : Program} {w : World} {K : PySem.W.Frag} {mg : Str → Option Value} {base : Heap}
set_option maxHeartbeats 8000000 in
-- _law_told: level 10; builtins ['isinstance']; cells []; slots: 0 wording, 1 e
theorem ok__law_told {c0 c1 c2 c3 fI : Addr} (X : ErrT K mg [c0, c1, c2, c3] ["RangeError", "InvalidRange", "InvalidSystem", "Unreadable"] fI) (h : At K mg "_law_told" s__law_told ["wording"]) (D_read_rule : DnX P w K mg base 9 "read_rule" s_read_rule ["text"] (sp_read_rule K [c0, c1, c2, c3])) (m_isinstance : mg "isinstance" = none) : Dn P w K mg base 10 "_law_told" s__law_told ["wording"] (sp__law_told K [c0, c1, c2, c3]) := by
  refine .mk' h fun f fd F => F.ok sc__law_told (fun vs H Q E h => ?_) (fun cdv A outer s H vs Q E hr h => ?_)
  · obtain ⟨a, rfl, la, q⟩ := h
    rfl
  · obtain ⟨a, rfl, la, q⟩ := h
    refine ⟨_, (pss_cons (L2.ps_try_as (i := 1) rfl rfl sc__law_told.nd rfl rfl ⟨rfl, by decide, .inl (X.t 3 _ _ rfl rfl).mg_⟩ L2.takes0 (fun W pn xe tk own =>
        (pss_one (ps_ret (pe_lst (pa_cons (pe_cX tk D_read_rule hr (by rfl) (pa_cons (pv 0) pa_nil)) pa_nil))))) (fun a oe cls d pn zc fl =>
        (pss_one (ps_if (PW.pt (pw_or (pt_cmpR op_ne (pe_valC List.mem_cons_self zc fl X.all (pv 1)) (pv 0) (nomark _)) (pw_or1 (pt_val (pe_callB (r := rIsXTC K a cls d (· ∈ [c0, c1, c2, c3])) (call_isXTC (a := a) (oe := oe) (S := (· ∈ [c0, c1, c2, c3])) List.mem_cons_self zc fl X.all) (by rfl) m_isinstance (by decide +kernel) (pa_cons (pv 1) (pa_cons (pe_tup (pa_cons (pe_glob (v := .ref c1) rfl (X.t 1 _ _ rfl rfl).mg_ rfl) (pa_cons (pe_glob (v := .ref c2) rfl (X.t 2 _ _ rfl rfl).mg_ rfl) pa_nil))) pa_nil)))))))
          (pss_one (ps_ret (pe_lst (pa_cons pe_str pa_nil))))
          pss_nil))))
      (pss_one (ps_ret (pe_lst pa_nil)))), ?_⟩
    have xm := exm_same (i := 3) X rfl (by decide)
    have xs1 := X.sub 3 1 _ _ rfl rfl
    have xs2 := X.sub 3 2 _ _ rfl rfl
    refine ⟨_, rfl, a, rfl, la, fun r e v G k dv => ?_, fun no => ⟨c3, rfl, fun d H1 k1 nd ed => ⟨true, xm, fun _ a' na => ?_, fun z => nomatch z⟩⟩⟩
    · refine ⟨by show 1 ≤ sizeLine; decide, fun p np => q _ _ _ (k.trans (Same.new np)) (k.free np) upd_same ?_⟩
      rw [e]
      exact .cons (dp_same (Same.new np) dv) .nil
    · refine ⟨_, rfl, c3, .str a, rfl, by simp, ⟨d, rfl, rfl, ed⟩, _, rfl, rfl, !decide (V.str a = V.str a), rfl, ?_⟩
      rw [decide_eq_true rfl]
      refine iteF ⟨_, rfl, by show 2 ≤ sizeLine; decide, fun T nT => ?_⟩
      have sT := Same.new (o := HO.tup [V.ref c1, .ref c2]) nT
      refine ⟨c3, T, .str a, _, [.ref c1, .ref c2], false, rfl, by simp, ⟨d, rfl, rfl, sT _ _ ed⟩, upd_same, fun ws h45 => ?_, ?_, _, rfl, ?_⟩
      · obtain ⟨u1, u2, rfl, r1, r2⟩ := vals2 h45
        cases (show u1 = Value.ref c1 from r1)
        cases (show u2 = Value.ref c2 from r2)
        rfl
      · unfold PySem.W.kitAny
        rw [xs1]
        show PySem.W.kitAny K (.ref c3) [.ref c2] = some false
        unfold PySem.W.kitAny
        rw [xs2]
        rfl
      · have k2 := k1.trans sT
        refine iteF ⟨by show 0 ≤ sizeLine; decide, fun p np => q _ _ _ (k2.trans (Same.new np)) (k2.free np) upd_same ?_⟩
        rw [no]
        exact .nil
end

end Pk43
namespace Pk43
open PySem PySem.Spec PyProof.Rows L2 Gd
section
variable {P : Program} {w : World} {K : PySem.W.Frag} {mg : Str → Option Value} {base : Heap}
set_option maxHeartbeats 8000000 in
-- _law_title: level 2; builtins ['range']; cells ['bag']; slots: 0 bag, 1 place
theorem ok__law_title (h : At K mg "_law_title" s__law_title ["bag"]) (D__law_draw : Dn P w K mg base 1 "_law_draw" s__law_draw ["bag", "many"] (sp__law_draw K)) (m_range : mg "range" = none) : Dn P w K mg base 2 "_law_title" s__law_title ["bag"] (sp__law_title K) := by
  refine .mk' h fun f fd F => F.ok sc__law_title (fun vs H Q E h => ?_) (fun cdv A outer s H vs Q E hr h => ?_)
  · obtain ⟨b, ga, n, rfl, bg, hn, q⟩ := h
    rfl
  · obtain ⟨b, ga, n, rfl, bg, hn, q⟩ := h
    refine ⟨_, (pss_cons (ps_if (pt_cmpR op_eq (pe_c D__law_draw hr (by rfl) (pa_cons (pv 0) (pa_cons pe_int pa_nil))) pe_int (nomark _))
        (pss_one (ps_ret (pe_ix ix_tup (pe_tup (pa_cons pe_str (pa_cons pe_str (pa_cons pe_str (pa_cons pe_str (pa_cons pe_str pa_nil)))))) (pe_c D__law_draw hr (by rfl) (pa_cons (pv 0) (pa_cons pe_int pa_nil))) (fun _ _ => rfl))))
        pss_nil)
      (pss_one (ps_ret (pe_bm PySem.F.plainAttrs_str PySem.F.slot_str_join PySem.F.type_str_join mt_join pe_str (pa_cons (pe_lc (own := [("place", 1)]) (g := gName 1) rfl sc__law_title.nd (pi_range1 (by rfl) m_range (pa_cons (pe_op op_add pe_int (pe_c D__law_draw hr (by rfl) (pa_cons (pv 0) (pa_cons pe_int pa_nil)))) pa_nil)) (blkOk_by (N := ["bag", "place"]) (sc := defScope s__law_title) (by decide +kernel)) (fun _ _ _ _ _ => pg_name (i := 1) sc__law_title.nd rfl (Or.inl rfl)) (fun _ _ _ _ _ => pts_nil) (fun _ _ _ _ _ => (pe_ix ix_str pe_str (pe_c D__law_draw hr (by rfl) (pa_cons (pv 0) (pa_cons pe_int pa_nil))) (fun _ _ => rfl)))) pa_nil))))), ?_⟩
    have p200 : (2 : Nat) ^ 200 = 1606938044258990275541962092341162602522202993782792835301376 := by decide
    refine ⟨_, rfl, b, ga, 5, _, rfl, bg, by omega, by decide, by decide, fun g H1 g0 g1 k1 bg1 => ⟨rfl, decide (V.int g = V.int 0), rfl, ?_⟩⟩
    cases decide (V.int g = V.int 0) with
    | true =>
      refine iteT ⟨by show 5 ≤ sizeLine; decide, fun T nT => ?_⟩
      have sT := Same.new (o := HO.tup [V.str (Str.ofString "when"), .str (Str.ofString "in"), .str (Str.ofString "is"), .str (Str.ofString "from"), .str (Str.ofString "none")]) nT
      have oT : upd H1 T (.tup [V.str (Str.ofString "when"), .str (Str.ofString "in"), .str (Str.ofString "is"), .str (Str.ofString "from"), .str (Str.ofString "none")]) T = some (.tup [V.str (Str.ofString "when"), .str (Str.ofString "in"), .str (Str.ofString "is"), .str (Str.ofString "from"), .str (Str.ofString "none")]) := upd_same
      generalize upd H1 T (HO.tup [V.str (Str.ofString "when"), .str (Str.ofString "in"), .str (Str.ofString "is"), .str (Str.ofString "from"), .str (Str.ofString "none")]) = H2 at sT oT ⊢
      have bg2 := bg1.same sT
      refine ⟨_, rfl, b, ga, 5, _, rfl, bg2, by omega, by decide, by decide, fun d H3 d0 d1 k3 bg3 => ?_⟩
      obtain ⟨x, ex, nx⟩ : ∃ x : Str, atI [V.str (Str.ofString "when"), .str (Str.ofString "in"), .str (Str.ofString "is"), .str (Str.ofString "from"), .str (Str.ofString "none")] d = some (.str x) ∧ nameOk x = true := by
        have : d = 0 ∨ d = 1 ∨ d = 2 ∨ d = 3 ∨ d = 4 := by omega
        rcases this with rfl | rfl | rfl | rfl | rfl
        · exact ⟨_, rfl, by decide +kernel⟩
        · exact ⟨_, rfl, by decide +kernel⟩
        · exact ⟨_, rfl, by decide +kernel⟩
        · exact ⟨_, rfl, by decide +kernel⟩
        · exact ⟨_, rfl, by decide +kernel⟩
      refine ⟨T, _, d, _, rfl, rfl, SqT.kb bg2 k3 (K := K) (.inl (.inl oT)), ex, ?_⟩
      exact q x H3 nx ((k1.trans (Kb.of sT)).trans k3) (bg3.mono (by omega))
    | false =>
      refine iteF ⟨rfl, _, rfl, b, ga, 8, _, rfl, bg1, by omega, by decide, by decide, fun c H2 c0 c1 k2 bg2 => ?_⟩
      refine ⟨1, c, rfl, rfl, 1 + c, rfl, Int.le_trans (by decide : (-2 ^ 62 : Int) ≤ 0) (by omega), Int.lt_of_lt_of_le (by omega : 1 + c < 100) (by decide), fun D nD => ?_⟩
      obtain ⟨Db, Dg⟩ := bg2.fresh nD
      have kb0 : ∀ {G : Hp} {o : HO}, Kb b ga H2 G → Kb b ga H2 (upd G D o) := fun {G o} k z u z1 z2 e => by
        rw [upd_ne (ne_of_none e nD)]
        exact k z u z1 z2 e
      refine lc_it (walk_range (n := (1 + c).toNat)) (fun i G => Kb b ga H2 G ∧ Bg (n + 2 + i) G b ga ∧ ∃ xs : List Str, G D = some (.lst (xs.map V.str)) ∧ xs.length = i ∧ ∀ x ∈ xs, ∃ k, TL.tl x = [k] ∧ 97 ≤ k ∧ k ≤ 122) ⟨kb0 Kb.refl, (bg2.upd_ Db Dg).mono (by omega), [], upd_same, rfl, fun x m => nomatch m⟩ (fun _ _ _ _ => trivial) ?_ ?_
      · rintro i z G G' hi ⟨kb, bgG, xs, oD, lx, al⟩ ⟨rfl, rfl⟩
        have hi8 : i < 8 := by omega
        refine ⟨rfl, _, rfl, b, ga, 26, _, rfl, bgG, by omega, by decide, by decide, fun g G3 g0 g1 k bg3 => ?_⟩
        have ll : (Str.ofString "abcdefghijklmnopqrstuvwxyz").length = 26 := len_lit _
        obtain ⟨ch, ec, mc⟩ := sign_at (z := Str.ofString "abcdefghijklmnopqrstuvwxyz") g0 (by rw [ll]; exact g1)
        have lc := let_in ch
        rw [decide_eq_true (show ch ∈ (Str.ofString "abcdefghijklmnopqrstuvwxyz").cps.toList from mc)] at lc
        have lc2 : 97 ≤ ch ∧ ch ≤ 122 := by
          have := lc.symm
          simp only [Bool.and_eq_true, decide_eq_true_eq] at this
          exact this
        have oD3 : G3 D = some (.lst (xs.map V.str)) := k _ _ Db Dg oD
        refine ⟨_, g, ch, rfl, rfl, by rw [ll, sizeLine_eq]; decide, ec, _, oD3, by rw [List.length_map, lx, sizeLine_eq]; omega, kb0 (kb.trans k), (bg3.upd_ Db Dg).mono (by omega), xs ++ [⟨#[ch]⟩], ?_, by rw [List.length_append, lx]; rfl, fun x m => ?_⟩
        · rw [upd_same, List.map_append]
          rfl
        · rcases List.mem_append.mp m with m | m
          · exact al x m
          · rw [List.mem_singleton.mp m]
            exact ⟨ch, rfl, lc2⟩
      · rintro G ⟨kb, bgG, xs, oD, lx, al⟩
        have l8 : 1 ≤ xs.length ∧ xs.length ≤ 8 := by omega
        have nx := name_join l8.1 l8.2 al
        refine ⟨_, D, xs, rfl, rfl, .inl (.inl (.inl oD)), ?_, q _ G nx ((k1.trans k2).trans kb) (bgG.mono (by omega))⟩
        have sm : (xs.map (·.length)).sum ≤ (xs.map (·.length)).length * 1 := sum_le fun m mm => by
          obtain ⟨x, mx, rfl⟩ := List.mem_map.mp mm
          obtain ⟨k, e, _⟩ := al x mx
          rw [TL.len_tl, e]
          exact Nat.le_refl _
        rw [List.length_map] at sm
        rw [len_e]
        omega
end

end Pk43
namespace Pk43
open PySem PySem.Spec PyProof.Rows L2 Gd
section
variable {P : Program} {w : World} {K : PySem.W.Frag} {mg : Str → Option Value} {base : Heap}
set_option maxHeartbeats 8000000 in
-- _law_empty_right: level 11; builtins []; cells []; slots: 0 some, 1 wording
theorem ok__law_empty_right {c0 c1 c2 c3 fI : Addr} (X : ErrT K mg [c0, c1, c2, c3] ["RangeError", "InvalidRange", "InvalidSystem", "Unreadable"] fI) (h : At K mg "_law_empty_right" s__law_empty_right []) (D__law_told : Dn P w K mg base 10 "_law_told" s__law_told ["wording"] (sp__law_told K [c0, c1, c2, c3])) : Dn P w K mg base 11 "_law_empty_right" s__law_empty_right [] (sp__law_empty_right K [c0, c1, c2, c3]) := by
  refine .mk' h fun f fd F => F.ok sc__law_empty_right (fun vs H Q E h => ?_) (fun cdv A outer s H vs Q E hr h => ?_)
  · obtain ⟨rfl, q⟩ := h
    rfl
  · obtain ⟨rfl, q⟩ := h
    refine ⟨_, (pss_cons (ps_set (i := 0) sc__law_empty_right.nd rfl (.inl rfl) (pe_lst (pa_cons pe_str (pa_cons pe_str (pa_cons pe_str (pa_cons pe_str pa_nil))))))
      (pss_cons (ps_expr (pe_bm PySem.F.plainAttrs_list PySem.F.slot_list_extend PySem.F.type_list_extend mt_extend (pv 0) (pa_cons (pe_lst (pa_cons pe_str (pa_cons pe_str (pa_cons pe_str pa_nil)))) pa_nil)))
      (pss_one (ps_ret (pe_cmpR (op_eqD hr.units) (pe_lc (own := [("wording", 1)]) (g := gName 1) rfl sc__law_empty_right.nd (pi_list (pv 0)) (blkOk_by (N := ["some", "wording"]) (sc := defScope s__law_empty_right) (by decide +kernel)) (fun _ _ _ _ _ => pg_name (i := 1) sc__law_empty_right.nd rfl (Or.inl rfl)) (fun _ _ _ _ _ => pts_nil) (fun _ _ _ _ _ => (pe_c D__law_told hr (by rfl) (pa_cons (pv 1) pa_nil)))) (pe_op op_rep (pe_lst (pa_cons (pe_lst pa_nil) pa_nil)) pe_int) (nomark _)))))), ?_⟩
    have line : (sizeLine : Nat) = 16777216 := sizeLine_eq
    refine ⟨by show 4 ≤ sizeLine; decide, fun L nL => ?_⟩
    have sL := Same.new (o := .lst [.str (Str.ofString ""), .str (Str.ofString "x is none"), .str (Str.ofString "x from 1 y + 0 in none"), .str (Str.ofString "x is 0..1 when y in none")]) nL
    have oL : upd H L (.lst [.str (Str.ofString ""), .str (Str.ofString "x is none"), .str (Str.ofString "x from 1 y + 0 in none"), .str (Str.ofString "x is 0..1 when y in none")]) L = some (.lst [.str (Str.ofString ""), .str (Str.ofString "x is none"), .str (Str.ofString "x from 1 y + 0 in none"), .str (Str.ofString "x is 0..1 when y in none")]) := upd_same
    generalize upd H L (HO.lst ([.str (Str.ofString ""), .str (Str.ofString "x is none"), .str (Str.ofString "x from 1 y + 0 in none"), .str (Str.ofString "x is 0..1 when y in none")] : List V)) = H1 at sL oL
    refine ⟨_, rfl, ty_lst oL, by show 3 ≤ sizeLine; decide, fun M nM => ?_⟩
    have sM := Same.new (o := HO.lst [V.str (Str.ofString "x is 0..1 when y in 0..1, z in none"), .str (Str.ofString "x is 0..1 when"), .str (Str.ofString "x from 1 y + 0 in")]) nM
    have oM : upd H1 M (.lst [V.str (Str.ofString "x is 0..1 when y in 0..1, z in none"), .str (Str.ofString "x is 0..1 when"), .str (Str.ofString "x from 1 y + 0 in")]) M = some (.lst [V.str (Str.ofString "x is 0..1 when y in 0..1, z in none"), .str (Str.ofString "x is 0..1 when"), .str (Str.ofString "x from 1 y + 0 in")]) := upd_same
    have oL2 := sM _ _ oL
    generalize upd H1 M (HO.lst [V.str (Str.ofString "x is 0..1 when y in 0..1, z in none"), .str (Str.ofString "x is 0..1 when"), .str (Str.ofString "x from 1 y + 0 in")]) = H2 at sM oM oL2 ⊢
    refine ⟨L, M, _, _, rfl, rfl, oL2, oM, by show 4 + 3 ≤ sizeLine; decide, ?_⟩
    have no7 : ∀ x ∈ ([Str.ofString "", Str.ofString "x is none", Str.ofString "x from 1 y + 0 in none", Str.ofString "x is 0..1 when y in none", Str.ofString "x is 0..1 when y in 0..1, z in none", Str.ofString "x is 0..1 when", Str.ofString "x from 1 y + 0 in"] : List Str), (readRl (TL.tl x)).isNone = true ∧ x.length ≤ 30000 := by decide +kernel
    generalize ets : ([Str.ofString "", Str.ofString "x is none", Str.ofString "x from 1 y + 0 in none", Str.ofString "x is 0..1 when y in none", Str.ofString "x is 0..1 when y in 0..1, z in none", Str.ofString "x is 0..1 when", Str.ofString "x from 1 y + 0 in"] : List Str) = ts at no7
    have k3 : Same H (upd H2 L (.lst (ts.map V.str))) := fun b o e => by
      rw [upd_ne (ne_of_none e nL)]
      exact sM _ _ (sL _ _ e)
    have o3 : upd H2 L (.lst (ts.map V.str)) L = some (.lst (ts.map V.str)) := upd_same
    have lts : ts.length = 7 := by rw [← ets]; rfl
    have eh : ([V.str (Str.ofString ""), .str (Str.ofString "x is none"), .str (Str.ofString "x from 1 y + 0 in none"), .str (Str.ofString "x is 0..1 when y in none")] ++ [V.str (Str.ofString "x is 0..1 when y in 0..1, z in none"), .str (Str.ofString "x is 0..1 when"), .str (Str.ofString "x from 1 y + 0 in")] : List V) = ts.map V.str := by
      rw [← ets]
      rfl
    rw [eh]
    generalize upd H2 L (HO.lst (ts.map V.str)) = H3 at k3 o3 ⊢
    refine ⟨_, rfl, L, rfl, ⟨_, .inl (.inl o3)⟩, fun D nD => ?_⟩
    refine lc_list (K := K) (a := L) (xs := ts.map V.str) (fun i G => Same H3 G ∧ ∃ ps : List Addr, ps.length = i ∧ G D = some (.lst (ps.map V.ref)) ∧ ∀ p ∈ ps, p ≠ D ∧ G p = some (.lst [])) ⟨Same.new nD, [], rfl, upd_same, fun p m => nomatch m⟩ (fun i G _ h => .inl (.inl (h.1 _ _ o3))) ?_ ?_
    · rintro i z G ez ⟨k, ps, lp, oD, al⟩
      obtain ⟨x, ex, rfl⟩ := map_get ez
      obtain ⟨nx, lx⟩ := no7 x (List.mem_of_getElem? ex)
      have hi : i < ts.length := (List.getElem?_eq_some_iff.mp ex).1
      refine ⟨rfl, _, rfl, x, rfl, lx, fun p xs G2 k2 np op dp => ?_⟩
      rw [Option.isNone_iff_eq_none.mp nx] at dp
      have e0 : xs = [] := by cases dp; rfl
      subst e0
      have pD : p ≠ D := fun z => by rw [z, oD] at np; cases np
      refine ⟨_, k2 _ _ oD, by rw [List.length_map, lp, sizeLine_eq]; omega, fun c o e => ?_, ps ++ [p], by rw [List.length_append, lp]; rfl, ?_, fun r m => ?_⟩
      · rw [upd_ne (ne_of_none e nD)]
        exact k2 _ _ (k _ _ e)
      · rw [upd_same, List.map_append]
        rfl
      · rcases List.mem_append.mp m with m | m
        · rw [upd_ne (al r m).1]
          exact ⟨(al r m).1, k2 _ _ (al r m).2⟩
        · rw [List.mem_singleton.mp m, upd_ne pD]
          exact ⟨pD, op⟩
    rintro G ⟨k, ps, lp, oD, al⟩
    rw [List.length_map, lts] at lp
    refine ⟨by show 0 ≤ sizeLine; decide, fun E0 nE0 => ?_⟩
    have sE0 := Same.new (o := .lst []) nE0
    have oE0 : upd G E0 (.lst []) E0 = some (.lst []) := upd_same
    generalize upd G E0 (HO.lst ([] : List V)) = G1 at sE0 oE0
    refine ⟨by show 1 ≤ sizeLine; decide, fun F0 nF0 => ?_⟩
    have sF0 := Same.new (o := .lst [.ref E0]) nF0
    have oF0 : upd G1 F0 (.lst [.ref E0]) F0 = some (.lst [.ref E0]) := upd_same
    generalize upd G1 F0 (HO.lst ([.ref E0] : List V)) = G2 at sF0 oF0
    refine ⟨F0, 7, _, rfl, rfl, oF0, by decide, by decide, by show 1 * 7 ≤ sizeLine; decide, fun R nR => ?_⟩
    have sR := Same.new (o := HO.lst (List.replicate (7 : Int).toNat [V.ref E0]).flatten) nR
    have oR : upd G2 R (HO.lst (List.replicate (7 : Int).toNat [V.ref E0]).flatten) R = some (.lst [.ref E0, .ref E0, .ref E0, .ref E0, .ref E0, .ref E0, .ref E0]) := upd_same
    generalize upd G2 R (HO.lst (List.replicate (7 : Int).toNat [V.ref E0]).flatten) = G3 at sR oR ⊢
    have k13 := (sE0.trans sF0).trans sR
    have dE : Dp K G3 (.ref E0) (.list []) := .lst (.inl (.inl (sR _ _ (sF0 _ _ oE0)))) .nil
    have dps : ∀ l : List Addr, (∀ p ∈ l, p ≠ D ∧ G p = some (.lst [])) → DpAll K G3 (l.map V.ref) (l.map fun _ => PyData.list []) := fun l => by
      induction l with
      | nil => intro _; exact .nil
      | cons p l ih => intro h; exact .cons (.lst (.inl (.inl (k13 _ _ (h p List.mem_cons_self).2))) .nil) (ih fun r m => h r (List.mem_cons_of_mem _ m))
    obtain ⟨p1, p2, p3, p4, p5, p6, p7, rfl⟩ : ∃ p1 p2 p3 p4 p5 p6 p7, ps = [p1, p2, p3, p4, p5, p6, p7] := by
      match ps, lp with
      | [p1, p2, p3, p4, p5, p6, p7], _ => exact ⟨_, _, _, _, _, _, _, rfl⟩
    refine ⟨_, _, .lst (.inl (.inl (k13 _ _ oD))) (dps _ al), .lst (.inl (.inl oR)) (.cons dE (.cons dE (.cons dE (.cons dE (.cons dE (.cons dE (.cons dE .nil))))))), (by show SeqAt.shaped (PyData.list [.list [], .list [], .list [], .list [], .list [], .list [], .list []]) = true; decide), (by decide), ?_⟩
    exact q _ ((k3.trans k).trans k13)
end

end Pk43
namespace Pk43
open PySem PySem.Spec PyProof.Rows L2 Gd
section
variable {P : Program} {w : World} {K : PySem.W.Frag} {mg : Str → Option Value} {base : Heap}
set_option maxHeartbeats 8000000 in
-- law: level 12; builtins ['len', 'min', 'range']; cells ['bag']; slots: 0 script, 1 bag, 2 turn, 3 rule_now, 4 great, 5 wording, 6 turn_now, 7 other, 8 place
theorem ok_law {c0 c1 c2 c3 fI : Addr} (X : ErrT K mg [c0, c1, c2, c3] ["RangeError", "InvalidRange", "InvalidSystem", "Unreadable"] fI) (h : At K mg "law" s_law ["script"]) (D__law_bag : Dn P w K mg base 1 "_law_bag" s__law_bag ["script"] (sp__law_bag K)) (D__law_changed : Dn P w K mg base 2 "_law_changed" s__law_changed ["bag", "wording"] (sp__law_changed K)) (D__law_draw : Dn P w K mg base 1 "_law_draw" s__law_draw ["bag", "many"] (sp__law_draw K)) (D__law_empty_right : Dn P w K mg base 11 "_law_empty_right" s__law_empty_right [] (sp__law_empty_right K [c0, c1, c2, c3])) (D__law_rule : Dn P w K mg base 3 "_law_rule" s__law_rule ["bag", "titles"] (sp__law_rule K)) (D__law_rule_of : Dn P w K mg base 4 "_law_rule_of" s__law_rule_of ["wording"] (sp__law_rule_of K)) (D__law_rule_text : Dn P w K mg base 3 "_law_rule_text" s__law_rule_text ["rule_now"] (sp__law_rule_text K)) (D__law_title : Dn P w K mg base 2 "_law_title" s__law_title ["bag"] (sp__law_title K)) (D__law_told : Dn P w K mg base 10 "_law_told" s__law_told ["wording"] (sp__law_told K [c0, c1, c2, c3])) (D_read_rule_Q : Dn P w K mg base 9 "read_rule" s_read_rule_Q ["text"] (sp_read_rule_Q K [c0, c1, c2, c3])) (D_show_rule : Dn P w K mg base 5 "show_rule" s_show_rule ["rule"] (sp_show_rule K)) (kw_read_rule_Q_text : KwTo K "read_rule" s_read_rule_Q ["text"] ["text"] 0 gk_read_rule_Q_text) (kw_show_rule_rule : KwTo K "show_rule" s_show_rule ["rule"] ["rule"] 0 gk_show_rule_rule) (m_len : mg "len" = none) (m_min : mg "min" = none) (m_range : mg "range" = none) : DnG P w K mg base 12 "law" s_law ["script"] (sp_law K) := by
  refine .mk' h fun f fd F => okG F sc_law (fun vs H Q E h => ?_) (fun cdv A outer s H vs Q E hgd hr h => ?_)
  · obtain ⟨a, ns, rfl, hS, hn, q⟩ := h
    rfl
  · obtain ⟨a, ns, rfl, hS, hn, q⟩ := h
    refine ⟨_, (pss_cons (ps_set (i := 1) sc_law.nd rfl (.inr rfl) (pe_c D__law_bag hr (by rfl) (pa_cons (pv 0) pa_nil)))
      (pss_cons (ps_if (pt_not (pt_val (pe_c0 D__law_empty_right hr (by rfl))))
        (pss_one (ps_ret pe_bl))
        pss_nil)
      (pss_cons (ps_for PassesOwn.never rfl (pi_range1 (by rfl) m_range (pa_cons (pe_op op_add pe_int (pe_callB (call_min2 rfl) (by rfl) m_min (by decide +kernel) (pa_cons pe_int (pa_cons (pe_callB call_len_seq (by rfl) m_len PySem.boot_len (pa_cons (pv 0) pa_nil)) pa_nil)))) pa_nil)) (pg_name (i := 2) sc_law.nd rfl (.inl rfl))
        (pss_cons (ps_set (i := 3) sc_law.nd rfl (.inl rfl) (pe_c D__law_rule hr (by rfl) (pa_cons (pv 1) (pa_cons (pe_lc (own := [("place", 8)]) (g := gName 8) rfl sc_law.nd (pi_range1 (by rfl) m_range (pa_cons pe_int pa_nil)) (blkOk_by (N := ["script", "bag", "turn", "rule_now", "great", "wording", "turn_now", "other", "place"]) (sc := defScope s_law) (by decide +kernel)) (fun _ _ _ _ _ => pg_name (i := 8) sc_law.nd rfl (Or.inl rfl)) (fun _ _ _ _ _ => pts_nil) (fun _ _ _ _ _ => (pe_c D__law_title hr (by rfl) (pa_cons (pv 1) pa_nil)))) pa_nil))))
        (C8.pss_cut (ps_if (PW.pt (pw_and (pt_cmpR op_eq (pe_c D__law_draw hr (by rfl) (pa_cons (pv 1) (pa_cons pe_int pa_nil))) pe_int (nomark _)) (pw_and1 (pt_cmpR op_eq (pe_ix ix_tup (pv 3) pe_int (fun _ _ => rfl)) pe_str (nomark _)))))
          (pss_cons (ps_set (i := 4) sc_law.nd rfl (.inl rfl) (pe_op op_sub (pe_op op_powW pe_int pe_int) (pe_c D__law_draw hr (by rfl) (pa_cons (pv 1) (pa_cons pe_int pa_nil)))))
          (pss_one (ps_set (i := 3) sc_law.nd rfl (.inl rfl) (pe_op op_catA (pe_slice sl_tupA (pv 3) po_none (po_some pe_int)) (pe_tup (pa_cons (pe_op op_sub pe_int (pv 4)) (pa_cons (pe_tup (pa_cons pe_non (pa_cons (pv 4) pa_nil))) (pa_cons (pe_ix ix_tup (pv 3) pe_int (fun _ _ => rfl)) pa_nil))))))))
          pss_nil)
        (pss_cons (ps_set (i := 5) sc_law.nd rfl (.inl rfl) (pe_c D__law_rule_text hr (by rfl) (pa_cons (pv 3) pa_nil)))
        (pss_cons (ps_if (PW.pt (pw_or (pt_cmpR op_ne (pe_c D_show_rule hr (by rfl) (pa_cons (pv 3) pa_nil)) (pv 5) (nomark _)) (pw_or1 (pt_cmpR op_ne (pe_cz D_show_rule hr kw_show_rule_rule (by rfl) (pk_cons (pv 3) pk_nil)) (pv 5) (nomark _)))))
          (pss_one (ps_ret pe_bl))
          pss_nil)
        (pss_cons (ps_if (pt_cmpR (op_neD hr.units) (pe_cz D_read_rule_Q hr kw_read_rule_Q_text (by rfl) (pk_cons (pv 5) pk_nil)) (pv 3) (nomark _))
          (pss_one (ps_ret pe_bl))
          pss_nil)
        (pss_one (ps_for PassesOwn.never rfl (pi_range1 (by rfl) m_range (pa_cons pe_int pa_nil)) (pg_name (i := 6) sc_law.nd rfl (.inl rfl))
          (pss_cons (ps_set (i := 7) sc_law.nd rfl (.inl rfl) (pe_c D__law_changed hr (by rfl) (pa_cons (pv 1) (pa_cons (pv 5) pa_nil))))
          (pss_one (ps_if (pt_cmpR (op_neD hr.units) (pe_c D__law_told hr (by rfl) (pa_cons (pv 7) pa_nil)) (pe_c D__law_rule_of hr (by rfl) (pa_cons (pv 7) pa_nil)) (nomark _))
            (pss_one (ps_ret pe_bl))
            pss_nil)))))))))))
      (pss_one (ps_ret pe_bl))))), ?_⟩
    have p200 : (2 : Nat) ^ 200 = 1606938044258990275541962092341162602522202993782792835301376 := by decide
    have line : (sizeLine : Nat) = 16777216 := sizeLine_eq
    have ten30 : CPowW 10 30 := ⟨by decide, by decide⟩
    have e30 : (10 : Int) ^ (30 : Int).toNat = 1000000000000000000000000000000 := by decide
    have b45 : (10 : Nat) ^ 45 = 1000000000000000000000000000000000000000000000 := by decide
    have big : ((10 : Int) + (if (((ns.map V.int).length : Nat) : Int) < 20 then (((ns.map V.int).length : Nat) : Int) else 20)) ≤ 30 ∧ 0 ≤ ((10 : Int) + (if (((ns.map V.int).length : Nat) : Int) < 20 then (((ns.map V.int).length : Nat) : Int) else 20)) := by
      rw [List.length_map]
      split <;> omega
    refine ⟨_, rfl, a, ns, rfl, hS, hn, fun b ga H1 sm1 nb nga bg => ?_⟩
    refine ⟨rfl, fun H2 k2 => ⟨_, rfl, iteF ?_⟩⟩
    have bg2 := bg.same k2
    have hS2 := (sm1.trans k2).seq hS
    refine ⟨_, rfl, a, _, rfl, .inl hS2, _, _, rfl, _, _, rfl, rfl, _, rfl, ?_, ?_, ?_⟩
    · exact Int.le_trans (by decide) big.2
    · exact Int.lt_of_le_of_lt big.1 (by decide)
    refine for_range (fun i σ H' => Bg (1000 * i) H' b ga ∧ ∃ y2 y3 y4 y5 y6 y7 y8, σ = [some (.ref a), some (.ref b), y2, y3, y4, y5, y6, y7, y8]) ⟨bg2, _, _, _, _, _, _, _, rfl⟩ ?_ ?_
    rotate_left
    · rintro σ H' ⟨_, y2, y3, y4, y5, y6, y7, y8, rfl⟩
      exact q _
    intro i σ H4 hi hw
    have hi2 : i < 31 := by
      have := big.1
      omega
    obtain ⟨bg4, y2, y3, y4, y5, y6, y7, y8, rfl⟩ := hw
    refine ⟨_, rfl, 3, rfl, by decide, by decide, fun D nD => ?_⟩
    obtain ⟨Db, Dg⟩ := bg4.fresh nD
    refine lc_it (walk_range (n := (3 : Int).toNat)) (fun j G => Bg (1000 * i + 20 * j) G b ga ∧ ∃ xs : List Str, G D = some (.lst (xs.map V.str)) ∧ xs.length = j ∧ ∀ x ∈ xs, nameOk x = true) ⟨(bg4.upd_ Db Dg).mono (by omega), [], upd_same, rfl, fun x m => nomatch m⟩ (fun _ _ _ _ => trivial) ?_ ?_
    · rintro j z G G' hj ⟨bgG, xs, oD, lx, al⟩ ⟨rfl, rfl⟩
      have hj3 : j < 3 := hj
      refine ⟨rfl, _, rfl, b, ga, _, rfl, bgG, by omega, fun x G3 nx k bg3 => ⟨_, k _ _ Db Dg oD, by rw [List.length_map, lx, line]; omega, (bg3.upd_ Db Dg).mono (by omega), xs ++ [x], by rw [upd_same, List.map_append]; rfl, by rw [List.length_append, lx]; rfl, fun w m => ?_⟩⟩
      rcases List.mem_append.mp m with m | m
      · exact al w m
      · rw [List.mem_singleton.mp m]
        exact nx
    rintro G ⟨bgG, ts, oD, lts, al⟩
    have lts3 : ts.length = 3 := lts
    refine ⟨b, ga, D, _, ts, rfl, bgG, by show 1000 * i + 20 * 3 ≤ _; omega, Db, Dg, .inl (.inl oD), fun z => (by rw [z] at lts3; cases lts3), by omega, fun v r H5 gd k5 bg5 dv => ?_⟩
    have okr := txok_gd al gd
    have bg5 : Bg (1000 * i + 80) H5 b ga := bg5.mono (by show 1000 * i + 20 * 3 + 20 ≤ _; omega)
    refine ⟨fun σ G => ∃ v r y4, TxOk r ∧ r.cs.length ≤ 2 ∧ Dp K G v r.d ∧ Bg (1000 * i + 90) G b ga ∧ σ = [some (.ref a), some (.ref b), some (.int (0 + (i : Nat))), some v, y4, y5, y6, y7, y8], ?_, ?_⟩
    · refine ⟨_, rfl, b, ga, 3, _, rfl, bg5, by omega, by decide, by decide, fun e H6 _ _ k6 bg6 => ⟨rfl, decide (V.int e = V.int 0), rfl, ?_⟩⟩
      have dv6 := dp_kb bg5 k6 dv (noL_rl r)
      cases decide (V.int e = V.int 0) with
      | false => exact iteF (iteF ⟨v, r, _, okr, gd.cs, dv6, bg6.mono (by omega), rfl⟩)
      | true =>
        refine iteT ?_
        match r, gd, okr, dv6 with
        | .set x g cs, gd, okr, dv6 =>
          obtain ⟨p', vr, q1, ys', rfl, s', hr, _, _⟩ := set_inv dv6
          exact ⟨_, rfl, p', _, 0, _, rfl, rfl, s', atI_nat (j := 0) rfl, rfl, false, (by decide +kernel), iteF ⟨_, _, _, okr, gd.cs, dv6, bg6.mono (by omega), rfl⟩⟩
        | .stp x y f ad g cs, gd, okr, dv6 =>
          obtain ⟨p', vr, q1, ys', rfl, s', hr, sq1, dq1⟩ := stp_inv dv6
          refine ⟨_, rfl, p', _, 0, _, rfl, rfl, s', atI_nat (j := 0) rfl, rfl, true, sEqT, iteT ?_⟩
          refine ⟨_, _, rfl, rfl, ten30, ?_⟩
          dsimp (config := { proj := false, iota := false, eta := false }) only
          rw [e30]
          refine ⟨_, rfl, b, ga, 99, _, rfl, bg6, by omega, by decide, by decide, fun g9 H7 g0 g1 k7 bg7 => ⟨_, _, rfl, rfl, ?_⟩⟩
          have s7 := SqT.kb bg6 k7 (K := K) s'
          have sq7 := SqT.kb bg6 k7 (K := K) sq1
          have dq7 := dpa_kb bg6 k7 dq1 (noL_map cs)
          refine ⟨_, rfl, _, rfl, slA s7 fun p1 H8 k8 sp1 => ?_⟩
          rw [show cutV [V.str (Str.ofString "step"), .str x, .str y, .int f, .int ad, vr, .ref q1] none (some 4) = [V.str (Str.ofString "step"), .str x, .str y, .int f] from rfl] at sp1
          refine ⟨_, rfl, _, _, rfl, rfl, _, rfl, by show 2 ≤ sizeLine; decide, fun T nT => ?_⟩
          obtain ⟨gr, egr, gr0, gr1⟩ : ∃ gr : Int, (1000000000000000000000000000000 - g9) = gr ∧ 0 ≤ gr ∧ gr ≤ 1000000000000000000000000000000 := ⟨_, rfl, by omega, by omega⟩
          dsimp (config := { proj := false, iota := false, eta := false }) only
          rw [egr]
          have sT := Same.new (o := HO.tup [V.non, .int gr]) nT
          have oT : upd H8 T (.tup [V.non, .int gr]) T = some (.tup [V.non, .int gr]) := upd_same
          generalize upd H8 T (HO.tup [V.non, .int gr]) = H9 at sT oT ⊢
          have k89 := k8.trans sT
          refine ⟨_, rfl, p', _, 6, _, rfl, rfl, SqT.same k89 s7, atI_nat (j := 6) rfl, by show 3 ≤ sizeLine; decide, fun T2 nT2 => ?_⟩
          have sT2 := Same.new (o := HO.tup [V.int (0 - gr), .ref T, .ref q1]) nT2
          refine catA (xs := [V.str (Str.ofString "step"), .str x, .str y, .int f]) (SqT.same (sT.trans sT2) sp1) (.inl (.inl upd_same)) (by show 4 + 3 ≤ 1000; decide) fun p3 H10 k10 s10 => ?_
          have k910 := sT2.trans k10
          have ok2 : TxOk (.stp x y f (0 - gr) (some (none, some gr)) cs) := by
            obtain ⟨f0, f45, _⟩ := okr.nb x y f ad g cs rfl
            refine ⟨okr.nm, fun g' m => ?_, fun _ _ _ _ _ _ e => ?_, okr.ln⟩
            · rcases List.mem_cons.mp m with rfl | m
              · refine ⟨(fun z => nomatch z), fun p e => ?_, rfl⟩
                cases e
                refine ⟨(fun n e => nomatch e), fun n e => ?_⟩
                have e' : gr = n := Option.some.inj e
                rw [b45]
                omega
              · exact okr.rg g' (List.mem_cons_of_mem _ m)
            · cases e
              refine ⟨f0, f45, ?_⟩
              show (0 - gr).natAbs < 10 ^ 45
              rw [b45]
              omega
          have rv : RgV K H10 (.ref T) (some (none, some gr)) := ⟨T, rfl, .inl (.inl (k910 _ _ oT))⟩
          refine ⟨.ref p3, .stp x y f (0 - gr) (some (none, some gr)) cs, _, ok2, gd.cs, .tup s10 (.cons (.str _) (.cons (.str _) (.cons (.str _) (.cons (.int _) (.cons (.int _) (.cons (dp_rg rv) (.cons (.tup (SqT.same (k89.trans k910) sq7) (dpa_same (k89.trans k910) dq7)) .nil))))))), (bg7.same (k89.trans k910)).mono (by omega), rfl⟩
    rintro σ G ⟨v, r, y4', okr, c2, dv, bgG, rfl⟩
    have lw := showRl_len okr c2
    have okw := showRl_ok okr
    have rr := show_read okr
    refine ⟨_, rfl, v, r, rfl, dv, okr, fun G1 k1 => ?_⟩
    generalize ew : showRl r = wd at lw okw rr ⊢
    have dv1 := dp_same k1 dv
    refine ⟨_, rfl, v, r, rfl, dv1, okr, fun G2 k2 => ⟨_, rfl, rfl, !decide (V.str (showRl r) = V.str wd), rfl, ?_⟩⟩
    rw [ew, decide_eq_true rfl]
    refine iteF ⟨_, rfl, rfl, rfl, v, r, rfl, dp_same k2 dv1, okr, fun G3 k3 => ⟨_, rfl, rfl, !decide (V.str (showRl r) = V.str wd), rfl, ?_⟩⟩
    rw [ew, decide_eq_true rfl]
    refine iteF ⟨_, rfl, rfl, rfl, wd, r, rfl, by omega, rr, fun v' G4 k4 dv' => ⟨_, rfl, r.d, r.d, dv', dp_same ((k2.trans k3).trans k4) dv1, (ly_r okr).shaped, (ly_r okr).shaped, _, rfl, ?_⟩⟩
    rw [(ly_r okr).eqv]
    refine iteF ?_
    have bgS := bgG.same (((k1.trans k2).trans k3).trans k4)
    refine ⟨4, rfl, by decide, by decide, for_range (fun j σ G' => Bg (1000 * i + 100 + 10 * j) G' b ga ∧ ∃ y2 y3 y4 y6 y7 y8, σ = [some (.ref a), some (.ref b), y2, y3, y4, some (.str wd), y6, y7, y8]) ⟨bgS.mono (by omega), _, _, _, _, _, _, rfl⟩ ?_ ?_⟩
    · intro j σ G' hj hw'
      obtain ⟨bg', y2, y3, y4, y6, y7, y8, rfl⟩ := hw'
      have hj4 : j < 4 := hj
      refine ⟨_, rfl, _, rfl, b, ga, _, wd, rfl, bg', by omega, by omega, okw, fun o G5 lo oo k bg5' => ?_⟩
      have tx := read_txok (o := o) (by omega)
      refine ⟨_, rfl, o, rfl, by omega, fun p xs G6 k6 np op dp => ⟨_, rfl, o, rfl, by omega, oo, fun v5 G7 k7 dv5 => ?_⟩⟩
      refine ⟨_, _, .lst (.inl (.inl (k7 _ _ op))) (dpa_same k7 dp), dv5, (ly_fd tx).shaped, (ly_fd tx).shaped, _, rfl, ?_⟩
      rw [(ly_fd tx).eqv]
      exact iteF ⟨((bg5'.same k6).same k7).mono (by omega), _, _, _, _, _, _, rfl⟩
    · rintro σ G' ⟨bg', y2, y3, y4, y6, y7, y8, rfl⟩
      exact ⟨bg'.mono (by show 1000 * i + 100 + 10 * 4 ≤ _; omega), _, _, _, _, _, _, _, rfl⟩
end

end Pk43
namespace Pk43
open PySem PySem.Spec PyProof.Rows L2 Gd
set_option maxHeartbeats 8000000
theorem kw_read_rule_Q_text {K : PySem.W.Frag} : KwTo K "read_rule" s_read_rule_Q ["text"] ["text"] 0 gk_read_rule_Q_text := by
  refine ⟨fun {vs zs us ws} l1 l2 r1 r2 => ?_, fun f fd F => kb_of0 0 F gk_read_rule_Q_text ?_⟩
  · match vs, zs, us, ws, l1, l2, r1, r2 with
    | [], [_], [], [_], _, _, .nil, .cons c0 .nil => exact .cons c0 .nil
  · intro kV doc pm an cdv ct us ws l1 l2
    match us, ws, l1, l2 with
    | [], [_], _, _ => rfl
theorem kw_show_rule_rule {K : PySem.W.Frag} : KwTo K "show_rule" s_show_rule ["rule"] ["rule"] 0 gk_show_rule_rule := by
  refine ⟨fun {vs zs us ws} l1 l2 r1 r2 => ?_, fun f fd F => kb_of0 0 F gk_show_rule_rule ?_⟩
  · match vs, zs, us, ws, l1, l2, r1, r2 with
    | [], [_], [], [_], _, _, .nil, .cons c0 .nil => exact .cons c0 .nil
  · intro kV doc pm an cdv ct us ws l1 l2
    match us, ws, l1, l2 with
    | [], [_], _, _ => rfl
variable {P : Program} {w : World} {K : PySem.W.Frag} {mg : Str → Option Value}
theorem at_mk {x : Str} {st : Stmt} {ps : List Str} {h : Heap} {f : Addr} {oc : Value} {od an : Option Addr} {sl : Array (Option Value)} {kV dc pm cd ct : Value} (X : K.In h) (G : h.Ns mainGlobals mg) (a : PySem.W.nsIn K mainGlobals x = some (some (.ref f))) (l : K.lookup f = some ⟨oc, od, .func (PySem.W.fnOf x x (defArgs st) (defBody st) (defScope st) .none kV dc pm an cd ct), sl⟩) (c : PySem.W.codeIn K cd x = true) (k : PySem.W.keepIn K (.ref f) = true)
    (b : ∀ (kV doc pm : Value) (an : Option Addr) (cdv ct : Value) (us : List Value), us.length = ps.length → bindArgs (PySem.W.fnOf x x (defArgs st) (defBody st) (defScope st) .none kV doc pm an cdv ct) ⟨us, []⟩ = pure (ps.zip us)) : At K mg x st ps :=
  ⟨f, _, fun_mk l c k, (fun_mk l c k).binds b, PySem.W.mg_of X G a⟩
theorem all_mk {l : PySem.W.OpenLaw} {h : Heap} {fa : Addr} (X : K.In h) (G : h.Ns mainGlobals mg) (hfa : mg "law" = some (.ref fa))
    {f0 f1 f2 f3 f4 f5 f6 f7 f8 f9 f10 f11 f12 f13 f14 f15 f16 f17 f18 f19 f20 f21 f22 f23 f24 f25 f26 f27 f28 f29 f30 f31 f32 f33 f34 f35 : Addr} {od0 an0 od1 an1 od2 an2 od3 an3 od4 an4 od5 an5 od6 an6 od7 an7 od8 an8 od9 an9 od10 an10 od11 an11 od12 an12 od13 an13 od14 an14 od15 an15 od16 an16 od17 an17 od18 an18 od19 an19 od20 an20 od21 an21 od22 an22 od23 an23 od24 an24 od25 an25 od26 an26 od27 an27 od28 an28 od29 an29 od30 an30 od31 an31 od32 an32 od33 an33 od34 an34 od35 an35 : Option Addr} {sl0 sl1 sl2 sl3 sl4 sl5 sl6 sl7 sl8 sl9 sl10 sl11 sl12 sl13 sl14 sl15 sl16 sl17 sl18 sl19 sl20 sl21 sl22 sl23 sl24 sl25 sl26 sl27 sl28 sl29 sl30 sl31 sl32 sl33 sl34 sl35 : Array (Option Value)} {oc0 kV0 dc0 pm0 cd0 ct0 oc1 kV1 dc1 pm1 cd1 ct1 oc2 kV2 dc2 pm2 cd2 ct2 oc3 kV3 dc3 pm3 cd3 ct3 oc4 kV4 dc4 pm4 cd4 ct4 oc5 kV5 dc5 pm5 cd5 ct5 oc6 kV6 dc6 pm6 cd6 ct6 oc7 kV7 dc7 pm7 cd7 ct7 oc8 kV8 dc8 pm8 cd8 ct8 oc9 kV9 dc9 pm9 cd9 ct9 oc10 kV10 dc10 pm10 cd10 ct10 oc11 kV11 dc11 pm11 cd11 ct11 oc12 kV12 dc12 pm12 cd12 ct12 oc13 kV13 dc13 pm13 cd13 ct13 oc14 kV14 dc14 pm14 cd14 ct14 oc15 kV15 dc15 pm15 cd15 ct15 oc16 kV16 dc16 pm16 cd16 ct16 oc17 kV17 dc17 pm17 cd17 ct17 oc18 kV18 dc18 pm18 cd18 ct18 oc19 kV19 dc19 pm19 cd19 ct19 oc20 kV20 dc20 pm20 cd20 ct20 oc21 kV21 dc21 pm21 cd21 ct21 oc22 kV22 dc22 pm22 cd22 ct22 oc23 kV23 dc23 pm23 cd23 ct23 oc24 kV24 dc24 pm24 cd24 ct24 oc25 kV25 dc25 pm25 cd25 ct25 oc26 kV26 dc26 pm26 cd26 ct26 oc27 kV27 dc27 pm27 cd27 ct27 oc28 kV28 dc28 pm28 cd28 ct28 oc29 kV29 dc29 pm29 cd29 ct29 oc30 kV30 dc30 pm30 cd30 ct30 oc31 kV31 dc31 pm31 cd31 ct31 oc32 kV32 dc32 pm32 cd32 ct32 oc33 kV33 dc33 pm33 cd33 ct33 oc34 kV34 dc34 pm34 cd34 ct34 oc35 kV35 dc35 pm35 cd35 ct35 : Value}
 {tK_MOST_DIGITS : Tok} {tK_PART : Tok} {tK_PART_DIGITS : Tok}
    {e0 eN0 e1 eN1 e2 eN2 e3 eN3 : Addr} {en0 eq0 en1 eq1 en2 eq2 en3 eq3 : Str} {ebs0 ebm0 esub0 ebs1 ebm1 esub1 ebs2 ebm2 esub2 ebs3 ebm3 esub3 : List Value} {esn0 esn1 esn2 esn3 : List Str} {eab0 eab1 eab2 eab3 : Bool} {ecol0 ecol1 ecol2 ecol3 : Option Bool} {edd0 edd1 edd2 edd3 : Option Addr} {ek00 ek10 ek20 ek30 ek50 ek01 ek11 ek21 ek31 ek51 ek02 ek12 ek22 ek32 ek52 ek03 ek13 ek23 ek33 ek53 : Option Value}
    (kG_MOST_DIGITS : PySem.W.nsIn K mainGlobals "MOST_DIGITS" = some (some (.int 45 tK_MOST_DIGITS)))
    (kG_PART : PySem.W.nsIn K mainGlobals "PART" = some (some (.int 10000000000000000000000000000000000000000000000000000000000000000 tK_PART)))
    (kG_PART_DIGITS : PySem.W.nsIn K mainGlobals "PART_DIGITS" = some (some (.int 64 tK_PART_DIGITS)))
    (xn0 : PySem.W.nsIn K mainGlobals "RangeError" = some (some (.ref e0)))
    (xl0 : K.lookup e0 = some (excClassObj en0 eq0 e0 eN0 ebs0 ebm0 true esn0 esub0 eab0 ecol0 edd0 ek00 ek10 ek20 ek30 ek50 "ValueError.__new__"))
    (xr0 : PySem.HandSPX.refsVE ebm0 = true)
    (xn1 : PySem.W.nsIn K mainGlobals "InvalidRange" = some (some (.ref e1)))
    (xl1 : K.lookup e1 = some (excClassObj en1 eq1 e1 eN1 ebs1 ebm1 true esn1 esub1 eab1 ecol1 edd1 ek01 ek11 ek21 ek31 ek51 "ValueError.__new__"))
    (xr1 : PySem.HandSPX.refsVE ebm1 = true)
    (xn2 : PySem.W.nsIn K mainGlobals "InvalidSystem" = some (some (.ref e2)))
    (xl2 : K.lookup e2 = some (excClassObj en2 eq2 e2 eN2 ebs2 ebm2 true esn2 esub2 eab2 ecol2 edd2 ek02 ek12 ek22 ek32 ek52 "ValueError.__new__"))
    (xr2 : PySem.HandSPX.refsVE ebm2 = true)
    (xn3 : PySem.W.nsIn K mainGlobals "Unreadable" = some (some (.ref e3)))
    (xl3 : K.lookup e3 = some (excClassObj en3 eq3 e3 eN3 ebs3 ebm3 true esn3 esub3 eab3 ecol3 edd3 ek03 ek13 ek23 ek33 ek53 "ValueError.__new__"))
    (xr3 : PySem.HandSPX.refsVE ebm3 = true)
    (xi : PySem.W.findIn K (.ref e0) "__init__" = some (some (.ref f2)))
    (xb0 : errB K e0 f2 = true)
    (xk0 : kitB K e0 0 0 [e0, e1, e2, e3] = true)
    (xb1 : errB K e1 f2 = true)
    (xk1 : kitB K e1 1 0 [e0, e1, e2, e3] = true)
    (xb2 : errB K e2 f2 = true)
    (xk2 : kitB K e2 2 0 [e0, e1, e2, e3] = true)
    (xb3 : errB K e3 f2 = true)
    (xk3 : kitB K e3 3 0 [e0, e1, e2, e3] = true)
    (xj : initB K f2 = true)
    (a0 : PySem.W.nsIn K mainGlobals "is_upside_down" = some (some (.ref f0))) (l0 : K.lookup f0 = some ⟨oc0, od0, .func (PySem.W.fnOf "is_upside_down" "is_upside_down" (defArgs s_is_upside_down) (defBody s_is_upside_down) (defScope s_is_upside_down) .none kV0 dc0 pm0 an0 cd0 ct0), sl0⟩) (c0 : PySem.W.codeIn K cd0 "is_upside_down" = true) (k0 : PySem.W.keepIn K (.ref f0) = true)
    (a1 : PySem.W.nsIn K mainGlobals "check_range" = some (some (.ref f1))) (l1 : K.lookup f1 = some ⟨oc1, od1, .func (PySem.W.fnOf "check_range" "check_range" (defArgs s_check_range) (defBody s_check_range) (defScope s_check_range) .none kV1 dc1 pm1 an1 cd1 ct1), sl1⟩) (c1 : PySem.W.codeIn K cd1 "check_range" = true) (k1 : PySem.W.keepIn K (.ref f1) = true)
    (l2 : K.lookup f2 = some ⟨oc2, od2, .func (PySem.W.fnOf "__init__" "RangeError.__init__" (defArgs s_RangeError___init__) (defBody s_RangeError___init__) (defScope s_RangeError___init__) .none kV2 dc2 pm2 an2 cd2 ct2), sl2⟩) (c2 : PySem.W.codeIn K cd2 "RangeError.__init__" = true) (k2 : PySem.W.keepIn K (.ref f2) = true)
    (a3 : PySem.W.nsIn K mainGlobals "is_name" = some (some (.ref f3))) (l3 : K.lookup f3 = some ⟨oc3, od3, .func (PySem.W.fnOf "is_name" "is_name" (defArgs s_is_name) (defBody s_is_name) (defScope s_is_name) .none kV3 dc3 pm3 an3 cd3 ct3), sl3⟩) (c3 : PySem.W.codeIn K cd3 "is_name" = true) (k3 : PySem.W.keepIn K (.ref f3) = true)
    (a4 : PySem.W.nsIn K mainGlobals "_law_bag" = some (some (.ref f4))) (l4 : K.lookup f4 = some ⟨oc4, od4, .func (PySem.W.fnOf "_law_bag" "_law_bag" (defArgs s__law_bag) (defBody s__law_bag) (defScope s__law_bag) .none kV4 dc4 pm4 an4 cd4 ct4), sl4⟩) (c4 : PySem.W.codeIn K cd4 "_law_bag" = true) (k4 : PySem.W.keepIn K (.ref f4) = true)
    (a5 : PySem.W.nsIn K mainGlobals "_law_draw" = some (some (.ref f5))) (l5 : K.lookup f5 = some ⟨oc5, od5, .func (PySem.W.fnOf "_law_draw" "_law_draw" (defArgs s__law_draw) (defBody s__law_draw) (defScope s__law_draw) .none kV5 dc5 pm5 an5 cd5 ct5), sl5⟩) (c5 : PySem.W.codeIn K cd5 "_law_draw" = true) (k5 : PySem.W.keepIn K (.ref f5) = true)
    (a6 : PySem.W.nsIn K mainGlobals "_law_reach" = some (some (.ref f6))) (l6 : K.lookup f6 = some ⟨oc6, od6, .func (PySem.W.fnOf "_law_reach" "_law_reach" (defArgs s__law_reach) (defBody s__law_reach) (defScope s__law_reach) .none kV6 dc6 pm6 an6 cd6 ct6), sl6⟩) (c6 : PySem.W.codeIn K cd6 "_law_reach" = true) (k6 : PySem.W.keepIn K (.ref f6) = true)
    (a7 : PySem.W.nsIn K mainGlobals "_law_rule" = some (some (.ref f7))) (l7 : K.lookup f7 = some ⟨oc7, od7, .func (PySem.W.fnOf "_law_rule" "_law_rule" (defArgs s__law_rule) (defBody s__law_rule) (defScope s__law_rule) .none kV7 dc7 pm7 an7 cd7 ct7), sl7⟩) (c7 : PySem.W.codeIn K cd7 "_law_rule" = true) (k7 : PySem.W.keepIn K (.ref f7) = true)
    (a8 : PySem.W.nsIn K mainGlobals "_shown_integer" = some (some (.ref f8))) (l8 : K.lookup f8 = some ⟨oc8, od8, .func (PySem.W.fnOf "_shown_integer" "_shown_integer" (defArgs s__shown_integer) (defBody s__shown_integer) (defScope s__shown_integer) .none kV8 dc8 pm8 an8 cd8 ct8), sl8⟩) (c8 : PySem.W.codeIn K cd8 "_shown_integer" = true) (k8 : PySem.W.keepIn K (.ref f8) = true)
    (a9 : PySem.W.nsIn K mainGlobals "_shown_bound" = some (some (.ref f9))) (l9 : K.lookup f9 = some ⟨oc9, od9, .func (PySem.W.fnOf "_shown_bound" "_shown_bound" (defArgs s__shown_bound) (defBody s__shown_bound) (defScope s__shown_bound) .none kV9 dc9 pm9 an9 cd9 ct9), sl9⟩) (c9 : PySem.W.codeIn K cd9 "_shown_bound" = true) (k9 : PySem.W.keepIn K (.ref f9) = true)
    (a10 : PySem.W.nsIn K mainGlobals "show_range" = some (some (.ref f10))) (l10 : K.lookup f10 = some ⟨oc10, od10, .func (PySem.W.fnOf "show_range" "show_range" (defArgs s_show_range) (defBody s_show_range) (defScope s_show_range) .none kV10 dc10 pm10 an10 cd10 ct10), sl10⟩) (c10 : PySem.W.codeIn K cd10 "show_range" = true) (k10 : PySem.W.keepIn K (.ref f10) = true)
    (a11 : PySem.W.nsIn K mainGlobals "_integer_of" = some (some (.ref f11))) (l11 : K.lookup f11 = some ⟨oc11, od11, .func (PySem.W.fnOf "_integer_of" "_integer_of" (defArgs s__integer_of) (defBody s__integer_of) (defScope s__integer_of) .none kV11 dc11 pm11 an11 cd11 ct11), sl11⟩) (c11 : PySem.W.codeIn K cd11 "_integer_of" = true) (k11 : PySem.W.keepIn K (.ref f11) = true)
    (a12 : PySem.W.nsIn K mainGlobals "_bound_of" = some (some (.ref f12))) (l12 : K.lookup f12 = some ⟨oc12, od12, .func (PySem.W.fnOf "_bound_of" "_bound_of" (defArgs s__bound_of) (defBody s__bound_of) (defScope s__bound_of) .none kV12 dc12 pm12 an12 cd12 ct12), sl12⟩) (c12 : PySem.W.codeIn K cd12 "_bound_of" = true) (k12 : PySem.W.keepIn K (.ref f12) = true)
    (a13 : PySem.W.nsIn K mainGlobals "_bounds_of" = some (some (.ref f13))) (l13 : K.lookup f13 = some ⟨oc13, od13, .func (PySem.W.fnOf "_bounds_of" "_bounds_of" (defArgs s__bounds_of) (defBody s__bounds_of) (defScope s__bounds_of) .none kV13 dc13 pm13 an13 cd13 ct13), sl13⟩) (c13 : PySem.W.codeIn K cd13 "_bounds_of" = true) (k13 : PySem.W.keepIn K (.ref f13) = true)
    (a14 : PySem.W.nsIn K mainGlobals "_name_of" = some (some (.ref f14))) (l14 : K.lookup f14 = some ⟨oc14, od14, .func (PySem.W.fnOf "_name_of" "_name_of" (defArgs s__name_of) (defBody s__name_of) (defScope s__name_of) .none kV14 dc14 pm14 an14 cd14 ct14), sl14⟩) (c14 : PySem.W.codeIn K cd14 "_name_of" = true) (k14 : PySem.W.keepIn K (.ref f14) = true)
    (a15 : PySem.W.nsIn K mainGlobals "_signed" = some (some (.ref f15))) (l15 : K.lookup f15 = some ⟨oc15, od15, .func (PySem.W.fnOf "_signed" "_signed" (defArgs s__signed) (defBody s__signed) (defScope s__signed) .none kV15 dc15 pm15 an15 cd15 ct15), sl15⟩) (c15 : PySem.W.codeIn K cd15 "_signed" = true) (k15 : PySem.W.keepIn K (.ref f15) = true)
    (a16 : PySem.W.nsIn K mainGlobals "_step_of" = some (some (.ref f16))) (l16 : K.lookup f16 = some ⟨oc16, od16, .func (PySem.W.fnOf "_step_of" "_step_of" (defArgs s__step_of) (defBody s__step_of) (defScope s__step_of) .none kV16 dc16 pm16 an16 cd16 ct16), sl16⟩) (c16 : PySem.W.codeIn K cd16 "_step_of" = true) (k16 : PySem.W.keepIn K (.ref f16) = true)
    (a17 : PySem.W.nsIn K mainGlobals "_condition_of" = some (some (.ref f17))) (l17 : K.lookup f17 = some ⟨oc17, od17, .func (PySem.W.fnOf "_condition_of" "_condition_of" (defArgs s__condition_of) (defBody s__condition_of) (defScope s__condition_of) .none kV17 dc17 pm17 an17 cd17 ct17), sl17⟩) (c17 : PySem.W.codeIn K cd17 "_condition_of" = true) (k17 : PySem.W.keepIn K (.ref f17) = true)
    (a18 : PySem.W.nsIn K mainGlobals "_conditions_of" = some (some (.ref f18))) (l18 : K.lookup f18 = some ⟨oc18, od18, .func (PySem.W.fnOf "_conditions_of" "_conditions_of" (defArgs s__conditions_of) (defBody s__conditions_of) (defScope s__conditions_of) .none kV18 dc18 pm18 an18 cd18 ct18), sl18⟩) (c18 : PySem.W.codeIn K cd18 "_conditions_of" = true) (k18 : PySem.W.keepIn K (.ref f18) = true)
    (a19 : PySem.W.nsIn K mainGlobals "_rule_of" = some (some (.ref f19))) (l19 : K.lookup f19 = some ⟨oc19, od19, .func (PySem.W.fnOf "_rule_of" "_rule_of" (defArgs s__rule_of) (defBody s__rule_of) (defScope s__rule_of) .none kV19 dc19 pm19 an19 cd19 ct19), sl19⟩) (c19 : PySem.W.codeIn K cd19 "_rule_of" = true) (k19 : PySem.W.keepIn K (.ref f19) = true)
    (a20 : PySem.W.nsIn K mainGlobals "read_rule" = some (some (.ref f20))) (l20 : K.lookup f20 = some ⟨oc20, od20, .func (PySem.W.fnOf "read_rule" "read_rule" (defArgs s_read_rule) (defBody s_read_rule) (defScope s_read_rule) .none kV20 dc20 pm20 an20 cd20 ct20), sl20⟩) (c20 : PySem.W.codeIn K cd20 "read_rule" = true) (k20 : PySem.W.keepIn K (.ref f20) = true)
    (a21 : PySem.W.nsIn K mainGlobals "_words_of_step" = some (some (.ref f21))) (l21 : K.lookup f21 = some ⟨oc21, od21, .func (PySem.W.fnOf "_words_of_step" "_words_of_step" (defArgs s__words_of_step) (defBody s__words_of_step) (defScope s__words_of_step) .none kV21 dc21 pm21 an21 cd21 ct21), sl21⟩) (c21 : PySem.W.codeIn K cd21 "_words_of_step" = true) (k21 : PySem.W.keepIn K (.ref f21) = true)
    (a22 : PySem.W.nsIn K mainGlobals "show_rule" = some (some (.ref f22))) (l22 : K.lookup f22 = some ⟨oc22, od22, .func (PySem.W.fnOf "show_rule" "show_rule" (defArgs s_show_rule) (defBody s_show_rule) (defScope s_show_rule) .none kV22 dc22 pm22 an22 cd22 ct22), sl22⟩) (c22 : PySem.W.codeIn K cd22 "show_rule" = true) (k22 : PySem.W.keepIn K (.ref f22) = true)
    (a23 : PySem.W.nsIn K mainGlobals "_law_bound_text" = some (some (.ref f23))) (l23 : K.lookup f23 = some ⟨oc23, od23, .func (PySem.W.fnOf "_law_bound_text" "_law_bound_text" (defArgs s__law_bound_text) (defBody s__law_bound_text) (defScope s__law_bound_text) .none kV23 dc23 pm23 an23 cd23 ct23), sl23⟩) (c23 : PySem.W.codeIn K cd23 "_law_bound_text" = true) (k23 : PySem.W.keepIn K (.ref f23) = true)
    (a24 : PySem.W.nsIn K mainGlobals "_law_reach_text" = some (some (.ref f24))) (l24 : K.lookup f24 = some ⟨oc24, od24, .func (PySem.W.fnOf "_law_reach_text" "_law_reach_text" (defArgs s__law_reach_text) (defBody s__law_reach_text) (defScope s__law_reach_text) .none kV24 dc24 pm24 an24 cd24 ct24), sl24⟩) (c24 : PySem.W.codeIn K cd24 "_law_reach_text" = true) (k24 : PySem.W.keepIn K (.ref f24) = true)
    (a25 : PySem.W.nsIn K mainGlobals "_law_integer" = some (some (.ref f25))) (l25 : K.lookup f25 = some ⟨oc25, od25, .func (PySem.W.fnOf "_law_integer" "_law_integer" (defArgs s__law_integer) (defBody s__law_integer) (defScope s__law_integer) .none kV25 dc25 pm25 an25 cd25 ct25), sl25⟩) (c25 : PySem.W.codeIn K cd25 "_law_integer" = true) (k25 : PySem.W.keepIn K (.ref f25) = true)
    (a26 : PySem.W.nsIn K mainGlobals "_law_reach_of" = some (some (.ref f26))) (l26 : K.lookup f26 = some ⟨oc26, od26, .func (PySem.W.fnOf "_law_reach_of" "_law_reach_of" (defArgs s__law_reach_of) (defBody s__law_reach_of) (defScope s__law_reach_of) .none kV26 dc26 pm26 an26 cd26 ct26), sl26⟩) (c26 : PySem.W.codeIn K cd26 "_law_reach_of" = true) (k26 : PySem.W.keepIn K (.ref f26) = true)
    (a27 : PySem.W.nsIn K mainGlobals "_law_changed" = some (some (.ref f27))) (l27 : K.lookup f27 = some ⟨oc27, od27, .func (PySem.W.fnOf "_law_changed" "_law_changed" (defArgs s__law_changed) (defBody s__law_changed) (defScope s__law_changed) .none kV27 dc27 pm27 an27 cd27 ct27), sl27⟩) (c27 : PySem.W.codeIn K cd27 "_law_changed" = true) (k27 : PySem.W.keepIn K (.ref f27) = true)
    (a28 : PySem.W.nsIn K mainGlobals "_law_rule_text" = some (some (.ref f28))) (l28 : K.lookup f28 = some ⟨oc28, od28, .func (PySem.W.fnOf "_law_rule_text" "_law_rule_text" (defArgs s__law_rule_text) (defBody s__law_rule_text) (defScope s__law_rule_text) .none kV28 dc28 pm28 an28 cd28 ct28), sl28⟩) (c28 : PySem.W.codeIn K cd28 "_law_rule_text" = true) (k28 : PySem.W.keepIn K (.ref f28) = true)
    (a29 : PySem.W.nsIn K mainGlobals "_law_is_title" = some (some (.ref f29))) (l29 : K.lookup f29 = some ⟨oc29, od29, .func (PySem.W.fnOf "_law_is_title" "_law_is_title" (defArgs s__law_is_title) (defBody s__law_is_title) (defScope s__law_is_title) .none kV29 dc29 pm29 an29 cd29 ct29), sl29⟩) (c29 : PySem.W.codeIn K cd29 "_law_is_title" = true) (k29 : PySem.W.keepIn K (.ref f29) = true)
    (a30 : PySem.W.nsIn K mainGlobals "_law_conditions_of" = some (some (.ref f30))) (l30 : K.lookup f30 = some ⟨oc30, od30, .func (PySem.W.fnOf "_law_conditions_of" "_law_conditions_of" (defArgs s__law_conditions_of) (defBody s__law_conditions_of) (defScope s__law_conditions_of) .none kV30 dc30 pm30 an30 cd30 ct30), sl30⟩) (c30 : PySem.W.codeIn K cd30 "_law_conditions_of" = true) (k30 : PySem.W.keepIn K (.ref f30) = true)
    (a31 : PySem.W.nsIn K mainGlobals "_law_rule_of" = some (some (.ref f31))) (l31 : K.lookup f31 = some ⟨oc31, od31, .func (PySem.W.fnOf "_law_rule_of" "_law_rule_of" (defArgs s__law_rule_of) (defBody s__law_rule_of) (defScope s__law_rule_of) .none kV31 dc31 pm31 an31 cd31 ct31), sl31⟩) (c31 : PySem.W.codeIn K cd31 "_law_rule_of" = true) (k31 : PySem.W.keepIn K (.ref f31) = true)
    (a32 : PySem.W.nsIn K mainGlobals "_law_told" = some (some (.ref f32))) (l32 : K.lookup f32 = some ⟨oc32, od32, .func (PySem.W.fnOf "_law_told" "_law_told" (defArgs s__law_told) (defBody s__law_told) (defScope s__law_told) .none kV32 dc32 pm32 an32 cd32 ct32), sl32⟩) (c32 : PySem.W.codeIn K cd32 "_law_told" = true) (k32 : PySem.W.keepIn K (.ref f32) = true)
    (a33 : PySem.W.nsIn K mainGlobals "_law_title" = some (some (.ref f33))) (l33 : K.lookup f33 = some ⟨oc33, od33, .func (PySem.W.fnOf "_law_title" "_law_title" (defArgs s__law_title) (defBody s__law_title) (defScope s__law_title) .none kV33 dc33 pm33 an33 cd33 ct33), sl33⟩) (c33 : PySem.W.codeIn K cd33 "_law_title" = true) (k33 : PySem.W.keepIn K (.ref f33) = true)
    (a34 : PySem.W.nsIn K mainGlobals "_law_empty_right" = some (some (.ref f34))) (l34 : K.lookup f34 = some ⟨oc34, od34, .func (PySem.W.fnOf "_law_empty_right" "_law_empty_right" (defArgs s__law_empty_right) (defBody s__law_empty_right) (defScope s__law_empty_right) .none kV34 dc34 pm34 an34 cd34 ct34), sl34⟩) (c34 : PySem.W.codeIn K cd34 "_law_empty_right" = true) (k34 : PySem.W.keepIn K (.ref f34) = true)
    (a35 : PySem.W.nsIn K mainGlobals "law" = some (some (.ref f35))) (l35 : K.lookup f35 = some ⟨oc35, od35, .func (PySem.W.fnOf "law" "law" (defArgs s_law) (defBody s_law) (defScope s_law) .none kV35 dc35 pm35 an35 cd35 ct35), sl35⟩) (c35 : PySem.W.codeIn K cd35 "law" = true) (k35 : PySem.W.keepIn K (.ref f35) = true)
    (z0 : PySem.W.nsIn K mainGlobals "abs" = some none)
    (z1 : PySem.W.nsIn K mainGlobals "all" = some none)
    (z2 : PySem.W.nsIn K mainGlobals "divmod" = some none)
    (z3 : PySem.W.nsIn K mainGlobals "int" = some none)
    (z4 : PySem.W.nsIn K mainGlobals "isinstance" = some none)
    (z5 : PySem.W.nsIn K mainGlobals "len" = some none)
    (z6 : PySem.W.nsIn K mainGlobals "min" = some none)
    (z7 : PySem.W.nsIn K mainGlobals "range" = some none)
    (z8 : PySem.W.nsIn K mainGlobals "str" = some none)
    (z9 : PySem.W.nsIn K mainGlobals "tuple" = some none)
    : ∃ fd : FuncData, (∀ (s : Shared) (v : Value), BindsTo s fd ⟨[v], []⟩ [("script", v)]) ∧ ∀ base : Heap, K.In base → base.Ns mainGlobals mg → FnGd l.prog w K mg base 12 fa fd ["script"] (sp_law K) := by
  have e := hfa.symm.trans (PySem.W.mg_of X G a35)
  cases e
  have k_MOST_DIGITS : ∃ t, mg "MOST_DIGITS" = some (.int 45 t) := ⟨_, PySem.W.mg_of X G kG_MOST_DIGITS⟩
  have k_PART : ∃ t, mg "PART" = some (.int 10000000000000000000000000000000000000000000000000000000000000000 t) := ⟨_, PySem.W.mg_of X G kG_PART⟩
  have k_PART_DIGITS : ∃ t, mg "PART_DIGITS" = some (.int 64 t) := ⟨_, PySem.W.mg_of X G kG_PART_DIGITS⟩
  have XE : ErrT K mg [e0, e1, e2, e3] ["RangeError", "InvalidRange", "InvalidSystem", "Unreadable"] f2 := by
    refine ⟨fun i C x hc hx => ?_, fun i j C D hc hd => ?_, fun i C hc => ?_, rfl⟩
    · match i, hc, hx with
      | 0, hc, hx => obtain rfl := Option.some.inj hc; obtain rfl := Option.some.inj hx; exact ext_mk ⟨_, _, _, _, _, _, _, _, _, _, _, _, _, _, _, xl0, xr0⟩ (PySem.W.mg_of X G xn0) xb0 xj
      | 1, hc, hx => obtain rfl := Option.some.inj hc; obtain rfl := Option.some.inj hx; exact ext_mk ⟨_, _, _, _, _, _, _, _, _, _, _, _, _, _, _, xl1, xr1⟩ (PySem.W.mg_of X G xn1) xb1 xj
      | 2, hc, hx => obtain rfl := Option.some.inj hc; obtain rfl := Option.some.inj hx; exact ext_mk ⟨_, _, _, _, _, _, _, _, _, _, _, _, _, _, _, xl2, xr2⟩ (PySem.W.mg_of X G xn2) xb2 xj
      | 3, hc, hx => obtain rfl := Option.some.inj hc; obtain rfl := Option.some.inj hx; exact ext_mk ⟨_, _, _, _, _, _, _, _, _, _, _, _, _, _, _, xl3, xr3⟩ (PySem.W.mg_of X G xn3) xb3 xj
      | n + 4, hc, _ => simp at hc
    · match i, hc with
      | 0, hc => obtain rfl := Option.some.inj hc; have z := (kitB_at xk0).1 j D hd; rw [Nat.zero_add] at z; exact z
      | 1, hc => obtain rfl := Option.some.inj hc; have z := (kitB_at xk1).1 j D hd; rw [Nat.zero_add] at z; exact z
      | 2, hc => obtain rfl := Option.some.inj hc; have z := (kitB_at xk2).1 j D hd; rw [Nat.zero_add] at z; exact z
      | 3, hc => obtain rfl := Option.some.inj hc; have z := (kitB_at xk3).1 j D hd; rw [Nat.zero_add] at z; exact z
      | n + 4, hc => simp at hc
    · match i, hc with
      | 0, hc => obtain rfl := Option.some.inj hc; exact (kitB_at xk0).2
      | 1, hc => obtain rfl := Option.some.inj hc; exact (kitB_at xk1).2
      | 2, hc => obtain rfl := Option.some.inj hc; exact (kitB_at xk2).2
      | 3, hc => obtain rfl := Option.some.inj hc; exact (kitB_at xk3).2
      | n + 4, hc => simp at hc
  have A0 : At K mg "is_upside_down" s_is_upside_down ["one"] := at_mk X G a0 l0 c0 k0 fun _ _ _ _ _ _ us hl => match us, hl with | [_], _ => rfl
  have A1 : At K mg "check_range" s_check_range ["one"] := at_mk X G a1 l1 c1 k1 fun _ _ _ _ _ _ us hl => match us, hl with | [_], _ => rfl
  have A2 : AtI K f2 "RangeError.__init__" s_RangeError___init__ ["self", "value"] := ⟨_, fun_mk l2 c2 k2, (fun_mk l2 c2 k2).binds (fun _ _ _ _ _ _ us hl => match us, hl with | [_, _], _ => rfl)⟩
  have kI_value : ∀ fd, Fun K "__init__" "RangeError.__init__" s_RangeError___init__ f2 fd → ∀ (s : Shared) (a u : Value), BindsTo s fd ⟨[a], [("value", u)]⟩ ((["self", "value"] : List Str).zip [a, u]) := by
    intro fd F s a u
    obtain ⟨oc, od, kV, doc, pm, an, cdv, ct, osl, rfl, lk, hcd⟩ := F.ex
    exact .of_eq rfl
  have A3 : At K mg "is_name" s_is_name ["text"] := at_mk X G a3 l3 c3 k3 fun _ _ _ _ _ _ us hl => match us, hl with | [_], _ => rfl
  have A4 : At K mg "_law_bag" s__law_bag ["script"] := at_mk X G a4 l4 c4 k4 fun _ _ _ _ _ _ us hl => match us, hl with | [_], _ => rfl
  have A5 : At K mg "_law_draw" s__law_draw ["bag", "many"] := at_mk X G a5 l5 c5 k5 fun _ _ _ _ _ _ us hl => match us, hl with | [_, _], _ => rfl
  have A6 : At K mg "_law_reach" s__law_reach ["bag", "span"] := at_mk X G a6 l6 c6 k6 fun _ _ _ _ _ _ us hl => match us, hl with | [_, _], _ => rfl
  have A7 : At K mg "_law_rule" s__law_rule ["bag", "titles"] := at_mk X G a7 l7 c7 k7 fun _ _ _ _ _ _ us hl => match us, hl with | [_, _], _ => rfl
  have A8 : At K mg "_shown_integer" s__shown_integer ["number"] := at_mk X G a8 l8 c8 k8 fun _ _ _ _ _ _ us hl => match us, hl with | [_], _ => rfl
  have A9 : At K mg "_shown_bound" s__shown_bound ["bound"] := at_mk X G a9 l9 c9 k9 fun _ _ _ _ _ _ us hl => match us, hl with | [_], _ => rfl
  have A10 : At K mg "show_range" s_show_range ["one"] := at_mk X G a10 l10 c10 k10 fun _ _ _ _ _ _ us hl => match us, hl with | [_], _ => rfl
  have A11 : At K mg "_integer_of" s__integer_of ["text"] := at_mk X G a11 l11 c11 k11 fun _ _ _ _ _ _ us hl => match us, hl with | [_], _ => rfl
  have A12 : At K mg "_bound_of" s__bound_of ["text"] := at_mk X G a12 l12 c12 k12 fun _ _ _ _ _ _ us hl => match us, hl with | [_], _ => rfl
  have A13 : At K mg "_bounds_of" s__bounds_of ["text"] := at_mk X G a13 l13 c13 k13 fun _ _ _ _ _ _ us hl => match us, hl with | [_], _ => rfl
  have A14 : At K mg "_name_of" s__name_of ["text"] := at_mk X G a14 l14 c14 k14 fun _ _ _ _ _ _ us hl => match us, hl with | [_], _ => rfl
  have A15 : At K mg "_signed" s__signed ["sign", "digits"] := at_mk X G a15 l15 c15 k15 fun _ _ _ _ _ _ us hl => match us, hl with | [_, _], _ => rfl
  have A16 : At K mg "_step_of" s__step_of ["x", "y", "factor", "sign", "add"] := at_mk X G a16 l16 c16 k16 fun _ _ _ _ _ _ us hl => match us, hl with | [_, _, _, _, _], _ => rfl
  have A17 : At K mg "_condition_of" s__condition_of ["text"] := at_mk X G a17 l17 c17 k17 fun _ _ _ _ _ _ us hl => match us, hl with | [_], _ => rfl
  have A18 : At K mg "_conditions_of" s__conditions_of ["words"] := at_mk X G a18 l18 c18 k18 fun _ _ _ _ _ _ us hl => match us, hl with | [_], _ => rfl
  have A19 : At K mg "_rule_of" s__rule_of ["text"] := at_mk X G a19 l19 c19 k19 fun _ _ _ _ _ _ us hl => match us, hl with | [_], _ => rfl
  have A20 : At K mg "read_rule" s_read_rule ["text"] := at_mk X G a20 l20 c20 k20 fun _ _ _ _ _ _ us hl => match us, hl with | [_], _ => rfl
  have A21 : At K mg "_words_of_step" s__words_of_step ["rule"] := at_mk X G a21 l21 c21 k21 fun _ _ _ _ _ _ us hl => match us, hl with | [_], _ => rfl
  have A22 : At K mg "show_rule" s_show_rule ["rule"] := at_mk X G a22 l22 c22 k22 fun _ _ _ _ _ _ us hl => match us, hl with | [_], _ => rfl
  have A23 : At K mg "_law_bound_text" s__law_bound_text ["bound"] := at_mk X G a23 l23 c23 k23 fun _ _ _ _ _ _ us hl => match us, hl with | [_], _ => rfl
  have A24 : At K mg "_law_reach_text" s__law_reach_text ["there"] := at_mk X G a24 l24 c24 k24 fun _ _ _ _ _ _ us hl => match us, hl with | [_], _ => rfl
  have A25 : At K mg "_law_integer" s__law_integer ["wording"] := at_mk X G a25 l25 c25 k25 fun _ _ _ _ _ _ us hl => match us, hl with | [_], _ => rfl
  have A26 : At K mg "_law_reach_of" s__law_reach_of ["wording"] := at_mk X G a26 l26 c26 k26 fun _ _ _ _ _ _ us hl => match us, hl with | [_], _ => rfl
  have A27 : At K mg "_law_changed" s__law_changed ["bag", "wording"] := at_mk X G a27 l27 c27 k27 fun _ _ _ _ _ _ us hl => match us, hl with | [_, _], _ => rfl
  have A28 : At K mg "_law_rule_text" s__law_rule_text ["rule_now"] := at_mk X G a28 l28 c28 k28 fun _ _ _ _ _ _ us hl => match us, hl with | [_], _ => rfl
  have A29 : At K mg "_law_is_title" s__law_is_title ["wording"] := at_mk X G a29 l29 c29 k29 fun _ _ _ _ _ _ us hl => match us, hl with | [_], _ => rfl
  have A30 : At K mg "_law_conditions_of" s__law_conditions_of ["wording"] := at_mk X G a30 l30 c30 k30 fun _ _ _ _ _ _ us hl => match us, hl with | [_], _ => rfl
  have A31 : At K mg "_law_rule_of" s__law_rule_of ["wording"] := at_mk X G a31 l31 c31 k31 fun _ _ _ _ _ _ us hl => match us, hl with | [_], _ => rfl
  have A32 : At K mg "_law_told" s__law_told ["wording"] := at_mk X G a32 l32 c32 k32 fun _ _ _ _ _ _ us hl => match us, hl with | [_], _ => rfl
  have A33 : At K mg "_law_title" s__law_title ["bag"] := at_mk X G a33 l33 c33 k33 fun _ _ _ _ _ _ us hl => match us, hl with | [_], _ => rfl
  have A34 : At K mg "_law_empty_right" s__law_empty_right [] := at_mk X G a34 l34 c34 k34 fun _ _ _ _ _ _ us hl => match us, hl with | [], _ => rfl
  have A35 : At K mg "law" s_law ["script"] := at_mk X G a35 l35 c35 k35 fun _ _ _ _ _ _ us hl => match us, hl with | [_], _ => rfl
  refine ⟨PySem.W.fnOf "law" "law" (defArgs s_law) (defBody s_law) (defScope s_law) .none kV35 dc35 pm35 an35 cd35 ct35, fun s v => .of_eq rfl, fun base _ _ => ?_⟩
  have m_abs := PySem.W.mg_none_of X G z0
  have m_all := PySem.W.mg_none_of X G z1
  have m_divmod := PySem.W.mg_none_of X G z2
  have m_int := PySem.W.mg_none_of X G z3
  have m_isinstance := PySem.W.mg_none_of X G z4
  have m_len := PySem.W.mg_none_of X G z5
  have m_min := PySem.W.mg_none_of X G z6
  have m_range := PySem.W.mg_none_of X G z7
  have m_str := PySem.W.mg_none_of X G z8
  have m_tuple := PySem.W.mg_none_of X G z9
  have D__law_bag := ok__law_bag (P := l.prog) (w := w) (mg := mg) (base := base) A4 m_abs m_int
  have D__law_draw := ok__law_draw (P := l.prog) (w := w) (mg := mg) (base := base) A5 m_int m_len
  have D__law_changed := ok__law_changed (P := l.prog) (w := w) (mg := mg) (base := base) A27 D__law_draw m_len
  have D_RangeError___init__ := ok_RangeError___init__ (P := l.prog) (w := w) (mg := mg) (base := base) A2
  have D__integer_of := ok__integer_of (P := l.prog) (w := w) (mg := mg) (base := base) XE A11 D_RangeError___init__ kI_value k_MOST_DIGITS m_all m_int m_len
  have D__bound_of := ok__bound_of (P := l.prog) (w := w) (mg := mg) (base := base) XE A12 D__integer_of
  have D_is_upside_down := ok_is_upside_down (P := l.prog) (w := w) (mg := mg) (base := base) A0
  have D__bounds_of := ok__bounds_of (P := l.prog) (w := w) (mg := mg) (base := base) XE A13 D_RangeError___init__ kI_value D__bound_of D_is_upside_down
  have D_is_name := ok_is_name (P := l.prog) (w := w) (mg := mg) (base := base) A3 m_all m_len
  have D__name_of := ok__name_of (P := l.prog) (w := w) (mg := mg) (base := base) XE A14 D_RangeError___init__ kI_value D_is_name
  have D__condition_of := ok__condition_of (P := l.prog) (w := w) (mg := mg) (base := base) XE A17 D_RangeError___init__ kI_value D__bounds_of D__name_of
  have D__conditions_of := ok__conditions_of (P := l.prog) (w := w) (mg := mg) (base := base) XE A18 D_RangeError___init__ kI_value D__condition_of m_tuple
  have D__signed := ok__signed (P := l.prog) (w := w) (mg := mg) (base := base) XE A15 D_RangeError___init__ kI_value D__integer_of
  have D__step_of := ok__step_of (P := l.prog) (w := w) (mg := mg) (base := base) XE A16 D_RangeError___init__ kI_value D__integer_of D__name_of D__signed
  have D__rule_of := ok__rule_of (P := l.prog) (w := w) (mg := mg) (base := base) XE A19 D_RangeError___init__ kI_value D__bounds_of D__conditions_of D__name_of D__step_of
  have D_read_rule := ok_read_rule (P := l.prog) (w := w) (mg := mg) (base := base) XE A20 D_RangeError___init__ kI_value D__rule_of
  have D__law_told := ok__law_told (P := l.prog) (w := w) (mg := mg) (base := base) XE A32 D_read_rule m_isinstance
  have D__law_empty_right := ok__law_empty_right (P := l.prog) (w := w) (mg := mg) (base := base) XE A34 D__law_told
  have D__law_reach := ok__law_reach (P := l.prog) (w := w) (mg := mg) (base := base) A6 D__law_draw
  have D__law_rule := ok__law_rule (P := l.prog) (w := w) (mg := mg) (base := base) A7 D__law_draw D__law_reach m_len
  have D__law_is_title := ok__law_is_title (P := l.prog) (w := w) (mg := mg) (base := base) A29 m_len
  have D__law_integer := ok__law_integer (P := l.prog) (w := w) (mg := mg) (base := base) A25 m_int m_len
  have D__law_reach_of := ok__law_reach_of (P := l.prog) (w := w) (mg := mg) (base := base) A26 D__law_integer m_len
  have D__law_conditions_of := ok__law_conditions_of (P := l.prog) (w := w) (mg := mg) (base := base) A30 D__law_is_title D__law_reach_of m_len m_tuple
  have D__law_bound_text := ok__law_bound_text (P := l.prog) (w := w) (mg := mg) (base := base) A23 m_str
  have D__law_reach_text := ok__law_reach_text (P := l.prog) (w := w) (mg := mg) (base := base) A24 D__law_bound_text
  have D__law_rule_text := ok__law_rule_text (P := l.prog) (w := w) (mg := mg) (base := base) A28 D__law_reach_text m_abs m_int m_str
  have D__law_rule_of := ok__law_rule_of (P := l.prog) (w := w) (mg := mg) (base := base) A31 D__law_conditions_of D__law_integer D__law_is_title D__law_reach_of D__law_rule_text m_int m_len
  have D__law_title := ok__law_title (P := l.prog) (w := w) (mg := mg) (base := base) A33 D__law_draw m_range
  have D_read_rule_Q := ok_read_rule_Q (C := e0) D_read_rule
  have D__shown_integer := ok__shown_integer (P := l.prog) (w := w) (mg := mg) (base := base) A8 k_PART k_PART_DIGITS m_abs m_divmod m_str
  have D__shown_bound := ok__shown_bound (P := l.prog) (w := w) (mg := mg) (base := base) A9 D__shown_integer
  have D_check_range := ok_check_range (P := l.prog) (w := w) (mg := mg) (base := base) A1 D_is_upside_down
  have D_show_range := ok_show_range (P := l.prog) (w := w) (mg := mg) (base := base) A10 D__shown_bound D_check_range
  have D__words_of_step := ok__words_of_step (P := l.prog) (w := w) (mg := mg) (base := base) A21 D__shown_integer D_show_range m_abs
  have D_show_rule := ok_show_rule (P := l.prog) (w := w) (mg := mg) (base := base) A22 D__words_of_step D_show_range
  have D_law := ok_law (P := l.prog) (w := w) (mg := mg) (base := base) XE A35 D__law_bag D__law_changed D__law_draw D__law_empty_right D__law_rule D__law_rule_of D__law_rule_text D__law_title D__law_told D_read_rule_Q D_show_rule kw_read_rule_Q_text kw_show_rule_rule m_len m_min m_range
  obtain ⟨f, fd, F, _, g, ok⟩ := D_law.ex
  have e2 := (PySem.W.mg_of X G a35).symm.trans g
  cases e2
  obtain ⟨oc, od, kV, doc, pm, an, cdv, ct, osl, rfl, lk, _⟩ := F.ex
  rw [l35] at lk
  cases lk
  exact ok
end Pk43
open PySem PySem.W PyProof.Rows
set_option maxHeartbeats 0 in
theorem PySem.Challenge.cw_tightranges_k43_rules_in_texts_holds : PySem.Challenge.rw_tightranges_k43_rules_in_texts.Holds := by
  w_on; o_law; k_head; (case hw => w_witness2)
  k_fill
  refine Gd.walkG (l := PySem.Challenge.rw_tightranges_k43_rules_in_texts) (n := 63) (k := 12) (x := "script") (sp := fun w => Pk43.sp_law _) rfl (by decide) rfl ⟨rfl, by decide, by decide⟩ (fun w h Y => PySem.W.kIn_of Y) ?F (fun _ _ a ns hl _ hS => ⟨a, ns, rfl, hS, hl, fun _ => rfl⟩)
  case F =>
    intro w mg fa h KX G hmg
    refine' Pk43.all_mk KX G hmg ?kG_MOST_DIGITS ?kG_PART ?kG_PART_DIGITS ?xn0 ?xl0 ?xr0 ?xn1 ?xl1 ?xr1 ?xn2 ?xl2 ?xr2 ?xn3 ?xl3 ?xr3 ?xi ?xb0 ?xk0 ?xb1 ?xk1 ?xb2 ?xk2 ?xb3 ?xk3 ?xj ?a0 ?l0 ?c0 ?k0 ?a1 ?l1 ?c1 ?k1 ?l2 ?c2 ?k2 ?a3 ?l3 ?c3 ?k3 ?a4 ?l4 ?c4 ?k4 ?a5 ?l5 ?c5 ?k5 ?a6 ?l6 ?c6 ?k6 ?a7 ?l7 ?c7 ?k7 ?a8 ?l8 ?c8 ?k8 ?a9 ?l9 ?c9 ?k9 ?a10 ?l10 ?c10 ?k10 ?a11 ?l11 ?c11 ?k11 ?a12 ?l12 ?c12 ?k12 ?a13 ?l13 ?c13 ?k13 ?a14 ?l14 ?c14 ?k14 ?a15 ?l15 ?c15 ?k15 ?a16 ?l16 ?c16 ?k16 ?a17 ?l17 ?c17 ?k17 ?a18 ?l18 ?c18 ?k18 ?a19 ?l19 ?c19 ?k19 ?a20 ?l20 ?c20 ?k20 ?a21 ?l21 ?c21 ?k21 ?a22 ?l22 ?c22 ?k22 ?a23 ?l23 ?c23 ?k23 ?a24 ?l24 ?c24 ?k24 ?a25 ?l25 ?c25 ?k25 ?a26 ?l26 ?c26 ?k26 ?a27 ?l27 ?c27 ?k27 ?a28 ?l28 ?c28 ?k28 ?a29 ?l29 ?c29 ?k29 ?a30 ?l30 ?c30 ?k30 ?a31 ?l31 ?c31 ?k31 ?a32 ?l32 ?c32 ?k32 ?a33 ?l33 ?c33 ?k33 ?a34 ?l34 ?c34 ?k34 ?a35 ?l35 ?c35 ?k35 ?z0 ?z1 ?z2 ?z3 ?z4 ?z5 ?z6 ?z7 ?z8 ?z9
    (case kG_MOST_DIGITS => k_is); (case kG_PART => k_is); (case kG_PART_DIGITS => k_is); (case xn0 => k_is); (case xl0 => k_is); (case xr0 => first | decide +kernel | rfl | k_is | trace_state); (case xn1 => k_is); (case xl1 => k_is); (case xr1 => first | decide +kernel | rfl | k_is | trace_state); (case xn2 => k_is); (case xl2 => k_is); (case xr2 => first | decide +kernel | rfl | k_is | trace_state); (case xn3 => k_is); (case xl3 => k_is); (case xr3 => first | decide +kernel | rfl | k_is | trace_state); (case xi => k_is); (case xb0 => first | decide +kernel | rfl | k_is | trace_state); (case xk0 => first | decide +kernel | rfl | k_is | trace_state); (case xb1 => first | decide +kernel | rfl | k_is | trace_state); (case xk1 => first | decide +kernel | rfl | k_is | trace_state); (case xb2 => first | decide +kernel | rfl | k_is | trace_state); (case xk2 => first | decide +kernel | rfl | k_is | trace_state); (case xb3 => first | decide +kernel | rfl | k_is | trace_state); (case xk3 => first | decide +kernel | rfl | k_is | trace_state); (case xj => first | decide +kernel | rfl | k_is | trace_state); (case a0 => k_is); (case l0 => k_is); (case c0 => k_is); (case k0 => k_is); (case a1 => k_is); (case l1 => k_is); (case c1 => k_is); (case k1 => k_is); (case l2 => k_is); (case c2 => k_is); (case k2 => k_is); (case a3 => k_is); (case l3 => k_is); (case c3 => k_is); (case k3 => k_is); (case a4 => k_is); (case l4 => k_is); (case c4 => k_is); (case k4 => k_is); (case a5 => k_is); (case l5 => k_is); (case c5 => k_is); (case k5 => k_is); (case a6 => k_is); (case l6 => k_is); (case c6 => k_is); (case k6 => k_is); (case a7 => k_is); (case l7 => k_is); (case c7 => k_is); (case k7 => k_is); (case a8 => k_is); (case l8 => k_is); (case c8 => k_is); (case k8 => k_is); (case a9 => k_is); (case l9 => k_is); (case c9 => k_is); (case k9 => k_is); (case a10 => k_is); (case l10 => k_is); (case c10 => k_is); (case k10 => k_is); (case a11 => k_is); (case l11 => k_is); (case c11 => k_is); (case k11 => k_is); (case a12 => k_is); (case l12 => k_is); (case c12 => k_is); (case k12 => k_is); (case a13 => k_is); (case l13 => k_is); (case c13 => k_is); (case k13 => k_is); (case a14 => k_is); (case l14 => k_is); (case c14 => k_is); (case k14 => k_is); (case a15 => k_is); (case l15 => k_is); (case c15 => k_is); (case k15 => k_is); (case a16 => k_is); (case l16 => k_is); (case c16 => k_is); (case k16 => k_is); (case a17 => k_is); (case l17 => k_is); (case c17 => k_is); (case k17 => k_is); (case a18 => k_is); (case l18 => k_is); (case c18 => k_is); (case k18 => k_is); (case a19 => k_is); (case l19 => k_is); (case c19 => k_is); (case k19 => k_is); (case a20 => k_is); (case l20 => k_is); (case c20 => k_is); (case k20 => k_is); (case a21 => k_is); (case l21 => k_is); (case c21 => k_is); (case k21 => k_is); (case a22 => k_is); (case l22 => k_is); (case c22 => k_is); (case k22 => k_is); (case a23 => k_is); (case l23 => k_is); (case c23 => k_is); (case k23 => k_is); (case a24 => k_is); (case l24 => k_is); (case c24 => k_is); (case k24 => k_is); (case a25 => k_is); (case l25 => k_is); (case c25 => k_is); (case k25 => k_is); (case a26 => k_is); (case l26 => k_is); (case c26 => k_is); (case k26 => k_is); (case a27 => k_is); (case l27 => k_is); (case c27 => k_is); (case k27 => k_is); (case a28 => k_is); (case l28 => k_is); (case c28 => k_is); (case k28 => k_is); (case a29 => k_is); (case l29 => k_is); (case c29 => k_is); (case k29 => k_is); (case a30 => k_is); (case l30 => k_is); (case c30 => k_is); (case k30 => k_is); (case a31 => k_is); (case l31 => k_is); (case c31 => k_is); (case k31 => k_is); (case a32 => k_is); (case l32 => k_is); (case c32 => k_is); (case k32 => k_is); (case a33 => k_is); (case l33 => k_is); (case c33 => k_is); (case k33 => k_is); (case a34 => k_is); (case l34 => k_is); (case c34 => k_is); (case k34 => k_is); (case a35 => k_is); (case l35 => k_is); (case c35 => k_is); (case k35 => k_is); (case z0 => k_is); (case z1 => k_is); (case z2 => k_is); (case z3 => k_is); (case z4 => k_is); (case z5 => k_is); (case z6 => k_is); (case z7 => k_is); (case z8 => k_is); (case z9 => k_is)
