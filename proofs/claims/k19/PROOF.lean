import PyProof.Rows.All
import Wide.All
import OpenK.AllK
import Wide.FinOn
import HandS.ForMost
import HandS.Wide
import HandS.Conv
import HandS.EndBits
import HandS.ForExc
import HandS.Style
import HandS.Codes
import HandS.Property
import HandS.MakeKwOnly
import HandS.IsInst
import HandS.TupAny
import HandS.Walk
import HandS.ExcInit
import HandS.ExcIs
import HandS.ExcField
import HandS.RaiseMore
import HandS.ExcOwn
import PySem.Challenge.RW_tightranges_k19_errors_of_holdings
set_option Elab.async false
set_option linter.all false
set_option maxRecDepth 100000
namespace Gd
open PySem PySem.Spec PyProof.Rows L2

/-! ### a def called where no repr is under way -/
structure FnGd (P : Program) (w : World) (K : PySem.W.Frag) (mg : Str → Option Value)
    (base : Heap) (k : Nat) (f : Addr) (fd : FuncData) (ps : List Str) (sp : Sp) : Prop where
  len : ∀ vs H Q E, sp vs H Q E → vs.length = ps.length
  run : ∀ (A : Around) (out : List Env) (s : Shared) (H : Hp) (args : Args)
      (us : List Value) (vs : List V) (Q : VK) (E : XK),
      A.guards = some [] → Room k A → Env0 P w K mg base A out s H →
      BindsTo s fd args (ps.zip us) → Vals vs us → sp vs H Q E →
      codeAny (model P w) A (.call (.ref f) args) (CR CX0 out P w H s Q E) s

section
variable {P : Program} {w : World} {K : PySem.W.Frag} {mg : Str → Option Value} {base : Heap}

theorem okG {x qual : Str} {st : Stmt} {f : Addr} {fd : FuncData} {N ps : List Str} {k : Nat} {sp : Sp}
    (F : Fun K x qual st f fd) (S : FnScope N ps (defScope st))
    (len : ∀ vs H Q E, sp vs H Q E → vs.length = ps.length)
    (hb : ∀ (cdv : Value) (A : Around) (out : List Env) (s : Shared) (H : Hp) (vs : List V) (Q : VK) (E : XK),
      (A.deeper (envOfC qual (defScope st) s.heap.objs.size f cdv)).guards = some [] →
      Room k (A.deeper (envOfC qual (defScope st) s.heap.objs.size f cdv)) → sp vs H Q E →
      ∃ t, PSs (cxOf CX0 P w K mg base N qual (defScope st) f cdv A out s H E).nox (defBody st) t ∧
        t { nx := fun _ H' => Q .non H', rt := Q } (start N vs) H) :
    FnGd P w K mg base (k + 1) f fd ps sp := by
  obtain ⟨oc, od, kV, doc, pm, an, cdv, ct, osl, rfl, lk, cdok⟩ := F.ex
  constructor
  · exact len
  intro A out s H args us vs Q E gA rm env bnd rel pre
  have pl := len vs H Q E pre
  have keep : ∀ b o, base.get? b = some o → s.heap.get? b = some o := fun b o e => (env.bs b o e).1
  have kin := env.mod.kin.keeps keep
  have nol := env.mod.nolimit.keeps keep
  refine codeAny_call_function rm.depth (kin _ _ lk) rfl S.co S.gen rfl
    (PySem.W.codeRec_of kin cdok) (bnd _ _ _ _ ?_)
  refine wpAny_newFunctionEnv_cells S.kind ?_ fun en he s1 xx => ?_
  · rintro ⟨nm, val⟩ mem
    cases S.par nm (List.of_mem_zip mem).1 with
    | inl q => exact .inl q
    | inr q => exact .inr ⟨q, PySem.W.cellsFrom_some _ _ _ (.inl q)⟩
  subst he
  refine ⟨nol.keeps xx.toInCall.keep, codeAny_func ?_⟩
  obtain ⟨t, ht, hq⟩ := hb cdv A out s H vs Q E gA (rm.deeper _) pre
  have J0 := inv_start (CX := CX0) (E := E) (qual := qual) (f := f) (cd := cdv) S rm.hd env pl rel xx
  refine wpAny_mono (ht.nox.run [] s1 (start N vs) H _ J0 hq) ?_ (fun _ _ z => z)
  intro fl s' post
  cases fl with
  | next =>
    obtain ⟨_, H', J, q⟩ := post
    exact ⟨.non, H', J.os, J.bare, J.base, J.hok, rfl, q⟩
  | ret u =>
    obtain ⟨v, _, H', J, rv, q⟩ := post
    exact ⟨v, H', J.os, J.bare, J.base, J.hok, rv, q⟩
  | brk =>
    obtain ⟨_, _, _, no⟩ := post
    cases no
  | cont =>
    obtain ⟨_, _, _, no⟩ := post
    cases no

/-- the law's call at its own place: nothing is under way there -/
theorem lawG {mb : Str → Option Value} {k : Nat} {fa a : Addr} {fd : FuncData} {x : Str} {sp : Sp}
    {s : Shared} {vs : List Value} {ns : List Int}
    (kin : K.In s.heap) (glo : s.heap.Ns mainGlobals mg) (blt : s.heap.Ns builtinsNs mb)
    (boot : ∀ x : Str, x ≠ "__name__" → mb x = bootBuiltins x) (nol : s.heap.NoLimit) (gen : s.gens = #[])
    (obj : s.heap.get? a = some { cls := .type "list", data := .seq vs.toArray }) (insc : IntsAre vs ns)
    (short : ns.length ≤ sizeLine) (rm : Room k callerA)
    (F : ∀ base : Heap, K.In base → base.Ns mainGlobals mg → FnGd P w K mg base k fa fd [x] sp)
    (bnd : ∀ (s : Shared) (u : Value), BindsTo s fd ⟨[u], []⟩ [(x, u)])
    (pre : ∀ H : Hp, SqL K H a (ns.map V.int) → sp [.ref a] H (fun v _ => v = .bl true) E0) :
    codeAny (model P w) callerA (.call (.ref fa) ⟨[.ref a], []⟩)
      (fun r s' => r = .ok (.ret (.bool true)) ∧ OldK s.heap s'.heap ∧ s'.os = s.os ∧ AllBare s'.gens) s := by
  have rel : Vals (ns.map V.int) vs := vals_ints insc
  have cnt : vs.length = ns.length := insc.length
  let scr : Obj := { cls := .type "list", data := .seq vs.toArray }
  -- what is tracked at first: the script, unless the module knows it
  let H : Hp := fun b => if b = a ∧ K.lookup a = none then some (.frz scr (.lst (ns.map V.int))) else none
  have track : ∀ b u, H b = some u → b = a ∧ K.lookup a = none ∧ u = .frz scr (.lst (ns.map V.int)) := by
    intro b u e
    by_cases c : b = a ∧ K.lookup a = none
    · have e2 : some (HO.frz scr (.lst (ns.map V.int))) = some u := (if_pos c).symm.trans e
      exact ⟨c.1, c.2, (Option.some.inj e2).symm⟩
    · have e2 : (none : Option HO) = some u := (if_neg c).symm.trans e
      cases e2
  have isl : SqL K H a (ns.map V.int) := by
    cases q : K.lookup a with
    | none => exact .inl (.inr ⟨scr, if_pos ⟨rfl, q⟩⟩)
    | some o =>
      have o2 := kin a o q
      rw [obj] at o2
      cases o2
      exact .inr ⟨_, vs.toArray, _, q, rfl, rfl, rfl, by rw [List.size_toArray, cnt]; exact short, by simpa using rel⟩
  have hok : HOk P w H s.heap := by
    intro b u e
    obtain ⟨rfl, _, rfl⟩ := track b u e
    exact ⟨obj, by rw [List.length_map]; exact short, vs, _, rel, obj⟩
  have nodict : ∀ {b : Addr} {o : Obj} {es : Array DictEntry} {ep : Nat}, s.heap.get? b = some o → o.data = .dict es ep → H b = none := by
    intro b o es ep e d
    cases q : H b with
    | none => rfl
    | some u =>
      obtain ⟨rfl, _, _⟩ := track b u q
      rw [obj] at e
      cases e
      cases (show Data.seq vs.toArray _ = Data.dict es ep from d)
  have nspace : ∀ {b : Addr} {m : Str → Option Value}, s.heap.Ns b m → (hidT s.heap H).Ns b m := by
    rintro b m ⟨o, es, ep, e, d, r⟩
    exact ⟨o, es, ep, hidT_get e (nodict e d), d, r⟩
  have kin2 : K.In (hidT s.heap H) := by
    intro b o e
    refine hidT_get (kin b o e) ?_
    cases q : H b with
    | none => rfl
    | some u =>
      obtain ⟨rfl, n, _⟩ := track b u q
      rw [n] at e
      cases e
  have mod : Mod K mg (hidT s.heap H) := by
    refine ⟨kin2, nspace glo, ⟨mb, nspace blt, boot⟩, ?_⟩
    obtain ⟨mc, n1, n2⟩ := nol
    exact ⟨mc, nspace n1, n2⟩
  have env : Env0 P w K mg (hidT s.heap H) callerA [] s H := by
    refine ⟨rfl, mod, fun b o e => of_hidT e, Nat.le_of_eq (hidT_size _ _), trivial, ?_, hok, .of_eq gen⟩
    intro b m
    cases (show b ∈ ([] : List Addr) from m)
  have run := (F _ kin2 (nspace glo)).run callerA [] s H ⟨[.ref a], []⟩ [.ref a] [.ref a] _ _ rfl rm env
    (bnd s (.ref a)) (.cons rfl .nil) (pre H isl)
  refine codeAny_mono run ?_
  intro r s' post
  cases r with
  | error e => exact (post : False).elim
  | ok fl =>
    cases fl with
    | ret u =>
      obtain ⟨v, H', os, bare, un, hok', rv, vt⟩ := post
      have vt' : v = .bl true := vt
      subst vt'
      have ut : u = Value.bool true := rv
      subst ut
      refine ⟨rfl, OldK.of_keep ?_, os, bare⟩
      intro b o e
      cases q : H b with
      | none => exact un.keep b o e q (fun m => by cases (show b ∈ ([] : List Addr) from m)) (by simp)
      | some u2 =>
        obtain ⟨rfl, _, rfl⟩ := track b u2 q
        have stays := un.frzs b _ _ q
        have o1 := (hok b _ q).1
        have o2 := (hok' b _ stays).1
        rw [e] at o1
        cases o1
        exact o2
    | next => exact (post : False).elim
    | brk => exact (post : False).elim
    | cont => exact (post : False).elim
end

/-- the end of a law's proof -/
theorem walkG {l : PySem.W.OpenLaw} {n k : Nat} {q : Program} {loose : List Str} {XP : (Str → Option Value) → Heap → Prop}
    {YP : World → Heap → Prop} {d : DefRec} {K : Params → PySem.W.Frag} {sp : World → Sp} {x : Str}
    (most : l.most = some n) (small : n ≤ sizeLine) (plain : d.params.defaults = []) (rm : Room k callerA)
    (hY : ∀ (w : World) (h : Heap), YP w h → (K w.params).In h)
    (F : ∀ (w : World) (mg : Str → Option Value) (fa : Addr) (h : Heap),
      (K w.params).In h → h.Ns mainGlobals mg → mg d.name = some (.ref fa) →
      ∃ fd : FuncData, (∀ (s : Shared) (u : Value), BindsTo s fd ⟨[u], []⟩ [(x, u)]) ∧
        ∀ base : Heap, (K w.params).In base → base.Ns mainGlobals mg →
          FnGd l.prog w (K w.params) mg base k fa fd [x] (sp w))
    (pre : ∀ (w : World) (H : Hp) (a : Addr) (ns : List Int), ns.length ≤ n → (∀ z ∈ ns, Builtin.Int.intBits z ≤ 1048576) →
      SqL (K w.params) H a (ns.map V.int) → sp w [.ref a] H (fun v _ => v = .bl true) E0) :
    PySem.W.WalkO q loose XP YP l.row.toRowW d [] (fun f vs => PySem.call f vs) := by
  apply Att.attach_callB most plain
  intro w s0 s1 mg mb fa o pm cd doc a vs ns G Y _ _ _ named obj insc le bits gen
  obtain ⟨fd, bnd, all⟩ := F w mg fa _ (hY w _ Y) G.T.g named
  exact lawG (hY w _ Y) G.T.g G.T.b G.T.builtins G.T.nolimit gen obj insc (Nat.le_trans le small) rm all bnd
    fun H isl => pre w H a ns le bits isl

/-! ### rules -/
section
variable {X : Cx}
/-- repr of data -/
theorem call_repr {k : Nat} (gd : X.A.guards = some []) (hr : Room k X.A) : CallR X (.builtin "repr") (fun xs H Q => ∃ v d, xs = [v] ∧
    Dp X.K H v d ∧ d.hasDict = false ∧ d.showable = true ∧ d.depth ≤ 64 ∧ d.shown.length ≤ sizeLine ∧ (∃ a, v = .ref a) ∧ Q (.str d.shown) H) := by
  intro pins s σ H xs us Q I r h
  obtain ⟨v, d, rfl, dp, nod, sh, deep, fits, ⟨a, rfl⟩, q⟩ := h
  obtain ⟨u, rfl, ru⟩ := vals1 r
  cases ru
  obtain ⟨as, rd⟩ := Dp.reads I d _ _ dp rfl
  have room := hr.un
  refine repr_of_reads' rd sh (PyData.noDict_hsm nod) gd (by omega) (fun _ _ e => e) ?_ fits
  intro h' u tk keep
  exact ⟨.str _, H, I.kept keep, ⟨u, rfl⟩, q⟩
/-- i ** j, of great i -/
def CPowW (i j : Int) : Prop := 0 ≤ j ∧ (Builtin.Int.intBits i : Int) * j ≤ 2 ^ 27
theorem op_powW : OpR X (binaryOp .Pow) (rI CPowW fun i j => .int (i ^ j.toNat)) :=
  opI fun _ _ _ _ _ _ _ hc q => pow_int hc.1 hc.2 q
end
end Gd

set_option Elab.async false
set_option linter.all false
set_option maxRecDepth 100000
namespace Gd
open PySem PySem.Spec PyProof.Rows L2

/-! ### a def of the text, with all that a caller needs -/
structure Dn (P : Program) (w : World) (K : PySem.W.Frag) (mg : Str → Option Value) (base : Heap)
    (k : Nat) (x : Str) (st : Stmt) (ps : List Str) (sp : Sp) : Prop where
  ex : ∃ f fd, Fun K x x st f fd ∧ Binds K fd ps [] ∧ mg x = some (.ref f) ∧ FnOk P w K mg base CX0 k f fd ps sp
structure DnG (P : Program) (w : World) (K : PySem.W.Frag) (mg : Str → Option Value) (base : Heap)
    (k : Nat) (x : Str) (st : Stmt) (ps : List Str) (sp : Sp) : Prop where
  ex : ∃ f fd, Fun K x x st f fd ∧ Binds K fd ps [] ∧ mg x = some (.ref f) ∧ FnGd P w K mg base k f fd ps sp
section
variable {P : Program} {w : World} {K : PySem.W.Frag} {mg : Str → Option Value} {base : Heap}
/-- where a def stands -/
def At (K : PySem.W.Frag) (mg : Str → Option Value) (x : Str) (st : Stmt) (ps : List Str) : Prop :=
  ∃ f fd, Fun K x x st f fd ∧ Binds K fd ps [] ∧ mg x = some (.ref f)
theorem Dn.mk' {x : Str} {st : Stmt} {ps : List Str} {k : Nat} {sp : Sp} (h : At K mg x st ps)
    (ok : ∀ f fd, Fun K x x st f fd → FnOk P w K mg base CX0 k f fd ps sp) : Dn P w K mg base k x st ps sp := by
  obtain ⟨f, fd, F, b, g⟩ := h
  exact ⟨f, fd, F, b, g, ok f fd F⟩
theorem DnG.mk' {x : Str} {st : Stmt} {ps : List Str} {k : Nat} {sp : Sp} (h : At K mg x st ps)
    (ok : ∀ f fd, Fun K x x st f fd → FnGd P w K mg base k f fd ps sp) : DnG P w K mg base k x st ps sp := by
  obtain ⟨f, fd, F, b, g⟩ := h
  exact ⟨f, fd, F, b, g, ok f fd F⟩
end

/-- the reading of a call that raises nothing -/
def tCl (sp : Sp) (t : TA) : TE := fun σ H Q => t σ H fun vs H1 => sp vs H1 Q E0
def tClK (sp : Sp) (gV : List V → List V → List V) (t tk : TA) : TE := fun σ H Q => t σ H fun vs H1 => tk σ H1 fun zs H2 => sp (gV vs zs) H2 Q E0
section
variable {K : PySem.W.Frag} {x qual : Str} {st : Stmt} {f : Addr} {fd : FuncData} {ps ks : List Str}
theorem kb_of0 (n : Nat) (F : Fun K x qual st f fd) (g : {α : Type} → List α → List α → List α)
    (h : ∀ (kV doc pm : Value) (an : Option Addr) (cdv ct : Value) (us ws : List Value), us.length = n → ws.length = ks.length →
      bindArgs (PySem.W.fnOf x qual (defArgs st) (defBody st) (defScope st) .none kV doc pm an cdv ct) ⟨us, ks.zip ws⟩ = pure (ps.zip (g us ws))) :
    ∀ (s : Shared) (us ws : List Value), us.length = n → ws.length = ks.length → BindsTo s fd ⟨us, ks.zip ws⟩ (ps.zip (g us ws)) := by
  obtain ⟨oc, od, kV, doc, pm, an, cdv, ct, osl, rfl, lk, hcd⟩ := F.ex
  intro s us ws h1 h2
  exact .of_eq (h kV doc pm an cdv ct us ws h1 h2)
end
section
variable {X : Cx} {x : Str} {st : Stmt} {ps ks : List Str} {sp : Sp} {k j n : Nat} {e : Expr} {es : List Expr} {kws : List Keyword} {t tk : TA} {p pos : Pos}
/-- a call of a def that has its promise -/
theorem pe_c (D : Dn X.prog X.w X.K X.mg X.base k x st ps sp) (hr : Room j X.A) (hg : Gl X x) (ha : PA X (e :: es) t) (hk : k ≤ j := by decide)
    (hdb : (x == ("__debug__" : Str)) = false := by decide) (he : starEach (e :: es) X.env = (false, eval e X.env) :: starEach es X.env := by rfl)
    (hpl : (backTo pos (starEach es X.env)).any (·.1) = false := by rfl) :
    PE X (.Call (.Name x p) (e :: es) [] pos) (tCl sp t) := by
  obtain ⟨f, fd, F, b, g, ok⟩ := D.ex
  refine ⟨fun pins s σ H Q I h => ?_⟩
  refine wpAny_Call_Name_kw (ld_glob I hg g ?_ hdb)
  refine PySem.W.callWith_K (h₀ := X.base) I.ok.mod.kin F.kp (thn (ha.run pos pins s σ H _ I h) fun us s1 got => ?_) he hpl
  obtain ⟨vs, H1, I1, r1, q1⟩ := got
  refine ⟨I1.kIn, ?_⟩
  exact run_fn (dvs := []) ok (hr.mono hk) b .nil pass0 I1 r1 (by rw [List.append_nil]; exact q1)
theorem pe_cG (gd : X.A.guards = some []) (D : DnG X.prog X.w X.K X.mg X.base k x st ps sp) (hr : Room j X.A) (hg : Gl X x) (ha : PA X (e :: es) t) (hk : k ≤ j := by decide)
    (hdb : (x == ("__debug__" : Str)) = false := by decide) (he : starEach (e :: es) X.env = (false, eval e X.env) :: starEach es X.env := by rfl)
    (hpl : (backTo pos (starEach es X.env)).any (·.1) = false := by rfl) :
    PE X (.Call (.Name x p) (e :: es) [] pos) (tCl sp t) := by
  obtain ⟨f, fd, F, b, g, ok⟩ := D.ex
  refine ⟨fun pins s σ H Q I h => ?_⟩
  refine wpAny_Call_Name_kw (ld_glob I hg g ?_ hdb)
  refine PySem.W.callWith_K (h₀ := X.base) I.ok.mod.kin F.kp (thn (ha.run pos pins s σ H _ I h) fun us s1 got => ?_) he hpl
  obtain ⟨vs, H1, I1, r1, q2⟩ := got
  refine ⟨I1.kIn, ?_⟩
  have cnt : us.length = ps.length := by
    rw [← r1.length]
    exact ok.len _ _ _ _ q2
  have bnd : BindsTo s1 fd ⟨us, []⟩ (ps.zip us) := by
    have z := b s1 us I1.kIn (by simpa using cnt)
    simpa using z
  refine wpAny_call (codeAny_mono (ok.run X.A X.stack s1 H1 ⟨us, []⟩ us vs _ E0 gd (hr.mono hk) I1.env0 bnd r1 q2) ?_)
  intro r s' post
  cases r with
  | error e => exact (post : False).elim
  | ok fl =>
    cases fl with
    | ret u => exact I1.after post
    | next => exact (post : False).elim
    | brk => exact (post : False).elim
    | cont => exact (post : False).elim
/-- how the keywords bind -/
def KwTo (K : PySem.W.Frag) (x : Str) (st : Stmt) (ps ks : List Str) (n : Nat) (g : {α : Type} → List α → List α → List α) : Prop :=
  (∀ {vs zs : List V} {us ws : List Value}, vs.length = n → zs.length = ks.length → Vals vs us → Vals zs ws → Vals (g vs zs) (g us ws)) ∧
  ∀ f fd, Fun K x x st f fd → ∀ (s : Shared) (us ws : List Value), us.length = n → ws.length = ks.length → BindsTo s fd ⟨us, ks.zip ws⟩ (ps.zip (g us ws))
def tClN (n m : Nat) (sp : Sp) (gV : List V → List V → List V) (t tk : TA) : TE := fun σ H Q => t σ H fun vs H1 => tk σ H1 fun zs H2 => vs.length = n ∧ zs.length = m ∧ sp (gV vs zs) H2 Q E0
/-- f(k = v, ..) -/
theorem pe_cz {g : {α : Type} → List α → List α → List α} (D : Dn X.prog X.w X.K X.mg X.base k x st ps sp) (hr : Room j X.A) (kb : KwTo X.K x st ps ks 0 g) (hg : Gl X x) (hkw : PK X kws tk) (hk : k ≤ j := by decide)
    (hall : (backToKw pos (keywordEach kws X.env)).all (·.1.isSome) = true := by rfl) (hks : (backToKw pos (keywordEach kws X.env)).filterMap (·.1) = ks := by rfl)
    (hdb : (x == ("__debug__" : Str)) = false := by decide)
    (hpl : ((backTo pos (starEach [] X.env)).any (·.1) || (backToKw pos (keywordEach kws X.env)).any (·.1.isNone)) = false := by rfl) :
    PE X (.Call (.Name x p) [] kws pos) (tClN 0 ks.length sp g tNil tk) := by
  obtain ⟨f, fd, F, b, gg, ok⟩ := D.ex
  refine ⟨fun pins s σ H Q I h => ?_⟩
  refine wpAny_Call_Name_kw (ld_glob I hg gg ?_ hdb)
  refine PySem.W.callWith_KW0 (h₀ := X.base) I.ok.mod.kin F.kp hall ?_ hpl
  refine thn (hkw.run pos pins s σ H _ I h) fun ws s2 got => ?_
  obtain ⟨zs, H2, I2, rz, l1, l2, q2⟩ := got
  refine ⟨I2.kIn, ?_⟩
  rw [hks]
  have rel := kb.1 l1 l2 Paired.nil rz
  have bnd := kb.2 f fd F s2 [] ws rfl (rz.length.symm.trans l2)
  refine wpAny_call (codeAny_mono (ok.run X.A X.stack s2 H2 ⟨[], ks.zip ws⟩ _ _ _ E0 (hr.mono hk) I2.env0 bnd rel q2) ?_)
  intro r s' post
  cases r with
  | error e => exact (post : False).elim
  | ok fl =>
    cases fl with
    | ret u => exact I2.after post
    | next => exact (post : False).elim
    | brk => exact (post : False).elim
    | cont => exact (post : False).elim
end

/-! ### heaps: all but the draws' list stays -/
def Kp (a : Addr) (H H' : Hp) : Prop := ∀ b o, b ≠ a → H b = some o → H' b = some o
theorem Kp.refl {a : Addr} {H : Hp} : Kp a H H := fun _ _ _ e => e
theorem Kp.trans {a : Addr} {H H1 H2 : Hp} (x : Kp a H H1) (y : Kp a H1 H2) : Kp a H H2 := fun b o n e => y b o n (x b o n e)
theorem Kp.of {a : Addr} {H H' : Hp} (x : Same H H') : Kp a H H' := fun b o _ e => x b o e
theorem Kp.at {a : Addr} {H : Hp} {o : HO} : Kp a H (upd H a o) := fun b u n e => by rw [upd_ne n]; exact e
theorem Kp.new {a p : Addr} {H : Hp} {o : HO} (n : H p = none) : Kp a H (upd H p o) := fun b u _ e => by rw [upd_ne (ne_of_none e n)]; exact e
theorem Same.new {p : Addr} {H : Hp} {o : HO} (n : H p = none) : Same H (upd H p o) := fun b u e => by rw [upd_ne (ne_of_none e n)]; exact e
theorem SqT.same {K : PySem.W.Frag} {H H' : Hp} {b : Addr} {xs : List V} (k : Same H H') (h : SqT K H b xs) : SqT K H' b xs := by
  rcases h with (h | ⟨o, h⟩) | h
  · exact .inl (.inl (k _ _ h))
  · exact .inl (.inr ⟨o, k _ _ h⟩)
  · exact .inr h
/-- the draws' state: its list of three ints, after at most n draws -/
structure RS (n : Nat) (H : Hp) (a : Addr) : Prop where
  ok : ∃ d s t : Int, H a = some (.lst [.int d, .int s, .int t]) ∧ 0 ≤ d ∧ d.natAbs < 2 ^ 13000 ∧ 0 ≤ s ∧ s < 2305843009213693951 ∧ 0 ≤ t ∧ t ≤ n
theorem RS.mono {n m : Nat} {H : Hp} {a : Addr} (h : n ≤ m) (r : RS n H a) : RS m H a := by
  obtain ⟨d, s, t, e, h1, h2, h3, h4, h5, h6⟩ := r.ok
  exact ⟨d, s, t, e, h1, h2, h3, h4, h5, by omega⟩
theorem RS.same {n : Nat} {H H' : Hp} {a : Addr} (r : RS n H a) (k : Same H H') : RS n H' a := by
  obtain ⟨d, s, t, e, r⟩ := r.ok
  exact ⟨d, s, t, k _ _ e, r⟩
theorem RS.ne {n : Nat} {H : Hp} {a b : Addr} {o : HO} (r : RS n H a) (e : H b = some o) (no : ∀ xs, o ≠ .lst xs) : b ≠ a := by
  obtain ⟨d, s, t, e2, _⟩ := r.ok
  exact ne_of e e2 (no _)
theorem SqT.kp {K : PySem.W.Frag} {n : Nat} {H H' : Hp} {a b : Addr} {xs : List V} (r : RS n H a) (k : Kp a H H') (h : SqT K H b xs) : SqT K H' b xs := by
  rcases h with (h | ⟨o, h⟩) | h
  · exact .inl (.inl (k _ _ (r.ne h (fun _ z => by cases z)) h))
  · exact .inl (.inr ⟨o, k _ _ (r.ne h (fun _ z => by cases z)) h⟩)
  · exact .inr h

/-! ### ranges -/
abbrev Rg := Option (Option Int × Option Int)
def ov : Option Int → V
  | none => .non
  | some i => .int i
def RgV (K : PySem.W.Frag) (H : Hp) (v : V) : Rg → Prop
  | none => v = .non
  | some (l, h) => ∃ p, v = .ref p ∧ SqT K H p [ov l, ov h]
theorem RgV.same {K : PySem.W.Frag} {H H' : Hp} {v : V} {r : Rg} (k : Same H H') (h : RgV K H v r) : RgV K H' v r := by
  cases r with
  | none => exact h
  | some q =>
    obtain ⟨p, e, s⟩ := h
    exact ⟨p, e, SqT.same k s⟩
theorem RgV.kp {K : PySem.W.Frag} {n : Nat} {H H' : Hp} {a : Addr} {v : V} {r : Rg} (rs : RS n H a) (k : Kp a H H') (h : RgV K H v r) : RgV K H' v r := by
  cases r with
  | none => exact h
  | some q =>
    obtain ⟨p, e, s⟩ := h
    exact ⟨p, e, SqT.kp rs k s⟩
/-- Range check accepts it -/
def RgFit : Rg → Prop
  | some (some l, some h) => l ≤ h
  | _ => True
end Gd

set_option Elab.async false
set_option linter.all false
set_option maxRecDepth 100000
namespace Gd
open PySem PySem.Spec PyProof.Rows L2

theorem inV_ints (z : Int) : ∀ ns : List Int, inV (.int z) (ns.map V.int) = decide (z ∈ ns)
  | [] => rfl
  | n :: ns => by
    have ih := inV_ints z ns
    unfold inV at ih ⊢
    rw [List.map_cons, List.any_cons, ih]
    show ((n == z) || decide (z ∈ ns)) = decide (z ∈ n :: ns)
    by_cases h : n = z
    · subst h
      simp
    · have h2 : ¬ z = n := fun e => h e.symm
      simp [h, h2]
theorem flat_ints : ∀ ns : List Int, (ns.map V.int).all flatV = true
  | [] => rfl
  | _ :: ns => flat_ints ns
theorem dp_ints {K : PySem.W.Frag} {H : Hp} : ∀ ns : List Int, DpAll K H (ns.map V.int) (ns.map PyData.int)
  | [] => .nil
  | n :: ns => .cons (.int n) (dp_ints ns)
theorem canLay_ints : ∀ ns : List Int, PyData.canLayAll0 (ns.map PyData.int) = true
  | [] => rfl
  | n :: ns => by
    rw [List.map_cons]
    unfold PyData.canLayAll0
    rw [canLay_ints ns]
    rfl
theorem depth_ints : ∀ ns : List Int, PyData.depthAll (ns.map PyData.int) ≤ 1
  | [] => by simp [PyData.depthAll]
  | n :: ns => by
    have ih := depth_ints ns
    simp only [List.map_cons, PyData.depthAll, PyData.depth]
    omega
theorem shaped_ints (ns : List Int) : SeqAt.shaped (.list (ns.map PyData.int)) = true := by
  unfold SeqAt.shaped
  have h1 : PyData.canLay0 (.list (ns.map PyData.int)) = true := by
    have e : PyData.canLay0 (.list (ns.map PyData.int)) = PyData.canLayAll0 (ns.map PyData.int) := by simp [PyData.canLay0]
    rw [e]
    exact canLay_ints ns
  have h2 : PyData.depth (.list (ns.map PyData.int)) ≤ 64 := by
    have := depth_ints ns
    simp only [PyData.depth]
    omega
  rw [h1, decide_eq_true h2]
  rfl
theorem eqv_ints_nil (ns : List Int) : PyData.eqv (.list (ns.map PyData.int)) (.list []) = decide (ns = []) := by
  cases ns with
  | nil => simp [PyData.eqv, PyData.eqvAll]
  | cons n ns => simp [PyData.eqv, PyData.eqvAll]
/-- [x for x in xs if test] over ints, the test a function of the int -/
theorem lc_filter {K : PySem.W.Frag} {j : Nat} {tt : TT} {σ : L2.St} {H : Hp} {Qd : Hp → Prop} {a D : Addr} (ns : List Int) (p : Int → Bool)
    (hl : SqL K H a (ns.map V.int)) (hz : ns.length ≤ 100000) (nD : H D = none)
    (hw : ∀ z : Int, wipe ((wipe σ [j]).set j (some (.int z))) [j] = wipe σ [j])
    (hg : ∀ z : Int, ((wipe σ [j]).set j (some (.int z)))[j]? = some (some (.int z)))
    (ht : ∀ (z : Int) (H' : Hp) (R : Bool → Hp → Prop), Same H H' → R (p z) H' → tt ((wipe σ [j]).set j (some (.int z))) H' R)
    (q : Qd (upd H D (.lst ((ns.filter p).map V.int)))) :
    ∃ Z : Nat → Nat → Hp → Prop, (∃ m, Z 0 m (upd H D (.lst []))) ∧
      ∀ i m G, Z i m G →
        ((Itl K a).stop i G ∧ Qd G) ∨
        ((Itl K a).go i G ∧ ∃ N : Hp → Prop, (∀ G', N G' → ∃ m', m' < m ∧ Z (i + 1) m' G') ∧
          ∀ x G', (Itl K a).yld i G x G' →
            gName j x (wipe σ [j]) G' fun σ2 G2 =>
              wipe σ2 [j] = wipe σ [j] ∧
              tt σ2 G2 fun b G3 =>
                if b = true then
                  tVar j σ2 G3 fun y G4 =>
                    ∃ acc, G4 D = some (.lst acc) ∧ acc.length < sizeLine ∧
                      N (upd G4 D (.lst (acc ++ [y])))
                else N G3) := by
  refine lc_list (K := K) (a := a) (xs := ns.map V.int) (fun i H' => H' = upd H D (.lst (((ns.take i).filter p).map V.int))) rfl ?_ ?_ ?_
  · intro i H' _ e
    subst e
    exact (Same.new nD).seq hl
  · intro i x H' hx e
    subst e
    rw [List.getElem?_map] at hx
    cases c : ns[i]? with
    | none =>
      rw [c] at hx
      cases hx
    | some z =>
      rw [c] at hx
      have ex : V.int z = x := Option.some.inj hx
      subst ex
      have lt : i < ns.length := (List.getElem?_eq_some_iff.mp c).1
      have tk : (ns.take (i + 1)).filter p = (ns.take i).filter p ++ (if p z = true then [z] else []) := by
        rw [List.take_add_one, c]
        show ((ns.take i) ++ [z]).filter p = _
        rw [List.filter_append]
        by_cases c2 : p z = true
        · rw [if_pos c2]; simp [c2]
        · rw [if_neg c2]; simp [c2]
      refine ⟨hw z, ht z _ _ (Same.new nD) ?_⟩
      by_cases c2 : p z = true
      · rw [c2]
        refine iteT ⟨_, hg z, _, upd_same, ?_, ?_⟩
        · rw [List.length_map]
          have h1 : ((ns.take i).filter p).length ≤ (ns.take i).length := List.length_filter_le _ _
          have h2 : (ns.take i).length ≤ ns.length := List.length_take_le' ..
          exact Nat.lt_of_le_of_lt (Nat.le_trans (Nat.le_trans h1 h2) hz) (by decide)
        · rw [upd_upd, tk, if_pos c2, List.map_append]
          rfl
      · have c3 : p z = false := by simpa using c2
        rw [c3]
        refine iteF ?_
        show upd H D _ = upd H D _
        rw [tk, if_neg c2, List.append_nil]
  · intro H' e
    subst e
    rw [List.length_map, List.take_length]
    exact q
end Gd

set_option Elab.async false
set_option linter.all false
set_option maxRecDepth 100000
set_option autoImplicit false
namespace Gd
open PySem PySem.Spec PyProof.Rows L2

/-! ### data whose text is short -/
structure DOk (n k : Nat) (d : PyData) : Prop where
  short : d.leavesShort 62 = true
  bulk : d.bulk ≤ n
  nod : d.hasDict = false
  shw : d.showable = true
  lay : d.canLay0 = true
  deep : d.depth ≤ k
structure DAll (n k : Nat) (ds : List PyData) : Prop where
  short : PyData.leavesShortAll 62 ds = true
  bulk : PyData.bulkAll ds ≤ n
  nod : PyData.hasDictAll ds = false
  shw : PyData.showableAll ds = true
  lay : PyData.canLayAll0 ds = true
  deep : PyData.depthAll ds ≤ k
theorem DOk.mono {n m k j : Nat} {d : PyData} (h : DOk n k d) (a : n ≤ m) (b : k ≤ j) : DOk m j d :=
  ⟨h.short, Nat.le_trans h.bulk a, h.nod, h.shw, h.lay, Nat.le_trans h.deep b⟩
theorem DAll.mono {n m k j : Nat} {ds : List PyData} (h : DAll n k ds) (a : n ≤ m) (b : k ≤ j) : DAll m j ds :=
  ⟨h.short, Nat.le_trans h.bulk a, h.nod, h.shw, h.lay, Nat.le_trans h.deep b⟩
theorem DOk.none : DOk 0 1 .none := ⟨rfl, Nat.le_refl _, rfl, rfl, rfl, by simp [PyData.depth]⟩
theorem DOk.bool (b : Bool) : DOk 0 1 (.bool b) := ⟨rfl, Nat.le_refl _, rfl, rfl, rfl, by simp [PyData.depth]⟩
theorem DOk.int {i : Int} (h : i.natAbs < 10 ^ 60) : DOk 0 1 (.int i) := by
  refine ⟨?_, Nat.le_refl _, rfl, ?_, rfl, by simp [PyData.depth]⟩
  · have e := int_text_length_le10 (k := 60) (by decide) h
    unfold PyData.leavesShort
    refine decide_eq_true ?_
    show (Str.ofString (toString i)).length ≤ 62
    rw [PySem.ofString_length]
    omega
  · unfold PyData.showable
    refine decide_eq_true ?_
    have h2 : i.natAbs < 2 ^ 200 := Nat.lt_trans h (by decide)
    have := PySem.Flt.log2_lt_of (k := 200) (by decide) h2
    omega
theorem DOk.str {x : Str} (h1 : (x.cps.toList.all fun c => decide (c < 16 ^ 8)) = true) (h2 : x.cps.size ≤ 20) (h3 : PyData.canLay0 (.str x) = true) : DOk 20 1 (.str x) :=
  ⟨by unfold PyData.leavesShort; exact h1, by unfold PyData.bulk; exact h2, rfl, rfl, h3, by simp [PyData.depth]⟩
theorem DAll.nil : DAll 0 0 [] := ⟨rfl, Nat.le_refl _, rfl, rfl, rfl, by simp [PyData.depthAll]⟩
theorem DAll.cons {n m k j : Nat} {d : PyData} {ds : List PyData} (h : DOk n k d) (t : DAll m j ds) : DAll (n + 1 + m) (max k j) (d :: ds) := by
  refine ⟨?_, ?_, ?_, ?_, ?_, ?_⟩
  · unfold PyData.leavesShortAll; rw [h.short, t.short]; rfl
  · unfold PyData.bulkAll; have := h.bulk; have := t.bulk; omega
  · unfold PyData.hasDictAll; rw [h.nod, t.nod]; rfl
  · unfold PyData.showableAll; rw [h.shw, t.shw]; rfl
  · unfold PyData.canLayAll0; rw [h.lay, t.lay]; rfl
  · unfold PyData.depthAll; have := h.deep; have := t.deep; omega
theorem DOk.list {n k : Nat} {ds : List PyData} (t : DAll n k ds) : DOk n (k + 1) (.list ds) := by
  refine ⟨?_, ?_, ?_, ?_, ?_, ?_⟩
  · unfold PyData.leavesShort; exact t.short
  · unfold PyData.bulk; exact t.bulk
  · unfold PyData.hasDict; exact t.nod
  · unfold PyData.showable; exact t.shw
  · unfold PyData.canLay0; exact t.lay
  · unfold PyData.depth; have := t.deep; omega
theorem DOk.tuple {n k : Nat} {ds : List PyData} (t : DAll n k ds) : DOk n (k + 1) (.tuple ds) := by
  refine ⟨?_, ?_, ?_, ?_, ?_, ?_⟩
  · unfold PyData.leavesShort; exact t.short
  · unfold PyData.bulk; exact t.bulk
  · unfold PyData.hasDict; exact t.nod
  · unfold PyData.showable; exact t.shw
  · unfold PyData.canLay0; exact t.lay
  · unfold PyData.depth; have := t.deep; omega
theorem DOk.fits {n k : Nat} {d : PyData} (h : DOk n k d) (hn : n ≤ 200000) : d.shown.length ≤ sizeLine := by
  have e := PyData.shown_le_bulk 62 (by decide) d h.short
  have b := h.bulk
  have s : sizeLine = 16777216 := by decide
  omega
theorem DOk.shaped {n k : Nat} {d : PyData} (h : DOk n k d) (hk : k ≤ 64) : SeqAt.shaped d = true := by
  unfold SeqAt.shaped
  rw [h.lay, decide_eq_true (Nat.le_trans h.deep hk)]
  rfl
theorem DOk.eqv {n k : Nat} {d : PyData} (h : DOk n k d) : PyData.eqv d d = true := SeqAt.eqv_refl d h.lay
section
variable {X : Cx}
/-- repr of data that is short -/
theorem call_reprD {k : Nat} (gd : X.A.guards = some []) (hr : Room k X.A) : CallR X (.builtin "repr") (fun xs H Q => ∃ v d n k, xs = [v] ∧
    Dp X.K H v d ∧ DOk n k d ∧ n ≤ 200000 ∧ k ≤ 64 ∧ (∃ a, v = .ref a) ∧ Q (.str d.shown) H) := by
  intro pins s σ H xs us Q I r h
  obtain ⟨v, d, n, k, e, dp, ok, hn, hk, ex, q⟩ := h
  exact call_repr gd hr pins s σ H xs us Q I r ⟨v, d, e, dp, ok.nod, ok.shw, Nat.le_trans ok.deep hk, ok.fits hn, ex, q⟩
end

/-! ### draws -/
theorem RS.fresh {n : Nat} {H : Hp} {g p : Addr} (r : RS n H g) (np : H p = none) : p ≠ g := fun z => by
  obtain ⟨_, _, _, e, _⟩ := r.ok
  rw [← z, np] at e
  cases e
theorem pick_mem {xs : List V} {d : Int} (h0 : 0 ≤ d) (h1 : d < (xs.length : Int)) : ∃ v, atI xs d = some v ∧ v ∈ xs := by
  have lt : d.toNat < xs.length := by omega
  refine ⟨xs[d.toNat], ?_, List.getElem_mem lt⟩
  exact at_of (j := d.toNat) (by omega) (List.getElem?_eq_getElem lt)
theorem Kp.lst {K : PySem.W.Frag} {H H' : Hp} {g b : Addr} {xs : List V} (k : Kp g H H') (h : b ≠ g) (l : SqL K H b xs) : SqL K H' b xs := by
  rcases l with (h2 | ⟨o, h2⟩) | h2
  · exact .inl (.inl (k _ _ h h2))
  · exact .inl (.inr ⟨o, k _ _ h h2⟩)
  · exact .inr h2
/-- [e for x in xs] over a list; each e is a value of its own (told by f), no matter what else the heap bears -/
theorem lc_map {K : PySem.W.Frag} {j : Nat} {te : TE} {σ : L2.St} {H : Hp} {Qd : Hp → Prop} {a D : Addr} {xs : List V} (f : V → V)
    (hl : SqL K H a xs) (hz : xs.length ≤ 100000) (nD : H D = none)
    (hw : ∀ z : V, wipe ((wipe σ [j]).set j (some z)) [j] = wipe σ [j])
    (he : ∀ (z : V) (H' : Hp) (R : VK), z ∈ xs → Same H H' → R (f z) H' → te ((wipe σ [j]).set j (some z)) H' R)
    (q : Qd (upd H D (.lst (xs.map f)))) :
    ∃ Z : Nat → Nat → Hp → Prop, (∃ m, Z 0 m (upd H D (.lst []))) ∧
      ∀ i m G, Z i m G →
        ((Itl K a).stop i G ∧ Qd G) ∨
        ((Itl K a).go i G ∧ ∃ N : Hp → Prop, (∀ G', N G' → ∃ m', m' < m ∧ Z (i + 1) m' G') ∧
          ∀ x G', (Itl K a).yld i G x G' →
            gName j x (wipe σ [j]) G' fun σ2 G2 =>
              wipe σ2 [j] = wipe σ [j] ∧
              tYes σ2 G2 fun b G3 =>
                if b = true then
                  te σ2 G3 fun y G4 =>
                    ∃ acc, G4 D = some (.lst acc) ∧ acc.length < sizeLine ∧
                      N (upd G4 D (.lst (acc ++ [y])))
                else N G3) := by
  refine lc_list (K := K) (a := a) (xs := xs) (fun i H' => H' = upd H D (.lst ((xs.take i).map f))) rfl ?_ ?_ ?_
  · intro i H' _ e
    subst e
    exact (Same.new nD).seq hl
  · intro i x H' hx e
    subst e
    have lt : i < xs.length := (List.getElem?_eq_some_iff.mp hx).1
    have tk : (xs.take (i + 1)).map f = (xs.take i).map f ++ [f x] := by
      rw [List.take_add_one, hx]
      simp
    refine ⟨hw x, ?_⟩
    refine he x _ _ (List.mem_of_getElem? hx) (Same.new nD) ⟨_, upd_same, ?_, ?_⟩
    · rw [List.length_map]
      exact Nat.lt_of_le_of_lt (Nat.le_trans (List.length_take_le' ..) hz) (by decide)
    · rw [upd_upd, tk]
  · intro H' e
    subst e
    rw [List.take_length]
    exact q
/-- [e for x in xs] over a list; e may make objects; each is told by Out of its place -/
theorem lc_rel {K : PySem.W.Frag} {j : Nat} {te : TE} {σ : L2.St} {H : Hp} {Qd : Hp → Prop} {a D : Addr} {xs : List V} (Out : Nat → Hp → V → Prop)
    (hl : SqL K H a xs) (hz : xs.length ≤ 100000) (nD : H D = none)
    (st : ∀ i G G' y acc, Kp D G G' → G D = some (.lst acc) → Out i G y → Out i G' y)
    (hw : ∀ z : V, wipe ((wipe σ [j]).set j (some z)) [j] = wipe σ [j])
    (he : ∀ (i : Nat) (z : V) (G : Hp) (R : VK), xs[i]? = some z → Same H G → (∀ y G', Same G G' → Out i G' y → R y G') → te ((wipe σ [j]).set j (some z)) G R)
    (q : ∀ G ys, Same H G → G D = some (.lst ys) → ys.length = xs.length → (∀ (i : Nat) y, ys[i]? = some y → Out i G y) → Qd G) :
    ∃ Z : Nat → Nat → Hp → Prop, (∃ m, Z 0 m (upd H D (.lst []))) ∧
      ∀ i m G, Z i m G →
        ((Itl K a).stop i G ∧ Qd G) ∨
        ((Itl K a).go i G ∧ ∃ N : Hp → Prop, (∀ G', N G' → ∃ m', m' < m ∧ Z (i + 1) m' G') ∧
          ∀ x G', (Itl K a).yld i G x G' →
            gName j x (wipe σ [j]) G' fun σ2 G2 =>
              wipe σ2 [j] = wipe σ [j] ∧
              tYes σ2 G2 fun b G3 =>
                if b = true then
                  te σ2 G3 fun y G4 =>
                    ∃ acc, G4 D = some (.lst acc) ∧ acc.length < sizeLine ∧
                      N (upd G4 D (.lst (acc ++ [y])))
                else N G3) := by
  refine lc_list (K := K) (a := a) (xs := xs) (fun i G => Same H G ∧ ∃ ys, G D = some (.lst ys) ∧ ys.length = i ∧ ∀ (k : Nat) y, ys[k]? = some y → Out k G y)
    ⟨Same.new nD, [], upd_same, rfl, fun k y e => by simp at e⟩ ?_ ?_ ?_
  · intro i G _ e
    exact e.1.seq hl
  · rintro i x G hx ⟨sm, ys, oD, ly, ok⟩
    have lt : i < xs.length := (List.getElem?_eq_some_iff.mp hx).1
    refine ⟨hw x, ?_⟩
    refine he i x G _ hx sm fun y G' sm' oy => ⟨ys, sm' _ _ oD, Nat.lt_of_le_of_lt (by omega : ys.length ≤ 100000) (by decide), ?_⟩
    have kp : Kp D G' (upd G' D (.lst (ys ++ [y]))) := Kp.at
    refine ⟨fun b o e => ?_, ys ++ [y], upd_same, by rw [List.length_append, ly]; rfl, ?_⟩
    · rw [upd_ne (ne_of_none e nD)]
      exact sm' _ _ (sm _ _ e)
    · intro k y' ey
      by_cases c : k < ys.length
      · rw [List.getElem?_append_left c] at ey
        exact st _ _ _ _ _ kp (sm' _ _ oD) (st _ _ _ _ _ (Kp.of sm') oD (ok k y' ey))
      · have kl : k < (ys ++ [y]).length := (List.getElem?_eq_some_iff.mp ey).1
        rw [List.length_append] at kl
        have kk : k = i := by
          have : ([y] : List V).length = 1 := rfl
          omega
        subst kk
        rw [List.getElem?_append_right (by omega), ly, Nat.sub_self] at ey
        have e1 : y = y' := Option.some.inj ey
        subst e1
        exact st _ _ _ _ _ kp (sm' _ _ oD) oy
  · rintro G ⟨sm, ys, oD, ly, ok⟩
    exact q G ys sm oD ly ok
theorem SqT.kpl {K : PySem.W.Frag} {H H' : Hp} {a b : Addr} {xs ys : List V} (k : Kp a H H') (l : H a = some (.lst ys)) (h : SqT K H b xs) : SqT K H' b xs := by
  rcases h with (h | ⟨o, h⟩) | h
  · exact .inl (.inl (k _ _ (ne_of h l (fun z => by cases z)) h))
  · exact .inl (.inr ⟨o, k _ _ (ne_of h l (fun z => by cases z)) h⟩)
  · exact .inr h
theorem RgV.kpl {K : PySem.W.Frag} {H H' : Hp} {a : Addr} {v : V} {r : Rg} {ys : List V} (k : Kp a H H') (l : H a = some (.lst ys)) (h : RgV K H v r) : RgV K H' v r := by
  match r, h with
  | none, h => exact h
  | some q, ⟨p, e, s⟩ => exact ⟨p, e, SqT.kpl k l s⟩
/-! ### data of any size, for == -/
structure Ly (k : Nat) (d : PyData) : Prop where
  lay : d.canLay0 = true
  deep : d.depth ≤ k
structure LyAll (k : Nat) (ds : List PyData) : Prop where
  lay : PyData.canLayAll0 ds = true
  deep : PyData.depthAll ds ≤ k
theorem Ly.mono {k j : Nat} {d : PyData} (h : Ly k d) (a : k ≤ j) : Ly j d := ⟨h.lay, Nat.le_trans h.deep a⟩
theorem LyAll.mono {k j : Nat} {d : List PyData} (h : LyAll k d) (a : k ≤ j) : LyAll j d := ⟨h.lay, Nat.le_trans h.deep a⟩
theorem Ly.none : Ly 1 .none := ⟨rfl, by simp [PyData.depth]⟩
theorem Ly.bool (b : Bool) : Ly 1 (.bool b) := ⟨rfl, by simp [PyData.depth]⟩
theorem Ly.int (i : Int) : Ly 1 (.int i) := ⟨rfl, by simp [PyData.depth]⟩
theorem LyAll.nil : LyAll 0 [] := ⟨rfl, by simp [PyData.depthAll]⟩
theorem LyAll.cons {k j : Nat} {d : PyData} {ds : List PyData} (h : Ly k d) (t : LyAll j ds) : LyAll (max k j) (d :: ds) := by
  refine ⟨?_, ?_⟩
  · unfold PyData.canLayAll0; rw [h.lay, t.lay]; rfl
  · unfold PyData.depthAll; have := h.deep; have := t.deep; omega
theorem Ly.list {k : Nat} {ds : List PyData} (t : LyAll k ds) : Ly (k + 1) (.list ds) := by
  refine ⟨?_, ?_⟩
  · unfold PyData.canLay0; exact t.lay
  · unfold PyData.depth; have := t.deep; omega
theorem Ly.tuple {k : Nat} {ds : List PyData} (t : LyAll k ds) : Ly (k + 1) (.tuple ds) := by
  refine ⟨?_, ?_⟩
  · unfold PyData.canLay0; exact t.lay
  · unfold PyData.depth; have := t.deep; omega
theorem Ly.shaped {k : Nat} {d : PyData} (h : Ly k d) (hk : k ≤ 64 := by decide) : SeqAt.shaped d = true := by
  unfold SeqAt.shaped
  rw [h.lay, decide_eq_true (Nat.le_trans h.deep hk)]
  rfl
theorem Ly.eqv {k : Nat} {d : PyData} (h : Ly k d) : PyData.eqv d d = true := SeqAt.eqv_refl d h.lay
/-- [e for x in t] over a tuple -/
theorem lc_relT {K : PySem.W.Frag} {j : Nat} {te : TE} {σ : L2.St} {H : Hp} {Qd : Hp → Prop} {a D : Addr} {xs : List V} (Out : Nat → Hp → V → Prop)
    (hl : SqT K H a xs) (hz : xs.length ≤ 100000) (nD : H D = none)
    (st : ∀ i G G' y acc, Kp D G G' → G D = some (.lst acc) → Out i G y → Out i G' y)
    (hw : ∀ z : V, wipe ((wipe σ [j]).set j (some z)) [j] = wipe σ [j])
    (he : ∀ (i : Nat) (z : V) (G : Hp) (R : VK), xs[i]? = some z → Same H G → (∀ y G', Same G G' → Out i G' y → R y G') → te ((wipe σ [j]).set j (some z)) G R)
    (q : ∀ G ys, Same H G → G D = some (.lst ys) → ys.length = xs.length → (∀ (i : Nat) y, ys[i]? = some y → Out i G y) → Qd G) :
    ∃ Z : Nat → Nat → Hp → Prop, (∃ m, Z 0 m (upd H D (.lst []))) ∧
      ∀ i m G, Z i m G →
        ((Itt K a).stop i G ∧ Qd G) ∨
        ((Itt K a).go i G ∧ ∃ N : Hp → Prop, (∀ G', N G' → ∃ m', m' < m ∧ Z (i + 1) m' G') ∧
          ∀ x G', (Itt K a).yld i G x G' →
            gName j x (wipe σ [j]) G' fun σ2 G2 =>
              wipe σ2 [j] = wipe σ [j] ∧
              tYes σ2 G2 fun b G3 =>
                if b = true then
                  te σ2 G3 fun y G4 =>
                    ∃ acc, G4 D = some (.lst acc) ∧ acc.length < sizeLine ∧
                      N (upd G4 D (.lst (acc ++ [y])))
                else N G3) := by
  refine lc_tup (K := K) (a := a) (xs := xs) (fun i G => Same H G ∧ ∃ ys, G D = some (.lst ys) ∧ ys.length = i ∧ ∀ (k : Nat) y, ys[k]? = some y → Out k G y)
    ⟨Same.new nD, [], upd_same, rfl, fun k y e => by simp at e⟩ ?_ ?_ ?_
  · intro i G _ e
    exact SqT.same e.1 hl
  · rintro i x G hx ⟨sm, ys, oD, ly, ok⟩
    have lt : i < xs.length := (List.getElem?_eq_some_iff.mp hx).1
    refine ⟨hw x, ?_⟩
    refine he i x G _ hx sm fun y G' sm' oy => ⟨ys, sm' _ _ oD, Nat.lt_of_le_of_lt (by omega : ys.length ≤ 100000) (by decide), ?_⟩
    have kp : Kp D G' (upd G' D (.lst (ys ++ [y]))) := Kp.at
    refine ⟨fun b o e => ?_, ys ++ [y], upd_same, by rw [List.length_append, ly]; rfl, ?_⟩
    · rw [upd_ne (ne_of_none e nD)]
      exact sm' _ _ (sm _ _ e)
    · intro k y' ey
      by_cases c : k < ys.length
      · rw [List.getElem?_append_left c] at ey
        exact st _ _ _ _ _ kp (sm' _ _ oD) (st _ _ _ _ _ (Kp.of sm') oD (ok k y' ey))
      · have kl : k < (ys ++ [y]).length := (List.getElem?_eq_some_iff.mp ey).1
        rw [List.length_append] at kl
        have kk : k = i := by
          have : ([y] : List V).length = 1 := rfl
          omega
        subst kk
        rw [List.getElem?_append_right (by omega), ly, Nat.sub_self] at ey
        have e1 : y = y' := Option.some.inj ey
        subst e1
        exact st _ _ _ _ _ kp (sm' _ _ oD) oy
  · rintro G ⟨sm, ys, oD, ly, ok⟩
    exact q G ys sm oD ly ok
end Gd

set_option Elab.async false
set_option linter.all false
set_option maxRecDepth 100000
set_option autoImplicit false
namespace Gd
open PySem PySem.Spec PyProof.Rows L2

/-! ### data stays -/
mutual
theorem dp_same {K : PySem.W.Frag} {H H' : Hp} (k : Same H H') : ∀ {v : V} {d : PyData}, Dp K H v d → Dp K H' v d
  | _, _, .non => .non
  | _, _, .bl b => .bl b
  | _, _, .int i => .int i
  | _, _, .str x => .str x
  | _, _, .lst s a => .lst (k.seq s) (dpa_same k a)
  | _, _, .tup s a => .tup (SqT.same k s) (dpa_same k a)
theorem dpa_same {K : PySem.W.Frag} {H H' : Hp} (k : Same H H') : ∀ {v : List V} {d : List PyData}, DpAll K H v d → DpAll K H' v d
  | _, _, .nil => .nil
  | _, _, .cons a b => .cons (dp_same k a) (dpa_same k b)
end
/-- no list in it -/
inductive NoL : PyData → Prop
  | non : NoL .none
  | bl (b : Bool) : NoL (.bool b)
  | int (i : Int) : NoL (.int i)
  | str (x : Str) : NoL (.str x)
  | tup {ds : List PyData} : (∀ d ∈ ds, NoL d) → NoL (.tuple ds)
/-- the only list that may change stands at a -/
def Kl (a : Addr) (H H' : Hp) : Prop := (∃ ys, H a = some (.lst ys)) ∧ Kp a H H'
mutual
theorem dp_kl {K : PySem.W.Frag} {H H' : Hp} {a : Addr} (k : Kl a H H') : ∀ {v : V} {d : PyData}, Dp K H v d → NoL d → Dp K H' v d
  | _, _, .non, _ => .non
  | _, _, .bl b, _ => .bl b
  | _, _, .int i, _ => .int i
  | _, _, .str x, _ => .str x
  | _, _, .tup s x, n => .tup (let ⟨⟨_, o⟩, kp⟩ := k; SqT.kpl kp o s) (dpa_kl k x (match n with | .tup h => h))
  | _, _, .lst s x, n => nomatch n
theorem dpa_kl {K : PySem.W.Frag} {H H' : Hp} {a : Addr} (k : Kl a H H') : ∀ {v : List V} {d : List PyData}, DpAll K H v d → (∀ x ∈ d, NoL x) → DpAll K H' v d
  | _, _, .nil, _ => .nil
  | _, _, .cons x y, n => .cons (dp_kl k x (n _ (by simp))) (dpa_kl k y fun z m => n z (by simp [m]))
end
theorem RS.kl {n : Nat} {H H' : Hp} {g : Addr} (r : RS n H g) (k : Kp g H H') : Kl g H H' := by
  obtain ⟨_, _, _, e, _⟩ := r.ok
  exact ⟨⟨_, e⟩, k⟩
theorem dpa_len {K : PySem.W.Frag} {H : Hp} : ∀ {v : List V} {d : List PyData}, DpAll K H v d → v.length = d.length
  | _, _, .nil => rfl
  | _, _, .cons _ b => by rw [List.length_cons, List.length_cons, dpa_len b]
theorem dpa_get {K : PySem.W.Frag} {H : Hp} : ∀ {v : List V} {d : List PyData} {i : Nat} {x : V}, DpAll K H v d → v[i]? = some x → ∃ y, d[i]? = some y ∧ Dp K H x y
  | _, _, _, _, .nil, e => by simp at e
  | _, _, 0, _, .cons a _, e => by
    have e' := Option.some.inj e
    subst e'
    exact ⟨_, rfl, a⟩
  | _, _, i + 1, x, .cons _ b, e => by
    obtain ⟨y, e2, h⟩ := dpa_get (i := i) (x := x) b (by simpa using e)
    exact ⟨y, by simpa using e2, h⟩
theorem dpa_app {K : PySem.W.Frag} {H : Hp} : ∀ {v w : List V} {d e : List PyData}, DpAll K H v d → DpAll K H w e → DpAll K H (v ++ w) (d ++ e)
  | _, _, _, _, .nil, y => y
  | _, _, _, _, .cons a b, y => .cons a (dpa_app b y)
theorem dpa_one {K : PySem.W.Frag} {H : Hp} {v : V} {d : PyData} (h : Dp K H v d) : DpAll K H [v] [d] := .cons h .nil
theorem dpa_take {K : PySem.W.Frag} {H : Hp} : ∀ {v : List V} {d : List PyData} (n : Nat), DpAll K H v d → DpAll K H (v.take n) (d.take n)
  | _, _, 0, _ => .nil
  | _, _, _ + 1, .nil => .nil
  | _, _, n + 1, .cons a b => .cons a (dpa_take n b)
theorem dpa_drop {K : PySem.W.Frag} {H : Hp} : ∀ {v : List V} {d : List PyData} (n : Nat), DpAll K H v d → DpAll K H (v.drop n) (d.drop n)
  | _, _, 0, r => r
  | _, _, _ + 1, .nil => .nil
  | _, _, n + 1, .cons _ b => dpa_drop n b
theorem dpa_rev {K : PySem.W.Frag} {H : Hp} : ∀ {v : List V} {d : List PyData}, DpAll K H v d → DpAll K H v.reverse d.reverse
  | _, _, .nil => .nil
  | _, _, .cons a b => by
    rw [List.reverse_cons, List.reverse_cons]
    exact dpa_app (dpa_rev b) (dpa_one a)
theorem dpa_strs {K : PySem.W.Frag} {H : Hp} : ∀ ns : List Str, DpAll K H (ns.map V.str) (ns.map PyData.str)
  | [] => .nil
  | n :: ns => .cons (.str n) (dpa_strs ns)

/-! ### an own class: its methods, len, == -/
/-- where a method stands -/
def AtM (K : PySem.W.Frag) (C : Addr) (m qual : Str) (st : Stmt) (ps : List Str) : Prop :=
  ∃ f fd, PySem.W.findIn K (.ref C) m = some (some (.ref f)) ∧ PySem.W.isFn K (.ref f) = true ∧ Fun K m qual st f fd ∧ Binds K fd ps []
/-- where a property's getter stands -/
def AtP (K : PySem.W.Frag) (C : Addr) (m qual : Str) (st : Stmt) (ps : List Str) : Prop :=
  ∃ p f fd, PropOf K C m p f ∧ Fun K m qual st f fd ∧ Binds K fd ps []
structure Mt (P : Program) (w : World) (K : PySem.W.Frag) (mg : Str → Option Value) (base : Heap)
    (k : Nat) (C : Addr) (m qual : Str) (st : Stmt) (ps : List Str) (sp : Sp) : Prop where
  ex : ∃ f fd, PySem.W.findIn K (.ref C) m = some (some (.ref f)) ∧ PySem.W.isFn K (.ref f) = true ∧ Fun K m qual st f fd ∧ Binds K fd ps [] ∧ FnOk P w K mg base CX0 k f fd ps sp
structure Pt (P : Program) (w : World) (K : PySem.W.Frag) (mg : Str → Option Value) (base : Heap)
    (k : Nat) (C : Addr) (m qual : Str) (st : Stmt) (ps : List Str) (sp : Sp) : Prop where
  ex : ∃ p f fd, PropOf K C m p f ∧ Fun K m qual st f fd ∧ Binds K fd ps [] ∧ FnOk P w K mg base CX0 k f fd ps sp
/-- an own class -/
structure Ck (K : PySem.W.Frag) (mg : Str → Option Value) (C : Addr) (x : Str) : Prop where
  cl : Cls K C
  mks : PySem.W.makesIn K C = true
  kp : PySem.W.keepIn K (.ref C) = true
  mg_ : mg x = some (.ref C)
section
variable {P : Program} {w : World} {K : PySem.W.Frag} {mg : Str → Option Value} {base : Heap}
theorem Mt.mk' {C : Addr} {m qual : Str} {st : Stmt} {ps : List Str} {k : Nat} {sp : Sp} (h : AtM K C m qual st ps)
    (ok : ∀ f fd, Fun K m qual st f fd → FnOk P w K mg base CX0 k f fd ps sp) : Mt P w K mg base k C m qual st ps sp := by
  obtain ⟨f, fd, a, i, F, b⟩ := h
  exact ⟨f, fd, a, i, F, b, ok f fd F⟩
theorem Pt.mk' {C : Addr} {m qual : Str} {st : Stmt} {ps : List Str} {k : Nat} {sp : Sp} (h : AtP K C m qual st ps)
    (ok : ∀ f fd, Fun K m qual st f fd → FnOk P w K mg base CX0 k f fd ps sp) : Pt P w K mg base k C m qual st ps sp := by
  obtain ⟨p, f, fd, a, F, b⟩ := h
  exact ⟨p, f, fd, a, F, b, ok f fd F⟩
end
section
variable {X : Cx} {x m qual : Str} {st : Stmt} {ps ks : List Str} {sp : Sp} {k j n : Nat} {e o : Expr} {es : List Expr} {kws : List Keyword} {ta : TE} {t tk : TA} {p pos apos : Pos} {C : Addr}
/-- C(e, ..) -/
theorem pe_new (T : Ck X.K X.mg C x) (D : Mt X.prog X.w X.K X.mg X.base k C "__init__" qual st ps sp) (hr : Room j X.A) (hg : Gl X x) (ha : PA X (e :: es) t) (hk : k + 1 ≤ j := by decide)
    (hdb : (x == ("__debug__" : Str)) = false := by decide) (he : starEach (e :: es) X.env = (false, eval e X.env) :: starEach es X.env := by rfl)
    (hpl : (backTo pos (starEach es X.env)).any (·.1) = false := by rfl) :
    PE X (.Call (.Name x p) (e :: es) [] pos) (tMake C sp [] E0 t) := by
  obtain ⟨f, fd, a, i, F, b, ok⟩ := D.ex
  exact pe_make ⟨T.mks, a, i, T.kp⟩ ok (hr.mono hk) hg T.mg_ b .nil pass0 ha hdb he hpl
/-- e.f, a property -/
theorem pe_p (T : Ck X.K X.mg C x) (D : Pt X.prog X.w X.K X.mg X.base k C m qual st ps sp) (hr : Room j X.A) (he : PE X e ta) (hk : k + 1 ≤ j := by decide)
    (hab : attributeBase e m X.env (eval e X.env) = eval e X.env := by rfl) : PE X (.Attribute e m pos) (tProp C sp [] E0 ta) := by
  obtain ⟨p, f, fd, a, F, b, ok⟩ := D.ex
  exact pe_prop he T.cl a ok (hr.mono hk) b .nil pass0 hab
/-- len(o), o with its own __len__ -/
theorem call_lenO (D : Mt X.prog X.w X.K X.mg X.base k C "__len__" qual st ps sp) (hr : Room j X.A) (hk : k + 1 ≤ j := by decide) :
    CallR X (.builtin "len") (fun xs H Q => ∃ a dx fs, xs = [.ref a] ∧ H a = some (.ins C dx fs) ∧ sp [.ref a] H (fun v H' => ∃ n : Int, v = .int n ∧ 0 ≤ n ∧ n < 2 ^ 63 ∧ Q (.int n) H') E0) := by
  intro pins s σ H xs us Q I r h
  obtain ⟨a, dx, fs, rfl, ha, q⟩ := h
  obtain ⟨f, fd, at_, i, F, b, ok⟩ := D.ex
  obtain ⟨u, rfl, ru⟩ := vals1 r
  cases ru
  obtain ⟨mA, J, _⟩ := ins_get I.hok ha
  obtain ⟨od, J, _⟩ := J.look
  obtain ⟨m, hF⟩ := I.fr
  refine PySem.W.len_K hF I.ok.mod.kin J at_ i ?_
  have cnt : ([Value.ref a] : List Value).length = ps.length := by
    have := ok.len _ _ _ _ q
    exact this
  have bnd : BindsTo s fd ⟨[.ref a], []⟩ (ps.zip [.ref a]) := by
    have z := b s [.ref a] I.kIn (by simpa using cnt)
    simpa using z
  have hr' := hr.mono hk
  refine wpAny_call (codeAny_mono (ok.run X.A.in1 X.stack s H ⟨[.ref a], []⟩ [.ref a] [.ref a] _ E0 hr'.in1 I.env0.in1 bnd (.cons rfl .nil) q) ?_)
  intro r' s' post
  cases r' with
  | error e => exact (post : False).elim
  | ok fl =>
    cases fl with
    | ret u =>
      obtain ⟨v, H', I2, rv, n, ev, n0, n1, q2⟩ := I.after post
      subst ev
      obtain ⟨tk, rfl⟩ := rv
      exact ⟨⟨n0, n1⟩, .int n, H', I2.tok _, ⟨s'.toks, rfl⟩, q2⟩
    | next => exact (post : False).elim
    | brk => exact (post : False).elim
    | cont => exact (post : False).elim
/-- o == y, o with its own __eq__, which tells True or False -/
theorem op_eqO (D : Mt X.prog X.w X.K X.mg X.base k C "__eq__" qual st ps sp) (hr : Room j X.A) (hk : k ≤ j := by decide) :
    OpR X (compareOp .Eq) (fun x y H Q => ∃ a dx fs t, x = .ref a ∧ H a = some (.ins C dx fs) ∧ TyX X.K H y t ∧ PySem.W.notFirst X.K C t = true ∧
      sp [.ref a, y] H (fun v H' => ∃ b : Bool, v = .bl b ∧ Q (.bl b) H') E0) := by
  intro pins s σ H x y v u Q I rx ry h
  obtain ⟨a, dx, fs, t, rfl, ha, ty, nf, q⟩ := h
  obtain ⟨f, fd, at_, i, F, b, ok⟩ := D.ex
  cases rx
  obtain ⟨mA, J, _⟩ := ins_get I.hok ha
  obtain ⟨od, J, _⟩ := J.look
  obtain ⟨m, hF⟩ := I.fr
  obtain ⟨Pk, kit, pk, _⟩ := kit_of I ry ty
  have hr' := hr.mono hk
  show wpAny (model X.prog X.w) X.A (richCompare .Eq (.ref a) u) (EP X pins σ Q) X.xe s
  refine PySem.W.cmp_K (op := .Eq) (tb := t) hr'.units0 hF I.ok.mod.kin J (kit.ty _ _ I.kIn pk) nf at_ i ?_
  have cnt : ([Value.ref a, u] : List Value).length = ps.length := by
    have := ok.len _ _ _ _ q
    exact this
  have bnd : BindsTo s fd ⟨[.ref a, u], []⟩ (ps.zip [.ref a, u]) := by
    have z := b s [.ref a, u] I.kIn (by simpa using cnt)
    simpa using z
  refine wpAny_call (codeAny_mono (ok.run X.A X.stack s H ⟨[.ref a, u], []⟩ [.ref a, u] [.ref a, y] _ E0 hr' I.env0 bnd (.cons rfl (.cons ry .nil)) q) ?_)
  intro r' s' post
  cases r' with
  | error e => exact (post : False).elim
  | ok fl =>
    cases fl with
    | ret w =>
      obtain ⟨v, H', I2, rv, n, ev, q2⟩ := I.after post
      subst ev
      have ew : w = Value.bool n := rv
      subst ew
      exact ⟨.bl n, H', I2, rfl, q2⟩
    | next => exact (post : False).elim
    | brk => exact (post : False).elim
    | cont => exact (post : False).elim
/-- C(k = v, ..) -/
theorem pe_newk {g : {α : Type} → List α → List α → List α} (T : Ck X.K X.mg C x) (D : Mt X.prog X.w X.K X.mg X.base k C "__init__" qual st ps sp) (hr : Room j X.A)
    (kb : ∀ f fd, Fun X.K "__init__" qual st f fd → KBn X.K fd ps 1 ks g g) (hg : Gl X x) (hkw : PK X kws tk) (hk : k + 1 ≤ j := by decide)
    (hall : (backToKw pos (keywordEach kws X.env)).all (·.1.isSome) = true := by rfl) (hks : (backToKw pos (keywordEach kws X.env)).filterMap (·.1) = ks := by rfl) (hdb : (x == ("__debug__" : Str)) = false := by decide)
    (hpl : ((backTo pos (starEach [] X.env)).any (·.1) || (backToKw pos (keywordEach kws X.env)).any (·.1.isNone)) = false := by rfl) :
    PE X (.Call (.Name x p) [] kws pos) (tMakeK C 0 ks.length sp g E0 tNil tk) := by
  obtain ⟨f, fd, a, i, F, b, ok⟩ := D.ex
  exact pe_makeK0 ⟨T.mks, a, i, T.kp⟩ ok (hr.mono hk) hg T.mg_ (kb f fd F) pass0 hkw hall hks hdb hpl
end
end Gd

set_option Elab.async false
set_option linter.all false
set_option maxRecDepth 100000
set_option autoImplicit false
namespace Gd
open PySem PySem.Spec PyProof.Rows L2

/-! ### t[::-1], t a tuple -/
theorem adjust_rev (n : Nat) : Builtin.Slice.sliceAdjust none none (-1) (n : Int) = ((n : Int) - 1, -1) := by
  simp [Builtin.Slice.sliceAdjust]
theorem places_rev (n : Nat) : Builtin.Slice.slicePlaces ((n : Int) - 1) (-1) (-1) = n := by
  unfold Builtin.Slice.slicePlaces
  rw [if_neg (by decide)]
  by_cases h : (n : Int) - 1 > -1
  · rw [if_pos h]
    have e : (- (-1) : Int) = 1 := by decide
    rw [e, Int.ediv_one]
    omega
  · rw [if_neg h]
    omega
theorem fm_congr {α β : Type} {f g : α → Option β} : ∀ l : List α, (∀ x ∈ l, f x = g x) → l.filterMap f = l.filterMap g
  | [], _ => rfl
  | a :: l, h => by
    rw [List.filterMap_cons, List.filterMap_cons, h a (by simp), fm_congr l fun x m => h x (by simp [m])]
theorem pick_rev (xs : Array Value) : ((List.range xs.size).filterMap fun (k : Nat) => xs[(((xs.size : Int) - 1) + (k : Int) * (-1)).toNat]?).toArray = xs.toList.reverse.toArray := by
  have e : ((List.range xs.size).filterMap fun (k : Nat) => xs[(((xs.size : Int) - 1) + (k : Int) * (-1)).toNat]?) = ((List.range xs.size).map fun k => xs.size - 1 - k).filterMap (xs[·]?) := by
    rw [List.filterMap_map]
    refine fm_congr _ fun k hk => ?_
    have := List.mem_range.mp hk
    show xs[(((xs.size : Int) - 1) + (k : Int) * (-1)).toNat]? = xs[xs.size - 1 - k]?
    congr 1
    omega
  rw [e, PySem.W.krv_range, List.filterMap_reverse, PySem.W.krv_all]
section
variable {prog : Program} {w : World} {A : Around} {E : Value → Shared → Prop} {s : Shared}
theorem applied_rev {sl : Addr} {vl vu vs : Value} {n : Nat} {Q : Int × Int × Nat → Shared → Prop} (hs : s.heap.IsSliceOf sl vl vu vs) (pl : IsPart vl none) (pu : IsPart vu none) (ps : IsPart vs (some (-1)))
    (h : Q ((n : Int) - 1, -1, n) s) : wpAny (model prog w) A (Builtin.Slice.sliceApplied (.ref sl) (pure (n : Int))) Q E s := by
  obtain ⟨os, hos, hcs, hds⟩ := id hs
  unfold Builtin.Slice.sliceApplied Builtin.Slice.sliceFields
  refine wpAny_bind (wpAny_bind (wpAny_field hos hds (x := vl) rfl (wpAny_bind (wpAny_field hos hds (x := vu) rfl (wpAny_bind (wpAny_field hos hds (x := vs) rfl (wpAny_pure ?_)))))))
  refine wpAny_bind (HT.slicePart_ ps ?_)
  show wpAny _ _ (if ((-1 : Int) == 0) = true then _ else _) _ _ s
  rw [if_neg (by decide)]
  refine wpAny_bind (HT.slicePart_ pl (wpAny_bind (HT.slicePart_ pu (wpAny_bind (wpAny_pure ?_)))))
  show wpAny _ _ (match Builtin.Slice.sliceAdjust none none (-1) (n : Int) with | (lo, hi) => pure (lo, (-1 : Int), Builtin.Slice.slicePlaces lo hi (-1))) _ _ s
  rw [adjust_rev n]
  show wpAny _ _ (pure ((n : Int) - 1, (-1 : Int), Builtin.Slice.slicePlaces ((n : Int) - 1) (-1) (-1))) _ _ s
  rw [places_rev]
  exact wpAny_pure h
theorem getItem_rev {t sl : Addr} {items : Array Value} {vl vu vs : Value} {Q : Value → Shared → Prop} (ht : IsTup s.heap t items) (hs : s.heap.IsSliceOf sl vl vu vs) (pl : IsPart vl none) (pu : IsPart vu none) (ps : IsPart vs (some (-1)))
    (h : Q (.ref s.heap.objs.size) { s with heap := s.heap.push { cls := .type "tuple", data := .seq items.toList.reverse.toArray } })
    (hsz : items.size ≤ sizeLine) : wpAny (model prog w) A (getItem (.ref t) (.ref sl)) Q E s := by
  have hok : sizeOk (.seq items.toList.reverse.toArray) := by
    show items.toList.reverse.toArray.size ≤ sizeLine
    rw [List.size_toArray, List.length_reverse, Array.length_toList]
    exact hsz
  obtain ⟨os, hos, hcs, hds⟩ := id hs
  have hTs : s.TypeIs (.ref sl) "slice" := ⟨os, hos, hcs⟩
  unfold getItem
  try with_reducible refine wpAny_holding ?_
  first | refine wpAny_bind (wpAny_pure ?_) | skip
  refine wpAny_bind (wpAny_sequenceKey ht.typeIs (by decide) ?_)
  refine wpAny_bind (wpAny_callSpecial?_slot (name := Str.ofString "__getitem__") ht.typeIs PyProof.Rows.slot_tuple_getitem
    (wpAny_call_entry PyProof.Rows.slot_tuple_getitem ht.typeIs entry_tuple_getitem ?_ (args_tuple_getitem _ _)))
  show wpAny _ _ (Builtin.Tuple.tupleItemsOf (.ref t) >>= _) _ _ s
  refine wpAny_bind (tupleItemsOf_ ht ?_)
  refine wpAny_bind (wpAny_typeOf hTs ?_)
  rw [if_pos (by decide)]
  refine wpAny_bind (applied_rev hs pl pu ps ?_)
  have hno : ¬ (((((items.size : Int) - 1) == 0) && ((-1 : Int) == 1) && (items.size == items.size)) = true) := by
    intro q
    rw [Bool.and_eq_true, Bool.and_eq_true] at q
    exact absurd (eq_of_beq q.1.2) (by decide)
  show wpAny _ _ (if ((((items.size : Int) - 1) == 0) && ((-1 : Int) == 1) && (items.size == items.size)) = true then _ else _) _ _ s
  rw [if_neg hno, pick_rev]
  first
    | exact wpAny_bind (m := Builtin.Tuple.tupleExact _) (wpAny_newObj_type (wpAny_pure ⟨_, rfl, wpAny_pure h⟩) hok)
    | exact wpAny_bind (m := Builtin.Tuple.tupleExact _) (wpAny_newObj_type (wpAny_bind (wpAny_pure (wpAny_pure ⟨_, rfl, wpAny_pure h⟩))) hok)
    | exact wpAny_bind (wpAny_bind (m := Builtin.Tuple.tupleExact _) (wpAny_newObj_type (wpAny_pure (wpAny_pure ⟨_, rfl, wpAny_pure h⟩)) hok))
    | exact wpAny_bind (wpAny_bind (m := Builtin.Tuple.tupleExact _) (wpAny_newObj_type (wpAny_pure ⟨_, rfl, wpAny_pure h⟩) hok))
end
section
variable {X : Cx}
def tRevT (K : PySem.W.Frag) (te : TE) : TE := fun σ H Q => te σ H fun x H1 => ∃ a xs, x = .ref a ∧ SqT K H1 a xs ∧ ∀ p, H1 p = none → Q (.ref p) (upd H1 p (.tup xs.reverse))
theorem pe_revT {e : Expr} {te : TE} {k : Nat} {p1 p2 p3 pos : Pos} (he : PE X e te) : PE X (.Subscript e (.Slice none none (some (.UnaryOp .USub (.Constant (.int 1) k p1) p2)) p3) pos) (tRevT X.K te) := by
  refine ⟨fun pins s σ H Q I h => ?_⟩
  refine Subscript_ (thn (he.run pins s σ H _ I h) fun v s1 ⟨x, H1, I1, r1, q1⟩ => ?_)
  obtain ⟨a, xs, ex, hx, q⟩ := q1
  subst ex
  cases r1
  have hst : PO X (some (.UnaryOp .USub (.Constant (.int 1) k p1) p2)) (tPart (tUn (rU fun i => .int (-i)) (tC (.int 1)))) := po_some (pe_un un_neg pe_int)
  refine wpAny_Slice (thn (po_none.run pins s1 σ H1 (fun o H2 => o = none ∧ H2 = H1) I1 ⟨rfl, rfl⟩) fun vl s2 ⟨l, H2, I2, pl, el, e2⟩ => ?_)
  subst el e2
  refine thn (po_none.run pins s2 σ H2 (fun o H3 => o = none ∧ H3 = H2) I2 ⟨rfl, rfl⟩) fun vu s3 ⟨u, H3, I3, pu, eu, e3⟩ => ?_
  subst eu e3
  refine thn (hst.run pins s3 σ H3 (fun o H4 => o = some (-1) ∧ H4 = H3) I3 ⟨1, rfl, -1, rfl, rfl, rfl⟩) fun vs s4 ⟨o, H4, I4, ps, eo, e4⟩ => ?_
  subst eo e4
  have I5 : Inv X pins σ H4 { s4 with heap := s4.heap.push { cls := .type "slice", data := .fields #[vl, vu, vs] } } := I4.kept (t' := s4.toks) fun b ob q => Heap.get?_push_of_some _ q
  obtain ⟨its, r, ht, hz⟩ := I5.tuple hx
  have hlen := r.length
  show wpAny (model X.prog X.w) X.A (subscriptTail e (.Slice none none (some (.UnaryOp .USub (.Constant (.int 1) k p1) p2)) p3) (.ref a) (.ref s4.heap.objs.size)) (EP X pins σ Q) X.xe { s4 with heap := s4.heap.push { cls := .type "slice", data := .fields #[vl, vu, vs] } }
  refine tail_any (ops := [.ref a, .ref s4.heap.objs.size]) ht.typeIs (PyProof.Rows.slot_tuple_getitem.lookup) ?_ (by with_unfolding_all rfl)
  refine getItem_rev ht (Heap.IsSliceOf.new _ vl vu vs) pl pu ps ?_ (by rw [List.size_toArray]; omega)
  refine ⟨.ref _, _, I5.laid (t' := s4.toks) (o := .tup xs.reverse) (fun b ob q => Heap.get?_push_of_some _ q) (Nat.le_refl _) ?_, rfl, q _ (I5.hok.fresh (Nat.le_refl _))⟩
  refine ⟨by rw [List.length_reverse]; omega, its.reverse, r.reverse, _, Heap.get?_push_size _ rfl, rfl, 0, rfl⟩
end
end Gd

set_option Elab.async false
set_option linter.all false
set_option maxRecDepth 100000
set_option autoImplicit false
namespace Gd
open PySem PySem.Spec PyProof.Rows L2

/-! ### methods of an own class, called -/
section
variable {X : Cx} {x m qual : Str} {st : Stmt} {ps ks : List Str} {sp : Sp} {k j : Nat} {e o : Expr} {es : List Expr} {kws : List Keyword} {ta : TE} {t tk : TA} {p pos apos : Pos} {C : Addr}
/-- o.m(e, ..) -/
theorem pe_m {pl : Sem Bool} (T : Ck X.K X.mg C x) (D : Mt X.prog X.w X.K X.mg X.base k C m qual st ps sp) (hr : Room j X.A) (he : PE X o ta) (ha : PA X (e :: es) t) (hk : k ≤ j := by decide)
    (hst : starEach (e :: es) X.env = (false, eval e X.env) :: starEach es X.env := by rfl) (hpl : (backTo pos (starEach es X.env)).any (·.1) = false := by rfl)
    (ht : eval (.Call (.Attribute o m apos) (e :: es) [] pos) X.env = (do
      let ov ← eval o X.env
      standAt apos.atName
      let (f, first) ← holding [ov] (getMethod ov m pl)
      callWith pos f first (backTo pos (starEach (e :: es) X.env)) (backToKw pos (keywordEach [] X.env))) := by rfl) :
    PE X (.Call (.Attribute o m apos) (e :: es) [] pos) (tMeth C m sp [] E0 ta t) := by
  obtain ⟨f, fd, at_, i, F, b, ok⟩ := D.ex
  exact pe_meth he T.cl ⟨at_, i, F.kp⟩ ok (hr.mono hk) b .nil pass0 ha hst hpl ht
/-- o.m() -/
theorem pe_m0 {pl : Sem Bool} (T : Ck X.K X.mg C x) (D : Mt X.prog X.w X.K X.mg X.base k C m qual st ps sp) (hr : Room j X.A) (he : PE X o ta) (hk : k ≤ j := by decide)
    (ht : eval (.Call (.Attribute o m apos) [] [] pos) X.env = (do
      let ov ← eval o X.env
      standAt apos.atName
      let (f, first) ← holding [ov] (getMethod ov m pl)
      callWith pos f first (backTo pos (starEach [] X.env)) (backToKw pos (keywordEach [] X.env))) := by rfl) :
    PE X (.Call (.Attribute o m apos) [] [] pos) (tMeth C m sp [] E0 ta tNil) := by
  obtain ⟨f, fd, at_, i, F, b, ok⟩ := D.ex
  exact pe_meth0 he T.cl ⟨at_, i, F.kp⟩ ok (hr.mono hk) b .nil pass0 ht
/-- the reading of o == y, o with its own __eq__ -/
def rEqO (K : PySem.W.Frag) (C : Addr) (sp : Sp) : R2 := fun x y H Q => ∃ a dx fs t, x = .ref a ∧ H a = some (.ins C dx fs) ∧ TyX K H y t ∧ PySem.W.notFirst K C t = true ∧
  sp [.ref a, y] H (fun v H' => ∃ b : Bool, v = .bl b ∧ Q (.bl b) H') E0
/-- the reading of o.m(k = v, ..) -/
def tMethK (C : Addr) (m : Str) (n : Nat) (sp : Sp) (gV : List V → List V → List V) (ta : TE) (tk : TA) : TE := fun σ H Q => ta σ H fun x H1 => ∃ a dx fs, x = .ref a ∧ H1 a = some (.ins C dx fs) ∧ fs.lookup m = none ∧
  tk σ H1 fun zs H2 => zs.length = n ∧ sp (gV [x] zs) H2 Q E0
/-- o.m(k = v, ..) -/
theorem pe_mk {pl : Sem Bool} {g : {α : Type} → List α → List α → List α} (T : Ck X.K X.mg C x) (D : Mt X.prog X.w X.K X.mg X.base k C m qual st ps sp) (hr : Room j X.A) (kb : ∀ f fd, Fun X.K m qual st f fd → KBn X.K fd ps 1 ks g g) (he : PE X o ta) (hkw : PK X kws tk) (hk : k ≤ j := by decide)
    (hall : (backToKw pos (keywordEach kws X.env)).all (·.1.isSome) = true := by rfl) (hks : (backToKw pos (keywordEach kws X.env)).filterMap (·.1) = ks := by rfl)
    (hpl : ((backTo pos (starEach [] X.env)).any (·.1) || (backToKw pos (keywordEach kws X.env)).any (·.1.isNone)) = false := by rfl)
    (ht : eval (.Call (.Attribute o m apos) [] kws pos) X.env = (do
      let ov ← eval o X.env
      standAt apos.atName
      let (f, first) ← holding [ov] (getMethod ov m pl)
      callWith pos f first (backTo pos (starEach [] X.env)) (backToKw pos (keywordEach kws X.env))) := by rfl) :
    PE X (.Call (.Attribute o m apos) [] kws pos) (tMethK C m ks.length sp g ta tk) := by
  obtain ⟨f, fd, at_, i, F, b, ok⟩ := D.ex
  refine ⟨fun pins s σ H Q I h => ?_⟩
  refine PySem.W.methodCall_KW (pl := pl) (thn (he.run pins s σ H _ I h) fun u s1 got => ?_) ht
  obtain ⟨x', H1, I1, rx, a, dx, fs, ex, ea, l, q⟩ := got
  subst ex
  obtain rfl : u = Value.ref a := rx
  refine getmeth_ok I1 ea T.cl ⟨at_, i, F.kp⟩ l ?_
  refine PySem.W.callWith_KW0 (first := [.ref a]) (h₀ := X.base) I.ok.mod.kin F.kp hall ?_ hpl
  refine thn (hkw.run pos pins s1 σ H1 _ I1 q) fun ws s2 got2 => ?_
  obtain ⟨zs, H2, I2, rz, l1, q2⟩ := got2
  refine ⟨I2.kIn, ?_⟩
  rw [hks]
  have kb' := kb f fd F
  have r1 : Vals [V.ref a] [Value.ref a] := .cons rfl .nil
  have rel := kb'.rel r1 rz
  have bnd := kb'.to s2 [.ref a] ws I2.kIn rfl (rz.length.symm.trans l1)
  show wpAny _ _ (call (.ref f) [.ref a] (ks.zip ws)) _ _ _
  refine wpAny_call (codeAny_mono (ok.run X.A X.stack s2 H2 ⟨[.ref a], ks.zip ws⟩ _ _ _ E0 (hr.mono hk) I2.env0 bnd rel q2) ?_)
  intro r s' post
  cases r with
  | error e => exact (post : False).elim
  | ok fl =>
    cases fl with
    | ret u => exact I2.after post
    | next => exact (post : False).elim
    | brk => exact (post : False).elim
    | cont => exact (post : False).elim
end
end Gd

set_option Elab.async false
set_option linter.all false
set_option maxRecDepth 100000
set_option autoImplicit false
namespace Gd
open PySem PySem.Spec PyProof.Rows L2

/-! ### a shown text has only signs that there are -/
def Sg (t : Str) : Prop := ∀ c ∈ t.cps.toList, c < 1114112
theorem Sg.ok {t : Str} (h : Sg t) : PyData.strOk t = true := by
  unfold PyData.strOk
  rw [← Array.all_toList, List.all_eq_true]
  exact fun c m => decide_eq_true (h c m)
theorem Sg.of {t : Str} (h : PyData.strOk t = true) : Sg t := by
  unfold PyData.strOk at h
  rw [← Array.all_toList, List.all_eq_true] at h
  exact fun c m => of_decide_eq_true (h c m)
theorem char_lt (c : Char) : c.toNat < 1114112 := by
  have h := c.valid
  have e : c.toNat = c.val.toNat := rfl
  rcases h with h | h
  · have h1 : c.val.toNat < 0xd800 := h
    omega
  · have h1 : c.val.toNat < 0x110000 := h.2
    omega
theorem Sg.lit (s : String) : Sg (Str.ofString s) := fun c m => by
  rw [signs_ofString] at m
  obtain ⟨ch, _, rfl⟩ := List.mem_map.mp m
  exact char_lt ch
theorem Sg.app {a b : Str} (ha : Sg a) (hb : Sg b) : Sg (a ++ b) := fun c m => by
  have e : (a ++ b).cps = a.cps ++ b.cps := rfl
  rw [e, Array.toList_append, List.mem_append] at m
  exact m.elim (ha c) (hb c)
theorem reprChar_lt {q c : Nat} (hq : q < 1114112) (hc : c < 1114112) : ∀ d ∈ PySem.Builtin.Str.reprChar q c, d < 1114112 := by
  intro d m
  have hex : ∀ n, d ∈ List.replicate n 48 ++ (Nat.toDigits 16 c).map Char.toNat → d < 1114112 := fun n m => by
    rcases List.mem_append.mp m with m | m
    · have := (List.mem_replicate.mp m).2
      omega
    · obtain ⟨ch, _, rfl⟩ := List.mem_map.mp m
      exact char_lt ch
  unfold PySem.Builtin.Str.reprChar at m
  simp only at m
  split at m
  · simp only [List.mem_cons, List.not_mem_nil, or_false] at m
    omega
  split at m
  · simp only [List.mem_cons, List.not_mem_nil, or_false] at m
    omega
  split at m
  · simp only [List.mem_cons, List.not_mem_nil, or_false] at m
    omega
  split at m
  · simp only [List.mem_cons, List.not_mem_nil, or_false] at m
    omega
  split at m
  · simp only [List.mem_cons, List.not_mem_nil, or_false] at m
    omega
  split at m
  · rcases List.mem_append.mp m with m | m
    · simp only [List.mem_cons, List.not_mem_nil, or_false] at m
      omega
    · exact hex _ m
  split at m
  · rcases List.mem_append.mp m with m | m
    · simp only [List.mem_cons, List.not_mem_nil, or_false] at m
      omega
    · exact hex _ m
  · rcases List.mem_append.mp m with m | m
    · simp only [List.mem_cons, List.not_mem_nil, or_false] at m
      omega
    · exact hex _ m
theorem foldl_lt {q : Nat} (hq : q < 1114112) : ∀ (l : List Nat) (acc : Array Nat), (∀ c ∈ l, c < 1114112) → (∀ c ∈ acc.toList, c < 1114112) → ∀ c ∈ (l.foldl (fun out c => out ++ (PySem.Builtin.Str.reprChar q c).toArray) acc).toList, c < 1114112
  | [], acc, _, ha => ha
  | c :: l, acc, hl, ha => by
    refine foldl_lt hq l _ (fun d m => hl d (List.mem_cons_of_mem _ m)) fun d m => ?_
    rw [Array.toList_append, List.mem_append] at m
    rcases m with m | m
    · exact ha d m
    · exact reprChar_lt hq (hl c List.mem_cons_self) d m
theorem quote_lt (x : Str) : reprQuote x < 1114112 := by
  unfold reprQuote
  split <;> decide
theorem Sg.repr {x : Str} (h : Sg x) : Sg (reprText x) := by
  intro c m
  have e : (reprText x).cps = (x.cps.foldl (fun out c => out ++ (PySem.Builtin.Str.reprChar (reprQuote x) c).toArray) #[reprQuote x]).push (reprQuote x) := rfl
  rw [e, Array.toList_push, List.mem_append] at m
  rcases m with m | m
  · rw [← Array.foldl_toList] at m
    refine foldl_lt (quote_lt x) _ _ h (fun d md => ?_) c m
    have : d = reprQuote x := by simpa using md
    rw [this]
    exact quote_lt x
  · have : c = reprQuote x := by simpa using m
    rw [this]
    exact quote_lt x
theorem Sg.text : ∀ (ts : List Str) (k : Nat) (acc : Str), Sg acc → (∀ t ∈ ts, Sg t) → Sg (textFrom k acc ts)
  | [], _, _, ha, _ => ha
  | t :: ts, k, acc, ha, ht => by
    refine Sg.text ts (k + 1) _ (Sg.app (Sg.app ha ?_) (ht t List.mem_cons_self)) fun u m => ht u (List.mem_cons_of_mem _ m)
    split
    · exact Sg.lit _
    · exact Sg.lit _
theorem Sg.join {sep : Str} (hs : Sg sep) : ∀ (ts : List Str), (∀ t ∈ ts, Sg t) → Sg (Str.join sep ts)
  | [], _ => fun c m => by
    have : c ∈ ([] : List Nat) := m
    simp at this
  | [x], h => h x List.mem_cons_self
  | x :: y :: r, h => Sg.app (Sg.app (h x List.mem_cons_self) hs) (Sg.join hs (y :: r) fun t m => h t (List.mem_cons_of_mem _ m))
mutual
theorem shown_sg : ∀ d : PyData, d.canLay0 = true → Sg d.shown
  | .none, _ => by
    rw [PyData.shown_none]
    exact Sg.lit _
  | .bool b, _ => by
    rw [PyData.shown_bool]
    split <;> exact Sg.lit _
  | .int i, _ => by
    rw [PyData.shown_int]
    exact Sg.lit _
  | .str x, h => by
    have h' : PyData.strOk x = true := by simpa [PyData.canLay0] using h
    have e : (PyData.str x).shown = reprText x := by simp [PyData.shown]
    rw [e]
    exact Sg.repr (Sg.of h')
  | .list xs, h => by
    have h' : PyData.canLayAll0 xs = true := by simpa [PyData.canLay0] using h
    have e : (PyData.list xs).shown = listText (PyData.shownAll xs) := by simp [PyData.shown]
    rw [e]
    exact Sg.app (Sg.text _ _ _ (Sg.lit _) (shownAll_sg xs h')) (Sg.lit _)
  | .tuple xs, h => by
    have h' : PyData.canLayAll0 xs = true := by simpa [PyData.canLay0] using h
    have e : (PyData.tuple xs).shown = tupleText (PyData.shownAll xs) := by simp [PyData.shown]
    rw [e]
    refine Sg.app (Sg.app (Sg.lit _) (Sg.join (Sg.lit _) _ (shownAll_sg xs h'))) ?_
    split <;> exact Sg.lit _
  | .dict _, h => by simp [PyData.canLay0] at h
theorem shownAll_sg : ∀ xs : List PyData, PyData.canLayAll0 xs = true → ∀ t ∈ PyData.shownAll xs, Sg t
  | [], _, t, m => by
    rw [PyData.shownAll_nil] at m
    simp at m
  | x :: xs, h, t, m => by
    have h' : x.canLay0 = true ∧ PyData.canLayAll0 xs = true := by simpa [PyData.canLayAll0] using h
    rw [PyData.shownAll_cons, List.mem_cons] at m
    rcases m with rfl | m
    · exact shown_sg x h'.1
    · exact shownAll_sg xs h'.2 t m
end
theorem shown_ok {d : PyData} (h : d.canLay0 = true) : PyData.strOk d.shown = true := (shown_sg d h).ok
end Gd

set_option Elab.async false
set_option linter.all false
set_option maxRecDepth 100000
set_option autoImplicit false
namespace Gd
open PySem PySem.Spec PyProof.Rows L2

/-! ### dicts of text keys -/
mutual
theorem reads_noL {h : Heap} : ∀ (d : PyData) {v : Value} {as : List Addr}, Reads h v d as → NoL d → as = []
  | .none, _, _, r, _ => by cases r; rfl
  | .bool _, _, _, r, _ => by cases r; rfl
  | .int _, _, _, r, _ => by cases r; rfl
  | .str _, _, _, r, _ => by cases r; rfl
  | .list _, _, _, _, n => by cases n
  | .tuple ds, _, _, r, n => by
    cases r with
    | tuple h1 h2 h3 ra => exact readsAll_noL ds ra (by cases n with | tup f => exact f)
  | .dict _, _, _, _, n => by cases n
theorem readsAll_noL {h : Heap} : ∀ (ds : List PyData) {vs : List Value} {as : List Addr}, ReadsAll h vs ds as → (∀ d ∈ ds, NoL d) → as = []
  | [], _, _, r, _ => by cases r; rfl
  | d :: ds, _, _, r, n => by
    cases r with
    | cons r1 r2 =>
      rw [reads_noL d r1 (n d (by simp)), readsAll_noL ds r2 (fun x m => n x (by simp [m]))]
      rfl
end
/-- the pairs of a dict -/
abbrev kvOf (ks : List Str) (vs : List V) : List (Key × V) := (ks.map Sum.inr).zip vs
/-- at a: a dict from the texts ks to values of the data ds -/
structure Dct (K : PySem.W.Frag) (H : Hp) (a : Addr) (ks : List Str) (ds : List PyData) : Prop where
  ex : ∃ vs : List V, vs.length = ks.length ∧ H a = some (.dK (kvOf ks vs)) ∧ DpAll K H vs ds
  nol : ∀ d ∈ ds, NoL d
theorem keys_reads {P : Program} {w : World} {h : Heap} : ∀ {es : List DictEntry} {kvs : List (Key × Value)} {ks : List Str}, Pairs (mixKind P w) es kvs → kvs.map (·.1) = ks.map Sum.inr → ReadsAll h (es.map (·.key)) (ks.map PyData.str) []
  | [], _, ks, .nil, e => by
    have : ks = [] := by simpa using e.symm
    subst this
    exact .nil
  | _ :: _, _, [], .cons _ _ _, e => by simp at e
  | d :: es, kv :: kvs, k :: ks, .cons h1 h2 h3, e => by
    simp only [List.map_cons, List.cons.injEq] at e
    have h1' : keyIs kv.1 d.key = true := h1
    rw [e.1] at h1'
    rcases keyIs_shape h1' with ⟨i, t, q, _⟩ | ⟨x, t, q, q2⟩
    · cases q
    · cases q
      have := keys_reads (h := h) h3 e.2
      simp only [List.map_cons]
      rw [q2]
      exact ReadsAll.cons (.str k t) this
theorem vals_of_pairs {P : Program} {w : World} : ∀ {es : List DictEntry} {kvs : List (Key × Value)}, Pairs (mixKind P w) es kvs → es.map (·.val) = kvs.map (·.2)
  | _, _, .nil => rfl
  | _, _, .cons _ h2 h3 => by
    simp only [List.map_cons]
    rw [h2, vals_of_pairs h3]
theorem kv_vals {α : Type} : ∀ {kvs : List (α × V)} {us : List (α × Value)}, KV kvs us → Vals (kvs.map (·.2)) (us.map (·.2))
  | _, _, .nil => .nil
  | _, _, .cons h t => .cons h.2 (kv_vals t)
theorem kv_keys {α : Type} : ∀ {kvs : List (α × V)} {us : List (α × Value)}, KV kvs us → kvs.map (·.1) = us.map (·.1)
  | _, _, .nil => rfl
  | _, _, .cons h t => by
    simp only [List.map_cons]
    rw [h.1, kv_keys t]
theorem kvOf_keys : ∀ {ks : List Str} {vs : List V}, vs.length = ks.length → (kvOf ks vs).map (·.1) = ks.map Sum.inr
  | [], [], _ => rfl
  | k :: ks, v :: vs, l => by
    show Sum.inr k :: (kvOf ks vs).map (·.1) = _
    rw [kvOf_keys (by simpa using l)]
    rfl
theorem kvOf_vals : ∀ {ks : List Str} {vs : List V}, vs.length = ks.length → (kvOf ks vs).map (·.2) = vs
  | [], [], _ => rfl
  | k :: ks, v :: vs, l => by
    show v :: (kvOf ks vs).map (·.2) = _
    rw [kvOf_vals (by simpa using l)]
/-- the data of such a dict -/
def dctD (ks : List Str) (ds : List PyData) : PyData := .dict ((ks.map PyData.str).zip ds)
/-- a dict whose text is short -/
structure DctOk (n k : Nat) (ks : List Str) (ds : List PyData) : Prop where
  ks_ : ∀ x ∈ ks, DOk 20 1 (.str x)
  ds_ : ∀ d ∈ ds, DOk n k d
  len : ds.length = ks.length
  few : ks.length ≤ 100
theorem zip_facts {n k : Nat} : ∀ {ks : List Str} {ds : List PyData}, ds.length = ks.length → (∀ x ∈ ks, DOk 20 1 (.str x)) → (∀ d ∈ ds, DOk n k d) → 1 ≤ k →
    PyData.leavesShortKv 62 ((ks.map PyData.str).zip ds) = true ∧ PyData.bulkKv ((ks.map PyData.str).zip ds) ≤ ks.length * (n + 22) ∧ PyData.showableKv ((ks.map PyData.str).zip ds) = true ∧ PyData.depthKv ((ks.map PyData.str).zip ds) ≤ k
  | [], [], _, _, _, _ => ⟨rfl, by simp [PyData.bulkKv], rfl, by simp [PyData.depthKv]⟩
  | x :: ks, d :: ds, l, hk, hd, k1 => by
    obtain ⟨a1, a2, a3, a4⟩ := zip_facts (ks := ks) (ds := ds) (by simpa using l) (fun y m => hk y (by simp [m])) (fun y m => hd y (by simp [m])) k1
    have X := hk x (by simp)
    have D := hd d (by simp)
    simp only [List.map_cons, List.zip_cons_cons]
    refine ⟨?_, ?_, ?_, ?_⟩
    · unfold PyData.leavesShortKv
      rw [X.short, D.short, a1]
      rfl
    · unfold PyData.bulkKv
      have := X.bulk
      have := D.bulk
      rw [List.length_cons, Nat.succ_mul]
      omega
    · unfold PyData.showableKv
      rw [X.shw, D.shw, a3]
      rfl
    · unfold PyData.depthKv
      have := X.deep
      have := D.deep
      omega
theorem reads_dct {X : Cx} {pins : List (Addr × Obj)} {σ : L2.St} {H : Hp} {s : Shared} {a : Addr} {ks : List Str} {ds : List PyData} (I : Inv X pins σ H s) (h : Dct X.K H a ks ds) : Reads s.heap (.ref a) (dctD ks ds) [a] ∧ a ≠ sysModules := by
  obtain ⟨vs, lv, e, da⟩ := h.ex
  obtain ⟨_, hs, us, kv, o, es, ep, ho, ex, hdat, _, prs, _⟩ := dk_of I.hok e
  have k1 : ReadsAll s.heap (es.toList.map (·.key)) (ks.map PyData.str) [] := keys_reads prs (by rw [← kv_keys kv, kvOf_keys lv])
  have rv : Vals vs (us.map (·.2)) := by
    have z := kv_vals kv
    rw [kvOf_vals lv] at z
    exact z
  obtain ⟨as, k2⟩ := Dp.readsAll I ds vs (us.map (·.2)) da rv
  have z := readsAll_noL ds k2 h.nol
  subst z
  rw [← vals_of_pairs prs] at k2
  have l1 : (ks.map PyData.str).length = ds.length := by rw [List.length_map, ← lv, dpa_len da]
  have e1 : ((ks.map PyData.str).zip ds).map (·.1) = ks.map PyData.str := by
    rw [List.map_fst_zip]
    omega
  have e2 : ((ks.map PyData.str).zip ds).map (·.2) = ds := by
    rw [List.map_snd_zip]
    omega
  refine ⟨?_, fun z => ?_⟩
  · have := Reads.dict (kvs := (ks.map PyData.str).zip ds) ho ex.1 hdat (by rw [e1]; exact k1) (by rw [e2]; exact k2)
    exact this
  · rw [z] at hs
    simp at hs
section
variable {X : Cx}
/-- repr of a dict that is short -/
theorem call_reprDct {k : Nat} (gd : X.A.guards = some []) (hr : Room k X.A) : CallR X (.builtin "repr") (fun xs H Q => ∃ a ks ds n j, xs = [.ref a] ∧
    Dct X.K H a ks ds ∧ DctOk n j ks ds ∧ n ≤ 1000 ∧ 1 ≤ j ∧ j ≤ 60 ∧ Q (.str (dctD ks ds).shown) H) := by
  intro pins s σ H xs us Q I r h
  obtain ⟨a, ks, ds, n, j, rfl, dc, ok, hn, j1, hj, q⟩ := h
  obtain ⟨u, rfl, ru⟩ := vals1 r
  cases ru
  obtain ⟨rd, ns⟩ := reads_dct I dc
  obtain ⟨f1, f2, f3, f4⟩ := zip_facts ok.len ok.ks_ ok.ds_ j1
  have room := hr.un
  have dd : (dctD ks ds).depth ≤ 61 := by
    unfold dctD PyData.depth
    omega
  have fits : (dctD ks ds).shown.length ≤ sizeLine := by
    have e := PyData.shown_le_bulk 62 (by decide) (dctD ks ds) (by unfold dctD PyData.leavesShort; exact f1)
    have b : (dctD ks ds).bulk ≤ ks.length * (n + 22) := by
      unfold dctD PyData.bulk
      exact f2
    have c : ks.length * (n + 22) ≤ 100 * 1022 := Nat.mul_le_mul ok.few (by omega)
    have s : sizeLine = 16777216 := by decide
    omega
  refine repr_of_reads' rd (by unfold dctD PyData.showable; exact f3) (fun _ z => ?_) gd (by omega) (fun _ _ e => e) ?_ fits
  · have : sysModules = a := by simpa using z
    exact ns this.symm
  · intro h' u tk keep
    exact ⟨.str _, H, I.kept keep, ⟨u, rfl⟩, q⟩
end

/-! ### what stands at a key -/
theorem valV_kv {ks : List Str} (nd : ks.Nodup) : ∀ {vs : List V} {i : Nat} {x : Str} {v : V}, ks[i]? = some x → vs[i]? = some v → valV (kvOf ks vs) (.inr x) = some v := by
  induction ks with
  | nil => intro vs i x v e; simp at e
  | cons k ks ih =>
    intro vs i x v e1 e2
    cases vs with
    | nil => simp at e2
    | cons u vs =>
      have nd' := List.nodup_cons.mp nd
      show valV ((Sum.inr k, u) :: kvOf ks vs) (.inr x) = some v
      cases i with
      | zero =>
        have a : k = x := by simpa using e1
        have b : u = v := by simpa using e2
        subst a b
        exact valV_pos rfl
      | succ i =>
        have m : x ∈ ks := List.mem_of_getElem? (by simpa using e1)
        have ne : ¬ (Sum.inr k : Key) = Sum.inr x := fun z => by
          cases z
          exact nd'.1 m
        rw [valV_neg ne]
        exact ih nd'.2 (by simpa using e1) (by simpa using e2)
theorem valV_no {x : Str} : ∀ {ks : List Str} {vs : List V}, x ∉ ks → valV (kvOf ks vs) (.inr x) = none
  | [], _, _ => rfl
  | _ :: _, [], _ => rfl
  | k :: ks, v :: vs, h => by
    show valV ((Sum.inr k, v) :: kvOf ks vs) (.inr x) = none
    rw [valV_neg (fun z => by cases z; exact h (by simp))]
    exact valV_no (fun m => h (by simp [m]))
theorem kvOf_snoc {ks : List Str} {vs : List V} {k : Str} {v : V} (l : vs.length = ks.length) : kvOf ks vs ++ [(Sum.inr k, v)] = kvOf (ks ++ [k]) (vs ++ [v]) := by
  unfold kvOf
  rw [List.map_append, List.zip_append (by rw [List.length_map, l])]
  rfl
theorem Dct.same {K : PySem.W.Frag} {H H' : Hp} {a : Addr} {ks : List Str} {ds : List PyData} (k : Same H H') (h : Dct K H a ks ds) : Dct K H' a ks ds := by
  obtain ⟨vs, l, e, d⟩ := h.ex
  exact ⟨⟨vs, l, k _ _ e, dpa_same k d⟩, h.nol⟩
theorem Dct.kl {K : PySem.W.Frag} {H H' : Hp} {a g : Addr} {ks : List Str} {ds : List PyData} (k : Kl g H H') (h : Dct K H a ks ds) : Dct K H' a ks ds := by
  obtain ⟨vs, l, e, d⟩ := h.ex
  obtain ⟨ys, eg⟩ := k.1
  exact ⟨⟨vs, l, k.2 _ _ (ne_of e eg (fun z => by cases z)) e, dpa_kl k d h.nol⟩, h.nol⟩
end Gd

set_option Elab.async false
set_option linter.all false
set_option maxRecDepth 100000
set_option maxHeartbeats 2000000
set_option autoImplicit false
namespace Gd
open PySem PySem.Spec PyProof.Rows L2

/-! ### own exceptions with the __init__ of their base: made as values -/
/-- where that __init__ stands -/
def AtI (K : PySem.W.Frag) (fI : Addr) (qual : Str) (st : Stmt) (ps : List Str) : Prop := ∃ fd, Fun K "__init__" qual st fI fd ∧ Binds K fd ps []
structure DnI (P : Program) (w : World) (K : PySem.W.Frag) (mg : Str → Option Value) (base : Heap) (k : Nat) (fI : Addr) (qual : Str) (st : Stmt) (ps : List Str) (sp : Sp) : Prop where
  ex : ∃ fd, Fun K "__init__" qual st fI fd ∧ Binds K fd ps [] ∧ FnOk P w K mg base CX0 k fI fd ps sp
theorem DnI.mk' {P : Program} {w : World} {K : PySem.W.Frag} {mg : Str → Option Value} {base : Heap} {fI : Addr} {qual : Str} {st : Stmt} {ps : List Str} {k : Nat} {sp : Sp} (h : AtI K fI qual st ps)
    (ok : ∀ f fd, Fun K "__init__" qual st f fd → FnOk P w K mg base CX0 k f fd ps sp) : DnI P w K mg base k fI qual st ps sp := by
  obtain ⟨fd, F, b⟩ := h
  exact ⟨fd, F, b, ok fI fd F⟩
/-- what the top has left of such a class -/
structure ExT (K : PySem.W.Frag) (mg : Str → Option Value) (C fI : Addr) (x : Str) : Prop where
  ox : OexC K C
  mg_ : mg x = some (.ref C)
  iC : PySem.W.findIn K (.ref C) "__init__" = some (some (.ref fI))
  tI : PySem.W.typeIn K (.ref fI) = some (.type "function")
  nV : PySem.W.findIn K (.ref C) "value" = some none
  hg : PySem.W.findIn K (.ref C) "__getattribute__" = some (some (.builtin "BaseException.__getattribute__"))
  hk : PySem.W.findIn K (.ref C) "__getattr__" = some none
  hd : PySem.W.hasDictIn K C = true
  ha : PySem.W.findIn K (.ref C) "__class__" = some (some (.builtin "object.__class__"))
  hn : PySem.W.specialIn K (.builtin "object.__class__") "__get__" = some (some (.builtin "getset_descriptor.__get__"))
  ht : PySem.W.takesIn K (.builtin "object.__class__") = some true
  hm : PySem.W.mroIn K C (.type "object") = some true
/-- at a: an exception of the class at C that bears v -/
def ErrAt (H : Hp) (C : Addr) (a : Addr) (v : V) : Prop := ∃ d, H a = some (exo a C (some d)) ∧ H d = some (exd d [("value", v)])
theorem ErrAt.same {H H' : Hp} {C a : Addr} {v : V} (k : Same H H') (h : ErrAt H C a v) : ErrAt H' C a v := by
  obtain ⟨d, h1, h2⟩ := h
  exact ⟨d, k _ _ h1, k _ _ h2⟩
/-- the promise of __init__ -/
def spIni (K : PySem.W.Frag) : Sp := fun vs H Q _ => ∃ a C v, vs = [.ref a, v] ∧ OexC K C ∧ PySem.W.findIn K (.ref C) "value" = some none ∧ H a = some (exo a C none) ∧
  ∀ dx, H dx = none → dx ≠ a → Q .non (upd (upd H dx (exd dx [("value", v)])) a (exo a C (some dx)))
/-- C(e, ..), as a value -/
def tMkV (C : Addr) (sp : Sp) (ta : TA) : TE := fun σ H Q => ta σ H fun vs H1 => vs.length ≤ 1000 ∧ ∀ a, H1 a = none → sp (.ref a :: vs) (upd H1 a (exo a C none)) (fun v H2 => v = .non ∧ Q (.ref a) H2) E0
section
variable {X : Cx} {x qual : Str} {st : Stmt} {ps : List Str} {sp : Sp} {k j : Nat} {e : Expr} {es : List Expr} {ta : TA} {p pos : Pos} {C fI : Addr}
theorem pe_mkE (T : ExT X.K X.mg C fI x) (D : DnI X.prog X.w X.K X.mg X.base k fI qual st ps sp) (hr : Room j X.A) (hg : Gl X x) (ha : PA X (e :: es) ta) (hk : k + 1 ≤ j := by decide)
    (hdb : (x == ("__debug__" : Str)) = false := by decide) (he : starEach (e :: es) X.env = (false, eval e X.env) :: starEach es X.env := by rfl)
    (hpl : (backTo pos (starEach es X.env)).any (·.1) = false := by rfl) :
    PE X (.Call (.Name x p) (e :: es) [] pos) (tMkV C sp ta) := by
  obtain ⟨fd, F, b, ok⟩ := D.ex
  have hr' := hr.mono hk
  refine ⟨fun pins s σ H Q I h => ?_⟩
  obtain ⟨nm, q, N, bs, bm, sn, sub, ab, col, dd, k0, k1, k2, k3, k5, hC, hbm⟩ := T.ox.cls
  refine wpAny_Call_Name_kw (ld_glob I hg T.mg_ ?_ hdb)
  refine PySem.W.callWith_K (h₀ := X.base) I.ok.mod.kin T.ox.kC (thn (ha.run pos pins s σ H _ I h) fun us s1 got => ?_) he hpl
  obtain ⟨vs, H1, I1, r1, hz, q1⟩ := got
  refine ⟨I1.kIn, ?_⟩
  show wpAny _ _ (call (.ref C) us) _ _ _
  obtain ⟨hp, g, dr, tk, os⟩ := s1
  have big : hp.objs.size ≤ hp.objs.size + 1 := Nat.le_succ _
  have new : H1 (hp.objs.size + 1) = none := I1.hok.fresh big
  have hq := q1 (hp.objs.size + 1) new
  have grow : ∀ b o, hp.get? b = some o → ((hp.push (PySem.W.kdv_tup us)).push (PySem.HandSPX.excO C hp.objs.size)).get? b = some o := fun b o z => Heap.get?_push_of_some _ (Heap.get?_push_of_some _ z)
  have there : ((hp.push (PySem.W.kdv_tup us)).push (PySem.HandSPX.excO C hp.objs.size)).get? (hp.objs.size + 1) = some (PySem.HandSPX.excO C hp.objs.size) := by heap_get
  have I2 : Inv X pins σ (upd H1 (hp.objs.size + 1) (exo (hp.objs.size + 1) C none)) ⟨(hp.push (PySem.W.kdv_tup us)).push (PySem.HandSPX.excO C hp.objs.size), g, dr, tk, os⟩ := I1.laid (t' := tk) grow big (exo_ok there)
  have r2 : Vals (V.ref (hp.objs.size + 1) :: vs) (Value.ref (hp.objs.size + 1) :: us) := .cons rfl r1
  have cnt : (Value.ref (hp.objs.size + 1) :: us).length = ps.length := by
    rw [← r2.length]
    exact ok.len _ _ _ _ hq
  have bnd : BindsTo ⟨(hp.push (PySem.W.kdv_tup us)).push (PySem.HandSPX.excO C hp.objs.size), g, dr, tk, os⟩ fd ⟨Value.ref (hp.objs.size + 1) :: us, []⟩ (ps.zip (Value.ref (hp.objs.size + 1) :: us)) := by
    have z := b _ (Value.ref (hp.objs.size + 1) :: us) I2.kIn (by simpa using cnt)
    simpa using z
  have few : us.length ≤ sizeLine := by
    rw [← Paired.length r1, sizeLine_eq]
    omega
  refine wpAny_call (PySem.HandSPX.call_own PySem.F.excBase_ValueError (fun Y => PySem.HandSPX.refsVE_contains Y bm hbm) (I1.kIn _ _ hC) (PySem.W.looks_findIn I1.kIn T.iC) (fun self => PySem.W.bind_fn I1.kIn self T.tI) few ?_)
  refine codeAny_mono (ok.run _ X.stack _ _ ⟨Value.ref (hp.objs.size + 1) :: us, []⟩ (Value.ref (hp.objs.size + 1) :: us) _ _ E0 (hr'.make C us []) (I2.env0.make C us []) bnd r2 hq) fun r s' post => ?_
  cases r with
  | error er => exact (post : False).elim
  | ok fl =>
    cases fl with
    | ret u =>
      obtain ⟨v, H3, I3, rv, ev, q3⟩ := I2.after post
      subst ev
      exact ⟨rv, .ref (hp.objs.size + 1), H3, I3, rfl, q3⟩
    | next => exact (post : False).elim
    | brk => exact (post : False).elim
    | cont => exact (post : False).elim
end
/-- an exception is made -/
theorem mk_err {K : PySem.W.Frag} {C : Addr} {H1 : Hp} {v : V} {Q : Addr → Hp → Prop} {E : XK} (T : OexC K C) (n : PySem.W.findIn K (.ref C) "value" = some none)
    (q : ∀ a H', Same H1 H' → H1 a = none → ErrAt H' C a v → Q a H') :
    ∀ a, H1 a = none → spIni K (.ref a :: [v]) (upd H1 a (exo a C none)) (fun u H2 => u = .non ∧ Q a H2) E := by
  intro a na
  refine ⟨a, C, v, rfl, T, n, upd_same, fun dx nd ne => ⟨rfl, ?_⟩⟩
  have nd1 : H1 dx = none := by rw [upd_ne ne] at nd; exact nd
  refine q a _ (fun b o e => ?_) na ⟨dx, upd_same, ?_⟩
  · rw [upd_ne (ne_of_none e na), upd_ne (ne_of_none e nd1), upd_ne (ne_of_none e na)]
    exact e
  · rw [upd_ne ne, upd_same]
/-! ### e.value -/
def tVal (ta : TE) (C : Addr → Prop) : TE := fun σ H Q => ta σ H fun x H1 => ∃ a c v, x = .ref a ∧ C c ∧ ErrAt H1 c a v ∧ Q v H1
theorem err_inst {X : Cx} {pins : List (Addr × Obj)} {σ : L2.St} {H : Hp} {s : Shared} {C a : Addr} {v : V} (I : Inv X pins σ H s) (h : ErrAt H C a v) :
    ∃ (oe od : Obj) (u : Value), PySem.W.InstAt s.heap a oe C (some od) ∧ RelV v u ∧ PySem.W.lookIn "value" od = some (some u) := by
  obtain ⟨d, e1, e2⟩ := h
  obtain ⟨t1, he⟩ := exo_at I.hok e1
  obtain ⟨mA, ns, rel⟩ := exd_at I.hok e2
  obtain ⟨od, ho, hl⟩ := lookIn_ns ns
  have l : List.lookup ("value" : Str) [(("value" : Str), v)] = some v := by simp [List.lookup]
  obtain ⟨u, hu, ru⟩ := RelO.some_of (v := v) (o := mA "value") (by rw [← l]; exact rel "value")
  exact ⟨_, od, u, ⟨he, rfl, rfl, ho⟩, ru, by rw [hl, hu]⟩
theorem pe_val {X : Cx} {e : Expr} {te : TE} {pos : Pos} {S : Addr → Prop} (T : ∀ c, S c → ∃ fI x, ExT X.K X.mg c fI x) (he : PE X e te) (hb : attributeBase e "value" X.env (eval e X.env) = eval e X.env := by rfl) :
    PE X (.Attribute e "value" pos) (tVal te S) := by
  refine ⟨fun pins s σ H Q I h => ?_⟩
  refine attr_of hb (thn (he.run pins s σ H _ I h) fun u s1 got => ?_)
  obtain ⟨x, H1, I1, rx, a, c, v, ex, sc, ea, q⟩ := got
  subst ex
  obtain rfl : u = Value.ref a := rx
  obtain ⟨fI, y, T⟩ := T c sc
  obtain ⟨oe, od, w, J, ru, hl⟩ := err_inst I1 ea
  exact HandSPX.exc_get I1.kIn J T.hg T.hk T.ox.exC (PySem.W.findObj_own T.hd T.nV rfl hl) (handed_of ru) ⟨v, H1, I1.tok _, ru, q⟩
/-! ### isinstance(e, D) of such an exception -/
end Gd
namespace PySem.W
open PySem PySem.Spec PySem.Calls PyProof.Rows
section
variable {prog : Program} {w : World} {A : Around} {E : Value → Shared → Prop} {s : Shared} {K : Frag} {x D : Addr} {ox : Obj} {od : Option Obj}
theorem gd_findCls (c : (clsIn K D).isSome = true) {a g : Value} {n : Str} (f : findIn K (.ref D) n = some (some a)) (gt : specialIn K a "__get__" = some (some g)) (tk : takesIn K a = some true) : findObj K D od n = some (.bind g a) := by
  obtain ⟨cd, e⟩ := Option.isSome_iff_exists.mp c
  simp [findObj, e, f, gt, tk]
theorem gd_readCls {Q : Option Value → Shared → Prop} (ga : findIn K (.ref D) "__getattribute__" = some (some (.builtin "BaseException.__getattribute__"))) (gg : findIn K (.ref D) "__getattr__" = some none)
    (isE : subIn K (.ref D) (.type "BaseException") = some true) (c : (clsIn K D).isSome = true) (fc : findIn K (.ref D) "__class__" = some (some (.builtin "object.__class__")))
    (gt : specialIn K (.builtin "object.__class__") "__get__" = some (some (.builtin "getset_descriptor.__get__"))) (tk : takesIn K (.builtin "object.__class__") = some true) (mo : mroIn K D (.type "object") = some true)
    (Y : K.In s.heap) (J : InstAt s.heap x ox D od) (q : Q (some (.ref D)) { s with toks := s.toks + 1 }) : wpAny (model prog w) A (getAttr? (.ref x) "__class__") Q E s := by
  obtain ⟨hp, g, d, t, os⟩ := s
  have own : Looks (model prog w) hp (typeOf (.ref x)) (.ref D) := J.type
  have lga := looks_findIn (M := model prog w) Y ga
  have lgg := looks_findIn (M := model prog w) Y gg
  have lfc := looks_find (M := model prog w) Y J (gd_findCls (od := od) c fc gt tk)
  have exc : Looks (model prog w) hp (isInstance (.ref x) (.type "BaseException")) true := own.andThen (looks_subIn Y isE)
  have ne : (Value.builtin "BaseException.__getattribute__" == Value.builtin "object.__getattribute__") = false := by decide +kernel
  unfold getAttr? getAttrBy? getAttrBy
  refine wpAny_bind (wpAny_mkText (wpAny_bind (wpAny_attempt (wpAny_holding (wpAny_bind (own.at (wpAny_bind (lga.at ?_))))))))
  show wpAny _ _ (if (onTheHeap (Value.ref D) && (Value.builtin "BaseException.__getattribute__" == Value.builtin "object.__getattribute__")) = true then _ else _) _ _ _
  rw [ne, Bool.and_false, if_neg Bool.false_ne_true]
  unfold getAttrByItsOwn hookBefore
  refine wpAny_bind ?_
  rw [if_pos (show onTheHeap (Value.ref D) = true by rfl)]
  refine lgg.at (wpAny_bind (wpAny_attempt (wpAny_holding ?_)))
  unfold callGetattribute boundAndCalled
  rw [if_neg (by decide), PySem.F.excAttr_ValueError.ga.bind (.ref x)]
  refine wpAny_bind (wpAny_pure ?_)
  show wpAny _ _ (call (.builtin "BaseException.__getattribute__") [.ref x, .str "__class__" t]) _ _ _
  refine wpAny_call (codeAny_call_builtin PySem.F.excAttr_ValueError.ga.plain PySem.F.entry_bexc_ga ?_)
  refine @check_slot (model prog w) _ _ ⟨hp, g, d, t + 1, os⟩ "BaseException.__getattribute__" "BaseException" "__getattribute__" (.ref x) [.str "__class__" t] [] _ (by decide +kernel) (by decide +kernel) exc (PySem.F.args_bexc_ga (.ref x) (.str "__class__" t)) ?_
  unfold Builtin.«object.__getattribute__»
  refine wpAny_bind (wpAny_of_eq (a := ((Value.ref x : Value), [Value.str "__class__" t])) (by first | rfl | (simp only [slotArgs]; rfl)) (wpAny_bind (wpAny_pure (wpAny_bind (own.at (wpAny_bind (lfc.at ?_)))))))
  show wpAny _ _ (holding [Value.builtin "object.__class__"] (call (.builtin "getset_descriptor.__get__") [.builtin "object.__class__", .ref x, .ref D]) >>= ret) _ _ _
  refine wpAny_bind (wpAny_holding (wpAny_call (class_get (s := ⟨hp, g, d, t + 1, os⟩) (ox := ox) (od := od) Y J mo (wpAny_pure ?_))))
  show wpAny _ _ (handedOut (.ref D)) _ _ _
  rw [handedOut_of (v := .ref D) rfl]
  first
    | exact wpAny_pure (wpAny_pure q)
    | exact wpAny_pure q
    | exact wpAny_pure (wpAny_bind (wpAny_pure (wpAny_pure q)))
end
end PySem.W
namespace Gd
open PySem PySem.Spec PyProof.Rows L2
theorem err_kit {K : PySem.W.Frag} {mg : Str → Option Value} {C fI a : Addr} {x : Str} (T : ExT K mg C fI x) : PySem.W.KitX K (.ref a) (.ref C) (fun h => ∃ ox od, PySem.W.InstAt h a ox C od) where
  ty := fun _ _ _ ⟨_, _, J⟩ => J.type
  it := fun M h Y _ => by
    obtain ⟨nm, q, N, bs, bm, sn, sub, ab, col, dd, k0, k1, k2, k3, k5, hC, _⟩ := T.ox.cls
    intro A Q E s k z
    unfold isType loadHead
    exact wpAny_bind (wpAny_loadPart (k _ _ (Y _ _ hC)) (wpAny_pure z))
  ne := fun h tp dd its n sl Y e => by
    obtain ⟨nm, q, N, bs, bm, sn, sub, ab, col, dd, k0, k1, k2, k3, k5, hC, _⟩ := T.ox.cls
    refine Bool.eq_false_iff.mpr fun z => ?_
    have z2 : C = tp := Value.ref.inj (beq_iff_eq.mp z)
    subst z2
    have z3 : Value.type "type" = Value.type "tuple" := congrArg Obj.cls (Option.some.inj ((Y _ _ hC).symm.trans e))
    exact absurd (Value.type.inj z3) (by decide)
  ca := fun Y ⟨_, _, J⟩ k => by
    obtain ⟨cd, hc, _⟩ := PySem.W.any_some T.hd
    exact PySem.W.gd_readCls T.hg T.hk T.ox.exC (by rw [hc]; rfl) T.ha T.hn T.ht T.hm Y J k
/-- isinstance(e, c) -/
def rIsX (K : PySem.W.Frag) (S : Addr → Prop) : List V → Hp → VK → Prop := fun xs H Q => ∃ (a C : Addr) (v c : V) (cv : Value) (b : Bool), xs = [.ref a, c] ∧ S C ∧ ErrAt H C a v ∧ (∀ u, RelV c u → u = cv) ∧ PySem.W.kitOne K (.ref C) cv = some b ∧ Q (.bl b) H
theorem call_isX {X : Cx} {S : Addr → Prop} (T : ∀ c, S c → ∃ fI x, ExT X.K X.mg c fI x) : CallR X (.builtin "isinstance") (rIsX X.K S) := by
  intro pins s σ H xs us Q I r h
  obtain ⟨a, C, v, c, cv, b, rfl, sc, ea, hcv, e, q⟩ := h
  cases r with
  | cons rx rr =>
    cases rr with
    | cons rt rr =>
      cases rr
      cases rx
      have ec := hcv _ rt
      subst ec
      obtain ⟨fI, y, T⟩ := T C sc
      obtain ⟨oe, od, w, J, _⟩ := err_inst I ea
      exact PySem.W.kia_one (err_kit T) I.kIn ⟨_, _, J⟩ e (fun z => nomatch z) fun tk => ⟨.bl b, H, I.kept (t' := tk) fun _ _ z => z, rfl, q⟩
end Gd

set_option Elab.async false
set_option linter.all false
set_option maxRecDepth 100000
set_option maxHeartbeats 4000000
set_option autoImplicit false
namespace PySem
namespace HandSPX
open PySem.W PySem.Calls PyProof.Rows
section
variable {prog : Program} {w : World} {A : Around} {E : Value → Shared → Prop} {R : Result → Shared → Prop} {h : Heap} {g : Array GenState} {d : Drawn} {t : Nat} {os : OsState}
variable {nm q : Str} {C N : Addr} {bs bm bmB : List Value} {hdct : Bool} {sn : List Str} {sub : List Value} {ab : Bool} {col : Option Bool} {dd : Option Addr} {k0 k1 k2 k3 k5 : Option Value} {B newId initId : String} {n : Str} {u : Value}
theorem gd_checkK (V : ExcBaseFacts B newId initId bmB) (hT : ∀ X : String, bm.contains (.type X) = bmB.contains (.type X)) {Q : Unit → Shared → Prop}
    (hC : h.get? C = some (excClassObj nm q C N bs bm hdct sn sub ab col dd k0 k1 k2 k3 k5 newId)) (hq : Q () ⟨h, g, d, t, os⟩) : wpAny (model prog w) A (checkBuiltinCall newId ⟨[.ref C], [(n, u)]⟩) Q E ⟨h, g, d, t, os⟩ := by
  have has : (Value.ref C :: bm).contains (.type B) = true := by rw [List.contains_cons, hT, V.hasB, Bool.or_true]
  have star := V.noStar
  simp only [checkBuiltinCall, V.newKind, V.newSplit, V.newRow]
  repeat (first | refine wpAny_loadPart_at hC ?_ | (refine wpAny_isSubtype_exc hC ?_; rw [has]) | refine wpAny_staticBase_exc hC ?_ | refine wpAny_madeBy_exc hC ?_ | simp only [bne_self_eq_false, Bool.false_eq_true, if_false] | wp_step)
  exact hq
theorem gd_newK (V : ExcBaseFacts B newId initId bmB) (hT : ∀ X : String, bm.contains (.type X) = bmB.contains (.type X))
    (hC : h.get? C = some (excClassObj nm q C N bs bm hdct sn sub ab col dd k0 k1 k2 k3 k5 newId))
    (hq : R (.ok (.ret (.ref (h.objs.size + 1)))) ⟨(h.push (W.kdv_tup [])).push (excO C h.objs.size), g, d, t, os⟩) :
    codeAny (model prog w) A (.builtin newId ⟨[.ref C], [(n, u)]⟩) R ⟨h, g, d, t, os⟩ := by
  have ends := V.ends
  have has : (Value.ref C :: bm).contains (.type B) = true := by rw [List.contains_cons, hT, V.hasB, Bool.or_true]
  have noA : (Value.ref C :: bm).contains (.type "AttributeError") = false := by rw [List.contains_cons, hT, V.noAttr]; rfl
  have noN : (Value.ref C :: bm).contains (.type "NameError") = false := by rw [List.contains_cons, hT, V.noName]; rfl
  have few : ([] : List Value).length ≤ sizeLine := Nat.zero_le _
  refine codeAny_builtinAt V.entry ?_
  unfold Builtin.«BaseException.__new__»
  refine wpAt_bind ?_
  show wpAt _ _ _ (stack >>= _) _ _ _
  refine wpAt_bind (wpAt_stack fun p below => wpAt_of_wpAny ?_)
  wp_walk
  refine wpAt_of_wpAny ?_
  rw [V.owner]
  repeat (first | with_reducible refine wpAny_madeHere_exc V.canon hC ?_ | with_reducible refine wpAny_loadPart_at hC ?_ | (with_reducible refine wpAny_isSubtype_exc hC ?_; first | rw [has] | rw [noA] | rw [noN]) | wp_step)
  show R _ _
  rw [Heap.size_push]
  exact hq
theorem gd_typeCallK (V : ExcBaseFacts B newId initId bmB) (hT : ∀ X : String, bm.contains (.type X) = bmB.contains (.type X)) {fI : Addr} {Q : Fin → Shared → Prop}
    (hC : h.get? C = some (excClassObj nm q C N bs bm hdct sn sub ab col dd k0 k1 k2 k3 k5 newId))
    (hi : W.Looks (model prog w) h (typeLookup (.ref C) "__init__") (some (.ref fI))) (hb : ∀ self, W.Looks (model prog w) h (bindSpecial (.ref fI) self) (.ref fI, [self]))
    (hq : codeAny (model prog w) A (.call (.ref fI) ⟨[.ref (h.objs.size + 1)], [(n, u)]⟩)
      (fun r s' => match r with | .ok (.ret v) => v = .none ∧ Q (.done (.ret (.ref (h.objs.size + 1)))) s' | .ok _ => False | .error e => E e s')
      ⟨(h.push (W.kdv_tup [])).push (excO C h.objs.size), g, d, t, os⟩) :
    wpAny (model prog w) A (Builtin.«type.__call__» ⟨[.ref C], [(n, u)]⟩) Q E ⟨h, g, d, t, os⟩ := by
  repeat (first | with_reducible refine wpAny_loadPart_at hC ?_ | with_reducible refine wpAny_madeBy_exc hC ?_ | wp_step)
  refine codeAny_call_builtin_code (Code.quiet_builtin _ V.quiet) (gd_checkK V hT hC ?_)
  refine gd_newK V hT hC ?_
  show wpAny _ _ _ _ _ _
  have grow : ∀ b o, h.get? b = some o → ((h.push (W.kdv_tup [])).push (excO C h.objs.size)).get? b = some o := fun b o e => Heap.get?_push_of_some _ (Heap.get?_push_of_some _ e)
  have hC1 := grow _ _ hC
  have there : ((h.push (W.kdv_tup [])).push (excO C h.objs.size)).get? (h.objs.size + 1) = some (excO C h.objs.size) := by heap_get
  have self : (Value.ref C :: bm).contains (.ref C) = true := by simp
  have i1 := hi.keeps grow
  have b1 := (hb (.ref (h.objs.size + 1))).keeps grow
  unfold isInstance
  repeat (first | with_reducible refine wpAny_loadPart_at there ?_ | (with_reducible refine wpAny_isSubtype_exc hC1 ?_; rw [self]) | wp_step)
  show wpAny _ _ (typeLookup (.ref C) _) _ _ _
  refine i1.at (wpAny_holding (wpAny_bind (b1.at ?_)))
  refine wpAny_bind (wpAny_call (codeAny_mono hq fun r s' z => ?_))
  rcases r with e | (v | _ | _ | _) <;> first | exact z | exact z.elim | skip
  obtain ⟨rfl, z⟩ := z
  first
    | exact wpAny_pure (wpAny_pure z)
    | (wp_walk; exact z)
theorem gd_callK (V : ExcBaseFacts B newId initId bmB) (hT : ∀ X : String, bm.contains (.type X) = bmB.contains (.type X)) {fI : Addr}
    (hC : h.get? C = some (excClassObj nm q C N bs bm hdct sn sub ab col dd k0 k1 k2 k3 k5 newId))
    (hi : W.Looks (model prog w) h (typeLookup (.ref C) "__init__") (some (.ref fI))) (hb : ∀ self, W.Looks (model prog w) h (bindSpecial (.ref fI) self) (.ref fI, [self]))
    (hq : codeAny (model prog w) (A.under (.builtin "type.__call__" ⟨[.ref C], [(n, u)]⟩)) (.call (.ref fI) ⟨[.ref (h.objs.size + 1)], [(n, u)]⟩) (W.InitBack (h.objs.size + 1) R)
      ⟨(h.push (W.kdv_tup [])).push (excO C h.objs.size), g, d, t, os⟩) :
    codeAny (model prog w) A (.call (.ref C) ⟨[], [(n, u)]⟩) R ⟨h, g, d, t, os⟩ := by
  have f1 := tc_lookup
  have f2 := tc_bind (.ref C)
  have isT : (⟨h, g, d, t, os⟩ : Shared).TypeIs (.ref C) "type" := ⟨_, hC, rfl⟩
  refine codeAny_of_tree ?_
  show wpAny _ _ (callAny (.ref C) _) _ _ _
  repeat (any_goals (first | assumption | with_reducible refine wpAny_loadPart_at hC ?_ | wp_step))
  refine ⟨rfl, ?_⟩
  refine codeAny_call_builtin_at (Code.quiet_builtin _ (by decide +kernel)) entry_typeCall (wpAny_check_type_call_sub hC (gd_typeCallK V hT hC hi hb ?_))
  refine codeAny_mono hq fun r s' z => ?_
  rcases r with e | (v | _ | _ | _) <;> exact z
end
end HandSPX
end PySem
namespace Gd
open PySem PySem.Spec PyProof.Rows L2
/-- C(n = e), as a value -/
def tMkK (C : Addr) (sp : Sp) (tk : TA) : TE := fun σ H Q => tk σ H fun vs H1 => vs.length = 1 ∧ ∀ a, H1 a = none → sp (.ref a :: vs) (upd H1 a (exo a C none)) (fun v H2 => v = .non ∧ Q (.ref a) H2) E0
section
variable {X : Cx} {x qual n : Str} {st : Stmt} {ps : List Str} {sp : Sp} {k j : Nat} {kws : List Keyword} {tk : TA} {p pos : Pos} {C fI : Addr}
theorem pe_mkEk (T : ExT X.K X.mg C fI x) (D : DnI X.prog X.w X.K X.mg X.base k fI qual st ps sp) (hr : Room j X.A)
    (kb : ∀ fd, Fun X.K "__init__" qual st fI fd → ∀ (s : Shared) (a u : Value), BindsTo s fd ⟨[a], [(n, u)]⟩ (ps.zip [a, u])) (hg : Gl X x) (hkw : PK X kws tk) (hk : k + 1 ≤ j := by decide)
    (hall : (backToKw pos (keywordEach kws X.env)).all (·.1.isSome) = true := by rfl) (hks : (backToKw pos (keywordEach kws X.env)).filterMap (·.1) = [n] := by rfl)
    (hdb : (x == ("__debug__" : Str)) = false := by decide)
    (hpl : ((backTo pos (starEach [] X.env)).any (·.1) || (backToKw pos (keywordEach kws X.env)).any (·.1.isNone)) = false := by rfl) :
    PE X (.Call (.Name x p) [] kws pos) (tMkK C sp tk) := by
  obtain ⟨fd, F, b, ok⟩ := D.ex
  have hr' := hr.mono hk
  refine ⟨fun pins s σ H Q I h => ?_⟩
  obtain ⟨nm, q, N, bs, bm, sn, sub, ab, col, dd, k0, k1, k2, k3, k5, hC, hbm⟩ := T.ox.cls
  refine wpAny_Call_Name_kw (ld_glob I hg T.mg_ ?_ hdb)
  refine PySem.W.callWith_KW0 (h₀ := X.base) I.ok.mod.kin T.ox.kC hall ?_ hpl
  refine thn (hkw.run pos pins s σ H _ I h) fun us s1 got => ?_
  obtain ⟨vs, H1, I1, r1, hz, q1⟩ := got
  refine ⟨I1.kIn, ?_⟩
  rw [hks]
  match vs, us, r1, hz, q1 with
  | [v], [u], r1, hz, q1 =>
    show wpAny _ _ (call (.ref C) [] [(n, u)]) _ _ _
    obtain ⟨hp, g, dr, tkn, os⟩ := s1
    have big : hp.objs.size ≤ hp.objs.size + 1 := Nat.le_succ _
    have new : H1 (hp.objs.size + 1) = none := I1.hok.fresh big
    have hq := q1 (hp.objs.size + 1) new
    have grow : ∀ b o, hp.get? b = some o → ((hp.push (PySem.W.kdv_tup [])).push (PySem.HandSPX.excO C hp.objs.size)).get? b = some o := fun b o z => Heap.get?_push_of_some _ (Heap.get?_push_of_some _ z)
    have there : ((hp.push (PySem.W.kdv_tup [])).push (PySem.HandSPX.excO C hp.objs.size)).get? (hp.objs.size + 1) = some (PySem.HandSPX.excO C hp.objs.size) := by heap_get
    have I2 : Inv X pins σ (upd H1 (hp.objs.size + 1) (exo (hp.objs.size + 1) C none)) ⟨(hp.push (PySem.W.kdv_tup [])).push (PySem.HandSPX.excO C hp.objs.size), g, dr, tkn, os⟩ := I1.laid (t' := tkn) grow big (exo_ok there)
    have r2 : Vals [V.ref (hp.objs.size + 1), v] [Value.ref (hp.objs.size + 1), u] := .cons rfl r1
    have bnd := kb fd F ⟨(hp.push (PySem.W.kdv_tup [])).push (PySem.HandSPX.excO C hp.objs.size), g, dr, tkn, os⟩ (Value.ref (hp.objs.size + 1)) u
    refine wpAny_call (PySem.HandSPX.gd_callK PySem.F.excBase_ValueError (fun Y => PySem.HandSPX.refsVE_contains Y bm hbm) (I1.kIn _ _ hC) (PySem.W.looks_findIn I1.kIn T.iC) (fun self => PySem.W.bind_fn I1.kIn self T.tI) ?_)
    refine codeAny_mono (ok.run _ X.stack _ _ ⟨[Value.ref (hp.objs.size + 1)], [(n, u)]⟩ [Value.ref (hp.objs.size + 1), u] _ _ E0 (hr'.make C [] [(n, u)]) (I2.env0.make C [] [(n, u)]) bnd r2 hq) fun r s' post => ?_
    cases r with
    | error er => exact (post : False).elim
    | ok fl =>
      cases fl with
      | ret w =>
        obtain ⟨v3, H3, I3, rv, ev, q3⟩ := I2.after post
        subst ev
        exact ⟨rv, .ref (hp.objs.size + 1), H3, I3, rfl, q3⟩
      | next => exact (post : False).elim
      | brk => exact (post : False).elim
      | cont => exact (post : False).elim
end
/-- repr of anything short -/
theorem call_reprV {X : Cx} {k : Nat} (gd : X.A.guards = some []) (hr : Room k X.A) : CallR X (.builtin "repr") (fun xs H Q => ∃ v d n k, xs = [v] ∧ Dp X.K H v d ∧ DOk n k d ∧ n ≤ 200000 ∧ k ≤ 64 ∧ Q (.str d.shown) H) := by
  intro pins s σ H xs us Q I r h
  obtain ⟨v, d, n, j, rfl, dp, ok, hn, hj, q⟩ := h
  have fits := ok.fits hn
  cases dp with
  | non =>
    obtain ⟨u, rfl, ru⟩ := vals1 r
    cases ru
    rw [PyData.shown_none] at q
    exact PySem.P.repr_of_none ⟨.str "None", H, I.tok _, ⟨_, rfl⟩, q⟩
  | bl b =>
    obtain ⟨u, rfl, ru⟩ := vals1 r
    cases ru
    rw [PyData.shown_bool] at q
    exact PySem.P.repr_of_bool ⟨.str (if b then "True" else "False"), H, I.tok _, ⟨_, rfl⟩, by cases b <;> exact q⟩
  | int i =>
    obtain ⟨u, rfl, t, rfl⟩ := vals1 r
    have z : i.natAbs.log2 < 1920 := by simpa [PyData.showable] using ok.shw
    rw [PyData.shown_int] at q
    exact PySem.P.repr_of_int z ⟨.str _, H, I.tok _, ⟨_, rfl⟩, q⟩
  | str x =>
    obtain ⟨u, rfl, t, rfl⟩ := vals1 r
    have e : (PyData.str x).shown = reprText x := by simp [PyData.shown]
    rw [e] at q fits
    exact PySem.P.repr_of_str ⟨.str _, H, I.tok _, ⟨_, rfl⟩, q⟩ fits
  | lst a b => exact call_reprD gd hr pins s σ H _ us Q I r ⟨_, _, n, j, rfl, .lst a b, ok, hn, hj, ⟨_, rfl⟩, q⟩
  | tup a b => exact call_reprD gd hr pins s σ H _ us Q I r ⟨_, _, n, j, rfl, .tup a b, ok, hn, hj, ⟨_, rfl⟩, q⟩
end Gd
namespace Gd
open PySem PySem.Spec PyProof.Rows L2
/-! ### all own exceptions of a text: the base first, the others below it -/
def errB (K : PySem.W.Frag) (C fI : Addr) : Bool :=
  decide (PySem.W.findIn K (.ref C) "__setattr__" = some (some (.builtin "object.__setattr__"))) && (decide (PySem.W.subIn K (.ref C) (.type "BaseException") = some true) && (decide (PySem.W.typeIn K (.ref C) = some (.type "type")) && (PySem.W.keepIn K (.ref C) &&
  (decide (PySem.W.findIn K (.ref C) "__init__" = some (some (.ref fI))) && (decide (PySem.W.findIn K (.ref C) "value" = some none) && (decide (PySem.W.findIn K (.ref C) "__getattribute__" = some (some (.builtin "BaseException.__getattribute__"))) &&
  (decide (PySem.W.findIn K (.ref C) "__getattr__" = some none) && (PySem.W.hasDictIn K C && (decide (PySem.W.findIn K (.ref C) "__class__" = some (some (.builtin "object.__class__"))) && decide (PySem.W.mroIn K C (.type "object") = some true))))))))))
def initB (K : PySem.W.Frag) (fI : Addr) : Bool :=
  decide (PySem.W.typeIn K (.ref fI) = some (.type "function")) && (decide (PySem.W.specialIn K (.builtin "object.__class__") "__get__" = some (some (.builtin "getset_descriptor.__get__"))) && decide (PySem.W.takesIn K (.builtin "object.__class__") = some true))
def kitB (K : PySem.W.Frag) (C : Addr) (i : Nat) : Nat → List Addr → Bool
  | _, [] => decide (PySem.W.kitOne K (.ref C) (.type "ValueError") = some true)
  | j, D :: ds => decide (PySem.W.kitOne K (.ref C) (.ref D) = some (decide (i = j ∨ j = 0))) && kitB K C i (j + 1) ds
theorem kitB_at {K : PySem.W.Frag} {C : Addr} {i : Nat} : ∀ {j : Nat} {ds : List Addr}, kitB K C i j ds = true → (∀ (m : Nat) D, ds[m]? = some D → PySem.W.kitOne K (.ref C) (.ref D) = some (decide (i = j + m ∨ j + m = 0))) ∧ PySem.W.kitOne K (.ref C) (.type "ValueError") = some true
  | j, [], h => ⟨fun m D e => by simp at e, of_decide_eq_true h⟩
  | j, D :: ds, h => by
    obtain ⟨h1, h2⟩ := Bool.and_eq_true_iff.mp h
    obtain ⟨a, b⟩ := kitB_at h2
    refine ⟨fun m D' e => ?_, b⟩
    cases m with
    | zero =>
      have e' : D = D' := by simpa using e
      subst e'
      exact of_decide_eq_true h1
    | succ m =>
      have z := a m D' (by simpa using e)
      rw [show j + 1 + m = j + (m + 1) by omega] at z
      exact z
structure ErrT (K : PySem.W.Frag) (mg : Str → Option Value) (cs : List Addr) (ns : List Str) (fI : Addr) : Prop where
  t : ∀ (i : Nat) C x, cs[i]? = some C → ns[i]? = some x → ExT K mg C fI x
  sub : ∀ (i j : Nat) C D, cs[i]? = some C → cs[j]? = some D → PySem.W.kitOne K (.ref C) (.ref D) = some (decide (i = j ∨ j = 0))
  subV : ∀ (i : Nat) C, cs[i]? = some C → PySem.W.kitOne K (.ref C) (.type "ValueError") = some true
  len : cs.length = ns.length
theorem ErrT.all {K : PySem.W.Frag} {mg : Str → Option Value} {cs : List Addr} {ns : List Str} {fI : Addr} (T : ErrT K mg cs ns fI) : ∀ c, c ∈ cs → ∃ fI x, ExT K mg c fI x := by
  intro c m
  obtain ⟨i, l, e⟩ := List.getElem_of_mem m
  exact ⟨fI, ns[i]'(by rw [← T.len]; exact l), T.t i c _ (by rw [List.getElem?_eq_getElem l, e]) (List.getElem?_eq_getElem (by rw [← T.len]; exact l))⟩
theorem ext_mk {K : PySem.W.Frag} {mg : Str → Option Value} {C fI : Addr} {x : Str} (cls : ∃ nm q N bs bm sn sub ab col dd k0 k1 k2 k3 k5, K.lookup C = some (excClassObj nm q C N bs bm true sn sub ab col dd k0 k1 k2 k3 k5 "ValueError.__new__") ∧ PySem.HandSPX.refsVE bm = true)
    (g : mg x = some (.ref C)) (h : errB K C fI = true) (i : initB K fI = true) : ExT K mg C fI x := by
  obtain ⟨a1, h⟩ := Bool.and_eq_true_iff.mp h
  obtain ⟨a2, h⟩ := Bool.and_eq_true_iff.mp h
  obtain ⟨a3, h⟩ := Bool.and_eq_true_iff.mp h
  obtain ⟨a4, h⟩ := Bool.and_eq_true_iff.mp h
  obtain ⟨a5, h⟩ := Bool.and_eq_true_iff.mp h
  obtain ⟨a6, h⟩ := Bool.and_eq_true_iff.mp h
  obtain ⟨a7, h⟩ := Bool.and_eq_true_iff.mp h
  obtain ⟨a8, h⟩ := Bool.and_eq_true_iff.mp h
  obtain ⟨a9, h⟩ := Bool.and_eq_true_iff.mp h
  obtain ⟨b1, b2⟩ := Bool.and_eq_true_iff.mp h
  obtain ⟨i1, i⟩ := Bool.and_eq_true_iff.mp i
  obtain ⟨i2, i3⟩ := Bool.and_eq_true_iff.mp i
  exact ⟨⟨cls, of_decide_eq_true a1, of_decide_eq_true a2, of_decide_eq_true a3, a4⟩, g, of_decide_eq_true a5, of_decide_eq_true i1, of_decide_eq_true a6, of_decide_eq_true a7, of_decide_eq_true a8, a9, of_decide_eq_true b1, of_decide_eq_true i2, of_decide_eq_true i3, of_decide_eq_true b2⟩
end Gd

set_option Elab.async false
set_option linter.all false
set_option maxRecDepth 100000
set_option maxHeartbeats 4000000
set_option autoImplicit false
namespace Gd
open PySem PySem.Spec PyProof.Rows L2

/-! ### try: body / except C as n: y = n; the exception is kept as a value -/
/-- at a: an exception of the class cls, its dict d -/
def Kept (cls : Value) (d : Option Addr) (a : Addr) : HO := .ext fun h => ∃ (oe : Obj) (vs : Array Value), h.get? a = some oe ∧ oe.cls = cls ∧ oe.dict = d ∧ oe.data = .fields vs
theorem kept_ok {P : Program} {w : World} {H : Hp} {h : Heap} {a : Addr} {cls : Value} {d : Option Addr} {oe : Obj} {vs : Array Value} (e : h.get? a = some oe) (c : oe.cls = cls) (z : oe.dict = d) (f : oe.data = .fields vs) : ObjOk P w H h a (Kept cls d a) :=
  ⟨⟨oe, vs, e, c, z, f⟩, ⟨_, e⟩, fun h1 h2 x k => by
    obtain ⟨o, v, e1, r⟩ := x
    exact ⟨o, v, k _ e1, r⟩⟩
theorem kept_at {P : Program} {w : World} {H : Hp} {h : Heap} {a : Addr} {cls : Value} {d : Option Addr} (ok : HOk P w H h) (e : H a = some (Kept cls d a)) : ∃ (oe : Obj) (vs : Array Value), h.get? a = some oe ∧ oe.cls = cls ∧ oe.dict = d ∧ oe.data = .fields vs := by
  have z : ObjOk P w H h a (.ext fun h => ∃ (oe : Obj) (vs : Array Value), h.get? a = some oe ∧ oe.cls = cls ∧ oe.dict = d ∧ oe.data = .fields vs) := ok a _ e
  exact z.1
theorem kept_ne {cls : Value} {d : Option Addr} {a : Addr} {o : HO} (h : ∀ φ, o ≠ .ext φ) : Kept cls d a ≠ o := fun z => h _ z.symm
section
variable {X : Cx} {pins : List (Addr × Obj)} {σ : L2.St} {H : Hp} {s : Shared} {a : Addr} {oe : Obj} {vs : Array Value} {cls : Value} {d : Option Addr}
/-- a thing that stands there, and was not told of, is told of -/
theorem adopt (I : Inv X pins σ H s) (he : s.heap.get? a = some oe) (hc : oe.cls = cls) (hd : oe.dict = d) (hf : oe.data = .fields vs) (na : H a = none) (nL : a ≠ X.env.locals) (s0 : X.s_0.heap.get? a = none)
    (po : ∀ p ∈ X.pn ++ pins, p.1 ≠ a) : Inv X pins σ (upd H a (Kept cls d a)) s := by
  have old : ∀ {b : Addr} {o : HO}, H b = some o → upd H a (Kept cls d a) b = some o := fun {b o} e => by rw [upd_ne (ne_of_none e na)]; exact e
  have cel : ∀ y c, X.env.cells.lookup y = some c → c ≠ a := fun y c e z => by
    obtain ⟨v, hv⟩ := I.cell y c e
    obtain ⟨o, ho, hx⟩ := hv
    rw [z, he] at ho
    cases ho
    first
      | (rw [hf] at hx; cases hx)
      | (obtain ⟨_, hx⟩ := hx; rw [hf] at hx; cases hx)
  refine ⟨I.ok, I.os, I.bare, ⟨I.base.keep, I.base.slot, fun b o e n hx => ?_, I.base.there, fun b xs e => old (I.base.tups b xs e), fun b o u e => old (I.base.frzs b o u e), fun b ps e => ?_⟩, I.loc, I.cell, ?_, fun y c e => ?_, fun p hp => ?_, fun b o e => ?_, I.len⟩
  · rw [upd_ne (fun z => by rw [z, s0] at e; cases e)]
    exact I.base.free b o e n hx
  · obtain ⟨more, z⟩ := I.base.tbls b ps e
    exact ⟨more, old z⟩
  · rw [upd_ne (Ne.symm nL)]
    exact I.free
  · rw [upd_ne (cel y c e)]
    exact I.freeC y c e
  · obtain ⟨x1, x2, x3⟩ := I.pin p hp
    exact ⟨x1, by rw [upd_ne (po p hp)]; exact x2, x3⟩
  · by_cases z : b = a
    · subst z
      rw [upd_same] at e
      cases e
      exact kept_ok he hc hd hf
    · rw [upd_ne z] at e
      exact (I.hok b o e).stay (fun _ _ _ q => q) (fun c hx => old hx) fun c xs hx => old hx
end
/-- what the clause wishes -/
def wKeep (K : PySem.W.Frag) (c : Value) (i j : Nat) (Wout : WX) (D : Ends) : WX := fun cls d σ H =>
  ∃ b, PySem.W.exmOne K cls c = some b ∧ (b = true → ∀ a, H a = none → D.nx (((σ.set i (some (.ref a))).set j (some (.ref a))).set i none) (upd H a (Kept cls d a))) ∧ (b = false → Wout cls d σ H)
section
variable {X : Cx} {x n y : Str} {c : Value} {i j : Nat} {body : List Stmt} {np p1 p2 p3 pos pos' : Pos} {tb : WX → TS} {Wout : WX}
theorem ps_try_keep (hs : X.stack = X.env :: X.outer) (hf : X.env.frame = some X.env.locals) (hex : X.ex = []) (hN : X.N.Nodup) (hi : X.N[i]? = some n) (hln : X.env.kindOf n = some .local) (hj : X.N[j]? = some y) (hly : X.env.scope.names.lookup y = some .local) (hc : Names X x c) (tk : Takes X Wout)
    (hv : ∀ (a : Addr) (pn : List (Addr × Obj)), PS (X.suite a pn) (.Assign [.Name y p1] (.Name n p2) p3) (tAsg (tVar i) (gName j)))
    (hb : ∀ (W : WX) (pn : List (Addr × Obj)) (xe : Value → Shared → Prop), Takes (X.tr pn xe) W → PassesOwn (model X.prog X.w) X.A X.env xe → PSs (X.tr pn xe) body (tb W)) :
    PS X (.Try body [.ExceptHandler (some (.Name x np)) (some n) [.Assign [.Name y p1] (.Name n p2) p3] pos'] [] [] pos) (fun D σ H => tb (wKeep X.K c i j Wout D) D σ H) := by
  refine ⟨fun pins s σ H D I q0 => ?_⟩
  have ok := I.ok
  have fr : X.A.frames = some (X.env :: X.outer) := by rw [ok.frames, hs]
  have lc : Loc X.env.scope n := .inl hln
  have run := (hb (wKeep X.K c i j Wout D) (X.pn ++ pins) (fun e s1 => wpAny (model X.prog X.w) X.A (noteFrame e X.env) (fun _ s2 => wpAny (model X.prog X.w) X.A (setFlight e none) (fun _ s3 =>
    wpAny (model X.prog X.w) X.A (handleBy e X.env [.ExceptHandler (some (.Name x np)) (some n) [.Assign [.Name y p1] (.Name n p2) p3] pos']) (SP X pins D) X.xe s3) X.xe s2) X.xe s1) ?caught PassesOwn.looking).run [] s σ H D (I.toTry _) q0
  · refine wpAny_Try_except (wpAny_mono run (fun fl s1 z => ?_) fun _ _ z => z)
    cases fl with
    | next =>
      obtain ⟨σ1, H1, J, q⟩ := z
      exact wpAny_execs_nil ⟨σ1, H1, J.ofTry ok, q⟩
    | brk =>
      obtain ⟨σ1, H1, J, q⟩ := z
      exact ⟨σ1, H1, J.ofTry ok, q⟩
    | cont =>
      obtain ⟨σ1, H1, J, q⟩ := z
      exact ⟨σ1, H1, J.ofTry ok, q⟩
    | ret u =>
      obtain ⟨v, σ1, H1, J, r, q⟩ := z
      exact ⟨v, σ1, H1, J.ofTry ok, r, q⟩
  · intro u s' air
    obtain ⟨a, G, sI, pins', σ', H', cls, d, rfl, J', nb, up, sky, na, os, ag, b, exm, yes, no⟩ := air
    have J : Inv X pins σ' H' sI := J'.ofTry ok
    have sky2 : Sky G (X.env :: X.outer) a (Zc cls d) X.env.locals s'.heap := by rw [← hs]; exact sky
    show wpAny (model X.prog X.w) X.A (noteFrame (.ref a) X.env) _ _ _
    refine Sky.land Zc.steady fr hf sky2 fun h3 fl3 up3 => ?_
    have I3 : Inv X pins σ' H' { s' with heap := h3 } := J.landed nb fl3.1 (up.trans up3) os ag
    obtain ⟨o3, v3, e3, z3, d3⟩ := fl3.there
    have nfr : a ∉ frs (X.env :: X.outer) := fun m => by
      obtain ⟨_, o, eo, nf⟩ := fl3.2.2.1.mem m
      rw [e3] at eo
      cases eo
      exact nf _ d3
    have gone : sI.heap.get? a = none := by
      cases g : sI.heap.get? a with
      | none => rfl
      | some o =>
        have := nb a o g (by rw [hs]; exact nfr)
        rw [fl3.2.1] at this
        cases this
    have nL : a ≠ X.env.locals := fun z => nfr (List.mem_filterMap.mpr ⟨X.env, List.mem_cons_self, by rw [hf, z]⟩)
    have s0 : X.s_0.heap.get? a = none := by
      cases g : X.s_0.heap.get? a with
      | none => rfl
      | some o =>
        obtain ⟨o2, g2⟩ := J.base.there a o g (by rw [hex]; exact List.not_mem_nil)
        rw [gone] at g2
        cases g2
    have po : ∀ p ∈ X.pn ++ pins, p.1 ≠ a := fun p hp z => by
      have := (J.pin p hp).1
      rw [z, gone] at this
      cases this
    have calmless : ∀ {σ : L2.St} {H : Hp} {s : Shared}, Inv X pins σ H s → Inv (X.suite a (X.pn ++ pins)) [] σ H s := fun {σ H s} Y =>
      ⟨Y.ok.suite _ _, Y.os, Y.bare, Y.base, Y.loc, Y.cell, Y.free, Y.freeC, fun p hp => Y.pin p (by rw [List.append_nil] at hp; exact hp), Y.hok, Y.len⟩
    have back : ∀ {σ : L2.St} {H : Hp} {s : Shared}, Inv (X.suite a (X.pn ++ pins)) [] σ H s → Inv X pins σ H s := fun {σ H s} Y =>
      ⟨ok, Y.os, Y.bare, Y.base, Y.loc, Y.cell, Y.free, Y.freeC, fun p hp => Y.pin p (List.mem_append_left _ hp), Y.hok, Y.len⟩
    refine wpAny_handleBy_cons (codeAny_handlers_test ?_) (by intro q; cases q)
    have LT : PySem.W.Looks (model X.prog X.w) h3 (typeOf (.ref a)) cls := fun A' Q' E' s4 k q => wpAny_typeOf_ref (k _ _ e3) (by rw [z3.1]; exact q)
    have LM := PySem.W.exm_one (M := model X.prog X.w) I3.kIn LT exm
    have test : ∀ {Q : Value → Shared → Prop} {E : Value → Shared → Prop}, Q c { s' with heap := h3 } → wpAny (model X.prog X.w) (X.A.mark (some (.ref a))) (eval (.Name x np) X.env) Q E { s' with heap := h3 } := fun {Q E} q => by
      obtain ⟨gl, dbg, g | ⟨g, v, nn⟩⟩ := hc
      · exact ld_glob (X := X.suite a (X.pn ++ pins)) (calmless I3) gl g q dbg
      · exact ld_blt (X := X.suite a (X.pn ++ pins)) (calmless I3) gl g v q nn dbg
    refine test (LM.here ?_)
    cases b with
    | true =>
      refine codeAny_handlers_suite_as (HandSPX.lands_againZ fl3 fun h4 fl4 up4 => ?_)
      have I4 : Inv X pins σ' H' { s' with heap := h4 } := J.landed nb fl4.1 ((up.trans up3).trans up4) os ag
      obtain ⟨o4, v4, e4, z4, d4⟩ := fl4.there
      have I5 := adopt I4 e4 z4.1 z4.2 d4 na nL s0 po
      refine store_ok (X := X.suite a (X.pn ++ pins)) (v := .ref a) (calmless I5) hN hi lc rfl (fun s5 Y5 => ?_) (.inr hln)
      have li : i < σ'.length := by
        rw [J.len]
        exact (List.getElem?_eq_some_iff.mp hi).1
      have fin : ∀ {σ6 : L2.St} {H6 : Hp} {s6 : Shared} {Q : Shared → Prop}, Inv (X.suite a (X.pn ++ pins)) [] σ6 H6 s6 → (∀ s7, Inv X pins (σ6.set i none) H6 s7 → Q s7) →
          wpAny (model X.prog X.w) X.A (do bindName X.env n .none; unbindBehindTheSuite X.env n pos') (fun _ s7 => Q s7) X.xe s6 := fun {σ6 H6 s6 Q} Y q => gone_ok (back Y) hN hi hln q
      refine wpAny_mono ((pss_one (hv a (X.pn ++ pins))).run [] s5 _ _ { nx := fun σ1 H1 => D.nx (σ1.set i none) H1, rt := D.rt, bk := fun σ1 H1 => D.bk (σ1.set i none) H1, ct := fun σ1 H1 => D.ct (σ1.set i none) H1 } Y5 ⟨.ref a, List.getElem?_set_self li, yes rfl a na⟩) (fun fl s6 z => ?_) fun _ _ z => False.elim z
      cases fl with
      | next =>
        obtain ⟨σ6, H6, Y6, q6⟩ := z
        exact fin Y6 fun s7 J7 => ⟨_, _, J7, q6⟩
      | brk =>
        obtain ⟨σ6, H6, Y6, q6⟩ := z
        exact fin Y6 fun s7 J7 => ⟨_, _, J7, q6⟩
      | cont =>
        obtain ⟨σ6, H6, Y6, q6⟩ := z
        exact fin Y6 fun s7 J7 => ⟨_, _, J7, q6⟩
      | ret u =>
        obtain ⟨v6, σ6, H6, Y6, r6, q6⟩ := z
        exact fin Y6 fun s7 J7 => ⟨_, _, _, J7, r6, q6⟩
    | false =>
      show wpAny _ X.A (handleBy (.ref a) X.env []) _ _ _
      refine wpAny_handleBy_nil ?_
      obtain ⟨k1, k2, k3, oe, vs, T, oT, ts, he, hz, hd, h1, hr⟩ := id fl3
      unfold PySem.passOn
      refine wpAny_bind (wpAny_field he hd h1 ?_)
      rw [if_neg (show ¬ ((Value.ref T == Value.none) = true) from by simp)]
      have out : wpAny (model X.prog X.w) X.A (setFlight (.ref a) X.env.frame) (fun _ s4 => wpAny (model X.prog X.w) X.A (throw (.ref a) : Sem Flow) (SP X pins D) X.xe s4) X.xe { s' with heap := h3 } := by
        rw [hf]
        refine HandSPX.setFlight_upZ fl3 fun h4 hh4 up4 => wpAny_throw (tk _ _ ?_)
        exact ⟨a, G, sI, pins, σ', H', cls, d, rfl, J, nb, (up.trans up3).trans up4, .inr (.inr (by rw [hs]; exact hh4)), na, os, ag, no rfl⟩
      first
        | exact wpAny_bind (wpAny_pure (wpAny_bind out))
        | exact wpAny_bind out
end
end Gd

set_option Elab.async false
set_option linter.all false
set_option maxRecDepth 100000
set_option maxHeartbeats 4000000
set_option autoImplicit false
namespace Gd
open PySem PySem.Spec PyProof.Rows L2

/-! ### defs that may raise -/
structure DnX (P : Program) (w : World) (K : PySem.W.Frag) (mg : Str → Option Value) (base : Heap)
    (k : Nat) (x : Str) (st : Stmt) (ps : List Str) (sp : Sp) : Prop where
  ex : ∃ f fd, Fun K x x st f fd ∧ Binds K fd ps [] ∧ mg x = some (.ref f) ∧ FnOk P w K mg base (L2.CX P w) k f fd ps sp
theorem DnX.mk' {P : Program} {w : World} {K : PySem.W.Frag} {mg : Str → Option Value} {base : Heap} {x : Str} {st : Stmt} {ps : List Str} {k : Nat} {sp : Sp} (h : At K mg x st ps)
    (ok : ∀ f fd, Fun K x x st f fd → FnOk P w K mg base (L2.CX P w) k f fd ps sp) : DnX P w K mg base k x st ps sp := by
  obtain ⟨f, fd, F, b, g⟩ := h
  exact ⟨f, fd, F, b, g, ok f fd F⟩
/-- what a raise leaves -/
theorem mk_raise {K : PySem.W.Frag} {C : Addr} {H1 : Hp} {v : V} {Q : Value → Option Addr → Hp → Prop} {E : XK} (T : OexC K C) (n : PySem.W.findIn K (.ref C) "value" = some none)
    (q : ∀ d H', Same H1 H' → H1 d = none → H' d = some (.xd [("value", v)]) → Q (.ref C) (some d) H') :
    ∀ a, H1 a = none → spIni K (.ref a :: ([v] ++ [])) (upd H1 a (exo a C none))
      (fun u H2 => u = .non ∧ ∃ (d : Addr) (fs : List (Str × V)), H2 a = some (exo a C (some d)) ∧ H2 d = some (exd d fs) ∧ H1 d = none ∧ Q (.ref C) (some d) (upd (del H2 a) d (.xd fs))) E := by
  intro a na
  refine ⟨a, C, v, rfl, T, n, upd_same, fun dx nd ne => ⟨rfl, ?_⟩⟩
  have nd1 : H1 dx = none := by rw [upd_ne ne] at nd; exact nd
  refine ⟨dx, [("value", v)], upd_same, by rw [upd_ne ne, upd_same], nd1, q dx _ (fun b o e => ?_) nd1 upd_same⟩
  have ba : b ≠ a := ne_of_none e na
  have bd : b ≠ dx := ne_of_none e nd1
  rw [upd_ne bd, del_ne ba, upd_ne ba, upd_ne bd, upd_ne ba]
  exact e
section
variable {X : Cx} {W : WX} {x qual : Str} {st : Stmt} {ps : List Str} {sp : Sp} {k j : Nat} {e : Expr} {es : List Expr} {ta t : TA} {p pos pos2 : Pos} {C fI : Addr}
theorem pe_cX (tk : Takes X W) (D : DnX X.prog X.w X.K X.mg X.base k x st ps sp) (hr : Room j X.A) (hg : Gl X x) (ha : PA X (e :: es) t) (hk : k ≤ j := by decide)
    (hdb : (x == ("__debug__" : Str)) = false := by decide) (he : starEach (e :: es) X.env = (false, eval e X.env) :: starEach es X.env := by rfl)
    (hpl : (backTo pos (starEach es X.env)).any (·.1) = false := by rfl) :
    PE X (.Call (.Name x p) (e :: es) [] pos) (tCallS sp (WE W) t) := by
  obtain ⟨f, fd, F, b, g, ok⟩ := D.ex
  exact pe_callS ok (hr.mono hk) hg g F.kp b (fun σ => passAt tk σ) ha hdb he hpl
theorem ps_raiseE (hc : X.calm = true) (T : ExT X.K X.mg C fI x) (D : DnI X.prog X.w X.K X.mg X.base k fI qual st ps sp) (hr : Room j X.A) (tk : Takes X W) (hg : Gl X x) (ha : PA X (e :: es) ta) (hk : k + 1 ≤ j := by decide)
    (hdb : (x == ("__debug__" : Str)) = false := by decide) (he : starEach (e :: es) X.env = (false, eval e X.env) :: starEach es X.env := by rfl)
    (hpl : (backTo pos (starEach es X.env)).any (·.1) = false := by rfl) :
    PS X (.Raise (some (.Call (.Name x p) (e :: es) [] pos)) none pos2) (fun _ σ H => tMkO C sp [] ta σ H fun cls d H' => W cls d σ H') := by
  obtain ⟨fd, F, b, ok⟩ := D.ex
  exact ps_raise hc tk (pmk_oex T.ox T.iC T.tI ok (hr.mono hk) b .nil pass0 hg T.mg_ ha hdb he hpl)
end

/-! ### a kept exception -/
def ErrK (H : Hp) (C a : Addr) (v : V) : Prop := ∃ d, H a = some (Kept (.ref C) (some d) a) ∧ H d = some (.xd [("value", v)])
theorem ErrK.same {H H' : Hp} {C a : Addr} {v : V} (k : Same H H') (h : ErrK H C a v) : ErrK H' C a v := by
  obtain ⟨d, h1, h2⟩ := h
  exact ⟨d, k _ _ h1, k _ _ h2⟩
theorem errK_inst {X : Cx} {pins : List (Addr × Obj)} {σ : L2.St} {H : Hp} {s : Shared} {C a : Addr} {v : V} (I : Inv X pins σ H s) (h : ErrK H C a v) :
    ∃ (oe od : Obj) (u : Value), PySem.W.InstAt s.heap a oe C (some od) ∧ RelV v u ∧ PySem.W.lookIn "value" od = some (some u) := by
  obtain ⟨d, e1, e2⟩ := h
  obtain ⟨oe, vs, he, hc, hd, hf⟩ := kept_at I.hok e1
  have z : ObjOk X.prog X.w H s.heap d (.xd [("value", v)]) := I.hok d _ e2
  obtain ⟨mA, ns, rel⟩ := z
  obtain ⟨od, ho, hl⟩ := lookIn_ns ns
  have l : List.lookup ("value" : Str) [(("value" : Str), v)] = some v := by simp [List.lookup]
  obtain ⟨u, hu, ru⟩ := RelO.some_of (v := v) (o := mA "value") (by rw [← l]; exact rel "value")
  exact ⟨oe, od, u, ⟨he, hc, by unfold PySem.W.notCls; rw [hf] <;> rfl, by rw [hd]; exact ho⟩, ru, by rw [hl, hu]⟩
def tValK (ta : TE) (S : Addr → Prop) : TE := fun σ H Q => ta σ H fun x H1 => ∃ a c v, x = .ref a ∧ S c ∧ ErrK H1 c a v ∧ Q v H1
theorem pe_valK {X : Cx} {e : Expr} {te : TE} {pos : Pos} {S : Addr → Prop} (T : ∀ c, S c → ∃ fI x, ExT X.K X.mg c fI x) (he : PE X e te) (hb : attributeBase e "value" X.env (eval e X.env) = eval e X.env := by rfl) :
    PE X (.Attribute e "value" pos) (tValK te S) := by
  refine ⟨fun pins s σ H Q I h => ?_⟩
  refine attr_of hb (thn (he.run pins s σ H _ I h) fun u s1 got => ?_)
  obtain ⟨x, H1, I1, rx, a, c, v, ex, sc, ea, q⟩ := got
  subst ex
  obtain rfl : u = Value.ref a := rx
  obtain ⟨fI, y, T⟩ := T c sc
  obtain ⟨oe, od, w, J, ru, hl⟩ := errK_inst I1 ea
  exact HandSPX.exc_get I1.kIn J T.hg T.hk T.ox.exC (PySem.W.findObj_own T.hd T.nV rfl hl) (handed_of ru) ⟨v, H1, I1.tok _, ru, q⟩
def rIsXK (K : PySem.W.Frag) (S : Addr → Prop) : List V → Hp → VK → Prop := fun xs H Q => ∃ (a C : Addr) (v c : V) (cv : Value) (b : Bool), xs = [.ref a, c] ∧ S C ∧ ErrK H C a v ∧ (∀ u, RelV c u → u = cv) ∧ PySem.W.kitOne K (.ref C) cv = some b ∧ Q (.bl b) H
theorem call_isXK {X : Cx} {S : Addr → Prop} (T : ∀ c, S c → ∃ fI x, ExT X.K X.mg c fI x) : CallR X (.builtin "isinstance") (rIsXK X.K S) := by
  intro pins s σ H xs us Q I r h
  obtain ⟨a, C, v, c, cv, b, rfl, sc, ea, hcv, e, q⟩ := h
  obtain ⟨u1, u2, rfl, r1, r2⟩ := vals2 r
  cases (show u1 = Value.ref a from r1)
  have ec := hcv _ r2
  subst ec
  obtain ⟨fI, y, T⟩ := T C sc
  obtain ⟨oe, od, w, J, _⟩ := errK_inst I ea
  exact PySem.W.kia_one (err_kit T) I.kIn ⟨_, _, J⟩ e (fun z => nomatch z) fun tk => ⟨.bl b, H, I.tok tk, rfl, q⟩
/-- isinstance(e, (C, ..)) -/
def rIsXT (K : PySem.W.Frag) (S : Addr → Prop) : List V → Hp → VK → Prop := fun xs H Q => ∃ (a C tp : Addr) (v : V) (cs : List V) (us : List Value) (b : Bool), xs = [.ref a, .ref tp] ∧ S C ∧ ErrK H C a v ∧ H tp = some (.tup cs) ∧
  (∀ ws, Vals cs ws → ws = us) ∧ PySem.W.kitAny K (.ref C) us = some b ∧ Q (.bl b) H
theorem call_isXT {X : Cx} {S : Addr → Prop} (T : ∀ c, S c → ∃ fI x, ExT X.K X.mg c fI x) : CallR X (.builtin "isinstance") (rIsXT X.K S) := by
  intro pins s σ H xs us Q I r h
  obtain ⟨a, C, tp, v, cs, ws, b, rfl, sc, ea, ht, hcs, e, q⟩ := h
  obtain ⟨u1, u2, rfl, r1, r2⟩ := vals2 r
  cases (show u1 = Value.ref a from r1)
  cases (show u2 = Value.ref tp from r2)
  obtain ⟨fI, y, T⟩ := T C sc
  obtain ⟨oe, od, w, J, _⟩ := errK_inst I ea
  obtain ⟨_, its, rv, o, h1, h2, n, h3⟩ := (show ObjOk X.prog X.w H s.heap tp (.tup cs) from I.hok tp _ ht)
  have e3 := hcs _ rv
  subst e3
  obtain ⟨oc, od2, dt, sl⟩ := o
  simp only at h2 h3
  subst h2 h3
  exact PySem.W.kia_tup (err_kit T) I.kIn ⟨_, _, J⟩ h1 e (fun z => nomatch z) fun tk => ⟨.bl b, H, I.tok tk, rfl, q⟩
theorem vals_refs : ∀ {cs : List Addr} {ws : List Value}, Vals (cs.map V.ref) ws → ws = cs.map Value.ref
  | [], _, .nil => rfl
  | c :: cs, _, .cons a b => by
    cases (show _ = Value.ref c from a)
    rw [vals_refs b]
    rfl
end Gd

namespace Pk19
open PySem PySem.Spec PyProof.Rows L2 Gd
def topS (i : Nat) : Stmt := PySem.Challenge.pw_tightranges_k19_errors_of_holdings.main.body.getD i (.Pass ⟨0, 0, 0, 0⟩)
abbrev s_is_upside_down : Stmt := topS 12
theorem sc_is_upside_down : FnScope ["one", "low", "high"] ["one"] (defScope s_is_upside_down) := ⟨rfl, rfl, rfl, by decide +kernel, rfl, by decide +kernel, by decide +kernel⟩
abbrev s_check_range : Stmt := topS 13
theorem sc_check_range : FnScope ["one"] ["one"] (defScope s_check_range) := ⟨rfl, rfl, rfl, by decide +kernel, rfl, by decide +kernel, by decide +kernel⟩
abbrev s__least : Stmt := topS 18
theorem sc__least : FnScope ["one", "other"] ["one", "other"] (defScope s__least) := ⟨rfl, rfl, rfl, by decide +kernel, rfl, by decide +kernel, by decide +kernel⟩
abbrev s__greatest : Stmt := topS 19
theorem sc__greatest : FnScope ["one", "other"] ["one", "other"] (defScope s__greatest) := ⟨rfl, rfl, rfl, by decide +kernel, rfl, by decide +kernel, by decide +kernel⟩
abbrev s_common : Stmt := topS 15
theorem sc_common : FnScope ["one", "other", "both"] ["one", "other"] (defScope s_common) := ⟨rfl, rfl, rfl, by decide +kernel, rfl, by decide +kernel, by decide +kernel⟩
abbrev s_meets : Stmt := topS 14
theorem sc_meets : FnScope ["one", "other"] ["one", "other"] (defScope s_meets) := ⟨rfl, rfl, rfl, by decide +kernel, rfl, by decide +kernel, by decide +kernel⟩
abbrev s__taken : Stmt := topS 17
theorem sc__taken : FnScope ["bound", "factor", "add"] ["bound", "factor", "add"] (defScope s__taken) := ⟨rfl, rfl, rfl, by decide +kernel, rfl, by decide +kernel, by decide +kernel⟩
abbrev s_stepped : Stmt := topS 16
theorem sc_stepped : FnScope ["one", "factor", "add", "ends"] ["one", "factor", "add"] (defScope s_stepped) := ⟨rfl, rfl, rfl, by decide +kernel, rfl, by decide +kernel, by decide +kernel⟩
abbrev s__law_pool : Stmt := topS 36
theorem sc__law_pool : FnScope ["script", "at", "given"] ["script", "at"] (defScope s__law_pool) := ⟨rfl, rfl, rfl, by decide +kernel, rfl, by decide +kernel, by decide +kernel⟩
abbrev s__law_draw : Stmt := topS 37
theorem sc__law_draw : FnScope ["pool", "many", "drawn", "mixed"] ["pool", "many"] (defScope s__law_draw) := ⟨rfl, rfl, rfl, by decide +kernel, rfl, by decide +kernel, by decide +kernel⟩
abbrev s__law_integer : Stmt := topS 38
theorem sc__law_integer : FnScope ["pool", "way"] ["pool"] (defScope s__law_integer) := ⟨rfl, rfl, rfl, by decide +kernel, rfl, by decide +kernel, by decide +kernel⟩
abbrev s__names_of : Stmt := topS 25
theorem sc__names_of : FnScope ["rule", "named", "condition"] ["rule"] (defScope s__names_of) := ⟨rfl, rfl, rfl, by decide +kernel, rfl, by decide +kernel, by decide +kernel⟩
abbrev s__ranges_of : Stmt := topS 26
theorem sc__ranges_of : FnScope ["rule", "condition"] ["rule"] (defScope s__ranges_of) := ⟨rfl, rfl, rfl, by decide +kernel, rfl, by decide +kernel, by decide +kernel⟩
abbrev s_is_faulty : Stmt := topS 24
theorem sc_is_faulty : FnScope ["rule", "names", "name", "one"] ["rule", "names"] (defScope s_is_faulty) := ⟨rfl, rfl, rfl, by decide +kernel, rfl, by decide +kernel, by decide +kernel⟩
abbrev s_is_name : Stmt := topS 28
theorem sc_is_name : FnScope ["text", "sign"] ["text"] (defScope s_is_name) := ⟨rfl, rfl, rfl, by decide +kernel, rfl, by decide +kernel, by decide +kernel⟩
abbrev s__check_system : Stmt := topS 30
theorem sc__check_system : FnScope ["names", "rules", "earlier", "name", "number", "rule"] ["names", "rules"] (defScope s__check_system) := ⟨rfl, rfl, rfl, by decide +kernel, rfl, by decide +kernel, by decide +kernel⟩
abbrev s_System___init__ : Stmt := inClass (topS 31) 0
theorem sc_System___init__ : FnScope ["self", "names", "rules"] ["self", "names", "rules"] (defScope s_System___init__) := ⟨rfl, rfl, rfl, by decide +kernel, rfl, by decide +kernel, by decide +kernel⟩
abbrev s_System___len__ : Stmt := inClass (topS 31) 1
theorem sc_System___len__ : FnScope ["self"] ["self"] (defScope s_System___len__) := ⟨rfl, rfl, rfl, by decide +kernel, rfl, by decide +kernel, by decide +kernel⟩
abbrev s_System_names : Stmt := inClass (topS 31) 3
theorem sc_System_names : FnScope ["self"] ["self"] (defScope s_System_names) := ⟨rfl, rfl, rfl, by decide +kernel, rfl, by decide +kernel, by decide +kernel⟩
abbrev s_System_rules : Stmt := inClass (topS 31) 4
theorem sc_System_rules : FnScope ["self"] ["self"] (defScope s_System_rules) := ⟨rfl, rfl, rfl, by decide +kernel, rfl, by decide +kernel, by decide +kernel⟩
abbrev s_System___eq__ : Stmt := inClass (topS 31) 2
theorem sc_System___eq__ : FnScope ["self", "other"] ["self", "other"] (defScope s_System___eq__) := ⟨rfl, rfl, rfl, by decide +kernel, rfl, by decide +kernel, by decide +kernel⟩
abbrev s__law_range : Stmt := topS 39
theorem sc__law_range : FnScope ["pool", "open_often", "one", "two", "low", "high", "way"] ["pool", "open_often"] (defScope s__law_range) := ⟨rfl, rfl, rfl, by decide +kernel, rfl, by decide +kernel, by decide +kernel⟩
abbrev s__law_titles : Stmt := topS 40
theorem sc__law_titles : FnScope ["pool", "start", "sign"] ["pool"] (defScope s__law_titles) := ⟨rfl, rfl, rfl, by decide +kernel, rfl, by decide +kernel, by decide +kernel⟩
abbrev s__law_rules : Stmt := topS 41
theorem sc__law_rules : FnScope ["pool", "titles", "many", "some", "turn", "conds", "lap", "one", "two", "factor", "within_here"] ["pool", "titles", "many"] (defScope s__law_rules) := ⟨rfl, rfl, rfl, by decide +kernel, rfl, by decide +kernel, by decide +kernel⟩
abbrev s_rule_counts : Stmt := topS 21
theorem sc_rule_counts : FnScope ["rule", "ranges", "name", "one"] ["rule", "ranges"] (defScope s_rule_counts) := ⟨rfl, rfl, rfl, by decide +kernel, rfl, by decide +kernel, by decide +kernel⟩
abbrev s_rule_gives : Stmt := topS 22
theorem sc_rule_gives : FnScope ["rule", "ranges", "y", "factor", "add", "within"] ["rule", "ranges"] (defScope s_rule_gives) := ⟨rfl, rfl, rfl, by decide +kernel, rfl, by decide +kernel, by decide +kernel⟩
abbrev s_RangeError___init__ : Stmt := inClass (topS 2) 0
theorem sc_RangeError___init__ : FnScope ["self", "value"] ["self", "value"] (defScope s_RangeError___init__) := ⟨rfl, rfl, rfl, by decide +kernel, rfl, by decide +kernel, by decide +kernel⟩
abbrev s_check_number : Stmt := topS 29
theorem sc_check_number : FnScope ["system", "number"] ["system", "number"] (defScope s_check_number) := ⟨rfl, rfl, rfl, by decide +kernel, rfl, by decide +kernel, by decide +kernel⟩
abbrev s_counts : Stmt := topS 33
theorem sc_counts : FnScope ["system", "ranges", "number"] ["system", "ranges", "number"] (defScope s_counts) := ⟨rfl, rfl, rfl, by decide +kernel, rfl, by decide +kernel, by decide +kernel⟩
abbrev s_gives : Stmt := topS 34
theorem sc_gives : FnScope ["system", "ranges", "number"] ["system", "ranges", "number"] (defScope s_gives) := ⟨rfl, rfl, rfl, by decide +kernel, rfl, by decide +kernel, by decide +kernel⟩
abbrev s__law_kind : Stmt := topS 42
theorem sc__law_kind : FnScope ["caught", "odd"] ["caught"] (defScope s__law_kind) := ⟨rfl, rfl, rfl, by decide +kernel, rfl, by decide +kernel, by decide +kernel⟩
abbrev s__law_told : Stmt := topS 43
theorem sc__law_told : FnScope ["door", "made", "held", "spot", "caught", "e"] ["door", "made", "held", "spot"] (defScope s__law_told) := ⟨rfl, rfl, rfl, by decide +kernel, rfl, by decide +kernel, by decide +kernel⟩
abbrev s__law_right : Stmt := topS 44
theorem sc__law_right : FnScope ["pool", "titles", "some", "made", "held", "kept", "spot", "due", "title", "door"] ["pool"] (defScope s__law_right) := ⟨rfl, rfl, rfl, by decide +kernel, rfl, by decide +kernel, by decide +kernel⟩
abbrev s_law : Stmt := topS 45
theorem sc_law : FnScope ["script", "at", "pool", "turn"] ["script"] (defScope s_law) := ⟨rfl, rfl, rfl, by decide +kernel, rfl, by decide +kernel, by decide +kernel⟩
/-- low above high -/
def up : Rg → Bool
  | some (some l, some h) => decide (l > h)
  | _ => false
theorem up_ok {r : Rg} (h : RgFit r) : up r = false := by
  match r, h with
  | none, _ => rfl
  | some (none, _), _ => rfl
  | some (some _, none), _ => rfl
  | some (some l, some h), q =>
    have q' : l ≤ h := q
    exact decide_eq_false (by omega)
def gr : Option Int → Option Int → Option Int
  | none, b => b
  | some a, none => some a
  | some a, some b => some (if b > a then b else a)
def le2 : Option Int → Option Int → Option Int
  | none, b => b
  | some a, none => some a
  | some a, some b => some (if b < a then b else a)
def comR : Rg → Rg → Rg
  | some (l1, h1), some (l2, h2) => if up (some (gr l1 l2, le2 h1 h2)) = true then none else some (gr l1 l2, le2 h1 h2)
  | _, _ => none
def oD : Option Int → PyData
  | none => .none
  | some i => .int i
def rgD : Rg → PyData
  | none => .none
  | some (l, h) => .tuple [oD l, oD h]
theorem dp_ov {K : PySem.W.Frag} {H : Hp} (o : Option Int) : Dp K H (ov o) (oD o) := by
  cases o with
  | none => exact .non
  | some i => exact .int i
theorem dp_rg {K : PySem.W.Frag} {H : Hp} {v : V} {r : Rg} (h : RgV K H v r) : Dp K H v (rgD r) := by
  match r, h with
  | none, h =>
    have h' : v = .non := h
    subst h'
    exact .non
  | some (l, u), h =>
    obtain ⟨p, rfl, s⟩ := h
    exact .tup s (.cons (dp_ov l) (.cons (dp_ov u) .nil))


def sp_is_upside_down (K : PySem.W.Frag) : Sp := fun vs H Q _ => ∃ v r, vs = [v] ∧ RgV K H v r ∧ Q (.bl (up r)) H

def sp_check_range (K : PySem.W.Frag) : Sp := fun vs H Q _ => ∃ v r, vs = [v] ∧ RgV K H v r ∧ RgFit r ∧ Q .non H

def sp__least (_ : PySem.W.Frag) : Sp := fun vs H Q _ => ∃ a b, vs = [ov a, ov b] ∧ Q (ov (le2 a b)) H

def sp__greatest (_ : PySem.W.Frag) : Sp := fun vs H Q _ => ∃ a b, vs = [ov a, ov b] ∧ Q (ov (gr a b)) H

def sp_common (K : PySem.W.Frag) : Sp := fun vs H Q _ => ∃ v1 v2 r1 r2, vs = [v1, v2] ∧ RgV K H v1 r1 ∧ RgV K H v2 r2 ∧ RgFit r1 ∧ RgFit r2 ∧
  ∀ v H', Same H H' → RgV K H' v (comR r1 r2) → Q v H'

def sp_meets (K : PySem.W.Frag) : Sp := fun vs H Q _ => ∃ v1 v2 r1 r2, vs = [v1, v2] ∧ RgV K H v1 r1 ∧ RgV K H v2 r2 ∧ RgFit r1 ∧ RgFit r2 ∧
  ∀ H', Same H H' → Q (.bl (comR r1 r2).isSome) H'

theorem eqv_oD (a b : Option Int) : PyData.eqv (oD a) (oD b) = decide (a = b) := by
  cases a with
  | none => cases b <;> simp [oD, PyData.eqv]
  | some x =>
    cases b with
    | none => simp [oD, PyData.eqv]
    | some y => by_cases h : x = y <;> simp [oD, PyData.eqv, h]
theorem eqv_rgD (a b : Rg) : PyData.eqv (rgD a) (rgD b) = decide (a = b) := by
  match a, b with
  | none, none => simp [rgD, PyData.eqv]
  | none, some (l, h) => simp [rgD, PyData.eqv]
  | some (l, h), none => simp [rgD, PyData.eqv]
  | some (l, h), some (l2, h2) =>
    simp only [rgD, PyData.eqv, PyData.eqvAll, eqv_oD]
    by_cases c1 : l = l2 <;> by_cases c2 : h = h2 <;> simp [c1, c2]
theorem shaped_oD (a : Option Int) : SeqAt.shaped (oD a) = true := by cases a <;> rfl
theorem shaped_rgD (a : Rg) : SeqAt.shaped (rgD a) = true := by
  match a with
  | none => rfl
  | some (some l, some h) => rfl
  | some (none, some h) => rfl
  | some (some l, none) => rfl
  | some (none, none) => rfl

def lon : Option Int → Option Int → Option Int
  | some a, some b => some (if b < a then b else a)
  | _, _ => none
def gon : Option Int → Option Int → Option Int
  | some a, some b => some (if b > a then b else a)
  | _, _ => none
def joinR : Rg → Rg → Rg
  | none, r => r
  | r, none => r
  | some (l1, h1), some (l2, h2) => some (lon l1 l2, gon h1 h2)



def tk (f a : Int) (o : Option Int) : Option Int := o.map fun x => f * x + a
def stepR (f a : Int) : Rg → Rg
  | none => none
  | some (l, h) => if f > 0 then some (tk f a l, tk f a h) else some (tk f a h, tk f a l)
def SzO (o : Option Int) : Prop := ∀ i, o = some i → i.natAbs < 2 ^ 1000
def SzR : Rg → Prop
  | none => True
  | some (l, h) => SzO l ∧ SzO h
def sp__taken (_ : PySem.W.Frag) : Sp := fun vs H Q _ => ∃ o f a, vs = [ov o, .int f, .int a] ∧ SzO o ∧ f.natAbs < 2 ^ 64 ∧ Q (ov (tk f a o)) H

def sp_stepped (K : PySem.W.Frag) : Sp := fun vs H Q _ => ∃ v r f a, vs = [v, .int f, .int a] ∧ RgV K H v r ∧ RgFit r ∧ SzR r ∧ f.natAbs < 2 ^ 64 ∧
  ∀ v' H', Same H H' → RgV K H' v' (stepR f a r) → Q v' H'

theorem powW_of {x j : Int} {a : Nat} (h : x.natAbs < 2 ^ a) (h0 : 0 < a) (j0 : 0 ≤ j) (h2 : (a : Int) * j ≤ 100000) : CPowW x j := by
  have l := PySem.Flt.log2_lt_of h0 h
  have b : Builtin.Int.intBits x ≤ a := by
    unfold Builtin.Int.intBits
    split <;> omega
  refine ⟨j0, ?_⟩
  have e : (2 : Int) ^ 27 = 134217728 := by decide
  rw [e]
  have b' : (Builtin.Int.intBits x : Int) ≤ a := by omega
  have := Int.mul_le_mul_of_nonneg_right b' j0
  omega
theorem ten18 : CPowW 10 18 := ⟨by decide, by decide⟩
theorem ten30 : CPowW 10 30 := ⟨by decide, by decide⟩
theorem ten31 : CPowW 10 31 := ⟨by decide, by decide⟩
/-- a drawn bound -/
def BdOk (m : Int) : Option Int → Prop
  | none => True
  | some i => -m ≤ i ∧ i ≤ m
def RgIn (m : Int) : Rg → Prop
  | none => True
  | some (l, h) => BdOk m l ∧ BdOk m h
/-- the draws' state, with digits of any number -/
structure RP (n : Nat) (H : Hp) (a : Addr) : Prop where
  ok : ∃ d s t : Int, H a = some (.lst [.int d, .int s, .int t]) ∧ 0 ≤ d ∧ 0 ≤ s ∧ s < 2305844000000000000 ∧ 0 ≤ t ∧ t ≤ n
theorem RP.mono {n m : Nat} {H : Hp} {a : Addr} (h : n ≤ m) (r : RP n H a) : RP m H a := by
  obtain ⟨d, s, t, e, h1, h2, h3, h4, h5⟩ := r.ok
  exact ⟨d, s, t, e, h1, h2, h3, h4, by omega⟩
theorem RP.same {n : Nat} {H H' : Hp} {a : Addr} (r : RP n H a) (k : Same H H') : RP n H' a := by
  obtain ⟨d, s, t, e, r⟩ := r.ok
  exact ⟨d, s, t, k _ _ e, r⟩
theorem RP.kl {n : Nat} {H H' : Hp} {g : Addr} (r : RP n H g) (k : Kp g H H') : Kl g H H' := by
  obtain ⟨_, _, _, e, _⟩ := r.ok
  exact ⟨⟨_, e⟩, k⟩
theorem RP.fresh {n : Nat} {H : Hp} {g p : Addr} (r : RP n H g) (np : H p = none) : p ≠ g := fun z => by
  obtain ⟨_, _, _, e, _⟩ := r.ok
  rw [← z, np] at e
  cases e
theorem RP.none_of {g D : Addr} {n : Nat} {H H' : Hp} (r : RP n H' g) (k : Kp g H H') (nD : H' D = none) : H D = none := by
  cases e : H D with
  | none => rfl
  | some o =>
    rw [k _ _ (r.fresh nD) e] at nD
    cases nD
/-- only the list at c is other, and it is not that of the draws -/
theorem RP.put {n : Nat} {H : Hp} {g c : Addr} {o : HO} (r : RP n H g) (h : g ≠ c) : RP n (upd H c o) g := by
  obtain ⟨d, s, t, e, rest⟩ := r.ok
  exact ⟨d, s, t, (by rw [upd_ne h]; exact e), rest⟩


def sp__law_pool (K : PySem.W.Frag) : Sp := fun vs H Q _ => ∃ (a : Addr) (ns : List Int) (z : Int), vs = [.ref a, .int z] ∧ SqL K H a (ns.map V.int) ∧ ns.length ≤ 63 ∧ 0 ≤ z ∧ z ≤ 63 ∧
  ∀ p H', Same H H' → H p = none → RP 0 H' p → Q (.ref p) H'

def sp__law_draw (_ : PySem.W.Frag) : Sp := fun vs H Q _ => ∃ a lim n, vs = [.ref a, .int lim] ∧ RP n H a ∧ n ≤ 1000000 ∧ 0 < lim ∧ lim.natAbs < 2 ^ 200 ∧
  ∀ r H', 0 ≤ r → r < lim → Kp a H H' → RP (n + 1) H' a → Q (.int r) H'

def sp__law_integer (_ : PySem.W.Frag) : Sp := fun vs H Q _ => ∃ a n, vs = [.ref a] ∧ RP n H a ∧ n ≤ 900000 ∧
  ∀ i H', -(10 ^ 31) ≤ i → i ≤ 10 ^ 31 → Kp a H H' → RP (n + 4) H' a → Q (.int i) H'

abbrev Cd := Str × Rg
def cdD (c : Cd) : PyData := .tuple [.str c.1, rgD c.2]
/-- a rule -/
inductive Rl where
  | set (x : Str) (r : Rg) (cs : List Cd)
  | stp (x y : Str) (f a : Int) (r : Rg) (cs : List Cd)
def Rl.d : Rl → PyData
  | .set x r cs => .tuple [.str "set", .str x, rgD r, .tuple (cs.map cdD)]
  | .stp x y f a r cs => .tuple [.str "step", .str x, .str y, .int f, .int a, rgD r, .tuple (cs.map cdD)]
def Rl.cs : Rl → List Cd
  | .set _ _ cs => cs
  | .stp _ _ _ _ _ cs => cs
def Rl.names : Rl → List Str
  | .set x _ cs => x :: cs.map (·.1)
  | .stp x y _ _ _ cs => x :: y :: cs.map (·.1)
def Rl.rgs : Rl → List Rg
  | .set _ r cs => r :: cs.map (·.2)
  | .stp _ _ _ _ r cs => r :: cs.map (·.2)
def badR (r : Rg) : Bool := r.isNone || up r
def Rl.zero : Rl → Bool
  | .set _ _ _ => false
  | .stp _ _ f _ _ _ => decide (f = 0)
def Rl.faulty (r : Rl) (ns : List Str) : Bool := r.zero || ((r.names.any fun x => !decide (x ∈ ns)) || r.rgs.any badR)
theorem dp_str_inv {K : PySem.W.Frag} {H : Hp} {v : V} {x : Str} (h : Dp K H v (.str x)) : v = .str x := by cases h; rfl
theorem dp_int_inv {K : PySem.W.Frag} {H : Hp} {v : V} {x : Int} (h : Dp K H v (.int x)) : v = .int x := by cases h; rfl
theorem dp_non_inv {K : PySem.W.Frag} {H : Hp} {v : V} (h : Dp K H v .none) : v = .non := by cases h; rfl
theorem dp_tup_inv {K : PySem.W.Frag} {H : Hp} {v : V} {ds : List PyData} (h : Dp K H v (.tuple ds)) : ∃ p xs, v = .ref p ∧ SqT K H p xs ∧ DpAll K H xs ds := by
  cases h with
  | tup s a => exact ⟨_, _, rfl, s, a⟩
theorem dpa_cons_inv {K : PySem.W.Frag} {H : Hp} {vs : List V} {d : PyData} {ds : List PyData} (h : DpAll K H vs (d :: ds)) : ∃ v ws, vs = v :: ws ∧ Dp K H v d ∧ DpAll K H ws ds := by
  cases h with
  | cons a b => exact ⟨_, _, rfl, a, b⟩
theorem dpa_nil_inv {K : PySem.W.Frag} {H : Hp} {vs : List V} (h : DpAll K H vs []) : vs = [] := by cases h; rfl
theorem dp_oD_inv {K : PySem.W.Frag} {H : Hp} {v : V} {o : Option Int} (h : Dp K H v (oD o)) : v = ov o := by
  cases o with
  | none => exact dp_non_inv h
  | some i => exact dp_int_inv h
theorem dp_rg_inv {K : PySem.W.Frag} {H : Hp} {v : V} {r : Rg} (h : Dp K H v (rgD r)) : RgV K H v r := by
  match r, h with
  | none, h => exact dp_non_inv h
  | some (l, u), h =>
    obtain ⟨p, xs, rfl, s, a⟩ := dp_tup_inv h
    obtain ⟨v1, w1, rfl, h1, a⟩ := dpa_cons_inv a
    obtain ⟨v2, w2, rfl, h2, a⟩ := dpa_cons_inv a
    obtain rfl := dpa_nil_inv a
    obtain rfl := dp_oD_inv h1
    obtain rfl := dp_oD_inv h2
    exact ⟨p, rfl, s⟩
theorem cd_inv {K : PySem.W.Frag} {H : Hp} {v : V} {c : Cd} (h : Dp K H v (cdD c)) : ∃ p vr, v = .ref p ∧ SqT K H p [.str c.1, vr] ∧ RgV K H vr c.2 := by
  obtain ⟨p, xs, rfl, s, a⟩ := dp_tup_inv h
  obtain ⟨v1, w1, rfl, h1, a⟩ := dpa_cons_inv a
  obtain ⟨v2, w2, rfl, h2, a⟩ := dpa_cons_inv a
  obtain rfl := dpa_nil_inv a
  obtain rfl := dp_str_inv h1
  exact ⟨p, v2, rfl, s, dp_rg_inv h2⟩
theorem set_inv {K : PySem.W.Frag} {H : Hp} {v : V} {x : Str} {r : Rg} {cs : List Cd} (h : Dp K H v (Rl.set x r cs).d) :
    ∃ p vr q ys, v = .ref p ∧ SqT K H p [.str "set", .str x, vr, .ref q] ∧ RgV K H vr r ∧ SqT K H q ys ∧ DpAll K H ys (cs.map cdD) := by
  obtain ⟨p, xs, rfl, s, a⟩ := dp_tup_inv h
  obtain ⟨v1, w1, rfl, h1, a⟩ := dpa_cons_inv a
  obtain ⟨v2, w2, rfl, h2, a⟩ := dpa_cons_inv a
  obtain ⟨v3, w3, rfl, h3, a⟩ := dpa_cons_inv a
  obtain ⟨v4, w4, rfl, h4, a⟩ := dpa_cons_inv a
  obtain rfl := dpa_nil_inv a
  obtain rfl := dp_str_inv h1
  obtain rfl := dp_str_inv h2
  obtain ⟨q, ys, rfl, s2, a2⟩ := dp_tup_inv h4
  exact ⟨p, v3, q, ys, rfl, s, dp_rg_inv h3, s2, a2⟩
theorem stp_inv {K : PySem.W.Frag} {H : Hp} {v : V} {x y : Str} {f a : Int} {r : Rg} {cs : List Cd} (h : Dp K H v (Rl.stp x y f a r cs).d) :
    ∃ p vr q ys, v = .ref p ∧ SqT K H p [.str "step", .str x, .str y, .int f, .int a, vr, .ref q] ∧ RgV K H vr r ∧ SqT K H q ys ∧ DpAll K H ys (cs.map cdD) := by
  obtain ⟨p, xs, rfl, s, z⟩ := dp_tup_inv h
  obtain ⟨v1, w1, rfl, h1, z⟩ := dpa_cons_inv z
  obtain ⟨v2, w2, rfl, h2, z⟩ := dpa_cons_inv z
  obtain ⟨v3, w3, rfl, h3, z⟩ := dpa_cons_inv z
  obtain ⟨v4, w4, rfl, h4, z⟩ := dpa_cons_inv z
  obtain ⟨v5, w5, rfl, h5, z⟩ := dpa_cons_inv z
  obtain ⟨v6, w6, rfl, h6, z⟩ := dpa_cons_inv z
  obtain ⟨v7, w7, rfl, h7, z⟩ := dpa_cons_inv z
  obtain rfl := dpa_nil_inv z
  obtain rfl := dp_str_inv h1
  obtain rfl := dp_str_inv h2
  obtain rfl := dp_str_inv h3
  obtain rfl := dp_int_inv h4
  obtain rfl := dp_int_inv h5
  obtain ⟨q, ys, rfl, s2, a2⟩ := dp_tup_inv h7
  exact ⟨p, v6, q, ys, rfl, s, dp_rg_inv h6, s2, a2⟩
theorem dpa_map_get {K : PySem.W.Frag} {H : Hp} {α : Type} {f : α → PyData} {ys : List V} {cs : List α} {i : Nat} {v : V} (h : DpAll K H ys (cs.map f)) (e : ys[i]? = some v) : ∃ c, cs[i]? = some c ∧ Dp K H v (f c) := by
  obtain ⟨d, e2, hd⟩ := dpa_get h e
  rw [List.getElem?_map] at e2
  cases e3 : cs[i]? with
  | none => rw [e3] at e2; cases e2
  | some c =>
    rw [e3] at e2
    have := Option.some.inj e2
    subst this
    exact ⟨c, rfl, hd⟩
theorem list_eq_of {α : Type} {xs ys : List α} (l : xs.length = ys.length) (h : ∀ (i : Nat) (x : α), xs[i]? = some x → ys[i]? = some x) : xs = ys := by
  apply List.ext_getElem?
  intro i
  by_cases c : i < xs.length
  · have e := List.getElem?_eq_getElem c
    rw [e]
    exact (h i _ e).symm
  · rw [List.getElem?_eq_none (by omega), List.getElem?_eq_none (by omega)]


theorem sEqT {x : Str} : V.bl (decide (V.str x = V.str x)) = V.bl true := congrArg V.bl (decide_eq_true rfl)
/-- a list of strings, by place -/
theorem strs_of {cs : List Cd} {ys : List V} (l : ys.length = cs.length) (h : ∀ (i : Nat) y, ys[i]? = some y → ∃ c : Cd, cs[i]? = some c ∧ y = .str c.1) : ys = (cs.map (·.1)).map V.str := by
  refine list_eq_of (by rw [List.length_map, List.length_map, l]) fun i x e => ?_
  obtain ⟨c, ec, rfl⟩ := h i x e
  rw [List.getElem?_map, List.getElem?_map, ec]
  rfl
def sp__names_of (K : PySem.W.Frag) : Sp := fun vs H Q _ => ∃ v r, vs = [v] ∧ Dp K H v (Rl.d r) ∧ r.cs.length ≤ 1000 ∧
  ∀ p H', Same H H' → H p = none → H' p = some (.lst (r.names.map V.str)) → Q (.ref p) H'

theorem noL_rg (r : Rg) : NoL (rgD r) := by
  match r with
  | none => exact .non
  | some (l, u) =>
    refine .tup fun d m => ?_
    rcases List.mem_cons.mp m with rfl | m
    · cases l
      · exact .non
      · exact .int _
    rcases List.mem_cons.mp m with rfl | m
    · cases u
      · exact .non
      · exact .int _
    · exact absurd m (by simp)
theorem noL_cd (c : Cd) : NoL (cdD c) := by
  refine .tup fun d m => ?_
  rcases List.mem_cons.mp m with rfl | m
  · exact .str _
  rcases List.mem_cons.mp m with rfl | m
  · exact noL_rg _
  · exact absurd m (by simp)
theorem noL_cds (cs : List Cd) : NoL (.tuple (cs.map cdD)) := .tup fun d m => by
  obtain ⟨c, _, rfl⟩ := List.mem_map.mp m
  exact noL_cd c
theorem noL_rl (r : Rl) : NoL r.d := by
  match r with
  | .set x rr cs =>
    refine .tup fun d m => ?_
    simp only [List.mem_cons, List.not_mem_nil, or_false] at m
    rcases m with rfl | rfl | rfl | rfl
    · exact .str _
    · exact .str _
    · exact noL_rg _
    · exact noL_cds _
  | .stp x y f a rr cs =>
    refine .tup fun d m => ?_
    simp only [List.mem_cons, List.not_mem_nil, or_false] at m
    rcases m with rfl | rfl | rfl | rfl | rfl | rfl | rfl
    · exact .str _
    · exact .str _
    · exact .str _
    · exact .int _
    · exact .int _
    · exact noL_rg _
    · exact noL_cds _
theorem rl_last {K : PySem.W.Frag} {H : Hp} {v : V} {r : Rl} (h : Dp K H v r.d) : ∃ p xs vr c ys rr, v = .ref p ∧ SqT K H p xs ∧ atI xs (-2) = some vr ∧ atI xs (-1) = some (.ref c) ∧ RgV K H vr rr ∧
    SqT K H c ys ∧ DpAll K H ys (r.cs.map cdD) ∧ r.rgs = rr :: r.cs.map (·.2) := by
  match r, h with
  | .set x r cs, h =>
    obtain ⟨p, vr, c, ys, rfl, s, hr2, s2, a2⟩ := set_inv h
    exact ⟨p, _, vr, c, ys, r, rfl, s, rfl, rfl, hr2, s2, a2, rfl⟩
  | .stp x y f a r cs, h =>
    obtain ⟨p, vr, c, ys, rfl, s, hr2, s2, a2⟩ := stp_inv h
    exact ⟨p, _, vr, c, ys, r, rfl, s, rfl, rfl, hr2, s2, a2, rfl⟩
theorem dpa_of {K : PySem.W.Frag} {H : Hp} {α : Type} {f : α → PyData} : ∀ {cs : List α} {ys : List V}, ys.length = cs.length → (∀ (i : Nat) y, ys[i]? = some y → ∃ c : α, cs[i]? = some c ∧ Dp K H y (f c)) → DpAll K H ys (cs.map f)
  | [], [], _, _ => .nil
  | c :: cs, y :: ys, l, h => by
    obtain ⟨c', e, d⟩ := h 0 y rfl
    have e' : c = c' := Option.some.inj e
    subst e'
    exact .cons d (dpa_of (by simpa using l) fun i z e => by simpa using h (i + 1) z (by simpa using e))
def sp__ranges_of (K : PySem.W.Frag) : Sp := fun vs H Q _ => ∃ v r, vs = [v] ∧ Dp K H v (Rl.d r) ∧ r.cs.length ≤ 1000 ∧
  ∀ p H' xs, Same H H' → H p = none → H' p = some (.lst xs) → DpAll K H' xs (r.rgs.map rgD) → Q (.ref p) H'

theorem inV_strs (x : Str) : ∀ ns : List Str, inV (.str x) (ns.map V.str) = decide (x ∈ ns)
  | [] => rfl
  | n :: ns => by
    have ih := inV_strs x ns
    unfold inV at ih ⊢
    rw [List.map_cons, List.any_cons, ih]
    show ((n == x) || decide (x ∈ ns)) = decide (x ∈ n :: ns)
    rw [Bool.eq_iff_iff, Bool.or_eq_true, beq_iff_eq, decide_eq_true_iff, decide_eq_true_iff, List.mem_cons]
    constructor
    · rintro (h | h)
      · exact .inl h.symm
      · exact .inr h
    · rintro (h | h)
      · exact .inl h.symm
      · exact .inr h
theorem flat_strs : ∀ ns : List Str, (ns.map V.str).all flatV = true
  | [] => rfl
  | n :: ns => by rw [List.map_cons, List.all_cons, flat_strs ns]; rfl
/-- a list of booleans, by place -/
theorem bls_of {α : Type} {f : α → Bool} {cs : List α} {ys : List V} (l : ys.length = cs.length) (h : ∀ (i : Nat) y, ys[i]? = some y → ∃ c : α, cs[i]? = some c ∧ y = .bl (f c)) : ys = (cs.map f).map V.bl := by
  refine list_eq_of (by rw [List.length_map, List.length_map, l]) fun i x e => ?_
  obtain ⟨c, ec, rfl⟩ := h i x e
  rw [List.getElem?_map, List.getElem?_map, ec]
  rfl
theorem any_id {α : Type} (f : α → Bool) (cs : List α) : (cs.map f).any id = cs.any f := by
  rw [List.any_map]
  rfl
theorem map_get {α β : Type} {f : α → β} {cs : List α} {i : Nat} {y : β} (h : (cs.map f)[i]? = some y) : ∃ c, cs[i]? = some c ∧ y = f c := by
  rw [List.getElem?_map] at h
  cases e : cs[i]? with
  | none => rw [e] at h; cases h
  | some c =>
    rw [e] at h
    exact ⟨c, rfl, (Option.some.inj h).symm⟩
theorem names_le {r : Rl} : r.names.length ≤ 2 + r.cs.length := by
  match r with
  | .set x r cs => show (x :: cs.map (·.1)).length ≤ _; rw [List.length_cons, List.length_map]; show _ ≤ 2 + cs.length; omega
  | .stp x y f a r cs => show (x :: y :: cs.map (·.1)).length ≤ _; rw [List.length_cons, List.length_cons, List.length_map]; show _ ≤ 2 + cs.length; omega
theorem rgs_le {r : Rl} : r.rgs.length ≤ 2 + r.cs.length := by
  match r with
  | .set x r cs => show (r :: cs.map (·.2)).length ≤ _; rw [List.length_cons, List.length_map]; show _ ≤ 2 + cs.length; omega
  | .stp x y f a r cs => show (r :: cs.map (·.2)).length ≤ _; rw [List.length_cons, List.length_map]; show _ ≤ 2 + cs.length; omega
def sp_is_faulty (K : PySem.W.Frag) : Sp := fun vs H Q _ => ∃ v r a ns, vs = [v, .ref a] ∧ Dp K H v (Rl.d r) ∧ r.cs.length ≤ 1000 ∧ SqL K H a (ns.map V.str) ∧
  ∀ H', Same H H' → Q (.bl (r.faulty ns)) H'

def nameOk (x : Str) : Bool := (decide (1 ≤ x.cps.size) && decide (x.cps.size ≤ 8)) && x.cps.toList.all fun c => decide (97 ≤ c) && decide (c ≤ 122)
theorem lt_one (c d : Nat) : (!decide (([c] : List Nat) < [d])) = decide (d ≤ c) := by
  rw [Bool.eq_iff_iff, Bool.not_eq_true', decide_eq_false_iff_not, decide_eq_true_iff, List.cons_lt_cons_iff]
  constructor
  · intro h
    have := fun z => h (.inl z)
    omega
  · rintro h (z | ⟨_, z⟩)
    · omega
    · exact absurd z (List.lt_irrefl [])
/-- [e for c in x] over a string, each e a boolean -/
theorem lc_strB {j : Nat} {te : TE} {σ : L2.St} {H : Hp} {Qd : Hp → Prop} {D : Addr} (x : Str) (f : Nat → Bool)
    (hz : x.cps.size ≤ 1000) (nD : H D = none)
    (hw : ∀ z : V, wipe ((wipe σ [j]).set j (some z)) [j] = wipe σ [j])
    (he : ∀ (c : Nat) (H' : Hp) (R : VK), R (.bl (f c)) H' → te ((wipe σ [j]).set j (some (.str ⟨#[c]⟩))) H' R)
    (q : Qd (upd H D (.lst ((x.cps.toList.map f).map V.bl)))) :
    ∃ Z : Nat → Nat → Hp → Prop, (∃ m, Z 0 m (upd H D (.lst []))) ∧
      ∀ i m G, Z i m G →
        ((Its x).stop i G ∧ Qd G) ∨
        ((Its x).go i G ∧ ∃ N : Hp → Prop, (∀ G', N G' → ∃ m', m' < m ∧ Z (i + 1) m' G') ∧
          ∀ z G', (Its x).yld i G z G' →
            gName j z (wipe σ [j]) G' fun σ2 G2 =>
              wipe σ2 [j] = wipe σ [j] ∧
              tYes σ2 G2 fun b G3 =>
                if b = true then
                  te σ2 G3 fun y G4 =>
                    ∃ acc, G4 D = some (.lst acc) ∧ acc.length < sizeLine ∧
                      N (upd G4 D (.lst (acc ++ [y])))
                else N G3) := by
  refine lc_it (walk_str (z := x)) (fun i G => G = upd H D (.lst (((x.cps.toList.take i).map f).map V.bl))) rfl (fun _ _ _ _ => trivial) ?_ ?_
  · rintro i z G G' hi rfl ⟨rfl, c, ec, rfl⟩
    have ec' : x.cps.toList[i]? = some c := by rw [Array.getElem?_toList]; exact ec
    have tk : ((x.cps.toList.take (i + 1)).map f).map V.bl = ((x.cps.toList.take i).map f).map V.bl ++ [V.bl (f c)] := by
      rw [List.take_add_one, ec', List.map_append, List.map_append]
      rfl
    refine ⟨hw _, he c _ _ ⟨_, upd_same, ?_, ?_⟩⟩
    · rw [List.length_map, List.length_map, List.length_take]
      exact Nat.lt_of_le_of_lt (Nat.le_trans (Nat.min_le_left _ _) (by omega : i ≤ 100000)) (by decide)
    · rw [upd_upd, tk]
  · rintro G rfl
    have e : x.cps.toList.take x.cps.size = x.cps.toList := by
      rw [← Array.length_toList, List.take_length]
    rw [e]
    exact q
def sp_is_name (K : PySem.W.Frag) : Sp := fun vs H Q _ => ∃ x : Str, vs = [.str x] ∧ x.cps.size ≤ 1000 ∧ ∀ H', Same H H' → Q (.bl (nameOk x)) H'

/-- what System check asks -/
structure SysOk (ns : List Str) (rs : List Rl) : Prop where
  nd : ns.Nodup
  ok : ∀ x ∈ ns, nameOk x = true
  nf : ∀ r ∈ rs, r.faulty ns = false
  cs : ∀ r ∈ rs, r.cs.length ≤ 1000
  ln : ns.length < 64
  lr : rs.length ≤ 1000
theorem nameOk_size {x : Str} (h : nameOk x = true) : x.cps.size ≤ 8 := by
  unfold nameOk at h
  rw [Bool.and_eq_true, Bool.and_eq_true] at h
  exact of_decide_eq_true h.1.2
def keyT (l : List Str) : List (Key × V) := l.map fun n => (Sum.inr n, V.bl true)
theorem valV_keyT {x : Str} : ∀ {l : List Str}, x ∉ l → valV (keyT l) (Sum.inr x) = none
  | [], _ => rfl
  | n :: l, h => by
    rw [List.mem_cons] at h
    have e : ¬ (Sum.inr n : Key) = Sum.inr x := fun z => h (.inl (Sum.inr.inj z).symm)
    show valV ((Sum.inr n, V.bl true) :: keyT l) (Sum.inr x) = none
    rw [valV_neg e]
    exact valV_keyT fun z => h (.inr z)
theorem nodup_take {l : List Str} {i : Nat} {x : Str} (nd : l.Nodup) (h : l[i]? = some x) : x ∉ l.take i := by
  intro m
  obtain ⟨j, hj⟩ := List.mem_iff_getElem?.mp m
  have lj : j < (l.take i).length := (List.getElem?_eq_some_iff.mp hj).1
  rw [List.length_take] at lj
  rw [List.getElem?_take_of_lt (by omega)] at hj
  have li : i < l.length := (List.getElem?_eq_some_iff.mp h).1
  have e := (List.getElem?_inj (i := j) (j := i) (by omega) nd).mp (hj.trans h.symm)
  omega
def sp__check_system (K : PySem.W.Frag) : Sp := fun vs H Q _ => ∃ a b ns xs rs, vs = [.ref a, .ref b] ∧ SqL K H a (ns.map V.str) ∧ SqL K H b xs ∧ DpAll K H xs (rs.map Rl.d) ∧ SysOk ns rs ∧
  ∀ H', Same H H' → Q .non H'

/-- what the top has written of the class System -/
structure SysT (K : PySem.W.Frag) (mg : Str → Option Value) (C : Addr) : Prop where
  ck : Ck K mg C "System"
  nN : NoAttr K C "_names"
  nR : NoAttr K C "_rules"
  ha : PySem.W.findIn K (.ref C) "__class__" = some (some (.builtin "object.__class__"))
  hn : PySem.W.specialIn K (.builtin "object.__class__") "__get__" = some (some (.builtin "getset_descriptor.__get__"))
  ht : PySem.W.takesIn K (.builtin "object.__class__") = some true
  hm : PySem.W.mroIn K C (.type "object") = some true
  ki : PySem.W.isClsIn K C = true
  ty : PySem.W.typeIn K (.ref C) = some (.type "type")
theorem subL {K : PySem.W.Frag} {C : Addr} : PySem.W.subIn K (.type "list") (.ref C) = some false := by with_unfolding_all rfl
theorem subS {K : PySem.W.Frag} {C : Addr} : PySem.W.subIn K (.type "str") (.ref C) = some false := by with_unfolding_all rfl
theorem subI {K : PySem.W.Frag} {C : Addr} : PySem.W.subIn K (.type "int") (.ref C) = some false := by with_unfolding_all rfl
theorem nf_of {K : PySem.W.Frag} {C : Addr} {t : Value} (h : PySem.W.subIn K t (.ref C) = some false) : PySem.W.notFirst K C t = true := by
  unfold PySem.W.notFirst
  rw [h]
  exact Bool.or_true _
theorem nfC {K : PySem.W.Frag} {C : Addr} : PySem.W.notFirst K C (.ref C) = true := by
  unfold PySem.W.notFirst
  rw [beq_self_eq_true, Bool.true_or]
theorem kit_of_no {K : PySem.W.Frag} {mg : Str → Option Value} {C : Addr} (T : SysT K mg C) {n : String} (h : PySem.W.subIn K (.type n) (.ref C) = some false) : PySem.W.kitOne K (.type n) (.ref C) = some false := by
  have e : PySem.W.kitOne K (.type n) (.ref C) = if ((PySem.W.clsIn K C).isSome && PySem.W.typeIn K (.ref C) == some (.type "type")) = true then PySem.W.subIn K (.type n) (.ref C) else none := rfl
  have h1 : (PySem.W.clsIn K C).isSome = true := T.ki
  rw [e, h1, T.ty, h]
  rfl
/-- a system: its object at a, its names at p, its rules at q -/
def SysAt (K : PySem.W.Frag) (C : Addr) (H : Hp) (a p q : Addr) (ns : List Str) (rs : List Rl) : Prop :=
  ∃ dx fs xs, H a = some (.ins C dx fs) ∧ fs.lookup ("_names" : Str) = some (V.ref p) ∧ fs.lookup ("_rules" : Str) = some (V.ref q) ∧ H p = some (.lst (ns.map V.str)) ∧ H q = some (.lst xs) ∧ DpAll K H xs (rs.map Rl.d) ∧ ∀ m : Str, m ≠ "_names" → m ≠ "_rules" → fs.lookup m = none
theorem SysAt.same {K : PySem.W.Frag} {C : Addr} {H H' : Hp} {a p q : Addr} {ns : List Str} {rs : List Rl} (k : Same H H') (h : SysAt K C H a p q ns rs) : SysAt K C H' a p q ns rs := by
  obtain ⟨dx, fs, xs, h1, h2, h3, h4, h5, h6, h7⟩ := h
  exact ⟨dx, fs, xs, k _ _ h1, h2, h3, k _ _ h4, k _ _ h5, dpa_same k h6, h7⟩
/-- the object at o is what may change -/
def Ki (o : Addr) (H H' : Hp) : Prop := (∃ C dx fs, H o = some (.ins C dx fs)) ∧ Kp o H H'
theorem SqL.ki {K : PySem.W.Frag} {H H' : Hp} {o b : Addr} {xs : List V} (k : Ki o H H') (h : SqL K H b xs) : SqL K H' b xs := by
  obtain ⟨⟨C, dx, fs, e⟩, kp⟩ := k
  rcases h with (h | ⟨u, h⟩) | h
  · exact .inl (.inl (kp _ _ (ne_of h e (fun z => by cases z)) h))
  · exact .inl (.inr ⟨u, kp _ _ (ne_of h e (fun z => by cases z)) h⟩)
  · exact .inr h
theorem SqT.ki {K : PySem.W.Frag} {H H' : Hp} {o b : Addr} {xs : List V} (k : Ki o H H') (h : SqT K H b xs) : SqT K H' b xs := by
  obtain ⟨⟨C, dx, fs, e⟩, kp⟩ := k
  rcases h with (h | ⟨u, h⟩) | h
  · exact .inl (.inl (kp _ _ (ne_of h e (fun z => by cases z)) h))
  · exact .inl (.inr ⟨u, kp _ _ (ne_of h e (fun z => by cases z)) h⟩)
  · exact .inr h
mutual
theorem dp_ki {K : PySem.W.Frag} {H H' : Hp} {o : Addr} (k : Ki o H H') : ∀ {v : V} {d : PyData}, Dp K H v d → Dp K H' v d
  | _, _, .non => .non
  | _, _, .bl b => .bl b
  | _, _, .int i => .int i
  | _, _, .str x => .str x
  | _, _, .lst s a => .lst (SqL.ki k s) (dpa_ki k a)
  | _, _, .tup s a => .tup (SqT.ki k s) (dpa_ki k a)
theorem dpa_ki {K : PySem.W.Frag} {H H' : Hp} {o : Addr} (k : Ki o H H') : ∀ {v : List V} {d : List PyData}, DpAll K H v d → DpAll K H' v d
  | _, _, .nil => .nil
  | _, _, .cons a b => .cons (dp_ki k a) (dpa_ki k b)
end


def sp_System___init__ (K : PySem.W.Frag) (C : Addr) : Sp := fun vs H Q _ => ∃ o dx a b ns xs rs, vs = [.ref o, .ref a, .ref b] ∧ H o = some (.ins C dx []) ∧ SqL K H a (ns.map V.str) ∧ SqL K H b xs ∧ DpAll K H xs (rs.map Rl.d) ∧ SysOk ns rs ∧
  ∀ H' p q ss, ss.Perm ns → sortedS ss = true → Kp o H H' → H p = none → H q = none → SysAt K C H' o p q ss rs → Q .non H'

def sp_System___len__ (K : PySem.W.Frag) (C : Addr) : Sp := fun vs H Q _ => ∃ a p q ns rs, vs = [.ref a] ∧ SysAt K C H a p q ns rs ∧ Q (.int rs.length) H

def sp_System_names (K : PySem.W.Frag) (C : Addr) : Sp := fun vs H Q _ => ∃ a p q ns rs, vs = [.ref a] ∧ SysAt K C H a p q ns rs ∧ ∀ l, H l = none → Q (.ref l) (upd H l (.lst (ns.map V.str)))

def sp_System_rules (K : PySem.W.Frag) (C : Addr) : Sp := fun vs H Q _ => ∃ a p q ns rs, vs = [.ref a] ∧ SysAt K C H a p q ns rs ∧ ∀ l xs, H l = none → DpAll K H xs (rs.map Rl.d) → Q (.ref l) (upd H l (.lst xs))

theorem strOk_of {x : Str} (h : nameOk x = true) : PyData.strOk x = true := by
  unfold nameOk at h
  rw [Bool.and_eq_true] at h
  unfold PyData.strOk
  rw [← Array.all_toList, List.all_eq_true]
  intro c m
  have := List.all_eq_true.mp h.2 c m
  rw [Bool.and_eq_true] at this
  have := of_decide_eq_true this.2
  exact decide_eq_true (by omega)
theorem lyA_of : ∀ {k : Nat} {ds : List PyData}, (∀ d ∈ ds, Ly k d) → LyAll k ds
  | k, [], _ => LyAll.nil.mono (Nat.zero_le _)
  | k, d :: ds, h => by
    have z := LyAll.cons (h d (by simp)) (lyA_of (k := k) (ds := ds) fun x m => h x (by simp [m]))
    rw [Nat.max_self] at z
    exact z
theorem ly_str {x : Str} (h : PyData.strOk x = true) : Ly 1 (.str x) := ⟨h, by simp [PyData.depth]⟩
theorem ly_oD (o : Option Int) : Ly 1 (oD o) := by
  cases o with
  | none => exact .none
  | some i => exact .int i
theorem ly_rg (r : Rg) : Ly 2 (rgD r) := by
  match r with
  | none => exact Ly.none.mono (by decide)
  | some (l, u) =>
    refine Ly.tuple (k := 1) (lyA_of fun d m => ?_)
    simp only [List.mem_cons, List.not_mem_nil, or_false] at m
    rcases m with rfl | rfl
    · exact ly_oD l
    · exact ly_oD u
theorem ly_cd {c : Cd} (h : PyData.strOk c.1 = true) : Ly 3 (cdD c) := by
  refine Ly.tuple (k := 2) (lyA_of fun d m => ?_)
  simp only [List.mem_cons, List.not_mem_nil, or_false] at m
  rcases m with rfl | rfl
  · exact (ly_str h).mono (by decide)
  · exact ly_rg _
theorem ly_cds {cs : List Cd} (h : ∀ c ∈ cs, PyData.strOk c.1 = true) : Ly 4 (.tuple (cs.map cdD)) := by
  refine Ly.tuple (k := 3) (lyA_of fun d m => ?_)
  obtain ⟨c, mc, rfl⟩ := List.mem_map.mp m
  exact ly_cd (h c mc)
theorem ly_rl {r : Rl} (h : ∀ x ∈ r.names, PyData.strOk x = true) : Ly 5 r.d := by
  match r, h with
  | .set x rr cs, h =>
    have hc : ∀ c ∈ cs, PyData.strOk c.1 = true := fun c m => h c.1 (List.mem_cons_of_mem _ (List.mem_map.mpr ⟨c, m, rfl⟩))
    have hx : PyData.strOk x = true := h x List.mem_cons_self
    refine Ly.tuple (k := 4) (lyA_of fun d m => ?_)
    simp only [List.mem_cons, List.not_mem_nil, or_false] at m
    rcases m with rfl | rfl | rfl | rfl
    · exact (ly_str (by decide +kernel)).mono (by decide)
    · exact (ly_str hx).mono (by decide)
    · exact (ly_rg _).mono (by decide)
    · exact ly_cds hc
  | .stp x y f a rr cs, h =>
    have hc : ∀ c ∈ cs, PyData.strOk c.1 = true := fun c m => h c.1 (List.mem_cons_of_mem _ (List.mem_cons_of_mem _ (List.mem_map.mpr ⟨c, m, rfl⟩)))
    have hx : PyData.strOk x = true := h x List.mem_cons_self
    have hy : PyData.strOk y = true := h y (List.mem_cons_of_mem _ List.mem_cons_self)
    refine Ly.tuple (k := 4) (lyA_of fun d m => ?_)
    simp only [List.mem_cons, List.not_mem_nil, or_false] at m
    rcases m with rfl | rfl | rfl | rfl | rfl | rfl | rfl
    · exact (ly_str (by decide +kernel)).mono (by decide)
    · exact (ly_str hx).mono (by decide)
    · exact (ly_str hy).mono (by decide)
    · exact (Ly.int _).mono (by decide)
    · exact (Ly.int _).mono (by decide)
    · exact (ly_rg _).mono (by decide)
    · exact ly_cds hc
/-- all texts of a system are such that can be laid -/
def Laid (ns : List Str) (rs : List Rl) : Prop := (∀ x ∈ ns, PyData.strOk x = true) ∧ ∀ r ∈ rs, ∀ x ∈ r.names, PyData.strOk x = true
theorem Laid.ns {ns : List Str} {rs : List Rl} (h : Laid ns rs) : Ly 2 (.list (ns.map PyData.str)) := Ly.list (lyA_of fun d m => by
  obtain ⟨x, mx, rfl⟩ := List.mem_map.mp m
  exact ly_str (h.1 x mx))
theorem Laid.rs {ns : List Str} {rs : List Rl} (h : Laid ns rs) : Ly 6 (.list (rs.map Rl.d)) := Ly.list (lyA_of fun d m => by
  obtain ⟨r, mr, rfl⟩ := List.mem_map.mp m
  exact ly_rl (h.2 r mr))
/-- what == tells of two systems -/
def eqS (ns ns' : List Str) (rs rs' : List Rl) : Bool := PyData.eqv (.list (ns.map PyData.str)) (.list (ns'.map PyData.str)) && PyData.eqv (.list (rs.map Rl.d)) (.list (rs'.map Rl.d))
def sp_System___eq__ (K : PySem.W.Frag) (C : Addr) : Sp := fun vs H Q _ => ∃ a p q ns rs y, vs = [.ref a, y] ∧ SysAt K C H a p q ns rs ∧
  ((∃ t, TyX K H y t ∧ PySem.W.kitOne K t (.ref C) = some false ∧ Q (.bl false) H) ∨
   (∃ b p' q' ns' rs', y = .ref b ∧ SysAt K C H b p' q' ns' rs' ∧ Laid ns rs ∧ Laid ns' rs' ∧ Q (.bl (eqS ns ns' rs rs')) H))

def base6 : List Str := ["x", "y", "ab", "jkv", "q", "lowhere"]
def rowS (x : Str) : Str := ("row" : Str) ++ cutS x none (some 5)
def pool : List Str := base6 ++ base6.map rowS
/-- drawn names -/
structure WordsOk (ws : List Str) : Prop where
  nd : ws.Nodup
  pl : ∀ x ∈ ws, x ∈ pool
theorem pool_ok : ∀ x ∈ pool, nameOk x = true := by decide +kernel
theorem base_nd : base6.Nodup := by decide +kernel
theorem row_nd : (base6.map rowS).Nodup := by decide +kernel
theorem base_short : ∀ x ∈ base6, x.length ≤ 7 := by decide +kernel
theorem words_base {ws left : List Str} (h : (ws ++ left).Perm base6) : WordsOk ws := by
  have nd : (ws ++ left).Nodup := h.nodup_iff.mpr base_nd
  exact ⟨(List.nodup_append.mp nd).1, fun x m => List.mem_append_left _ (h.mem_iff.mp (List.mem_append_left _ m))⟩
theorem words_row {ws left : List Str} (h : (ws ++ left).Perm base6) : WordsOk (ws.map rowS) := by
  have h2 : ((ws ++ left).map rowS).Perm (base6.map rowS) := h.map _
  have nd : ((ws ++ left).map rowS).Nodup := h2.nodup_iff.mpr row_nd
  rw [List.map_append] at nd
  refine ⟨(List.nodup_append.mp nd).1, fun x m => List.mem_append_right _ ?_⟩
  obtain ⟨y, my, rfl⟩ := List.mem_map.mp m
  exact List.mem_map.mpr ⟨y, h.mem_iff.mp (List.mem_append_left _ my), rfl⟩
theorem eraseIdx_map {α β : Type} (f : α → β) : ∀ (l : List α) (k : Nat), (l.map f).eraseIdx k = (l.eraseIdx k).map f
  | [], _ => rfl
  | _ :: _, 0 => rfl
  | a :: l, k + 1 => by
    show f a :: (l.map f).eraseIdx k = f a :: (l.eraseIdx k).map f
    rw [eraseIdx_map f l k]
theorem erase_perm {α : Type} {x : α} : ∀ {l : List α} {k : Nat}, l[k]? = some x → (x :: l.eraseIdx k).Perm l
  | [], _, h => by simp at h
  | a :: l, 0, h => by
    have e : a = x := Option.some.inj h
    subst e
    exact .refl _
  | a :: l, k + 1, h => by
    have ih := erase_perm (l := l) (k := k) (by simpa using h)
    show (x :: a :: l.eraseIdx k).Perm (a :: l)
    exact (List.Perm.swap a x _).trans (ih.cons a)
theorem seqIx {n : Nat} {d : Int} (h0 : 0 ≤ d) (h1 : d < (n : Int)) : seqIndex? d n = some d.toNat := by
  refine (ixN_seq (i := d) ?_).1
  unfold ixN
  rw [if_pos h0, if_pos h1]
theorem ty_lst {K : PySem.W.Frag} {H : Hp} {p : Addr} {xs : List V} (e : H p = some (.lst xs)) : tyV K "list" (.ref p) H := .inl ⟨rfl, xs, .inl (.inl e)⟩
theorem Kp.none_of {g D : Addr} {n : Nat} {H H' : Hp} (k : Kp g H H') (r : RS n H' g) (nD : H' D = none) : H D = none := by
  cases e : H D with
  | none => rfl
  | some o =>
    rw [k _ _ (r.fresh nD) e] at nD
    cases nD
theorem cut_short : ∀ x ∈ base6, (cutS x none (some 5)).length ≤ 7 := by decide +kernel


/-- a drawn range that is not empty -/
def RgGd (r : Rg) : Prop := badR r = false ∧ RgIn (10 ^ 31) r

@[reducible] def nbOk : Rl → Prop
  | .set _ _ _ => True
  | .stp _ _ f a _ _ => f.natAbs ≤ 10 ^ 32 ∧ a.natAbs ≤ 10 ^ 32
/-- a rule drawn for the names ws -/
structure RlGd (ws : List Str) (r : Rl) : Prop where
  nm : ∀ x ∈ r.names, x ∈ ws
  rg : ∀ x ∈ r.rgs, RgGd x
  nz : r.zero = false
  cs : r.cs.length ≤ 2
  nb : nbOk r
theorem RlGd.mono {ws ws' : List Str} {r : Rl} (h : RlGd ws r) (k : ∀ x ∈ ws, x ∈ ws') : RlGd ws' r := ⟨fun x m => k x (h.nm x m), h.rg, h.nz, h.cs, h.nb⟩
theorem str_at {ws : List Str} {d : Int} (h0 : 0 ≤ d) (h1 : d < (ws.length : Int)) : ∃ x ∈ ws, atI (ws.map V.str) d = some (.str x) := by
  obtain ⟨v, e, m⟩ := pick_mem (xs := ws.map V.str) h0 (by rw [List.length_map]; exact h1)
  obtain ⟨x, mx, rfl⟩ := List.mem_map.mp m
  exact ⟨x, mx, e⟩
theorem pick_size {a b d : Int} (a0 : 0 ≤ a) (a1 : a < 9) (b0 : 0 ≤ b) (b1 : b < 9) (h0 : 0 ≤ d) (h1 : d < 8) :
    ∃ z : Int, atI [V.int 1, .int 1, .int 1, .int (-1), .int 2, .int (-2), .int (1 + a), .int (0 - 1 - b)] d = some (.int z) ∧ z ≠ 0 ∧ z.natAbs ≤ 10 ^ 32 := by
  have t : (10 : Nat) ^ 32 = 100000000000000000000000000000000 := by decide
  obtain ⟨v, e, m⟩ := pick_mem (xs := [V.int 1, .int 1, .int 1, .int (-1), .int 2, .int (-2), .int (1 + a), .int (0 - 1 - b)]) h0 h1
  simp only [List.mem_cons, List.not_mem_nil, or_false] at m
  rw [t]
  rcases m with rfl | rfl | rfl | rfl | rfl | rfl | rfl | rfl <;> exact ⟨_, e, by omega, by omega⟩
theorem pick_plus {a b far d : Int} (a0 : 0 ≤ a) (a1 : a < 19) (b0 : 0 ≤ b) (b1 : b < 199) (f0 : -(10 ^ 31) ≤ far) (f1 : far ≤ 10 ^ 31) (h0 : 0 ≤ d) (h1 : d < 7) :
    ∃ z : Int, atI [V.int 0, .int 1, .int (-1), .int (a - 9), .int (b - 99), .int far, .int (0 - far)] d = some (.int z) ∧ z.natAbs ≤ 10 ^ 32 := by
  have t : (10 : Nat) ^ 32 = 100000000000000000000000000000000 := by decide
  have big : (10 : Int) ^ 31 = 10000000000000000000000000000000 := by decide
  rw [big] at f0 f1
  obtain ⟨v, e, m⟩ := pick_mem (xs := [V.int 0, .int 1, .int (-1), .int (a - 9), .int (b - 99), .int far, .int (0 - far)]) h0 h1
  simp only [List.mem_cons, List.not_mem_nil, or_false] at m
  rw [t]
  rcases m with rfl | rfl | rfl | rfl | rfl | rfl | rfl <;> exact ⟨_, e, by omega⟩
theorem dpa_snoc {K : PySem.W.Frag} {H : Hp} {ys : List V} {y : V} {cs : List Cd} {c : Cd} (h : DpAll K H ys (cs.map cdD)) (d : Dp K H y (cdD c)) : DpAll K H (ys ++ [y]) ((cs ++ [c]).map cdD) := by
  rw [List.map_append]
  exact dpa_app h (dpa_one d)
theorem noL_map (cs : List Cd) : ∀ d ∈ cs.map cdD, NoL d := fun d m => by
  obtain ⟨c, _, rfl⟩ := List.mem_map.mp m
  exact noL_cd c
theorem RgV.kl {K : PySem.W.Frag} {H H' : Hp} {a : Addr} {v : V} {r : Rg} (k : Kl a H H') (h : RgV K H v r) : RgV K H' v r := by
  obtain ⟨⟨ys, e⟩, kp⟩ := k
  exact RgV.kpl kp e h

/-- rules drawn for the names ws -/
def RowsGd (ws : List Str) (rs : List Rl) : Prop := ∀ r ∈ rs, RlGd ws r
theorem noL_rls (rs : List Rl) : ∀ d ∈ rs.map Rl.d, NoL d := fun d m => by
  obtain ⟨r, _, rfl⟩ := List.mem_map.mp m
  exact noL_rl r
theorem ten9 : CPowW 10 9 := ⟨by decide, by decide⟩
theorem pick_far {d : Int} (h0 : 0 ≤ d) (h1 : d < 3) :
    ∃ z : Int, atI [V.int 99, .int ((10 : Int) ^ (9 : Int).toNat), .int ((10 : Int) ^ (31 : Int).toNat)] d = some (.int z) ∧ -(10 ^ 31) ≤ z ∧ z ≤ 10 ^ 31 := by
  obtain ⟨v, e, m⟩ := pick_mem (xs := [V.int 99, .int ((10 : Int) ^ (9 : Int).toNat), .int ((10 : Int) ^ (31 : Int).toNat)]) h0 h1
  simp only [List.mem_cons, List.not_mem_nil, or_false] at m
  rcases m with rfl | rfl | rfl
  · exact ⟨_, e, by decide, by decide⟩
  · exact ⟨_, e, by decide, by decide⟩
  · exact ⟨_, e, by decide, by decide⟩

theorem rising_pw : ∀ (l : List Str) (p : Str), risingS p l = true → (p :: l).Pairwise (fun a b => ¬ b.cps.toList < a.cps.toList)
  | [], p, _ => List.pairwise_singleton _ _
  | x :: r, p, h => by
    have h' : (!ltCps x.cps.toList p.cps.toList && risingS x r) = true := h
    rw [Bool.and_eq_true, ltCps_eq, Bool.not_eq_true', decide_eq_false_iff_not] at h'
    have ih := rising_pw r x h'.2
    refine List.pairwise_cons.mpr ⟨fun y my => ?_, ih⟩
    rcases List.mem_cons.mp my with rfl | my
    · exact h'.1
    · have hxy := (List.pairwise_cons.mp ih).1 y my
      have a1 : p.cps.toList ≤ x.cps.toList := h'.1
      have a2 : x.cps.toList ≤ y.cps.toList := hxy
      exact List.le_trans a1 a2
theorem sorted_pw {l : List Str} (h : sortedS l = true) : l.Pairwise (fun a b => ¬ b.cps.toList < a.cps.toList) := by
  cases l with
  | nil => exact .nil
  | cons x r => exact rising_pw r x h
/-- the ascending arrangement is one -/
theorem sorted_unique {a b : List Str} (p : a.Perm b) (ha : sortedS a = true) (hb : sortedS b = true) : a = b := by
  refine List.Perm.eq_of_pairwise (fun x y _ _ h1 h2 => ?_) (sorted_pw ha) (sorted_pw hb) p
  have a1 : x.cps.toList ≤ y.cps.toList := h1
  have a2 : y.cps.toList ≤ x.cps.toList := h2
  have e := List.le_antisymm a1 a2
  cases x with
  | mk xs => cases y with
    | mk ys =>
      have e' : xs.toList = ys.toList := e
      rw [Array.toList_inj.mp e']
/-! ### what repr and == ask -/
theorem dall_of {n k : Nat} : ∀ {ds : List PyData}, (∀ d ∈ ds, DOk n k d) → DAll (ds.length * (n + 1)) k ds
  | [], _ => DAll.nil.mono (Nat.zero_le _) (Nat.zero_le _)
  | d :: ds, h => by
    have z := DAll.cons (h d (by simp)) (dall_of (ds := ds) fun x m => h x (by simp [m]))
    rw [Nat.max_self] at z
    refine z.mono ?_ (Nat.le_refl _)
    rw [List.length_cons, Nat.succ_mul]
    omega
theorem dok_name {x : Str} (h : nameOk x = true) : DOk 20 1 (.str x) := by
  have so := strOk_of h
  refine DOk.str ?_ (by have := nameOk_size h; omega) so
  unfold nameOk at h
  rw [Bool.and_eq_true] at h
  rw [List.all_eq_true]
  intro c m
  have := List.all_eq_true.mp h.2 c m
  rw [Bool.and_eq_true] at this
  have := of_decide_eq_true this.2
  exact decide_eq_true (Nat.lt_of_le_of_lt this (by decide))
theorem dok_oD {m : Int} (hm : m ≤ 10 ^ 40) {o : Option Int} (h : BdOk m o) : DOk 0 1 (oD o) := by
  cases o with
  | none => exact .none
  | some i =>
    refine .int ?_
    obtain ⟨h1, h2⟩ := (show -m ≤ i ∧ i ≤ m from h)
    have t40 : (10 : Int) ^ 40 = 10000000000000000000000000000000000000000 := by decide
    have t60 : (10 : Nat) ^ 60 = 1000000000000000000000000000000000000000000000000000000000000 := by decide
    rw [t40] at hm
    rw [t60]
    omega
theorem dok_rg {m : Int} (hm : m ≤ 10 ^ 40) {r : Rg} (h : RgIn m r) : DOk 2 2 (rgD r) := by
  match r, h with
  | none, _ => exact DOk.none.mono (by decide) (by decide)
  | some (l, u), h => exact (DOk.tuple (.cons (dok_oD hm h.1) (.cons (dok_oD hm h.2) .nil))).mono (by decide) (by decide)
theorem m31 : (10 : Int) ^ 31 ≤ 10 ^ 40 := by decide
theorem dok_cd {ws : List Str} {c : Cd} (hn : nameOk c.1 = true) (hr : RgGd c.2) : DOk 30 3 (cdD c) :=
  (DOk.tuple (.cons (dok_name hn) (.cons (dok_rg m31 hr.2) .nil))).mono (by decide) (by decide)
theorem dok_cds {cs : List Cd} (h : ∀ c ∈ cs, nameOk c.1 = true ∧ RgGd c.2) (l : cs.length ≤ 2) : DOk 62 4 (.tuple (cs.map cdD)) := by
  refine (DOk.tuple (dall_of (n := 30) (k := 3) fun d m => ?_)).mono ?_ (by decide)
  · obtain ⟨c, mc, rfl⟩ := List.mem_map.mp m
    exact dok_cd (ws := []) (h c mc).1 (h c mc).2
  · rw [List.length_map]
    have := Nat.mul_le_mul_right (30 + 1) l
    omega
theorem dok_rl {ws : List Str} (hw : ∀ x ∈ ws, nameOk x = true) {r : Rl} (h : RlGd ws r) : DOk 150 5 r.d := by
  have t32 : (10 : Nat) ^ 32 < 10 ^ 60 := by decide
  match r, h with
  | .set x rr cs, h =>
    have hx := hw x (h.nm x List.mem_cons_self)
    have hc : ∀ c ∈ cs, nameOk c.1 = true ∧ RgGd c.2 := fun c m => ⟨hw _ (h.nm c.1 (List.mem_cons_of_mem _ (List.mem_map.mpr ⟨c, m, rfl⟩))), h.rg c.2 (List.mem_cons_of_mem _ (List.mem_map.mpr ⟨c, m, rfl⟩))⟩
    exact (DOk.tuple (.cons (.str (by decide +kernel) (by decide +kernel) (by decide +kernel)) (.cons (dok_name hx) (.cons (dok_rg m31 (h.rg rr List.mem_cons_self).2) (.cons (dok_cds hc h.cs) .nil))))).mono (by decide) (by decide)
  | .stp x y f a rr cs, h =>
    have hx := hw x (h.nm x List.mem_cons_self)
    have hy := hw y (h.nm y (List.mem_cons_of_mem _ List.mem_cons_self))
    have hc : ∀ c ∈ cs, nameOk c.1 = true ∧ RgGd c.2 := fun c m => ⟨hw _ (h.nm c.1 (List.mem_cons_of_mem _ (List.mem_cons_of_mem _ (List.mem_map.mpr ⟨c, m, rfl⟩)))), h.rg c.2 (List.mem_cons_of_mem _ (List.mem_map.mpr ⟨c, m, rfl⟩))⟩
    have nb : f.natAbs ≤ 10 ^ 32 ∧ a.natAbs ≤ 10 ^ 32 := h.nb
    exact (DOk.tuple (.cons (.str (by decide +kernel) (by decide +kernel) (by decide +kernel)) (.cons (dok_name hx) (.cons (dok_name hy) (.cons (.int (Nat.lt_of_le_of_lt nb.1 t32)) (.cons (.int (Nat.lt_of_le_of_lt nb.2 t32))
      (.cons (dok_rg m31 (h.rg rr List.mem_cons_self).2) (.cons (dok_cds hc h.cs) .nil)))))))).mono (by decide) (by decide)
theorem WordsOk.ok {ws : List Str} (h : WordsOk ws) : ∀ x ∈ ws, nameOk x = true := fun x m => pool_ok x (h.pl x m)
theorem dok_rows {ws : List Str} (hw : ∀ x ∈ ws, nameOk x = true) {rs : List Rl} (h : RowsGd ws rs) (l : rs.length ≤ 20) : DOk 3020 6 (.list (rs.map Rl.d)) := by
  refine (DOk.list (dall_of (n := 150) (k := 5) fun d m => ?_)).mono ?_ (by decide)
  · obtain ⟨c, mc, rfl⟩ := List.mem_map.mp m
    exact dok_rl hw (h c mc)
  · rw [List.length_map]
    have := Nat.mul_le_mul_right (150 + 1) l
    omega
theorem dok_names {ws : List Str} (hw : ∀ x ∈ ws, nameOk x = true) (l : ws.length ≤ 20) : DOk 420 2 (.list (ws.map PyData.str)) := by
  refine (DOk.list (dall_of (n := 20) (k := 1) fun d m => ?_)).mono ?_ (by decide)
  · obtain ⟨c, mc, rfl⟩ := List.mem_map.mp m
    exact dok_name (hw c mc)
  · rw [List.length_map]
    have := Nat.mul_le_mul_right (20 + 1) l
    omega
theorem eqv_nil : ∀ ds : List PyData, PyData.eqv (.list ds) (.list []) = decide (ds = [])
  | [] => by simp [PyData.eqv, PyData.eqvAll]
  | d :: ds => by simp [PyData.eqv, PyData.eqvAll]
theorem eqv_strs : ∀ {a b : List Str}, PyData.eqvAll (a.map PyData.str) (b.map PyData.str) = true → a = b
  | [], [], _ => rfl
  | [], _ :: _, h => by simp [PyData.eqvAll] at h
  | _ :: _, [], h => by simp [PyData.eqvAll] at h
  | x :: a, y :: b, h => by
    simp only [List.map_cons, PyData.eqvAll, PyData.eqv, Bool.and_eq_true, beq_iff_eq] at h
    rw [h.1, eqv_strs h.2]
theorem eqS_names {a b : List Str} {rs rs' : List Rl} (h : a ≠ b) : eqS a b rs rs' = false := by
  cases c : eqS a b rs rs' with
  | false => rfl
  | true =>
    unfold eqS at c
    rw [Bool.and_eq_true] at c
    have z := c.1
    simp only [PyData.eqv] at z
    exact absurd (eqv_strs z) h
theorem eqS_self {ns : List Str} {rs rs' : List Rl} (h : Laid ns rs) : eqS ns ns rs rs' = PyData.eqv (.list (rs.map Rl.d)) (.list (rs'.map Rl.d)) := by
  unfold eqS
  rw [h.ns.eqv, Bool.true_and]
/-! ### systems of drawn words and rules -/
theorem rlGd_faulty {ws : List Str} {r : Rl} (h : RlGd ws r) : r.faulty ws = false := by
  unfold Rl.faulty
  rw [h.nz, Bool.false_or, Bool.or_eq_false_iff]
  constructor
  · rw [List.any_eq_false]
    intro x m
    rw [decide_eq_true (h.nm x m)]
    decide
  · rw [List.any_eq_false]
    intro x m
    rw [(h.rg x m).1]
    decide
theorem sysOk_of {ws : List Str} {rs : List Rl} (hw : WordsOk ws) (hr : RowsGd ws rs) (l : ws.length ≤ 20) (l2 : rs.length ≤ 1000) : SysOk ws rs :=
  ⟨hw.nd, hw.ok, fun r m => rlGd_faulty (hr r m), fun r m => Nat.le_trans (hr r m).cs (by decide), by omega, l2⟩
theorem laid_of {ws ss : List Str} {rs : List Rl} (hw : WordsOk ws) (hr : RowsGd ws rs) (p : ss.Perm ws) : Laid ss rs :=
  ⟨fun x m => strOk_of (hw.ok x (p.mem_iff.mp m)), fun r m x mx => strOk_of (hw.ok x ((hr r m).nm x mx))⟩
theorem RowsGd.app {ws : List Str} {a b : List Rl} (ha : RowsGd ws a) (hb : RowsGd ws b) : RowsGd ws (a ++ b) := fun r m => (List.mem_append.mp m).elim (ha r) (hb r)
theorem RowsGd.sub {ws : List Str} {a b : List Rl} (ha : RowsGd ws a) (h : ∀ r ∈ b, r ∈ a) : RowsGd ws b := fun r m => ha r (h r m)
theorem WordsOk.rev {ws : List Str} (h : WordsOk ws) : WordsOk ws.reverse := ⟨(List.reverse_perm ws).nodup_iff.mpr h.nd, fun x m => h.pl x (List.mem_reverse.mp m)⟩
theorem SysAt.ty {K : PySem.W.Frag} {mg : Str → Option Value} {C : Addr} (T : SysT K mg C) {H : Hp} {a p q : Addr} {ns : List Str} {rs : List Rl} (h : SysAt K C H a p q ns rs) : TyX K H (.ref a) (.ref C) := by
  obtain ⟨dx, fs, xs, h1, _⟩ := h
  exact .base (.ins h1 T.ck.cl T.ha T.hn T.ht T.hm)
theorem SysAt.ins {K : PySem.W.Frag} {C : Addr} {H : Hp} {a p q : Addr} {ns : List Str} {rs : List Rl} (h : SysAt K C H a p q ns rs) : ∃ dx fs, H a = some (.ins C dx fs) := by
  obtain ⟨dx, fs, xs, h1, _⟩ := h
  exact ⟨dx, fs, h1⟩
theorem SysAt.insM {K : PySem.W.Frag} {C : Addr} {H : Hp} {a p q : Addr} {ns : List Str} {rs : List Rl} (h : SysAt K C H a p q ns rs) : ∃ dx fs, H a = some (.ins C dx fs) ∧ ∀ m : Str, m ≠ "_names" → m ≠ "_rules" → fs.lookup m = none := by
  obtain ⟨dx, fs, xs, h1, h2, h3, h4, h5, h6, h7⟩ := h
  exact ⟨dx, fs, h1, h7⟩
/-- a system is made -/
theorem mk_sys {K : PySem.W.Frag} {C : Addr} {H1 : Hp} {a b : Addr} {ns : List Str} {xs : List V} {rs : List Rl} {Q : Addr → Hp → Prop} {E : XK} (ha : SqL K H1 a (ns.map V.str)) (hb : SqL K H1 b xs) (dr : DpAll K H1 xs (rs.map Rl.d)) (ok : SysOk ns rs)
    (q : ∀ x H' p r ss, ss.Perm ns → sortedS ss = true → Same H1 H' → H1 x = none → H1 p = none → H1 r = none → SysAt K C H' x p r ss rs → Q x H') :
    ∀ x dx, H1 x = none → H1 dx = none → dx ≠ x → sp_System___init__ K C (.ref x :: ([.ref a, .ref b] ++ [])) (upd (upd H1 dx (.own x)) x (.ins C dx [])) (fun v H2 => v = .non ∧ Q x H2) E := by
  intro x dx nx nd ne
  have s1 : Same H1 (upd H1 dx (.own x)) := Same.new nd
  have nx1 : upd H1 dx (.own x) x = none := by rw [upd_ne (Ne.symm ne)]; exact nx
  have s2 := s1.trans (Same.new (o := .ins C dx []) nx1)
  have old : ∀ {b : Addr}, upd (upd H1 dx (.own x)) x (.ins C dx []) b = none → H1 b = none := fun {b} e => by
    cases z : H1 b with
    | none => rfl
    | some u => rw [s2 _ _ z] at e; cases e
  refine ⟨x, dx, a, b, ns, xs, rs, rfl, upd_same, s2.seq ha, s2.seq hb, dpa_same s2 dr, ok, fun H' p r ss pm so kp np nr sa => ⟨rfl, ?_⟩⟩
  exact q x H' p r ss pm so (fun c u e => kp _ _ (ne_of_none e nx) (s2 _ _ e)) nx (old np) (old nr) sa
theorem SysAt.kl {K : PySem.W.Frag} {C b : Addr} {H H' : Hp} {a p q : Addr} {ns : List Str} {rs : List Rl} (k : Kl b H H') (hp : p ≠ b) (hq : q ≠ b) (h : SysAt K C H a p q ns rs) : SysAt K C H' a p q ns rs := by
  obtain ⟨dx, fs, xs, h1, h2, h3, h4, h5, h6, h7⟩ := h
  obtain ⟨ys, e⟩ := k.1
  exact ⟨dx, fs, xs, k.2 _ _ (ne_of h1 e (fun z => by cases z)) h1, h2, h3, k.2 _ _ hp h4, k.2 _ _ hq h5, dpa_kl k h6 (noL_rls rs), h7⟩

def sp__law_range (K : PySem.W.Frag) : Sp := fun vs H Q _ => ∃ a b n, vs = [.ref a, .bl b] ∧ RP n H a ∧ n ≤ 800000 ∧
  ∀ v r H', RgGd r → Kp a H H' → RP (n + 10) H' a → RgV K H' v r → Q v H'

def longN : List Str := ["counterx", "countery", "xounterx", "counxerx", "counter", "countern"]
def signN : List Str := ["x", "b", "a", "xa", "m", "c"]
def startS (k : Nat) : Str := cutS "loop" none (some (k : Int))
theorem long_ok : ∀ x ∈ longN, nameOk x = true := by decide +kernel
theorem long_nd : longN.Nodup := by decide +kernel
theorem sign_ok : ∀ k ∈ [0, 1, 2, 3, 4], (∀ x ∈ signN.map (startS k ++ ·), nameOk x = true) ∧ (signN.map (startS k ++ ·)).Nodup := by decide +kernel
theorem sign_short : ∀ k ∈ [0, 1, 2, 3, 4], ∀ x ∈ signN, (startS k).length + x.length ≤ 100 := by decide +kernel
/-- drawn names -/
structure TitlesOk (ws : List Str) : Prop where
  nd : ws.Nodup
  ok : ∀ x ∈ ws, nameOk x = true
  l0 : ws ≠ []
  l6 : ws.length ≤ 6
theorem titles_of {l : List Str} (nd : l.Nodup) (ok : ∀ x ∈ l, nameOk x = true) (ln : l.length = 6) {k : Nat} (k0 : 0 < k) : TitlesOk (l.take k) := by
  refine ⟨nd.sublist (List.take_sublist _ _), fun x m => ok x (List.mem_of_mem_take m), fun z => ?_, ?_⟩
  · have := congrArg List.length z
    rw [List.length_take, ln] at this
    simp at this
    omega
  · rw [List.length_take]
    omega
theorem cut_upto (xs : List V) (k : Nat) : cutV xs none (some (k : Int)) = xs.take k := by
  unfold cutV
  rw [HT.sIx_none, HT.sIx_nat, List.drop_zero, Nat.sub_zero]
  by_cases h : k ≤ xs.length
  · rw [Nat.min_eq_left h]
  · rw [Nat.min_eq_right (by omega), List.take_length, List.take_of_length_le (by omega)]
def sp__law_titles (K : PySem.W.Frag) : Sp := fun vs H Q _ => ∃ a n, vs = [.ref a] ∧ RP n H a ∧ n ≤ 800000 ∧
  ∀ p H' ws, Kp a H H' → RP (n + 5) H' a → H p = none → H' p = some (.lst (ws.map V.str)) → TitlesOk ws → Q (.ref p) H'

theorem pick_few {d : Int} (h0 : 0 ≤ d) (h1 : d < 5) : ∃ z : Int, atI [V.int 0, .int 0, .int 0, .int 1, .int 2] d = some (.int z) ∧ 0 ≤ z ∧ z ≤ 2 := by
  obtain ⟨v, e, m⟩ := pick_mem (xs := [V.int 0, .int 0, .int 0, .int 1, .int 2]) h0 h1
  simp only [List.mem_cons, List.not_mem_nil, or_false] at m
  rcases m with rfl | rfl | rfl | rfl | rfl <;> exact ⟨_, e, by omega, by omega⟩
theorem pick_fac {a b d : Int} (a0 : 0 ≤ a) (a1 : a < 9) (b0 : 0 ≤ b) (b1 : b < 9) (h0 : 0 ≤ d) (h1 : d < 8) :
    ∃ z : Int, atI [V.int 1, .int 1, .int (-1), .int 2, .int (-2), .int (-1), .int (a + 1), .int (0 - 1 - b)] d = some (.int z) ∧ z ≠ 0 ∧ z.natAbs ≤ 9 := by
  obtain ⟨v, e, m⟩ := pick_mem (xs := [V.int 1, .int 1, .int (-1), .int 2, .int (-2), .int (-1), .int (a + 1), .int (0 - 1 - b)]) h0 h1
  simp only [List.mem_cons, List.not_mem_nil, or_false] at m
  rcases m with rfl | rfl | rfl | rfl | rfl | rfl | rfl | rfl <;> exact ⟨_, e, by omega, by omega⟩
theorem RowsGd.snoc {ws : List Str} {rr : List Rl} {r : Rl} (h : RowsGd ws rr) (k : RlGd ws r) : RowsGd ws (rr ++ [r]) := fun z mz => by
  rcases List.mem_append.mp mz with mz | mz
  · exact h z mz
  · obtain rfl : z = r := by simpa using mz
    exact k
@[reducible] def FacOk : Rl → Prop
  | .set _ _ _ => True
  | .stp _ _ f _ _ _ => f.natAbs ≤ 9
/-- the conditions so far -/
def CdsOk (ws : List Str) (cs : List Cd) : Prop := ∀ z ∈ cs, z.1 ∈ ws ∧ RgGd z.2
theorem CdsOk.snoc {ws : List Str} {cs : List Cd} {c : Cd} (h : CdsOk ws cs) (k : c.1 ∈ ws ∧ RgGd c.2) : CdsOk ws (cs ++ [c]) := fun z mz => by
  rcases List.mem_append.mp mz with mz | mz
  · exact h z mz
  · obtain rfl : z = c := by simpa using mz
    exact k
theorem CdsOk.sub {ws : List Str} {cs ds : List Cd} (h : CdsOk ws cs) (k : ∀ z ∈ ds, z ∈ cs) : CdsOk ws ds := fun z mz => h z (k z mz)
theorem rlGd_set {ws : List Str} {x : Str} {r : Rg} {cs : List Cd} (hx : x ∈ ws) (gr : RgGd r) (gc : CdsOk ws cs) (l : cs.length ≤ 2) : RlGd ws (.set x r cs) := by
  refine ⟨fun z mz => ?_, fun z mz => ?_, rfl, l, trivial⟩
  · rcases List.mem_cons.mp mz with rfl | mz
    · exact hx
    · obtain ⟨c, mc, rfl⟩ := List.mem_map.mp mz
      exact (gc c mc).1
  · rcases List.mem_cons.mp mz with rfl | mz
    · exact gr
    · obtain ⟨c, mc, rfl⟩ := List.mem_map.mp mz
      exact (gc c mc).2
theorem rlGd_stp {ws : List Str} {x y : Str} {f a : Int} {r : Rg} {cs : List Cd} (hx : x ∈ ws) (hy : y ∈ ws) (f0 : f ≠ 0) (f9 : f.natAbs ≤ 9) (a0 : -(10 ^ 31) ≤ a) (a1 : a ≤ 10 ^ 31) (gr : RgGd r) (gc : CdsOk ws cs) (l : cs.length ≤ 2) : RlGd ws (.stp x y f a r cs) := by
  refine ⟨fun z mz => ?_, fun z mz => ?_, decide_eq_false f0, l, ?_, ?_⟩
  · rcases List.mem_cons.mp mz with rfl | mz
    · exact hx
    rcases List.mem_cons.mp mz with rfl | mz
    · exact hy
    · obtain ⟨c, mc, rfl⟩ := List.mem_map.mp mz
      exact (gc c mc).1
  · rcases List.mem_cons.mp mz with rfl | mz
    · exact gr
    · obtain ⟨c, mc, rfl⟩ := List.mem_map.mp mz
      exact (gc c mc).2
  · have t : (10 : Nat) ^ 32 = 100000000000000000000000000000000 := by decide
    omega
  · have t : (10 : Nat) ^ 32 = 100000000000000000000000000000000 := by decide
    have big : (10 : Int) ^ 31 = 10000000000000000000000000000000 := by decide
    omega
theorem dp_set {K : PySem.W.Frag} {H : Hp} {p l : Addr} {x : Str} {v : V} {r : Rg} {ys : List V} {cs : List Cd} (op : H p = some (.tup [.str "set", .str x, v, .ref l])) (hv : RgV K H v r) (ol : SqT K H l ys) (dc : DpAll K H ys (cs.map cdD)) : Dp K H (.ref p) (Rl.d (.set x r cs)) :=
  .tup (.inl (.inl op)) (.cons (.str _) (.cons (.str _) (.cons (dp_rg hv) (.cons (.tup ol dc) .nil))))
theorem dp_stp {K : PySem.W.Frag} {H : Hp} {p l : Addr} {x y : Str} {f a : Int} {v : V} {r : Rg} {ys : List V} {cs : List Cd} (op : H p = some (.tup [.str "step", .str x, .str y, .int f, .int a, v, .ref l])) (hv : RgV K H v r) (ol : SqT K H l ys) (dc : DpAll K H ys (cs.map cdD)) : Dp K H (.ref p) (Rl.d (.stp x y f a r cs)) :=
  .tup (.inl (.inl op)) (.cons (.str _) (.cons (.str _) (.cons (.str _) (.cons (.int _) (.cons (.int _) (.cons (dp_rg hv) (.cons (.tup ol dc) .nil)))))))
theorem dpa_take {K : PySem.W.Frag} {H : Hp} : ∀ {vs : List V} {cs : List Cd} {k : Nat}, DpAll K H vs (cs.map cdD) → DpAll K H (vs.take k) ((cs.take k).map cdD)
  | _, _, 0, _ => .nil
  | [], [], _ + 1, _ => .nil
  | v :: vs, c :: cs, k + 1, .cons a b => .cons a (dpa_take b)
def sp__law_rules (K : PySem.W.Frag) : Sp := fun vs H Q _ => ∃ g w m n ws, vs = [.ref g, .ref w, .int m] ∧ RP n H g ∧ n ≤ 700000 ∧ w ≠ g ∧ SqL K H w (ws.map V.str) ∧ TitlesOk ws ∧ 0 ≤ m ∧ m ≤ 12 ∧
  ∀ p H' xs rr, RowsGd ws rr → (∀ r ∈ rr, FacOk r) → rr.length = m.toNat → Kp g H H' → RP (n + 1000) H' g → H p = none → H' p = some (.lst xs) → DpAll K H' xs (rr.map Rl.d) → Q (.ref p) H'

/-- a range for each name -/
abbrev Hd := Str → Rg
structure Held (K : PySem.W.Frag) (H : Hp) (a : Addr) (ws : List Str) (f : Hd) : Prop where
  dc : Dct K H a ws (ws.map fun x => rgD (f x))
  nd : ws.Nodup
  gd : ∀ x ∈ ws, RgFit (f x) ∧ RgIn (10 ^ 31) (f x)
theorem Held.same {K : PySem.W.Frag} {H H' : Hp} {a : Addr} {ws : List Str} {f : Hd} (k : Same H H') (h : Held K H a ws f) : Held K H' a ws f := ⟨h.dc.same k, h.nd, h.gd⟩
theorem Held.kl {K : PySem.W.Frag} {H H' : Hp} {a g : Addr} {ws : List Str} {f : Hd} (k : Kl g H H') (h : Held K H a ws f) : Held K H' a ws f := ⟨h.dc.kl k, h.nd, h.gd⟩
theorem Held.get {K : PySem.W.Frag} {H : Hp} {a : Addr} {ws : List Str} {f : Hd} (h : Held K H a ws f) {x : Str} (m : x ∈ ws) : ∃ v, DGet H a (.str x) (some v) ∧ RgV K H v (f x) := by
  obtain ⟨vs, l, e, d⟩ := h.dc.ex
  obtain ⟨i, lt, ei⟩ := List.getElem_of_mem m
  have e1 : ws[i]? = some x := by rw [List.getElem?_eq_getElem lt, ei]
  have lt2 : i < vs.length := by omega
  have e2 : vs[i]? = some vs[i] := List.getElem?_eq_getElem lt2
  obtain ⟨y, ey, dv⟩ := dpa_map_get d e2
  have : y = x := Option.some.inj (ey.symm.trans e1)
  subst this
  refine ⟨vs[i], ?_, dp_rg_inv dv⟩
  have z := DGet.k (k := Sum.inr y) e
  rw [valV_kv h.nd e1 e2] at z
  exact z
theorem fit_of_bad {r : Rg} (h : badR r = false) : RgFit r := by
  match r, h with
  | none, _ => trivial
  | some (none, _), _ => trivial
  | some (some _, none), _ => trivial
  | some (some l, some u), h =>
    have h' : (false || decide (l > u)) = false := h
    rw [Bool.false_or] at h'
    have := of_decide_eq_false h'
    show l ≤ u
    omega
theorem RgGd.fit {r : Rg} (h : RgGd r) : RgFit r := fit_of_bad h.1
theorem gr_in {m : Int} {a b : Option Int} (ha : BdOk m a) (hb : BdOk m b) : BdOk m (gr a b) := by
  cases a with
  | none => exact hb
  | some x =>
    cases b with
    | none => exact ha
    | some y =>
      show BdOk m (some (if y > x then y else x))
      split
      · exact hb
      · exact ha
theorem le2_in {m : Int} {a b : Option Int} (ha : BdOk m a) (hb : BdOk m b) : BdOk m (le2 a b) := by
  cases a with
  | none => exact hb
  | some x =>
    cases b with
    | none => exact ha
    | some y =>
      show BdOk m (some (if y < x then y else x))
      split
      · exact hb
      · exact ha
theorem comR_in {m : Int} {r1 r2 : Rg} (h1 : RgIn m r1) (h2 : RgIn m r2) : RgIn m (comR r1 r2) := by
  match r1, r2, h1, h2 with
  | none, none, _, _ => trivial
  | none, some _, _, _ => trivial
  | some _, none, _, _ => trivial
  | some (l1, u1), some (l2, u2), h1, h2 =>
    show RgIn m (if up (some (gr l1 l2, le2 u1 u2)) = true then none else some (gr l1 l2, le2 u1 u2))
    split
    · trivial
    · exact ⟨gr_in h1.1 h2.1, le2_in h1.2 h2.2⟩
theorem comR_fit {r1 r2 : Rg} : RgFit (comR r1 r2) := by
  match r1, r2 with
  | none, none => trivial
  | none, some _ => trivial
  | some _, none => trivial
  | some (l1, u1), some (l2, u2) =>
    show RgFit (if up (some (gr l1 l2, le2 u1 u2)) = true then none else some (gr l1 l2, le2 u1 u2))
    split
    · trivial
    · rename_i h
      generalize gr l1 l2 = a at h
      generalize le2 u1 u2 = b at h
      match a, b, h with
      | none, _, _ => trivial
      | some _, none, _ => trivial
      | some x, some y, h =>
        show x ≤ y
        have h3 : ¬ x > y := fun z => h (show decide (x > y) = true from decide_eq_true z)
        omega
theorem szO_in {o : Option Int} (h : BdOk (10 ^ 31) o) : SzO o := by
  intro i e
  subst e
  have h' : -(10 : Int) ^ 31 ≤ i ∧ i ≤ (10 : Int) ^ 31 := h
  have big : (10 : Int) ^ 31 = 10000000000000000000000000000000 := by decide
  rw [big] at h'
  have : i.natAbs < 2 ^ 110 := by
    have : (2 : Nat) ^ 110 = 1298074214633706907132624082305024 := by decide
    omega
  exact Nat.lt_of_lt_of_le this (Nat.pow_le_pow_right (by decide) (by decide))
theorem szR_in {r : Rg} (h : RgIn (10 ^ 31) r) : SzR r := by
  match r, h with
  | none, _ => trivial
  | some (l, u), h => exact ⟨szO_in h.1, szO_in h.2⟩
/-- whether a rule counts -/
def onC (f : Hd) (c : Cd) : Bool := (comR (f c.1) c.2).isSome
def onR (f : Hd) : Rl → Bool
  | .set _ _ cs => cs.all (onC f)
  | .stp _ y _ _ r cs => cs.all (onC f) && (comR (f y) r).isSome
/-- what it gives -/
def giftR (f : Hd) (r : Rl) : Rg := if onR f r = true then (match r with | .set _ rr _ => rr | .stp _ y fa a rr _ => stepR fa a (comR (f y) rr)) else none
theorem RlGd.cdn {ws : List Str} {r : Rl} (h : RlGd ws r) : ∀ c ∈ r.cs, c.1 ∈ ws ∧ RgGd c.2 := by
  match r, h with
  | .set x rr cs, h => exact fun c m => ⟨h.nm _ (List.mem_cons_of_mem _ (List.mem_map.mpr ⟨c, m, rfl⟩)), h.rg _ (List.mem_cons_of_mem _ (List.mem_map.mpr ⟨c, m, rfl⟩))⟩
  | .stp x y f a rr cs, h => exact fun c m => ⟨h.nm _ (List.mem_cons_of_mem _ (List.mem_cons_of_mem _ (List.mem_map.mpr ⟨c, m, rfl⟩))), h.rg _ (List.mem_cons_of_mem _ (List.mem_map.mpr ⟨c, m, rfl⟩))⟩
theorem take_succ {α : Type} {l : List α} {i : Nat} {x : α} (h : l[i]? = some x) : l.take (i + 1) = l.take i ++ [x] := by
  rw [List.take_add_one, h]
  rfl


def sp_rule_counts (K : PySem.W.Frag) : Sp := fun vs H Q _ => ∃ v r a ws f, vs = [v, .ref a] ∧ Dp K H v (Rl.d r) ∧ Held K H a ws f ∧ RlGd ws r ∧ ∀ H', Same H H' → Q (.bl (onR f r)) H'

def sp_rule_gives (K : PySem.W.Frag) : Sp := fun vs H Q _ => ∃ v r a ws f, vs = [v, .ref a] ∧ Dp K H v (Rl.d r) ∧ Held K H a ws f ∧ RlGd ws r ∧ (∀ x y fa a rr cs, r = .stp x y fa a rr cs → fa.natAbs < 2 ^ 64) ∧ ∀ v' H', Same H H' → RgV K H' v' (giftR f r) → Q v' H'

/-- the bounds that there are -/
def numsO (l : List (Option Int)) : List Int := l.filterMap id
theorem numsO_snoc {l : List (Option Int)} {i : Nat} {o : Option Int} (h : l[i]? = some o) : numsO (l.take (i + 1)) = numsO (l.take i) ++ (match o with | none => [] | some z => [z]) := by
  unfold numsO
  rw [take_succ h, List.filterMap_append]
  cases o <;> rfl
theorem gr_nums (a b : Option Int) : (gr a b = none ∧ numsO [a, b] = []) ∨ ∃ m, gr a b = some m ∧ numsO [a, b] ≠ [] ∧ m ∈ numsO [a, b] ∧ ∀ y, y ∈ numsO [a, b] → y ≤ m := by
  match a, b with
  | none, none => exact .inl ⟨rfl, rfl⟩
  | none, some y => exact .inr ⟨y, rfl, by simp [numsO], by simp [numsO], fun z m => by simp [numsO] at m; omega⟩
  | some x, none => exact .inr ⟨x, rfl, by simp [numsO], by simp [numsO], fun z m => by simp [numsO] at m; omega⟩
  | some x, some y =>
    refine .inr ⟨if y > x then y else x, rfl, by simp [numsO], ?_, fun z m => ?_⟩
    · simp [numsO]
      omega
    · simp [numsO] at m
      split <;> omega
theorem le2_nums (a b : Option Int) : (le2 a b = none ∧ numsO [a, b] = []) ∨ ∃ m, le2 a b = some m ∧ numsO [a, b] ≠ [] ∧ m ∈ numsO [a, b] ∧ ∀ y, y ∈ numsO [a, b] → m ≤ y := by
  match a, b with
  | none, none => exact .inl ⟨rfl, rfl⟩
  | none, some y => exact .inr ⟨y, rfl, by simp [numsO], by simp [numsO], fun z m => by simp [numsO] at m; omega⟩
  | some x, none => exact .inr ⟨x, rfl, by simp [numsO], by simp [numsO], fun z m => by simp [numsO] at m; omega⟩
  | some x, some y =>
    refine .inr ⟨if y < x then y else x, rfl, by simp [numsO], ?_, fun z m => ?_⟩
    · simp [numsO]
      omega
    · simp [numsO] at m
      split <;> omega
theorem ly_ints (ns : List Int) : Ly 2 (.list (ns.map PyData.int)) := Ly.list (lyA_of fun d m => by
  obtain ⟨x, _, rfl⟩ := List.mem_map.mp m
  exact Ly.int x)
theorem map_nil_iff {α β : Type} {f : α → β} {l : List α} : decide (l.map f = []) = decide (l = []) := by
  cases l <;> simp
theorem ov_not (o : Option Int) : V.bl (!decide (ov o = V.non)) = V.bl o.isSome := by cases o <;> simp [ov]

theorem iteTB {A B : Prop} {b : Bool} (h : b = true) (a : A) : if b = true then A else B := by
  rw [if_pos h]
  exact a
theorem iteFB {A B : Prop} {b : Bool} (h : b = false) (a : B) : if b = true then A else B := by
  rw [h]
  exact a




theorem off_nil (p : Cd → Bool) : ∀ cs : List Cd, decide ((cs.filter fun c => !p c).map (fun _ => (1 : Int)) = []) = cs.all p
  | [] => rfl
  | c :: cs => by
    have ih := off_nil p cs
    rw [List.all_cons]
    cases hc : p c with
    | true =>
      rw [List.filter_cons_of_neg (by rw [hc]; decide), Bool.true_and]
      exact ih
    | false =>
      rw [List.filter_cons_of_pos (by rw [hc]; decide)]
      rfl
theorem isN_rg {K : PySem.W.Frag} {H : Hp} {v : V} {r : Rg} (h : RgV K H v r) : V.bl (decide (v = V.non)) = V.bl (!r.isSome) := by
  match r, h with
  | none, h =>
    have e : v = .non := h
    subst e
    simp
  | some (l, u), h =>
    obtain ⟨p, rfl, _⟩ := h
    simp
theorem notN_rg {K : PySem.W.Frag} {H : Hp} {v : V} {r : Rg} (h : RgV K H v r) : V.bl (!decide (v = V.non)) = V.bl r.isSome := by
  match r, h with
  | none, h =>
    have e : v = .non := h
    subst e
    simp
  | some (l, u), h =>
    obtain ⟨p, rfl, _⟩ := h
    simp


/-- the dict at a is what may change -/
def Kd (a : Addr) (H H' : Hp) : Prop := (∃ kvs, H a = some (.dK kvs)) ∧ Kp a H H'
theorem SqL.kd {K : PySem.W.Frag} {H H' : Hp} {o b : Addr} {xs : List V} (k : Kd o H H') (h : SqL K H b xs) : SqL K H' b xs := by
  obtain ⟨⟨kvs, e⟩, kp⟩ := k
  rcases h with (h | ⟨u, h⟩) | h
  · exact .inl (.inl (kp _ _ (ne_of h e (fun z => by cases z)) h))
  · exact .inl (.inr ⟨u, kp _ _ (ne_of h e (fun z => by cases z)) h⟩)
  · exact .inr h
theorem SqT.kd {K : PySem.W.Frag} {H H' : Hp} {o b : Addr} {xs : List V} (k : Kd o H H') (h : SqT K H b xs) : SqT K H' b xs := by
  obtain ⟨⟨kvs, e⟩, kp⟩ := k
  rcases h with (h | ⟨u, h⟩) | h
  · exact .inl (.inl (kp _ _ (ne_of h e (fun z => by cases z)) h))
  · exact .inl (.inr ⟨u, kp _ _ (ne_of h e (fun z => by cases z)) h⟩)
  · exact .inr h
mutual
theorem dp_kd {K : PySem.W.Frag} {H H' : Hp} {o : Addr} (k : Kd o H H') : ∀ {v : V} {d : PyData}, Dp K H v d → Dp K H' v d
  | _, _, .non => .non
  | _, _, .bl b => .bl b
  | _, _, .int i => .int i
  | _, _, .str x => .str x
  | _, _, .lst s a => .lst (SqL.kd k s) (dpa_kd k a)
  | _, _, .tup s a => .tup (SqT.kd k s) (dpa_kd k a)
theorem dpa_kd {K : PySem.W.Frag} {H H' : Hp} {o : Addr} (k : Kd o H H') : ∀ {v : List V} {d : List PyData}, DpAll K H v d → DpAll K H' v d
  | _, _, .nil => .nil
  | _, _, .cons a b => .cons (dp_kd k a) (dpa_kd k b)
end
theorem fun_of : ∀ {ws : List Str} {rs : List Rg}, ws.Nodup → rs.length = ws.length → ∃ f : Hd, ws.map f = rs
  | [], [], _, _ => ⟨fun _ => none, rfl⟩
  | w :: ws, r :: rs, nd, l => by
    obtain ⟨f, e⟩ := fun_of (List.nodup_cons.mp nd).2 (by simpa using l)
    refine ⟨fun x => if x = w then r else f x, ?_⟩
    rw [List.map_cons, if_pos rfl, ← e]
    congr 1
    refine List.map_congr_left fun x m => ?_
    have : x ≠ w := fun z => (List.nodup_cons.mp nd).1 (z ▸ m)
    rw [if_neg this]

theorem errT_exm {K : PySem.W.Frag} {mg : Str → Option Value} {cs : List Addr} {ns : List Str} {fI c c0 : Addr} {i : Nat} (X : ErrT K mg cs ns fI) (hi : cs[i]? = some c) (h0 : cs[0]? = some c0) (n : i ≠ 0) :
    PySem.W.exmOne K (.ref c) (.ref c0) = some true := by
  have l0 : 0 < ns.length := by
    rw [← X.len]
    exact (List.getElem?_eq_some_iff.mp h0).1
  have T0 := X.t 0 c0 _ h0 (List.getElem?_eq_getElem l0)
  have ne : c ≠ c0 := fun z => by
    subst z
    have a := X.sub 0 i _ _ h0 hi
    rw [decide_eq_false (fun z => z.elim (fun q => n q.symm) n)] at a
    unfold PySem.W.kitOne at a
    rw [if_pos (by simp)] at a
    cases a
  have b := X.sub i 0 _ _ hi h0
  rw [decide_eq_true (.inr rfl)] at b
  unfold PySem.W.kitOne at b
  rw [if_neg (by simpa using ne)] at b
  unfold PySem.W.exmOne
  rw [T0.ox.exC]
  exact b
theorem sNeF {x : Str} : V.bl (!decide (V.str x = V.str x)) = V.bl false := by rw [decide_eq_true rfl]; rfl
theorem sysOk_tl {ws : List Str} {rs : List Rl} (h : TitlesOk ws) (hr : RowsGd ws rs) (l2 : rs.length ≤ 1000) : SysOk ws rs :=
  ⟨h.nd, h.ok, fun r m => rlGd_faulty (hr r m), fun r m => Nat.le_trans (hr r m).cs (by decide), by have := h.l6; omega, l2⟩
theorem FacOk.lt {r : Rl} (h : FacOk r) : ∀ x y fa a rr cs, r = .stp x y fa a rr cs → fa.natAbs < 2 ^ 64 := by
  rintro x y fa a rr cs rfl
  have h' : fa.natAbs ≤ 9 := h
  exact Nat.lt_of_le_of_lt h' (by decide)
theorem Held.ok {K : PySem.W.Frag} {H : Hp} {a : Addr} {ws : List Str} {f : Hd} (h : Held K H a ws f) (t : TitlesOk ws) : DctOk 2 2 ws (ws.map fun x => rgD (f x)) :=
  ⟨fun x m => dok_name (t.ok x m), fun d m => by
    obtain ⟨x, mx, rfl⟩ := List.mem_map.mp m
    exact dok_rg m31 (h.gd x mx).2, List.length_map _, by have := t.l6; omega⟩
/-- what stays of the start -/
structure R13 (K : PySem.W.Frag) (C : Addr) (g W R O P1 R1 : Addr) (ws ss : List Str) (rr : List Rl) (xs : List V) (H : Hp) : Prop where
  oW : H W = some (.lst (ws.map V.str))
  oR : H R = some (.lst xs)
  dR : DpAll K H xs (rr.map Rl.d)
  made : SysAt K C H O P1 R1 ss rr
theorem R13.same {K : PySem.W.Frag} {C g W R O P1 R1 : Addr} {ws ss : List Str} {rr : List Rl} {xs : List V} {H H' : Hp} (k : Same H H') (h : R13 K C g W R O P1 R1 ws ss rr xs H) : R13 K C g W R O P1 R1 ws ss rr xs H' :=
  ⟨k _ _ h.oW, k _ _ h.oR, dpa_same k h.dR, h.made.same k⟩
theorem R13.kl {K : PySem.W.Frag} {C g W R O P1 R1 : Addr} {ws ss : List Str} {rr : List Rl} {xs : List V} {H H' : Hp} (k : Kl g H H') (w : W ≠ g) (r : R ≠ g) (p : P1 ≠ g) (q : R1 ≠ g) (h : R13 K C g W R O P1 R1 ws ss rr xs H) : R13 K C g W R O P1 R1 ws ss rr xs H' :=
  ⟨k.2 _ _ w h.oW, k.2 _ _ r h.oR, dpa_kl k h.dR (noL_rls rr), h.made.kl k p q⟩
theorem same_none {H H' : Hp} {l : Addr} (k : Same H H') (e : H' l = none) : H l = none := by
  cases z : H l with
  | none => rfl
  | some o => rw [k _ _ z] at e; cases e
theorem laid_tl {ws ss : List Str} {rs : List Rl} (hw : TitlesOk ws) (hr : RowsGd ws rs) (p : ss.Perm ws) : Laid ss rs :=
  ⟨fun x m => strOk_of (hw.ok x (p.mem_iff.mp m)), fun r m x mx => strOk_of (hw.ok x ((hr r m).nm x mx))⟩
theorem merge_kv : ∀ {k2 : List Str} {v2 : List V} {ks : List Str} {vs : List V}, vs.length = ks.length → v2.length = k2.length → (ks ++ k2).Nodup → mergeK (kvOf ks vs) (kvOf k2 v2) = kvOf (ks ++ k2) (vs ++ v2)
  | [], [], ks, vs, _, _, _ => by
    rw [List.append_nil, List.append_nil]
    rfl
  | k :: k2, v :: v2, ks, vs, l, l2, nd => by
    have nin : k ∉ ks := fun m => (List.nodup_append.mp nd).2.2 k m k (by simp) rfl
    show mergeK (putK (kvOf ks vs) (.inr k) v) (kvOf k2 v2) = _
    rw [putK_new _ (valV_no nin), kvOf_snoc l]
    have nd' : ((ks ++ [k]) ++ k2).Nodup := by rw [List.append_assoc]; exact nd
    rw [merge_kv (by rw [List.length_append, List.length_append, l]; rfl) (by simpa using l2) nd', List.append_assoc, List.append_assoc]
    rfl
/-- what is due at n where m rules are -/
def dueD (m : Nat) (n : Int) : PyData := if 0 ≤ n ∧ n < (m : Int) then .list [.str "none", .none] else .list [.str "rule", .int n]
def dueV (m : Nat) (n : Int) : List V := if 0 ≤ n ∧ n < (m : Int) then [.str "none", .non] else [.str "rule", .int n]
theorem due_dp {K : PySem.W.Frag} {H : Hp} {l : Addr} {m : Nat} {n : Int} (e : H l = some (.lst (dueV m n))) : Dp K H (.ref l) (dueD m n) := by
  unfold dueV at e
  unfold dueD
  split at e
  · rename_i h
    rw [if_pos h]
    exact .lst (.inl (.inl e)) (.cons (.str _) (.cons .non .nil))
  · rename_i h
    rw [if_neg h]
    exact .lst (.inl (.inl e)) (.cons (.str _) (.cons (.int _) .nil))
theorem due_all {K : PySem.W.Frag} {H : Hp} {m : Nat} {n : Int} : ∀ {ls : List Addr}, (∀ l ∈ ls, H l = some (.lst (dueV m n))) → DpAll K H (ls.map V.ref) (List.replicate ls.length (dueD m n))
  | [], _ => .nil
  | l :: ls, h => .cons (due_dp (h l (by simp))) (due_all fun x mx => h x (by simp [mx]))
theorem due_ly (m : Nat) (n : Int) : Ly 2 (dueD m n) := by
  unfold dueD
  split
  · exact Ly.list (lyA_of fun d md => by
      simp only [List.mem_cons, List.not_mem_nil, or_false] at md
      rcases md with rfl | rfl
      · exact ⟨by decide +kernel, by decide +kernel⟩
      · exact ⟨by decide +kernel, by decide +kernel⟩)
  · exact Ly.list (lyA_of fun d md => by
      simp only [List.mem_cons, List.not_mem_nil, or_false] at md
      rcases md with rfl | rfl
      · exact ⟨by decide +kernel, by decide +kernel⟩
      · exact .int _)
/-- pairs of names and ranges -/
abbrev PrL (K : PySem.W.Frag) (H : Hp) (ps : List Addr) (kvs : List (Key × V)) : Prop := PySem.Paired (fun p kv => SqT K H p [kV kv.1, kv.2]) ps kvs
theorem prl_mono {K : PySem.W.Frag} {H H' : Hp} (f : ∀ p xs, SqT K H p xs → SqT K H' p xs) : ∀ {ps : List Addr} {kvs : List (Key × V)}, PrL K H ps kvs → PrL K H' ps kvs
  | _, _, .nil => .nil
  | _, _, .cons a b => .cons (f _ _ a) (prl_mono f b)
theorem prl_snoc {K : PySem.W.Frag} {H : Hp} {p : Addr} {kv : Key × V} (h : SqT K H p [kV kv.1, kv.2]) : ∀ {ps : List Addr} {kvs : List (Key × V)}, PrL K H ps kvs → PrL K H (ps ++ [p]) (kvs ++ [kv])
  | _, _, .nil => .cons h .nil
  | _, _, .cons a b => .cons a (prl_snoc h b)
/-- the clause for a number n that no rule has -/
def NoRule (cs : List Addr) (H : Hp) (n : Int) (E : XK) : Prop := ∃ c, cs[4]? = some c ∧ ∀ d H', Same H H' → H d = none → H' d = some (.xd [("value", .int n)]) → E (.ref c) (some d) H'



def sp_check_number (K : PySem.W.Frag) (C : Addr) (cs : List Addr) : Sp := fun vs H Q E => ∃ a p q ns rs n, vs = [.ref a, .int n] ∧ SysAt K C H a p q ns rs ∧ rs.length ≤ 1000 ∧ ((0 ≤ n ∧ n < (rs.length : Int)) → Q .non H) ∧ (¬ (0 ≤ n ∧ n < (rs.length : Int)) → NoRule cs H n E)

def sp_counts (K : PySem.W.Frag) (C : Addr) (cs : List Addr) : Sp := fun vs H Q E => ∃ o p q ns rs a ws f n, vs = [.ref o, .ref a, .int n] ∧ SysAt K C H o p q ns rs ∧ rs.length ≤ 1000 ∧ Held K H a ws f ∧ (∀ r ∈ rs, RlGd ws r) ∧ ((0 ≤ n ∧ n < (rs.length : Int)) → ∀ b H', Same H H' → Q (.bl b) H') ∧ (¬ (0 ≤ n ∧ n < (rs.length : Int)) → NoRule cs H n E)

def sp_gives (K : PySem.W.Frag) (C : Addr) (cs : List Addr) : Sp := fun vs H Q E => ∃ o p q ns rs a ws f n, vs = [.ref o, .ref a, .int n] ∧ SysAt K C H o p q ns rs ∧ rs.length ≤ 1000 ∧ Held K H a ws f ∧ (∀ r ∈ rs, RlGd ws r ∧ FacOk r) ∧ ((0 ≤ n ∧ n < (rs.length : Int)) → ∀ v H', Same H H' → Q v H') ∧ (¬ (0 ≤ n ∧ n < (rs.length : Int)) → NoRule cs H n E)

theorem kitAny_F {K : PySem.W.Frag} {t c : Value} {r : List Value} {b : Bool} (h : PySem.W.kitOne K t c = some false) (q : PySem.W.kitAny K t r = some b) : PySem.W.kitAny K t (c :: r) = some b := by
  show (match PySem.W.kitOne K t c with | some true => some true | some false => PySem.W.kitAny K t r | none => none) = some b
  rw [h]
  exact q
theorem kitAny_T {K : PySem.W.Frag} {t c : Value} {r : List Value} (h : PySem.W.kitOne K t c = some true) : PySem.W.kitAny K t (c :: r) = some true := by
  show (match PySem.W.kitOne K t c with | some true => some true | some false => PySem.W.kitAny K t r | none => none) = some true
  rw [h]
theorem kitAny_N {K : PySem.W.Frag} {t : Value} : PySem.W.kitAny K t [] = some false := rfl
def sp__law_kind (K : PySem.W.Frag) (cs : List Addr) : Sp := fun vs H Q _ => ∃ a c v, vs = [.ref a] ∧ cs[4]? = some c ∧ ErrK H c a v ∧ ∀ H', Same H H' → Q (.str "rule") H'

def sp__law_told (K : PySem.W.Frag) (C : Addr) (cs : List Addr) : Sp := fun vs H Q _ => ∃ t o p q ns rs a ws f n, vs = [.int t, .ref o, .ref a, .int n] ∧ SysAt K C H o p q ns rs ∧ rs.length ≤ 1000 ∧ Held K H a ws f ∧ (∀ r ∈ rs, RlGd ws r ∧ FacOk r) ∧
  ∀ l H', Same H H' → H l = none → H' l = some (.lst (dueV rs.length n)) → Q (.ref l) H'

def sp__law_right (K : PySem.W.Frag) : Sp := fun vs H Q _ => ∃ g n, vs = [.ref g] ∧ RP n H g ∧ n ≤ 500000 ∧ ∀ H', Kp g H H' → RP (n + 1400) H' g → Q (.bl true) H'

theorem tl_x : TitlesOk ["x"] := ⟨by decide +kernel, by decide +kernel, by decide, by decide⟩
theorem held1 {K : PySem.W.Frag} {H : Hp} {p : Addr} (e : H p = some (.dK (mergeK [] [((Sum.inr "x" : Key), V.non)]))) : Held K H p ["x"] (fun _ => none) := by
  have em : mergeK [] [((Sum.inr "x" : Key), V.non)] = kvOf ["x"] [V.non] := rfl
  rw [em] at e
  refine ⟨⟨⟨[V.non], rfl, e, .cons .non .nil⟩, fun d m => ?_⟩, by decide +kernel, fun x m => ⟨trivial, trivial⟩⟩
  obtain ⟨x, _, rfl⟩ := List.mem_map.mp m
  exact noL_rg _
def sp_law (K : PySem.W.Frag) : Sp := fun vs H Q _ => ∃ (a : Addr) (ns : List Int), vs = [.ref a] ∧ SqL K H a (ns.map V.int) ∧ ns.length ≤ 63 ∧ ∀ H', Q (.bl true) H'

end Pk19

namespace Pk19
open PySem PySem.Spec PyProof.Rows L2 Gd
section
variable {P : Program} {w : World} {K : PySem.W.Frag} {mg : Str → Option Value} {base : Heap}
set_option maxHeartbeats 8000000 in
-- is_upside_down: level 1; builtins []; cells []; slots: 0 one, 1 low, 2 high
theorem ok_is_upside_down (h : At K mg "is_upside_down" s_is_upside_down ["one"]) : Dn P w K mg base 1 "is_upside_down" s_is_upside_down ["one"] (sp_is_upside_down K) := by
  refine .mk' h fun f fd F => F.ok sc_is_upside_down (fun vs H Q E h => ?_) (fun cdv A outer s H vs Q E hr h => ?_)
  · obtain ⟨v, r, rfl, hv, q⟩ := h
    rfl
  · obtain ⟨v, r, rfl, hv, q⟩ := h
    refine ⟨_, (pss_cons (ps_if (pt_cmpR op_isN (pv 0) pe_non (nomark _))
        (pss_one (ps_ret pe_bl))
        pss_nil)
      (pss_cons (ps_asg (pv 0) (pg_tup (by rfl) (pgs_cons (pg_name (i := 1) sc_is_upside_down.nd rfl (.inl rfl)) (pgs_cons (pg_name (i := 2) sc_is_upside_down.nd rfl (.inl rfl)) pgs_nil))))
      (pss_one (ps_ret (pe_and (pe_cmpR op_notN (pv 1) pe_non (nomark _)) (pe_and (pe_cmpR op_notN (pv 2) pe_non (nomark _)) (pe_one (pe_cmpR op_gt (pv 1) (pv 2) (nomark _))))))))), ?_⟩
    match r, hv with
    | none, hv =>
      have e : v = .non := hv
      subst e
      exact ⟨_, rfl, rfl, _, rfl, iteT q⟩
    | some (l, u), hv =>
      obtain ⟨p, rfl, s⟩ := hv
      refine ⟨_, rfl, rfl, _, rfl, iteF ?_⟩
      refine ⟨_, rfl, p, _, rfl, s, rfl, _, _, rfl, _, _, rfl, rfl, ?_⟩
      match l, u with
      | none, _ => exact ⟨_, rfl, rfl, _, rfl, iteF q⟩
      | some l, none => exact ⟨_, rfl, rfl, _, rfl, iteT ⟨_, rfl, rfl, _, rfl, iteF q⟩⟩
      | some l, some u => exact ⟨_, rfl, rfl, _, rfl, iteT ⟨_, rfl, rfl, _, rfl, iteT ⟨_, rfl, _, rfl, _, _, rfl, rfl, q⟩⟩⟩
end

end Pk19
namespace Pk19
open PySem PySem.Spec PyProof.Rows L2 Gd
section
variable {P : Program} {w : World} {K : PySem.W.Frag} {mg : Str → Option Value} {base : Heap}
set_option maxHeartbeats 8000000 in
-- check_range: level 2; builtins []; cells []; slots: 0 one
theorem ok_check_range (h : At K mg "check_range" s_check_range ["one"]) (D_is_upside_down : Dn P w K mg base 1 "is_upside_down" s_is_upside_down ["one"] (sp_is_upside_down K)) : Dn P w K mg base 2 "check_range" s_check_range ["one"] (sp_check_range K) := by
  refine .mk' h fun f fd F => F.ok sc_check_range (fun vs H Q E h => ?_) (fun cdv A outer s H vs Q E hr h => ?_)
  · obtain ⟨v, r, rfl, hv, ho, q⟩ := h
    rfl
  · obtain ⟨v, r, rfl, hv, ho, q⟩ := h
    refine ⟨_, (pss_one (ps_if (pt_val (pe_c D_is_upside_down hr (by rfl) (pa_cons (pv 0) pa_nil)))
        (pss_one ps_never)
        pss_nil)), ?_⟩
    refine ⟨_, rfl, v, r, rfl, hv, ?_⟩
    rw [up_ok ho]
    exact ⟨_, rfl, iteF q⟩
end

end Pk19
namespace Pk19
open PySem PySem.Spec PyProof.Rows L2 Gd
section
variable {P : Program} {w : World} {K : PySem.W.Frag} {mg : Str → Option Value} {base : Heap}
set_option maxHeartbeats 8000000 in
-- _least: level 1; builtins ['min']; cells []; slots: 0 one, 1 other
theorem ok__least (h : At K mg "_least" s__least ["one", "other"]) (m_min : mg "min" = none) : Dn P w K mg base 1 "_least" s__least ["one", "other"] (sp__least K) := by
  refine .mk' h fun f fd F => F.ok sc__least (fun vs H Q E h => ?_) (fun cdv A outer s H vs Q E hr h => ?_)
  · obtain ⟨a, b, rfl, q⟩ := h
    rfl
  · obtain ⟨a, b, rfl, q⟩ := h
    refine ⟨_, (pss_cons (ps_if (pt_cmpR op_isN (pv 0) pe_non (nomark _))
        (pss_one (ps_ret (pv 1)))
        pss_nil)
      (pss_one (ps_ret (pe_ifExp (pt_cmpR op_isN (pv 1) pe_non (nomark _)) (pv 0) (pe_callB (call_min2 rfl) (by rfl) m_min (by decide +kernel) (pa_cons (pv 0) (pa_cons (pv 1) pa_nil))))))), ?_⟩
    match a, b with
    | none, b => exact ⟨_, rfl, rfl, _, rfl, iteT ⟨_, rfl, q⟩⟩
    | some a, none => exact ⟨_, rfl, rfl, _, rfl, iteF ⟨_, rfl, rfl, _, rfl, iteT ⟨_, rfl, q⟩⟩⟩
    | some a, some b => exact ⟨_, rfl, rfl, _, rfl, iteF ⟨_, rfl, rfl, _, rfl, iteF ⟨_, rfl, _, rfl, _, _, rfl, q⟩⟩⟩
end

end Pk19
namespace Pk19
open PySem PySem.Spec PyProof.Rows L2 Gd
section
variable {P : Program} {w : World} {K : PySem.W.Frag} {mg : Str → Option Value} {base : Heap}
set_option maxHeartbeats 8000000 in
-- _greatest: level 1; builtins ['max']; cells []; slots: 0 one, 1 other
theorem ok__greatest (h : At K mg "_greatest" s__greatest ["one", "other"]) (m_max : mg "max" = none) : Dn P w K mg base 1 "_greatest" s__greatest ["one", "other"] (sp__greatest K) := by
  refine .mk' h fun f fd F => F.ok sc__greatest (fun vs H Q E h => ?_) (fun cdv A outer s H vs Q E hr h => ?_)
  · obtain ⟨a, b, rfl, q⟩ := h
    rfl
  · obtain ⟨a, b, rfl, q⟩ := h
    refine ⟨_, (pss_cons (ps_if (pt_cmpR op_isN (pv 0) pe_non (nomark _))
        (pss_one (ps_ret (pv 1)))
        pss_nil)
      (pss_one (ps_ret (pe_ifExp (pt_cmpR op_isN (pv 1) pe_non (nomark _)) (pv 0) (pe_callB (call_max2 rfl) (by rfl) m_max (by decide +kernel) (pa_cons (pv 0) (pa_cons (pv 1) pa_nil))))))), ?_⟩
    match a, b with
    | none, b => exact ⟨_, rfl, rfl, _, rfl, iteT ⟨_, rfl, q⟩⟩
    | some a, none => exact ⟨_, rfl, rfl, _, rfl, iteF ⟨_, rfl, rfl, _, rfl, iteT ⟨_, rfl, q⟩⟩⟩
    | some a, some b => exact ⟨_, rfl, rfl, _, rfl, iteF ⟨_, rfl, rfl, _, rfl, iteF ⟨_, rfl, _, rfl, _, _, rfl, q⟩⟩⟩
end

end Pk19
namespace Pk19
open PySem PySem.Spec PyProof.Rows L2 Gd
section
variable {P : Program} {w : World} {K : PySem.W.Frag} {mg : Str → Option Value} {base : Heap}
set_option maxHeartbeats 8000000 in
-- common: level 3; builtins []; cells []; slots: 0 one, 1 other, 2 both
theorem ok_common (h : At K mg "common" s_common ["one", "other"]) (D__greatest : Dn P w K mg base 1 "_greatest" s__greatest ["one", "other"] (sp__greatest K)) (D__least : Dn P w K mg base 1 "_least" s__least ["one", "other"] (sp__least K)) (D_check_range : Dn P w K mg base 2 "check_range" s_check_range ["one"] (sp_check_range K)) (D_is_upside_down : Dn P w K mg base 1 "is_upside_down" s_is_upside_down ["one"] (sp_is_upside_down K)) : Dn P w K mg base 3 "common" s_common ["one", "other"] (sp_common K) := by
  refine .mk' h fun f fd F => F.ok sc_common (fun vs H Q E h => ?_) (fun cdv A outer s H vs Q E hr h => ?_)
  · obtain ⟨v1, v2, r1, r2, rfl, h1, h2, o1, o2, q⟩ := h
    rfl
  · obtain ⟨v1, v2, r1, r2, rfl, h1, h2, o1, o2, q⟩ := h
    refine ⟨_, (pss_cons (ps_expr (pe_c D_check_range hr (by rfl) (pa_cons (pv 0) pa_nil)))
      (pss_cons (ps_expr (pe_c D_check_range hr (by rfl) (pa_cons (pv 1) pa_nil)))
      (pss_cons (ps_if (PW.pt (pw_or (pt_cmpR op_isN (pv 0) pe_non (nomark _)) (pw_or1 (pt_cmpR op_isN (pv 1) pe_non (nomark _)))))
        (pss_one (ps_ret pe_non))
        pss_nil)
      (pss_cons (ps_set (i := 2) sc_common.nd rfl (.inl rfl) (pe_tup (pa_cons (pe_c D__greatest hr (by rfl) (pa_cons (pe_ix ix_tup (pv 0) pe_int (fun _ _ => rfl)) (pa_cons (pe_ix ix_tup (pv 1) pe_int (fun _ _ => rfl)) pa_nil))) (pa_cons (pe_c D__least hr (by rfl) (pa_cons (pe_ix ix_tup (pv 0) pe_int (fun _ _ => rfl)) (pa_cons (pe_ix ix_tup (pv 1) pe_int (fun _ _ => rfl)) pa_nil))) pa_nil))))
      (pss_one (ps_ret (pe_ifExp (pt_val (pe_c D_is_upside_down hr (by rfl) (pa_cons (pv 2) pa_nil))) pe_non (pv 2)))))))), ?_⟩
    refine ⟨_, rfl, v1, r1, rfl, h1, o1, _, rfl, v2, r2, rfl, h2, o2, ?_⟩
    match r1, r2, h1, h2, q with
    | none, _, h1, _, q =>
      have e : v1 = .non := h1
      subst e
      exact ⟨_, rfl, rfl, _, rfl, iteT (iteT (q _ _ (Same.refl _) rfl))⟩
    | some (l1, u1), none, h1, h2, q =>
      obtain ⟨p1, rfl, s1⟩ := h1
      have e : v2 = .non := h2
      subst e
      exact ⟨_, rfl, rfl, _, rfl, iteF ⟨_, rfl, rfl, _, rfl, iteT (q _ _ (Same.refl _) rfl)⟩⟩
    | some (l1, u1), some (l2, u2), h1, h2, q =>
      obtain ⟨p1, rfl, s1⟩ := h1
      obtain ⟨p2, rfl, s2⟩ := h2
      refine ⟨_, rfl, rfl, _, rfl, iteF ⟨_, rfl, rfl, _, rfl, iteF ?_⟩⟩
      -- both = (.., ..)
      refine ⟨_, rfl, p1, _, 0, _, rfl, rfl, s1, atI_nat (j := 0) rfl, _, rfl, p2, _, 0, _, rfl, rfl, s2, atI_nat (j := 0) rfl, l1, l2, rfl, ?_⟩
      refine ⟨_, rfl, p1, _, 1, _, rfl, rfl, s1, atI_nat (j := 1) rfl, _, rfl, p2, _, 1, _, rfl, rfl, s2, atI_nat (j := 1) rfl, u1, u2, rfl, ?_⟩
      refine ⟨by show 2 ≤ sizeLine; decide, fun p np => ?_⟩
      have sb : SqT K (upd H p (.tup [ov (gr l1 l2), ov (le2 u1 u2)])) p [ov (gr l1 l2), ov (le2 u1 u2)] := .inl (.inl upd_same)
      have rb : RgV K (upd H p (.tup [ov (gr l1 l2), ov (le2 u1 u2)])) (.ref p) (some (gr l1 l2, le2 u1 u2)) := ⟨p, rfl, sb⟩
      refine ⟨_, rfl, .ref p, _, rfl, rb, _, rfl, ?_⟩
      have qq : ∀ v, RgV K (upd H p (.tup [ov (gr l1 l2), ov (le2 u1 u2)])) v (if up (some (gr l1 l2, le2 u1 u2)) = true then none else some (gr l1 l2, le2 u1 u2)) →
        Q v (upd H p (.tup [ov (gr l1 l2), ov (le2 u1 u2)])) := fun v => q v _ (Same.new np)
      cases c : up (some (gr l1 l2, le2 u1 u2)) with
      | true =>
        rw [c] at qq
        exact iteT (qq _ rfl)
      | false =>
        rw [c] at qq
        exact iteF ⟨_, rfl, qq _ rb⟩
end

end Pk19
namespace Pk19
open PySem PySem.Spec PyProof.Rows L2 Gd
section
variable {P : Program} {w : World} {K : PySem.W.Frag} {mg : Str → Option Value} {base : Heap}
set_option maxHeartbeats 8000000 in
-- meets: level 4; builtins []; cells []; slots: 0 one, 1 other
theorem ok_meets (h : At K mg "meets" s_meets ["one", "other"]) (D_common : Dn P w K mg base 3 "common" s_common ["one", "other"] (sp_common K)) : Dn P w K mg base 4 "meets" s_meets ["one", "other"] (sp_meets K) := by
  refine .mk' h fun f fd F => F.ok sc_meets (fun vs H Q E h => ?_) (fun cdv A outer s H vs Q E hr h => ?_)
  · obtain ⟨v1, v2, r1, r2, rfl, h1, h2, o1, o2, q⟩ := h
    rfl
  · obtain ⟨v1, v2, r1, r2, rfl, h1, h2, o1, o2, q⟩ := h
    refine ⟨_, (pss_one (ps_ret (pe_cmpR op_notN (pe_c D_common hr (by rfl) (pa_cons (pv 0) (pa_cons (pv 1) pa_nil))) pe_non (nomark _)))), ?_⟩
    refine ⟨_, rfl, _, rfl, v1, v2, r1, r2, rfl, h1, h2, o1, o2, fun v H' sm hv => ?_⟩
    refine ⟨rfl, ?_⟩
    cases c : comR r1 r2 with
    | none =>
      rw [c] at hv q
      have e : v = .non := hv
      subst e
      exact q H' sm
    | some r =>
      rw [c] at hv q
      obtain ⟨p, rfl, s⟩ := hv
      exact q H' sm
end

end Pk19
namespace Pk19
open PySem PySem.Spec PyProof.Rows L2 Gd
section
variable {P : Program} {w : World} {K : PySem.W.Frag} {mg : Str → Option Value} {base : Heap}
set_option maxHeartbeats 8000000 in
-- _taken: level 1; builtins []; cells []; slots: 0 bound, 1 factor, 2 add
theorem ok__taken (h : At K mg "_taken" s__taken ["bound", "factor", "add"]) : Dn P w K mg base 1 "_taken" s__taken ["bound", "factor", "add"] (sp__taken K) := by
  refine .mk' h fun f fd F => F.ok sc__taken (fun vs H Q E h => ?_) (fun cdv A outer s H vs Q E hr h => ?_)
  · obtain ⟨o, f, a, rfl, so, sf, q⟩ := h
    rfl
  · obtain ⟨o, f, a, rfl, so, sf, q⟩ := h
    refine ⟨_, (pss_one (ps_ret (pe_ifExp (pt_cmpR op_isN (pv 0) pe_non (nomark _)) pe_non (pe_op op_add (pe_op op_mulW (pv 1) (pv 0)) (pv 2))))), ?_⟩
    match o, so with
    | none, _ => exact ⟨_, rfl, rfl, _, rfl, iteT q⟩
    | some x, so => exact ⟨_, rfl, rfl, _, rfl, iteF ⟨_, rfl, _, rfl, _, _, rfl, rfl, wide_mul sf (so x rfl) (by decide) (by decide) (by decide), _, rfl, _, _, rfl, rfl, q⟩⟩
end

end Pk19
namespace Pk19
open PySem PySem.Spec PyProof.Rows L2 Gd
section
variable {P : Program} {w : World} {K : PySem.W.Frag} {mg : Str → Option Value} {base : Heap}
set_option maxHeartbeats 8000000 in
-- stepped: level 3; builtins []; cells []; slots: 0 one, 1 factor, 2 add, 3 ends
theorem ok_stepped (h : At K mg "stepped" s_stepped ["one", "factor", "add"]) (D__taken : Dn P w K mg base 1 "_taken" s__taken ["bound", "factor", "add"] (sp__taken K)) (D_check_range : Dn P w K mg base 2 "check_range" s_check_range ["one"] (sp_check_range K)) : Dn P w K mg base 3 "stepped" s_stepped ["one", "factor", "add"] (sp_stepped K) := by
  refine .mk' h fun f fd F => F.ok sc_stepped (fun vs H Q E h => ?_) (fun cdv A outer s H vs Q E hr h => ?_)
  · obtain ⟨v, r, f, a, rfl, hv, ho, sz, sf, q⟩ := h
    rfl
  · obtain ⟨v, r, f, a, rfl, hv, ho, sz, sf, q⟩ := h
    refine ⟨_, (pss_cons (ps_expr (pe_c D_check_range hr (by rfl) (pa_cons (pv 0) pa_nil)))
      (pss_cons (ps_if (pt_cmpR op_isN (pv 0) pe_non (nomark _))
        (pss_one (ps_ret pe_non))
        pss_nil)
      (pss_cons (ps_set (i := 3) sc_stepped.nd rfl (.inl rfl) (pe_tup (pa_cons (pe_c D__taken hr (by rfl) (pa_cons (pe_ix ix_tup (pv 0) pe_int (fun _ _ => rfl)) (pa_cons (pv 1) (pa_cons (pv 2) pa_nil)))) (pa_cons (pe_c D__taken hr (by rfl) (pa_cons (pe_ix ix_tup (pv 0) pe_int (fun _ _ => rfl)) (pa_cons (pv 1) (pa_cons (pv 2) pa_nil)))) pa_nil))))
      (pss_one (ps_ret (pe_ifExp (pt_cmpR op_gt (pv 1) pe_int (nomark _)) (pv 3) (pe_tup (pa_cons (pe_ix ix_tup (pv 3) pe_int (fun _ _ => rfl)) (pa_cons (pe_ix ix_tup (pv 3) pe_int (fun _ _ => rfl)) pa_nil))))))))), ?_⟩
    refine ⟨_, rfl, v, r, rfl, hv, ho, ?_⟩
    match r, hv, sz, q with
    | none, hv, _, q =>
      have e : v = .non := hv
      subst e
      exact ⟨_, rfl, rfl, _, rfl, iteT (q _ _ (Same.refl _) rfl)⟩
    | some (l, u), hv, ⟨z1, z2⟩, q =>
      obtain ⟨p, rfl, s⟩ := hv
      refine ⟨_, rfl, rfl, _, rfl, iteF ?_⟩
      refine ⟨_, rfl, p, _, 0, _, rfl, rfl, s, atI_nat (j := 0) rfl, _, rfl, _, rfl, l, f, a, rfl, z1, sf, ?_⟩
      refine ⟨_, rfl, p, _, 1, _, rfl, rfl, s, atI_nat (j := 1) rfl, _, rfl, _, rfl, u, f, a, rfl, z2, sf, ?_⟩
      refine ⟨by show 2 ≤ sizeLine; decide, fun t nt => ?_⟩
      have st : SqT K (upd H t (.tup [ov (tk f a l), ov (tk f a u)])) t [ov (tk f a l), ov (tk f a u)] := .inl (.inl upd_same)
      refine ⟨_, rfl, _, _, rfl, rfl, _, rfl, ite2 (fun c => ?_) (fun c => ?_)⟩
      · have c' : f > 0 := of_decide_eq_true c
        refine ⟨_, rfl, q _ _ (Same.new nt) ?_⟩
        show RgV K _ _ (if f > 0 then some (tk f a l, tk f a u) else some (tk f a u, tk f a l))
        rw [if_pos c']
        exact ⟨t, rfl, st⟩
      · have c' : ¬ f > 0 := fun z => c (decide_eq_true z)
        refine ⟨_, rfl, t, _, 1, _, rfl, rfl, st, atI_nat (j := 1) rfl, _, rfl, t, _, 0, _, rfl, rfl, st, atI_nat (j := 0) rfl, by show 2 ≤ sizeLine; decide, fun t2 nt2 => ?_⟩
        refine q _ _ ((Same.new nt).trans (Same.new nt2)) ?_
        show RgV K _ _ (if f > 0 then some (tk f a l, tk f a u) else some (tk f a u, tk f a l))
        rw [if_neg c']
        exact ⟨t2, rfl, .inl (.inl upd_same)⟩
end

end Pk19
namespace Pk19
open PySem PySem.Spec PyProof.Rows L2 Gd
section
variable {P : Program} {w : World} {K : PySem.W.Frag} {mg : Str → Option Value} {base : Heap}
set_option maxHeartbeats 8000000 in
-- _law_pool: level 1; builtins ['abs', 'int', 'len', 'max']; cells []; slots: 0 script, 1 at, 2 given
theorem ok__law_pool (h : At K mg "_law_pool" s__law_pool ["script", "at"]) (m_abs : mg "abs" = none) (m_int : mg "int" = none) (m_len : mg "len" = none) (m_max : mg "max" = none) : Dn P w K mg base 1 "_law_pool" s__law_pool ["script", "at"] (sp__law_pool K) := by
  refine .mk' h fun f fd F => F.ok sc__law_pool (fun vs H Q E h => ?_) (fun cdv A outer s H vs Q E hr h => ?_)
  · obtain ⟨a, ns, z, rfl, hS, hn, z0, hi, q⟩ := h
    rfl
  · obtain ⟨a, ns, z, rfl, hS, hn, z0, hi, q⟩ := h
    refine ⟨_, (pss_cons (ps_set (i := 2) sc__law_pool.nd rfl (.inl rfl) pe_int)
      (C8.pss_cut (ps_if (pt_cmpR op_lt (pv 1) (pe_callB call_len_seq (by rfl) m_len PySem.boot_len (pa_cons (pv 0) pa_nil)) (nomark _))
        (pss_one (ps_set (i := 2) sc__law_pool.nd rfl (.inl rfl) (pe_ix ix_list (pv 0) (pv 1) (fun _ _ => rfl))))
        pss_nil)
      (pss_one (ps_ret (pe_lst (pa_cons (pe_callB (call_max2 rfl) (by rfl) m_max (by decide +kernel) (pa_cons pe_int (pa_cons (pe_op op_sub (pe_callB call_abs (by rfl) m_abs (by decide +kernel) (pa_cons (pv 2) pa_nil)) (pe_op op_powW pe_int pe_int)) pa_nil))) (pa_cons (pe_op op_add (pe_op op_mod (pe_callTy call_int1 (by rfl) m_int (by decide +kernel) (pa_cons (pv 2) pa_nil)) pe_int) (pe_op op_mulW pe_int (pe_op op_add (pv 1) pe_int))) (pa_cons pe_int pa_nil)))))))), ?_⟩
    refine ⟨fun σ' H' => H' = H ∧ ∃ g : Int, σ' = [some (.ref a), some (.int z), some (.int g)], ⟨_, rfl, _, rfl, a, _, rfl, .inl hS, _, _, rfl, rfl, _, rfl, ite2 (fun c => ?_) (fun _ => ⟨rfl, 0, rfl⟩)⟩, ?_⟩
    · have c' : z < ((ns.map V.int).length : Int) := of_decide_eq_true c
      rw [List.length_map] at c'
      have lt : z.toNat < ns.length := by omega
      refine ⟨_, rfl, _, rfl, a, _, _, _, rfl, rfl, hS, at_of (j := z.toNat) (by omega) (by rw [List.getElem?_map, List.getElem?_eq_getElem lt]; rfl), ?_⟩
      exact ⟨rfl, _, rfl⟩
    · rintro σ' H' ⟨rfl, g, rfl⟩
      refine ⟨_, rfl, g, rfl, ?_⟩
      generalize (if g < 0 then -g else g) = f
      refine ⟨_, _, rfl, rfl, ten18, _, _, rfl, rfl, _, _, rfl, ?_⟩
      refine ⟨_, rfl, .inl ⟨_, rfl, _, _, rfl, rfl, (by show (0 : Int) < _; decide), ?_⟩⟩
      refine ⟨_, rfl, _, _, rfl, rfl, _, _, rfl, rfl, wide_mul (a := 40) (b := 10) (by decide) (by omega) (by decide) (by decide) (by decide), _, _, rfl, rfl, by show 3 ≤ sizeLine; decide, fun p np => ?_⟩
      refine q _ _ (Same.new np) np ⟨_, _, _, upd_same, ?_, ?_, ?_, by decide, by decide⟩
      · split <;> omega
      · have := Int.emod_nonneg g (show (2305843009213693951 : Int) ≠ 0 by decide)
        omega
      · have := Int.emod_lt_of_pos g (show (0 : Int) < 2305843009213693951 by decide)
        omega
end

end Pk19
namespace Pk19
open PySem PySem.Spec PyProof.Rows L2 Gd
section
variable {P : Program} {w : World} {K : PySem.W.Frag} {mg : Str → Option Value} {base : Heap}
set_option maxHeartbeats 8000000 in
-- _law_draw: level 1; builtins ['int']; cells []; slots: 0 pool, 1 many, 2 drawn, 3 mixed
theorem ok__law_draw (h : At K mg "_law_draw" s__law_draw ["pool", "many"]) (m_int : mg "int" = none) : Dn P w K mg base 1 "_law_draw" s__law_draw ["pool", "many"] (sp__law_draw K) := by
  refine .mk' h fun f fd F => F.ok sc__law_draw (fun vs H Q E h => ?_) (fun cdv A outer s H vs Q E hr h => ?_)
  · obtain ⟨a, lim, n, rfl, rs, hn, l0, l1, q⟩ := h
    rfl
  · obtain ⟨a, lim, n, rfl, rs, hn, l0, l1, q⟩ := h
    refine ⟨_, (pss_cons (ps_if (pt_cmpR op_gt (pe_ix ix_list (pv 0) pe_int (fun _ _ => rfl)) pe_int (nomark _))
        (pss_cons (ps_set (i := 2) sc__law_draw.nd rfl (.inl rfl) (pe_op op_mod (pe_callTy call_int1 (by rfl) m_int (by decide +kernel) (pa_cons (pe_ix ix_list (pv 0) pe_int (fun _ _ => rfl)) pa_nil)) (pv 1)))
        (pss_cons (ps_asg (pe_op op_fdivW (pe_ix ix_list (pv 0) pe_int (fun _ _ => rfl)) (pv 1)) (pg_sub (pv 0) pe_int set_list))
        (pss_one (ps_ret (pv 2)))))
        pss_nil)
      (pss_cons (ps_asg (pe_op op_add (pe_ix ix_list (pv 0) pe_int (fun _ _ => rfl)) pe_int) (pg_sub (pv 0) pe_int set_list))
      (pss_cons (ps_set (i := 3) sc__law_draw.nd rfl (.inl rfl) (pe_op op_mod (pe_callTy call_int1 (by rfl) m_int (by decide +kernel) (pa_cons (pe_op op_powW (pe_op op_add (pe_ix ix_list (pv 0) pe_int (fun _ _ => rfl)) (pe_op op_mulW pe_int (pe_ix ix_list (pv 0) pe_int (fun _ _ => rfl)))) pe_int) pa_nil)) pe_int))
      (pss_cons (ps_set (i := 3) sc__law_draw.nd rfl (.inl rfl) (pe_op op_mod (pe_callTy call_int1 (by rfl) m_int (by decide +kernel) (pa_cons (pe_op op_powW (pe_op op_add (pv 3) (pe_op op_mulW pe_int (pe_ix ix_list (pv 0) pe_int (fun _ _ => rfl)))) pe_int) pa_nil)) pe_int))
      (pss_one (ps_ret (pe_op op_mod (pe_callTy call_int1 (by rfl) m_int (by decide +kernel) (pa_cons (pe_op op_fdivW (pv 3) pe_int) pa_nil)) (pv 1)))))))), ?_⟩
    obtain ⟨d, sd, t, e, d0, s0, s1, t0, t1⟩ := rs.ok
    have hl : SqL K H a [.int d, .int sd, .int t] := .inl (.inl e)
    refine ⟨_, rfl, a, _, 0, _, rfl, rfl, hl, atI_nat (j := 0) rfl, _, _, rfl, rfl, _, rfl, ite2 (fun c => ?_) (fun c => ?_)⟩
    · have c' : d > 0 := of_decide_eq_true c
      refine ⟨_, rfl, a, _, 0, _, rfl, rfl, hl, atI_nat (j := 0) rfl, .inl ⟨_, rfl, _, rfl, _, _, rfl, rfl, l0, ?_⟩⟩
      refine ⟨_, rfl, a, _, 0, _, rfl, rfl, hl, atI_nat (j := 0) rfl, _, rfl, _, _, rfl, rfl, wide_div l0 l1 (by decide) (by decide), ?_⟩
      refine ⟨_, rfl, a, _, 0, 0, rfl, rfl, e, rfl, _, rfl, ?_⟩
      have dz : 0 ≤ d / lim := Int.ediv_nonneg d0 (by omega)
      exact q _ _ (Int.emod_nonneg _ (by omega)) (Int.emod_lt_of_pos _ l0) Kp.at ⟨_, _, _, upd_same, dz, s0, s1, t0, by omega⟩
    · refine ⟨_, rfl, a, _, 2, _, rfl, rfl, hl, atI_nat (j := 2) rfl, _, _, rfl, rfl, ?_⟩
      refine ⟨_, rfl, a, _, 2, 2, rfl, rfl, e, rfl, ?_⟩
      have e2 : upd H a (.lst [.int d, .int sd, .int (t + 1)]) a = some (.lst [.int d, .int sd, .int (t + 1)]) := upd_same
      have hl2 : SqL K (upd H a (.lst [.int d, .int sd, .int (t + 1)])) a [.int d, .int sd, .int (t + 1)] := .inl (.inl e2)
      refine ⟨_, rfl, a, _, 1, _, rfl, rfl, hl2, atI_nat (j := 1) rfl, _, rfl, a, _, 2, _, rfl, rfl, hl2, atI_nat (j := 2) rfl, _, _, rfl, rfl, ?_, _, _, rfl, rfl, _, _, rfl, rfl, ?_, .inl ⟨_, rfl, _, _, rfl, rfl, (by show (0 : Int) < _; decide), ?_⟩⟩
      · exact wide_mul (a := 30) (b := 30) (by decide) (by omega) (by decide) (by decide) (by decide)
      · exact powW_of (a := 64) (by omega) (by decide) (by decide) (by decide)
      have b0 : 0 ≤ (sd + 15488701 * (t + 1)) ^ (3 : Int).toNat % 162259276829213363391578010288127 := Int.emod_nonneg _ (by decide)
      have b1 : (sd + 15488701 * (t + 1)) ^ (3 : Int).toNat % 162259276829213363391578010288127 < 162259276829213363391578010288127 := Int.emod_lt_of_pos _ (by decide)
      generalize (sd + 15488701 * (t + 1)) ^ (3 : Int).toNat % 162259276829213363391578010288127 = bl at b0 b1
      refine ⟨_, rfl, _, rfl, a, _, 2, _, rfl, rfl, hl2, atI_nat (j := 2) rfl, _, _, rfl, rfl, ?_, _, _, rfl, rfl, _, _, rfl, rfl, ?_, .inl ⟨_, rfl, _, _, rfl, rfl, (by show (0 : Int) < _; decide), ?_⟩⟩
      · exact wide_mul (a := 30) (b := 30) (by decide) (by omega) (by decide) (by decide) (by decide)
      · exact powW_of (a := 120) (by omega) (by decide) (by decide) (by decide)
      refine ⟨_, rfl, _, _, rfl, rfl, wide_div (b := 30) (by decide) (by decide) (by decide) (by decide), .inl ⟨_, rfl, _, rfl, _, _, rfl, rfl, l0, ?_⟩⟩
      exact q _ _ (Int.emod_nonneg _ (by omega)) (Int.emod_lt_of_pos _ l0) Kp.at ⟨_, _, _, upd_same, d0, s0, s1, by omega, by omega⟩
end

end Pk19
namespace Pk19
open PySem PySem.Spec PyProof.Rows L2 Gd
section
variable {P : Program} {w : World} {K : PySem.W.Frag} {mg : Str → Option Value} {base : Heap}
set_option maxHeartbeats 8000000 in
-- _law_integer: level 2; builtins []; cells []; slots: 0 pool, 1 way
theorem ok__law_integer (h : At K mg "_law_integer" s__law_integer ["pool"]) (D__law_draw : Dn P w K mg base 1 "_law_draw" s__law_draw ["pool", "many"] (sp__law_draw K)) : Dn P w K mg base 2 "_law_integer" s__law_integer ["pool"] (sp__law_integer K) := by
  refine .mk' h fun f fd F => F.ok sc__law_integer (fun vs H Q E h => ?_) (fun cdv A outer s H vs Q E hr h => ?_)
  · obtain ⟨a, n, rfl, rs, hn, q⟩ := h
    rfl
  · obtain ⟨a, n, rfl, rs, hn, q⟩ := h
    refine ⟨_, (pss_cons (ps_set (i := 1) sc__law_integer.nd rfl (.inl rfl) (pe_c D__law_draw hr (by rfl) (pa_cons (pv 0) (pa_cons pe_int pa_nil))))
      (pss_cons (ps_if (pt_cmpR op_lt (pv 1) pe_int (nomark _))
        (pss_one (ps_ret (pe_op op_sub (pe_c D__law_draw hr (by rfl) (pa_cons (pv 0) (pa_cons pe_int pa_nil))) pe_int)))
        pss_nil)
      (pss_cons (ps_if (pt_cmpR op_lt (pv 1) pe_int (nomark _))
        (pss_one (ps_ret (pe_op op_sub (pe_c D__law_draw hr (by rfl) (pa_cons (pv 0) (pa_cons pe_int pa_nil))) pe_int)))
        pss_nil)
      (pss_one (ps_ret (pe_ix ix_list (pe_lst (pa_cons (pe_op op_powW pe_int pe_int) (pa_cons (pe_op op_sub pe_int (pe_op op_powW pe_int pe_int)) (pa_cons (pe_c D__law_draw hr (by rfl) (pa_cons (pv 0) (pa_cons (pe_op op_powW pe_int pe_int) pa_nil))) (pa_cons (pe_op op_sub pe_int (pe_c D__law_draw hr (by rfl) (pa_cons (pv 0) (pa_cons (pe_op op_powW pe_int pe_int) pa_nil)))) pa_nil))))) (pe_c D__law_draw hr (by rfl) (pa_cons (pv 0) (pa_cons pe_int pa_nil))) (fun _ _ => rfl))))))), ?_⟩
    have big : (10 : Int) ^ 31 = 10000000000000000000000000000000 := by decide
    have p200 : (2 : Nat) ^ 200 = 1606938044258990275541962092341162602522202993782792835301376 := by decide
    rw [big] at q
    refine ⟨_, rfl, a, _, n, rfl, rs, by omega, by decide, by decide, fun r H1 r0 r1 k1 rs1 => ⟨_, rfl, _, _, rfl, rfl, _, rfl, ite2 (fun _ => ?_) (fun _ => ⟨_, rfl, _, _, rfl, rfl, _, rfl, ite2 (fun _ => ?_) (fun _ => ?_)⟩)⟩⟩
    · refine ⟨_, rfl, a, _, n + 1, rfl, rs1, by omega, by decide, by decide, fun r2 H2 a0 a1 k2 rs2 => ⟨_, _, rfl, rfl, q _ _ (by omega) (by omega) (k1.trans k2) (rs2.mono (by omega))⟩⟩
    · refine ⟨_, rfl, a, _, n + 1, rfl, rs1, by omega, by decide, by decide, fun r2 H2 a0 a1 k2 rs2 => ⟨_, _, rfl, rfl, q _ _ (by omega) (by omega) (k1.trans k2) (rs2.mono (by omega))⟩⟩
    · have hh : (10 : Int) ^ (30 : Int).toNat = 1000000000000000000000000000000 := by decide
      refine ⟨_, _, rfl, rfl, ten30, ?_⟩
      dsimp only
      generalize hT : (10 : Int) ^ (30 : Int).toNat = T
      refine ⟨_, _, rfl, rfl, ten30, ?_⟩
      dsimp only
      generalize hU : (10 : Int) ^ (30 : Int).toNat = U
      rw [hh] at hT hU
      refine ⟨_, _, rfl, rfl, ?_⟩
      refine ⟨_, rfl, _, _, rfl, rfl, ten31, a, _, n + 1, rfl, rs1, by omega, by decide, by decide, fun r2 H2 a0 a1 k2 rs2 => ?_⟩
      have a1' : r2 < 10000000000000000000000000000000 := a1
      refine ⟨_, rfl, _, _, rfl, rfl, ten31, a, _, n + 2, rfl, rs2, by omega, by decide, by decide, fun r3 H3 b0 b1 k3 rs3 => ?_⟩
      have b1' : r3 < 10000000000000000000000000000000 := b1
      refine ⟨_, _, rfl, rfl, by show 4 ≤ sizeLine; decide, fun p np => ?_⟩
      have sm := Same.new (o := .lst [.int T, .int (0 - U), .int r2, .int (0 - r3)]) np
      have op : upd H3 p (.lst [.int T, .int (0 - U), .int r2, .int (0 - r3)]) p = some (.lst [.int T, .int (0 - U), .int r2, .int (0 - r3)]) := upd_same
      have rs4 := rs3.same sm
      have pa := rs3.fresh np
      refine ⟨_, rfl, a, _, n + 3, rfl, rs4, by omega, by decide, by decide, fun r4 H5 c0 c1 k4 rs5 => ?_⟩
      have kk : Kp a H H5 := (((k1.trans k2).trans k3).trans (Kp.of sm)).trans k4
      have ep : SqL K H5 p [.int T, .int (0 - U), .int r2, .int (0 - r3)] := .inl (.inl (k4 _ _ pa op))
      have four : r4 = 0 ∨ r4 = 1 ∨ r4 = 2 ∨ r4 = 3 := by omega
      rcases four with rfl | rfl | rfl | rfl
      · exact ⟨p, _, 0, _, rfl, rfl, ep, atI_nat (j := 0) rfl, q _ _ (by omega) (by omega) kk rs5⟩
      · exact ⟨p, _, 1, _, rfl, rfl, ep, atI_nat (j := 1) rfl, q _ _ (by omega) (by omega) kk rs5⟩
      · exact ⟨p, _, 2, _, rfl, rfl, ep, atI_nat (j := 2) rfl, q _ _ (by omega) (by omega) kk rs5⟩
      · exact ⟨p, _, 3, _, rfl, rfl, ep, atI_nat (j := 3) rfl, q _ _ (by omega) (by omega) kk rs5⟩
end

end Pk19
namespace Pk19
open PySem PySem.Spec PyProof.Rows L2 Gd
section
variable {P : Program} {w : World} {K : PySem.W.Frag} {mg : Str → Option Value} {base : Heap}
set_option maxHeartbeats 8000000 in
-- _names_of: level 1; builtins ['list']; cells []; slots: 0 rule, 1 named, 2 condition
theorem ok__names_of (h : At K mg "_names_of" s__names_of ["rule"]) (m_list : mg "list" = none) : Dn P w K mg base 1 "_names_of" s__names_of ["rule"] (sp__names_of K) := by
  refine .mk' h fun f fd F => F.ok sc__names_of (fun vs H Q E h => ?_) (fun cdv A outer s H vs Q E hr h => ?_)
  · obtain ⟨v, r, rfl, hv, hc, q⟩ := h
    rfl
  · obtain ⟨v, r, rfl, hv, hc, q⟩ := h
    refine ⟨_, (pss_cons (ps_set (i := 1) sc__names_of.nd rfl (.inl rfl) (pe_ifExp (pt_cmpR op_eq (pe_ix ix_tup (pv 0) pe_int (fun _ _ => rfl)) pe_str (nomark _)) (pe_slice sl_tup (pv 0) (po_some pe_int) (po_some pe_int)) (pe_slice sl_tup (pv 0) (po_some pe_int) (po_some pe_int))))
      (pss_one (ps_ret (pe_op op_cat (pe_callTy call_list_of (by rfl) m_list (by decide +kernel) (pa_cons (pv 1) pa_nil)) (pe_lc (own := [("condition", 2)]) (g := gName 2) rfl sc__names_of.nd (pi_tup (pe_ix ix_tup (pv 0) (pe_un un_neg pe_int) (fun _ _ => rfl))) (blkOk_by (N := ["rule", "named", "condition"]) (sc := defScope s__names_of) (by decide +kernel)) (fun _ _ _ _ _ => pg_name (i := 2) sc__names_of.nd rfl (Or.inl rfl)) (fun _ _ _ _ _ => pts_nil) (fun _ _ _ _ _ => (pe_ix (r := rIxT K) ix_tup (pv 2) pe_int (fun _ _ => rfl)))))))), ?_⟩
    match r, hv, hc, q with
    | .set x r cs, hv, hc, q =>
      obtain ⟨p, vr, c, ys, rfl, s, hr2, s2, a2⟩ := set_inv hv
      have hc' : cs.length ≤ 1000 := hc
      refine ⟨_, rfl, p, _, 0, _, rfl, rfl, s, atI_nat (j := 0) rfl, rfl, true, sEqT, iteT ?_⟩
      refine ⟨_, rfl, 1, rfl, 2, rfl, p, _, rfl, s, (fun z => absurd (show (1 : Nat) = 0 from z.1) (by decide)), fun t nt => ?_⟩
      have k1 : Same H (upd H t (.tup (cutV [V.str "set", .str x, vr, .ref c] (some 1) (some 2)))) := Same.new nt
      have e1 : upd H t (.tup (cutV [V.str "set", .str x, vr, .ref c] (some 1) (some 2))) t = some (.tup [.str x]) := upd_same
      generalize upd H t (.tup (cutV [V.str "set", .str x, vr, .ref c] (some 1) (some 2))) = H1 at k1 e1
      refine ⟨_, rfl, t, _, rfl, .inr (.inl (.inl e1)), fun l nl => ?_⟩
      have k2 : Same H1 (upd H1 l (.lst [.str x])) := Same.new nl
      have e2 : upd H1 l (.lst [.str x]) l = some (.lst [.str x]) := upd_same
      generalize upd H1 l (.lst [.str x]) = H2 at k2 e2
      have k02 := k1.trans k2
      refine ⟨_, rfl, _, rfl, p, _, -1, .ref c, rfl, rfl, SqT.same k02 s, rfl, c, rfl, ⟨_, SqT.same k02 s2⟩, fun D nD => ?_⟩
      have a2' := dpa_same k02 a2
      have ly : ys.length = cs.length := by rw [dpa_len a2, List.length_map]
      refine lc_relT (fun i _ y => ∃ c : Cd, cs[i]? = some c ∧ y = .str c.1) (SqT.same k02 s2) (by omega) nD (fun _ _ _ _ _ _ _ h => h) (fun _ => rfl) ?_ ?_
      · intro i z G R ez sm k
        obtain ⟨cd, ec, dz⟩ := dpa_map_get (dpa_same sm a2') ez
        obtain ⟨pc, vr2, rfl, sc, _⟩ := cd_inv dz
        exact ⟨_, rfl, pc, _, 0, _, rfl, rfl, sc, atI_nat (j := 0) rfl, k _ _ (fun _ _ e => e) ⟨cd, ec, rfl⟩⟩
      · intro G zs sm eD lz hz
        obtain rfl := strs_of (lz.trans ly) hz
        refine ⟨l, D, _, _, rfl, rfl, sm _ _ e2, eD, ?_, fun m nm => ?_⟩
        · rw [List.length_map, List.length_map]
          show 1 + cs.length ≤ sizeLine
          exact Nat.le_trans (by omega : 1 + cs.length ≤ 100000) (by decide)
        · have kf := k02.trans sm
          exact q m _ (kf.trans (Same.new nm)) (kf.free nm) upd_same
    | .stp x y f a r cs, hv, hc, q =>
      obtain ⟨p, vr, c, ys, rfl, s, hr2, s2, a2⟩ := stp_inv hv
      have hc' : cs.length ≤ 1000 := hc
      refine ⟨_, rfl, p, _, 0, _, rfl, rfl, s, atI_nat (j := 0) rfl, rfl, false, (by decide +kernel), iteF ?_⟩
      refine ⟨_, rfl, 1, rfl, 3, rfl, p, _, rfl, s, (fun z => absurd (show (1 : Nat) = 0 from z.1) (by decide)), fun t nt => ?_⟩
      have k1 : Same H (upd H t (.tup (cutV [V.str "step", .str x, .str y, .int f, .int a, vr, .ref c] (some 1) (some 3)))) := Same.new nt
      have e1 : upd H t (.tup (cutV [V.str "step", .str x, .str y, .int f, .int a, vr, .ref c] (some 1) (some 3))) t = some (.tup [.str x, .str y]) := upd_same
      generalize upd H t (.tup (cutV [V.str "step", .str x, .str y, .int f, .int a, vr, .ref c] (some 1) (some 3))) = H1 at k1 e1
      refine ⟨_, rfl, t, _, rfl, .inr (.inl (.inl e1)), fun l nl => ?_⟩
      have k2 : Same H1 (upd H1 l (.lst [.str x, .str y])) := Same.new nl
      have e2 : upd H1 l (.lst [.str x, .str y]) l = some (.lst [.str x, .str y]) := upd_same
      generalize upd H1 l (.lst [.str x, .str y]) = H2 at k2 e2
      have k02 := k1.trans k2
      refine ⟨_, rfl, _, rfl, p, _, -1, .ref c, rfl, rfl, SqT.same k02 s, rfl, c, rfl, ⟨_, SqT.same k02 s2⟩, fun D nD => ?_⟩
      have a2' := dpa_same k02 a2
      have ly : ys.length = cs.length := by rw [dpa_len a2, List.length_map]
      refine lc_relT (fun i _ y => ∃ c : Cd, cs[i]? = some c ∧ y = .str c.1) (SqT.same k02 s2) (by omega) nD (fun _ _ _ _ _ _ _ h => h) (fun _ => rfl) ?_ ?_
      · intro i z G R ez sm k
        obtain ⟨cd, ec, dz⟩ := dpa_map_get (dpa_same sm a2') ez
        obtain ⟨pc, vr2, rfl, sc, _⟩ := cd_inv dz
        exact ⟨_, rfl, pc, _, 0, _, rfl, rfl, sc, atI_nat (j := 0) rfl, k _ _ (fun _ _ e => e) ⟨cd, ec, rfl⟩⟩
      · intro G zs sm eD lz hz
        obtain rfl := strs_of (lz.trans ly) hz
        refine ⟨l, D, _, _, rfl, rfl, sm _ _ e2, eD, ?_, fun m nm => ?_⟩
        · rw [List.length_map, List.length_map]
          show 2 + cs.length ≤ sizeLine
          exact Nat.le_trans (by omega : 2 + cs.length ≤ 100000) (by decide)
        · have kf := k02.trans sm
          exact q m _ (kf.trans (Same.new nm)) (kf.free nm) upd_same
end

end Pk19
namespace Pk19
open PySem PySem.Spec PyProof.Rows L2 Gd
section
variable {P : Program} {w : World} {K : PySem.W.Frag} {mg : Str → Option Value} {base : Heap}
set_option maxHeartbeats 8000000 in
-- _ranges_of: level 1; builtins []; cells []; slots: 0 rule, 1 condition
theorem ok__ranges_of (h : At K mg "_ranges_of" s__ranges_of ["rule"]) : Dn P w K mg base 1 "_ranges_of" s__ranges_of ["rule"] (sp__ranges_of K) := by
  refine .mk' h fun f fd F => F.ok sc__ranges_of (fun vs H Q E h => ?_) (fun cdv A outer s H vs Q E hr h => ?_)
  · obtain ⟨v, r, rfl, hv, hc, q⟩ := h
    rfl
  · obtain ⟨v, r, rfl, hv, hc, q⟩ := h
    refine ⟨_, (pss_one (ps_ret (pe_op op_cat (pe_lst (pa_cons (pe_ix ix_tup (pv 0) (pe_un un_neg pe_int) (fun _ _ => rfl)) pa_nil)) (pe_lc (own := [("condition", 1)]) (g := gName 1) rfl sc__ranges_of.nd (pi_tup (pe_ix ix_tup (pv 0) (pe_un un_neg pe_int) (fun _ _ => rfl))) (blkOk_by (N := ["rule", "condition"]) (sc := defScope s__ranges_of) (by decide +kernel)) (fun _ _ _ _ _ => pg_name (i := 1) sc__ranges_of.nd rfl (Or.inl rfl)) (fun _ _ _ _ _ => pts_nil) (fun _ _ _ _ _ => (pe_ix (r := rIxT K) ix_tup (pv 1) pe_int (fun _ _ => rfl))))))), ?_⟩
    obtain ⟨p, xs, vr, c, ys, rr, rfl, s, e2, e1, hr, s2, a2, er⟩ := rl_last hv
    refine ⟨_, rfl, _, rfl, p, _, -2, vr, rfl, rfl, s, e2, (by show 1 ≤ sizeLine; decide), fun l nl => ?_⟩
    have k1 : Same H (upd H l (.lst [vr])) := Same.new nl
    have el : upd H l (.lst [vr]) l = some (.lst [vr]) := upd_same
    generalize upd H l (.lst [vr]) = H1 at k1 el
    refine ⟨_, rfl, _, rfl, p, _, -1, .ref c, rfl, rfl, SqT.same k1 s, e1, c, rfl, ⟨_, SqT.same k1 s2⟩, fun D nD => ?_⟩
    have a2' := dpa_same k1 a2
    have ly : ys.length = r.cs.length := by rw [dpa_len a2, List.length_map]
    refine lc_relT (fun i G y => ∃ c : Cd, r.cs[i]? = some c ∧ Dp K G y (rgD c.2)) (SqT.same k1 s2) (by omega) nD ?_ (fun _ => rfl) ?_ ?_
    · rintro i G G' y acc kp eD ⟨c, ec, dy⟩
      exact ⟨c, ec, dp_kl ⟨⟨_, eD⟩, kp⟩ dy (noL_rg _)⟩
    · intro i z G R ez sm k
      obtain ⟨cd, ec, dz⟩ := dpa_map_get (dpa_same sm a2') ez
      obtain ⟨pc, vr2, rfl, sc, hr2⟩ := cd_inv dz
      exact ⟨_, rfl, pc, _, 1, _, rfl, rfl, sc, atI_nat (j := 1) rfl, k _ _ (fun _ _ e => e) ⟨cd, ec, dp_rg hr2⟩⟩
    · intro G zs sm eD lz hz
      have dz : DpAll K G zs (r.cs.map fun c => rgD c.2) := dpa_of (lz.trans ly) hz
      refine ⟨l, D, _, _, rfl, rfl, sm _ _ el, eD, ?_, fun m nm => ?_⟩
      · show 1 + zs.length ≤ sizeLine
        exact Nat.le_trans (by omega : 1 + zs.length ≤ 100000) (by decide)
      · have kf := k1.trans sm
        have kf2 := kf.trans (Same.new (o := .lst ([vr] ++ zs)) nm)
        refine q m _ _ kf2 (kf.free nm) upd_same ?_
        rw [er, List.map_cons, List.map_map]
        exact .cons (dp_rg (RgV.same kf2 hr)) (dpa_same (Same.new nm) dz)
end

end Pk19
namespace Pk19
open PySem PySem.Spec PyProof.Rows L2 Gd
section
variable {P : Program} {w : World} {K : PySem.W.Frag} {mg : Str → Option Value} {base : Heap}
set_option maxHeartbeats 8000000 in
-- is_faulty: level 2; builtins ['any']; cells ['names']; slots: 0 rule, 1 names, 2 name, 3 one
theorem ok_is_faulty (h : At K mg "is_faulty" s_is_faulty ["rule", "names"]) (D__names_of : Dn P w K mg base 1 "_names_of" s__names_of ["rule"] (sp__names_of K)) (D__ranges_of : Dn P w K mg base 1 "_ranges_of" s__ranges_of ["rule"] (sp__ranges_of K)) (D_is_upside_down : Dn P w K mg base 1 "is_upside_down" s_is_upside_down ["one"] (sp_is_upside_down K)) (m_any : mg "any" = none) : Dn P w K mg base 2 "is_faulty" s_is_faulty ["rule", "names"] (sp_is_faulty K) := by
  refine .mk' h fun f fd F => F.ok sc_is_faulty (fun vs H Q E h => ?_) (fun cdv A outer s H vs Q E hr h => ?_)
  · obtain ⟨v, r, a, ns, rfl, hv, hc, hn, q⟩ := h
    rfl
  · obtain ⟨v, r, a, ns, rfl, hv, hc, hn, q⟩ := h
    refine ⟨_, (C8.pss_cut (ps_if (PW.pt (pw_and (pt_cmpR op_eq (pe_ix ix_tup (pv 0) pe_int (fun _ _ => rfl)) pe_str (nomark _)) (pw_and1 (pt_cmpR op_eq (pe_ix ix_tup (pv 0) pe_int (fun _ _ => rfl)) pe_int (nomark _)))))
        (pss_one (ps_ret pe_bl))
        pss_nil)
      (C8.pss_cut (ps_if (pt_val (pe_callB (cr_any rfl) (by rfl) m_any (by decide +kernel) (pa_cons (pe_lc (own := [("name", 2)]) (g := gName 2) rfl sc_is_faulty.nd (pi_list (pe_c D__names_of hr (by rfl) (pa_cons (pv 0) pa_nil))) (blkOk_by (N := ["rule", "names", "name", "one"]) (sc := defScope s_is_faulty) (by decide +kernel)) (fun _ _ _ _ _ => pg_name (i := 2) sc_is_faulty.nd rfl (Or.inl rfl)) (fun _ _ _ _ _ => pts_nil) (fun _ _ _ _ _ => (pe_cmpR (r := rIn K true) op_notIn_seq (pv 2) (pv 1) (by rfl)))) pa_nil)))
        (pss_one (ps_ret pe_bl))
        pss_nil)
      (pss_one (ps_ret (pe_callB (cr_any rfl) (by rfl) m_any (by decide +kernel) (pa_cons (pe_lc (own := [("one", 3)]) (g := gName 3) rfl sc_is_faulty.nd (pi_list (pe_c D__ranges_of hr (by rfl) (pa_cons (pv 0) pa_nil))) (blkOk_by (N := ["rule", "names", "name", "one"]) (sc := defScope s_is_faulty) (by decide +kernel)) (fun _ _ _ _ _ => pg_name (i := 3) sc_is_faulty.nd rfl (Or.inl rfl)) (fun _ _ _ _ _ => pts_nil) (fun _ _ _ _ _ => (pe_or (pe_cmpR op_isN (pv 3) pe_non (nomark _)) (pe_one (pe_c D_is_upside_down hr (by rfl) (pa_cons (pv 3) pa_nil)))))) pa_nil)))))), ?_⟩
    have zero : ∃ p xs s0, v = .ref p ∧ SqT K H p xs ∧ atI xs 0 = some (.str s0) ∧ ((decide (V.str s0 = V.str "step") = false ∧ r.zero = false) ∨ (decide (V.str s0 = V.str "step") = true ∧ ∃ f, atI xs 3 = some (.int f) ∧ r.zero = decide (f = 0))) := by
      match r, hv with
      | .set x r cs, hv =>
        obtain ⟨p, vr, c, ys, rfl, s, hr2, s2, a2⟩ := set_inv hv
        exact ⟨p, _, _, rfl, s, rfl, .inl ⟨by decide +kernel, rfl⟩⟩
      | .stp x y f a r cs, hv =>
        obtain ⟨p, vr, c, ys, rfl, s, hr2, s2, a2⟩ := stp_inv hv
        exact ⟨p, _, _, rfl, s, rfl, .inr ⟨decide_eq_true rfl, f, rfl, rfl⟩⟩
    obtain ⟨p, xs, s0, rfl, s, e0, hz⟩ := zero
    have hq : ∀ H', Same H H' → Q (.bl (r.zero || ((r.names.any fun x => !decide (x ∈ ns)) || r.rgs.any badR))) H' := q
    clear q
    refine ⟨fun σ' H' => σ' = [some (.ref p), some (.ref a), none, none] ∧ H = H' ∧ r.zero = false, ?_, ?_⟩
    · rcases hz with ⟨z1, z2⟩ | ⟨z1, f, z2, z3⟩
      · exact ⟨_, rfl, p, xs, 0, _, rfl, rfl, s, e0, rfl, false, congrArg V.bl z1, iteF (iteF ⟨rfl, rfl, z2⟩)⟩
      · refine ⟨_, rfl, p, xs, 0, _, rfl, rfl, s, e0, rfl, true, congrArg V.bl z1, iteT ⟨_, rfl, p, xs, 3, _, rfl, rfl, s, z2, rfl, _, rfl, ?_⟩⟩
        by_cases c : f = 0
        · rw [z3, decide_eq_true c, Bool.true_or] at hq
          subst c
          exact iteT (hq H (fun _ _ e => e))
        · have e : decide (V.int f = V.int 0) = false := decide_eq_false fun z => c (V.int.inj z)
          rw [e]
          exact iteF ⟨rfl, rfl, z3.trans (decide_eq_false c)⟩
    rintro σ' H' ⟨rfl, rfl, hz2⟩
    rw [hz2, Bool.false_or] at hq
    refine ⟨fun σ' H' => σ' = [some (.ref p), some (.ref a), none, none] ∧ Same H H' ∧ (r.names.any fun x => !decide (x ∈ ns)) = false, ?_, ?_⟩
    · refine ⟨_, rfl, _, r, rfl, hv, hc, fun l H1 k1 nl el => ⟨l, rfl, ⟨_, .inl (.inl el)⟩, fun D nD => ?_⟩⟩
      refine lc_rel (fun i _ y => ∃ x, r.names[i]? = some x ∧ y = .bl (!decide (x ∈ ns))) (.inl (.inl el)) ?_ nD (fun _ _ _ _ _ _ _ h => h) (fun _ => rfl) ?_ ?_
      · rw [List.length_map]
        have := names_le (r := r)
        omega
      · intro i z G R ez sm k
        obtain ⟨x, ex, rfl⟩ := map_get ez
        refine ⟨_, rfl, _, rfl, a, _, rfl, .inl ((k1.trans sm).seq hn), rfl, flat_strs ns, ?_⟩
        rw [if_pos rfl, inV_strs]
        exact k _ _ (fun _ _ e => e) ⟨x, ex, rfl⟩
      · intro G zs sm eD lz hz
        rw [List.length_map] at lz
        obtain rfl := bls_of (f := fun x => !decide (x ∈ ns)) lz hz
        refine ⟨D, _, rfl, .inl (.inl eD), _, rfl, ?_⟩
        rw [any_id]
        have kk := k1.trans sm
        cases c : (r.names.any fun x => !decide (x ∈ ns)) with
        | true =>
          rw [c, Bool.true_or] at hq
          exact iteT (hq G kk)
        | false => exact iteF ⟨rfl, kk, rfl⟩
    rintro σ' H1 ⟨rfl, k1, hz3⟩
    rw [hz3, Bool.false_or] at hq
    refine ⟨_, rfl, _, r, rfl, dp_same k1 hv, hc, fun l H2 us k2 nl el du => ⟨l, rfl, ⟨_, .inl (.inl el)⟩, fun D nD => ?_⟩⟩
    have lu : us.length = r.rgs.length := by rw [dpa_len du, List.length_map]
    refine lc_rel (fun i _ y => ∃ x, r.rgs[i]? = some x ∧ y = .bl (badR x)) (.inl (.inl el)) ?_ nD (fun _ _ _ _ _ _ _ h => h) (fun _ => rfl) ?_ ?_
    · have := rgs_le (r := r)
      omega
    · intro i z G R ez sm k
      obtain ⟨x, ex, dz⟩ := dpa_map_get du ez
      have hr := RgV.same sm (dp_rg_inv dz)
      refine ⟨_, rfl, rfl, _, rfl, ?_⟩
      match x, hr with
      | none, hr =>
        obtain rfl := (show z = .non from hr)
        exact iteT (k _ _ (fun _ _ e => e) ⟨none, ex, rfl⟩)
      | some u, hr =>
        obtain ⟨pz, rfl, _⟩ := id hr
        exact iteF ⟨_, rfl, _, some u, rfl, hr, k _ _ (fun _ _ e => e) ⟨some u, ex, rfl⟩⟩
    · intro G zs sm eD lz hz
      obtain rfl := bls_of (f := badR) (lz.trans lu) hz
      refine ⟨D, _, rfl, .inl (.inl eD), ?_⟩
      rw [any_id]
      exact hq G ((k1.trans k2).trans sm)
end

end Pk19
namespace Pk19
open PySem PySem.Spec PyProof.Rows L2 Gd
section
variable {P : Program} {w : World} {K : PySem.W.Frag} {mg : Str → Option Value} {base : Heap}
set_option maxHeartbeats 8000000 in
-- is_name: level 1; builtins ['all', 'len']; cells []; slots: 0 text, 1 sign
theorem ok_is_name (h : At K mg "is_name" s_is_name ["text"]) (m_all : mg "all" = none) (m_len : mg "len" = none) : Dn P w K mg base 1 "is_name" s_is_name ["text"] (sp_is_name K) := by
  refine .mk' h fun f fd F => F.ok sc_is_name (fun vs H Q E h => ?_) (fun cdv A outer s H vs Q E hr h => ?_)
  · obtain ⟨x, rfl, hx, q⟩ := h
    rfl
  · obtain ⟨x, rfl, hx, q⟩ := h
    refine ⟨_, (pss_one (ps_ret (pe_and (pe_chain op_le op_le pe_int (pe_callB call_len_str (by rfl) m_len PySem.boot_len (pa_cons (pv 0) pa_nil)) pe_int) (pe_one (pe_callB (cr_all rfl) (by rfl) m_all (by decide +kernel) (pa_cons (pe_lc (own := [("sign", 1)]) (g := gName 1) rfl sc_is_name.nd (pi_str (pv 0)) (blkOk_by (N := ["text", "sign"]) (sc := defScope s_is_name) (by decide +kernel)) (fun _ _ _ _ _ => pg_name (i := 1) sc_is_name.nd rfl (Or.inl rfl)) (fun _ _ _ _ _ => pts_nil) (fun _ _ _ _ _ => (pe_chain op_le_str op_le_str pe_str (pv 1) pe_str))) pa_nil)))))), ?_⟩
    have hl : x.length ≤ 1000 := hx
    have q' : ∀ H', Same H H' → Q (.bl ((decide (1 ≤ x.cps.size) && decide (x.cps.size ≤ 8)) && x.cps.toList.all fun c => decide (97 ≤ c) && decide (c ≤ 122))) H' := q
    refine ⟨_, rfl, x, rfl, Nat.le_trans (by omega : x.length ≤ 100000) (by decide), _, _, rfl, rfl, _, rfl, ?_⟩
    by_cases c1 : 1 ≤ x.cps.size
    · rw [decide_eq_true (show (1 : Int) ≤ (x.length : Int) from Int.ofNat_le.mpr c1)]
      rw [decide_eq_true c1, Bool.true_and] at q'
      refine iteT ⟨_, _, rfl, rfl, _, rfl, ?_⟩
      by_cases c2 : x.cps.size ≤ 8
      · rw [decide_eq_true (show (x.length : Int) ≤ 8 from Int.ofNat_le.mpr c2)]
        rw [decide_eq_true c2, Bool.true_and] at q'
        refine iteT ⟨_, rfl, x, rfl, fun D nD => lc_strB x (fun c => decide (97 ≤ c) && decide (c ≤ 122)) hx nD (fun _ => rfl) ?_ ?_⟩
        · intro c H' R k
          refine ⟨_, rfl, _, _, rfl, rfl, _, rfl, ?_⟩
          have e1 : (!decide (([c] : List Nat) < [97])) = decide (97 ≤ c) := lt_one c 97
          have e2 : (!decide (([122] : List Nat) < [c])) = decide (c ≤ 122) := lt_one 122 c
          show if (!decide (([c] : List Nat) < [97])) = true then _ else _
          rw [e1]
          cases h : decide (97 ≤ c) with
          | false =>
            rw [h] at k
            exact iteF k
          | true =>
            rw [h, Bool.true_and] at k
            refine iteT ⟨_, _, rfl, rfl, ?_⟩
            show R (.bl (!decide (([122] : List Nat) < [c]))) H'
            rw [e2]
            exact k
        · refine ⟨D, _, rfl, .inl (.inl upd_same), ?_⟩
          rw [List.all_map]
          exact q' _ (Same.new nD)
      · rw [decide_eq_false (show ¬ (x.length : Int) ≤ 8 from fun z => c2 (Int.ofNat_le.mp z))]
        rw [decide_eq_false c2, Bool.false_and] at q'
        exact iteF (q' _ (fun _ _ e => e))
    · rw [decide_eq_false (show ¬ (1 : Int) ≤ (x.length : Int) from fun z => c1 (Int.ofNat_le.mp z))]
      rw [decide_eq_false c1, Bool.false_and, Bool.false_and] at q'
      exact iteF ⟨_, rfl, iteF (q' _ (fun _ _ e => e))⟩
end

end Pk19
namespace Pk19
open PySem PySem.Spec PyProof.Rows L2 Gd
section
variable {P : Program} {w : World} {K : PySem.W.Frag} {mg : Str → Option Value} {base : Heap}
set_option maxHeartbeats 8000000 in
-- _check_system: level 3; builtins ['enumerate']; cells []; slots: 0 names, 1 rules, 2 earlier, 3 name, 4 number, 5 rule
theorem ok__check_system (h : At K mg "_check_system" s__check_system ["names", "rules"]) (D_is_faulty : Dn P w K mg base 2 "is_faulty" s_is_faulty ["rule", "names"] (sp_is_faulty K)) (D_is_name : Dn P w K mg base 1 "is_name" s_is_name ["text"] (sp_is_name K)) (m_enumerate : mg "enumerate" = none) : Dn P w K mg base 3 "_check_system" s__check_system ["names", "rules"] (sp__check_system K) := by
  refine .mk' h fun f fd F => F.ok sc__check_system (fun vs H Q E h => ?_) (fun cdv A outer s H vs Q E hr h => ?_)
  · obtain ⟨a, b, ns, xs, rs, rfl, ha, hb, dr, ok, q⟩ := h
    rfl
  · obtain ⟨a, b, ns, xs, rs, rfl, ha, hb, dr, ok, q⟩ := h
    refine ⟨_, (pss_cons (ps_set (i := 2) sc__check_system.nd rfl (.inl rfl) pe_dnewK)
      (pss_cons (ps_for PassesOwn.never rfl (pi_list (pv 0)) (pg_name (i := 3) sc__check_system.nd rfl (.inl rfl))
        (pss_cons (ps_if (PW.pt (pw_or (pt_cmp (pc_din (hu_of hr) (pv 3) (pv 2))) (pw_or1 (pt_not (pt_val (pe_c D_is_name hr (by rfl) (pa_cons (pv 3) pa_nil)))))))
          (pss_one ps_never)
          pss_nil)
        (pss_one (ps_dput (hu_of hr) (pv 2) (pv 3) pe_bl rfl))))
      (pss_one (ps_for PassesOwn.never rfl (pi_enum (by rfl) m_enumerate (pa_cons (pv 1) pa_nil)) (pg_tup (by rfl) (pgs_cons (pg_name (i := 4) sc__check_system.nd rfl (.inl rfl)) (pgs_cons (pg_name (i := 5) sc__check_system.nd rfl (.inl rfl)) pgs_nil)))
        (pss_one (ps_if (pt_val (pe_c D_is_faulty hr (by rfl) (pa_cons (pv 5) (pa_cons (pv 0) pa_nil))))
          (pss_one ps_never)
          pss_nil)))))), ?_⟩
    refine fun d nd => ⟨_, rfl, a, rfl, ⟨_, (Same.new nd).seq ha⟩, for_list (xs := ns.map V.str) (fun i σ H' => Same H H' ∧ H' d = some (.dK (keyT (ns.take i))) ∧ ∃ y, σ = [some (.ref a), some (.ref b), some (.ref d), y, none, none])
      ⟨Same.new nd, upd_same, none, rfl⟩ (fun i σ H' _ h => h.1.seq ha) ?_ ?_⟩
    · rintro i z σ H' hz ⟨k1, hd, y, rfl⟩
      obtain ⟨x, ex, rfl⟩ := map_get hz
      have hx := ok.ok x (List.mem_of_getElem? ex)
      have nv : valV (keyT (ns.take i)) (Sum.inr x) = none := valV_keyT (nodup_take ok.nd ex)
      refine ⟨_, rfl, _, rfl, d, _, rfl, DGet.k (k := Sum.inr x) hd, false, ?_, iteF ?_⟩
      · rw [nv]
        rfl
      refine ⟨_, rfl, x, rfl, by have := nameOk_size hx; omega, fun H2 k2 => ?_⟩
      have k12 := k1.trans k2
      have lk : (keyT (ns.take i)).length < sizeLine := by
        unfold keyT
        rw [List.length_map, List.length_take]
        have := ok.ln
        exact Nat.lt_of_le_of_lt (by omega : min i ns.length ≤ 100000) (by decide)
      refine ⟨true, congrArg V.bl hx, iteF ⟨_, rfl, _, rfl, d, _, rfl, DPut.k (k := Sum.inr x) (k2 _ _ hd) lk, fun b' o e => ?_, ?_, _, rfl⟩⟩
      · rw [upd_ne (ne_of_none e nd)]
        exact k12 _ _ e
      · rw [upd_same, putK_new _ nv]
        have tk : keyT (ns.take (i + 1)) = keyT (ns.take i) ++ [(Sum.inr x, V.bl true)] := by
          unfold keyT
          rw [List.take_add_one, ex, List.map_append]
          rfl
        rw [tk]
    · rintro σ H' ⟨k1, _, y, rfl⟩
      have lx : xs.length = rs.length := by rw [dpa_len dr, List.length_map]
      refine ⟨_, rfl, b, xs, rfl, k1.seq hb, for_it walk_enum (fun i σ G => Same H G ∧ ∃ y4 y5, σ = [some (.ref a), some (.ref b), some (.ref d), y, y4, y5]) ⟨k1, none, none, rfl⟩ (fun i σ G _ h => h.1.seq hb) ?_ ?_⟩
      · rintro i z σ G G' hi ⟨k, y4, y5, rfl⟩ ⟨T, u, w, rfl, nT, rfl, eu, ew⟩
        obtain rfl := Option.some.inj eu
        obtain ⟨r, er, dw⟩ := dpa_map_get (dpa_same k dr) ew
        have k' : Same H (upd G T (.tup [.int (i : Nat), w])) := k.trans (Same.new nT)
        have mr := List.mem_of_getElem? er
        refine ⟨T, _, rfl, .inl (.inl upd_same), rfl, _, _, rfl, _, _, rfl, rfl, ?_⟩
        refine ⟨_, rfl, _, rfl, w, r, a, ns, rfl, dp_same (Same.new nT) dw, ok.cs r mr, k'.seq ha, fun H3 k3 => ⟨false, congrArg V.bl (ok.nf r mr), iteF ⟨k'.trans k3, _, _, rfl⟩⟩⟩
      · rintro σ G ⟨k, _⟩
        exact q G k
end

end Pk19
namespace Pk19
open PySem PySem.Spec PyProof.Rows L2 Gd
section
variable {P : Program} {w : World} {K : PySem.W.Frag} {mg : Str → Option Value} {base : Heap}
set_option maxHeartbeats 8000000 in
-- System.__init__: level 4; builtins ['list', 'sorted']; cells []; slots: 0 self, 1 names, 2 rules
theorem ok_System___init__ {C : Addr} (T : SysT K mg C) (h : AtM K C "__init__" "System.__init__" s_System___init__ ["self", "names", "rules"]) (D__check_system : Dn P w K mg base 3 "_check_system" s__check_system ["names", "rules"] (sp__check_system K)) (m_list : mg "list" = none) (m_sorted : mg "sorted" = none) : Mt P w K mg base 4 C "__init__" "System.__init__" s_System___init__ ["self", "names", "rules"] (sp_System___init__ K C) := by
  refine .mk' h fun f fd F => F.ok sc_System___init__ (fun vs H Q E h => ?_) (fun cdv A outer s H vs Q E hr h => ?_)
  · obtain ⟨o, dx, a, b, ns, xs, rs, rfl, ho, ha, hb, dr, ok, q⟩ := h
    rfl
  · obtain ⟨o, dx, a, b, ns, xs, rs, rfl, ho, ha, hb, dr, ok, q⟩ := h
    refine ⟨_, (pss_cons (ps_expr (pe_c D__check_system hr (by rfl) (pa_cons (pv 1) (pa_cons (pv 2) pa_nil))))
      (pss_cons (ps_fld (pv 0) (pe_callB cr_sortedS (by rfl) m_sorted (by decide +kernel) (pa_cons (pv 1) pa_nil)) rfl)
      (pss_one (ps_fld (pv 0) (pe_callTy call_list_of (by rfl) m_list (by decide +kernel) (pa_cons (pv 2) pa_nil)) rfl)))), ?_⟩
    refine ⟨_, rfl, _, rfl, a, b, ns, xs, rs, rfl, ha, hb, dr, ok, fun H1 k1 => ?_⟩
    refine ⟨_, rfl, a, ns, rfl, k1.seq ha, ok.ln, fun ss p pm so np => ⟨_, rfl, o, C, dx, [], rfl, ?_, T.ck.cl, T.nN, by decide, ?_⟩⟩
    · exact (Same.new np) _ _ (k1 _ _ ho)
    have k2 : Same H1 (upd H1 p (.lst (ss.map V.str))) := Same.new np
    have ep : upd H1 p (.lst (ss.map V.str)) p = some (.lst (ss.map V.str)) := upd_same
    generalize upd H1 p (.lst (ss.map V.str)) = H2 at k2 ep
    have k02 := k1.trans k2
    have eo : H2 o = some (.ins C dx []) := k02 _ _ ho
    have po : p ≠ o := ne_of ep eo (fun z => by cases z)
    have ki : Ki o H2 (upd H2 o (.ins C dx (putF "_names" (.ref p) []))) := ⟨⟨C, dx, [], eo⟩, Kp.at⟩
    have eo3 : upd H2 o (.ins C dx (putF "_names" (.ref p) [])) o = some (.ins C dx (putF "_names" (.ref p) [])) := upd_same
    generalize upd H2 o (.ins C dx (putF "_names" (.ref p) [])) = H3 at ki eo3
    have hb3 := SqL.ki ki (k02.seq hb)
    refine ⟨_, rfl, b, xs, rfl, .inl hb3, fun l nl => ⟨_, rfl, o, C, dx, _, rfl, (Same.new nl) _ _ eo3, T.ck.cl, T.nR, (by show (1 : Nat) < 1000; decide), ?_⟩⟩
    have k4 : Same H3 (upd H3 l (.lst xs)) := Same.new nl
    have el : upd H3 l (.lst xs) l = some (.lst xs) := upd_same
    generalize upd H3 l (.lst xs) = H4 at k4 el
    have eo4 := k4 _ _ eo3
    have lo : l ≠ o := ne_of el eo4 (fun z => by cases z)
    have ki4 : Ki o H4 (upd H4 o (.ins C dx (putF "_rules" (.ref l) (putF "_names" (.ref p) [])))) := ⟨⟨C, dx, _, eo4⟩, Kp.at⟩
    have np0 : H p = none := by
      cases e : H p with
      | none => rfl
      | some u => rw [k1 _ _ e] at np; cases np
    have nl0 : H l = none := by
      cases e : H l with
      | none => rfl
      | some u =>
        have z : l ≠ o := lo
        rw [ki.2 _ _ z (k02 _ _ e)] at nl
        cases nl
    refine q _ p l ss pm so (((Kp.of k02).trans ki.2).trans ((Kp.of k4).trans Kp.at)) np0 nl0 ?_
    refine ⟨dx, _, xs, upd_same, ?_, ?_, ?_, ?_, dpa_ki ki4 (dpa_same k4 (dpa_ki ki (dpa_same k02 dr))), fun m m1 m2 => ?_⟩
    · rw [lookup_putF, if_neg (by decide), lookup_putF, if_pos rfl]
    · rw [lookup_putF, if_pos rfl]
    · exact ki4.2 _ _ po (k4 _ _ (ki.2 _ _ po ep))
    · exact ki4.2 _ _ lo el
    · rw [lookup_putF, if_neg m2, lookup_putF, if_neg m1]
      rfl
end

end Pk19
namespace Pk19
open PySem PySem.Spec PyProof.Rows L2 Gd
section
variable {P : Program} {w : World} {K : PySem.W.Frag} {mg : Str → Option Value} {base : Heap}
set_option maxHeartbeats 8000000 in
-- System.__len__: level 1; builtins ['len']; cells []; slots: 0 self
theorem ok_System___len__ {C : Addr} (T : SysT K mg C) (h : AtM K C "__len__" "System.__len__" s_System___len__ ["self"]) (m_len : mg "len" = none) : Mt P w K mg base 1 C "__len__" "System.__len__" s_System___len__ ["self"] (sp_System___len__ K C) := by
  refine .mk' h fun f fd F => F.ok sc_System___len__ (fun vs H Q E h => ?_) (fun cdv A outer s H vs Q E hr h => ?_)
  · obtain ⟨a, p, b, ns, rs, rfl, ss, q⟩ := h
    rfl
  · obtain ⟨a, p, b, ns, rs, rfl, ss, q⟩ := h
    refine ⟨_, (pss_one (ps_ret (pe_callB call_len_seq (by rfl) m_len PySem.boot_len (pa_cons (pe_fld (pv 0) rfl) pa_nil)))), ?_⟩
    obtain ⟨dx, fs, xs, h1, h2, h3, h4, h5, h6, h7⟩ := ss
    have lx : xs.length = rs.length := by rw [dpa_len h6, List.length_map]
    rw [← lx] at q
    exact ⟨_, rfl, a, C, dx, fs, _, rfl, h1, T.ck.cl, T.nR, h3, b, xs, rfl, .inl (.inl (.inl h5)), q⟩
end

end Pk19
namespace Pk19
open PySem PySem.Spec PyProof.Rows L2 Gd
section
variable {P : Program} {w : World} {K : PySem.W.Frag} {mg : Str → Option Value} {base : Heap}
set_option maxHeartbeats 8000000 in
-- System.names: level 1; builtins ['list']; cells []; slots: 0 self
theorem ok_System_names {C : Addr} (T : SysT K mg C) (h : AtP K C "names" "System.names" s_System_names ["self"]) (m_list : mg "list" = none) : Pt P w K mg base 1 C "names" "System.names" s_System_names ["self"] (sp_System_names K C) := by
  refine .mk' h fun f fd F => F.ok sc_System_names (fun vs H Q E h => ?_) (fun cdv A outer s H vs Q E hr h => ?_)
  · obtain ⟨a, p, b, ns, rs, rfl, ss, q⟩ := h
    rfl
  · obtain ⟨a, p, b, ns, rs, rfl, ss, q⟩ := h
    refine ⟨_, (pss_one (ps_ret (pe_callTy call_list_of (by rfl) m_list (by decide +kernel) (pa_cons (pe_fld (pv 0) rfl) pa_nil)))), ?_⟩
    obtain ⟨dx, fs, xs, h1, h2, h3, h4, h5, h6, h7⟩ := ss
    exact ⟨_, rfl, a, C, dx, fs, _, rfl, h1, T.ck.cl, T.nN, h2, p, _, rfl, .inl (.inl (.inl h4)), q⟩
end

end Pk19
namespace Pk19
open PySem PySem.Spec PyProof.Rows L2 Gd
section
variable {P : Program} {w : World} {K : PySem.W.Frag} {mg : Str → Option Value} {base : Heap}
set_option maxHeartbeats 8000000 in
-- System.rules: level 1; builtins ['list']; cells []; slots: 0 self
theorem ok_System_rules {C : Addr} (T : SysT K mg C) (h : AtP K C "rules" "System.rules" s_System_rules ["self"]) (m_list : mg "list" = none) : Pt P w K mg base 1 C "rules" "System.rules" s_System_rules ["self"] (sp_System_rules K C) := by
  refine .mk' h fun f fd F => F.ok sc_System_rules (fun vs H Q E h => ?_) (fun cdv A outer s H vs Q E hr h => ?_)
  · obtain ⟨a, p, b, ns, rs, rfl, ss, q⟩ := h
    rfl
  · obtain ⟨a, p, b, ns, rs, rfl, ss, q⟩ := h
    refine ⟨_, (pss_one (ps_ret (pe_callTy call_list_of (by rfl) m_list (by decide +kernel) (pa_cons (pe_fld (pv 0) rfl) pa_nil)))), ?_⟩
    obtain ⟨dx, fs, xs, h1, h2, h3, h4, h5, h6, h7⟩ := ss
    exact ⟨_, rfl, a, C, dx, fs, _, rfl, h1, T.ck.cl, T.nR, h3, b, xs, rfl, .inl (.inl (.inl h5)), fun l nl => q l xs nl h6⟩
end

end Pk19
namespace Pk19
open PySem PySem.Spec PyProof.Rows L2 Gd
section
variable {P : Program} {w : World} {K : PySem.W.Frag} {mg : Str → Option Value} {base : Heap}
set_option maxHeartbeats 8000000 in
-- System.__eq__: level 1; builtins ['isinstance']; cells []; slots: 0 self, 1 other
theorem ok_System___eq__ {C : Addr} (T : SysT K mg C) (h : AtM K C "__eq__" "System.__eq__" s_System___eq__ ["self", "other"]) (m_isinstance : mg "isinstance" = none) : Mt P w K mg base 1 C "__eq__" "System.__eq__" s_System___eq__ ["self", "other"] (sp_System___eq__ K C) := by
  refine .mk' h fun f fd F => F.ok sc_System___eq__ (fun vs H Q E h => ?_) (fun cdv A outer s H vs Q E hr h => ?_)
  · obtain ⟨a, p, b, ns, rs, y, rfl, ss, q⟩ := h
    rfl
  · obtain ⟨a, p, b, ns, rs, y, rfl, ss, q⟩ := h
    refine ⟨_, (pss_one (ps_ret (pe_and (pe_callB call_isi (by rfl) m_isinstance (by decide +kernel) (pa_cons (pv 1) (pa_cons (pe_glob (v := .ref C) rfl T.ck.mg_ rfl) pa_nil))) (pe_and (pe_cmpR (op_eqD hr.units) (pe_fld (pv 0) rfl) (pe_fld (pv 1) rfl) (nomark _)) (pe_one (pe_cmpR (op_eqD hr.units) (pe_fld (pv 0) rfl) (pe_fld (pv 1) rfl) (nomark _))))))), ?_⟩
    refine ⟨_, rfl, ?_⟩
    rcases q with ⟨t, ty, ki, q⟩ | ⟨b', p', q', ns', rs', rfl, ss', la, lb, q⟩
    · exact ⟨y, .ref C, t, .ref C, false, rfl, .own C, ty, ki, _, rfl, iteF q⟩
    · obtain ⟨dx, fs, xs, h1, h2, h3, h4, h5, h6, h7⟩ := ss
      obtain ⟨dx', fs', xs', g1, g2, g3, g4, g5, g6, g7⟩ := ss'
      refine ⟨.ref b', .ref C, .ref C, .ref C, true, rfl, .own C, .base (.ins g1 T.ck.cl T.ha T.hn T.ht T.hm), ?_, _, rfl, iteT ?_⟩
      · unfold PySem.W.kitOne
        rw [if_pos (beq_self_eq_true _)]
      refine ⟨_, rfl, a, C, dx, fs, _, rfl, h1, T.ck.cl, T.nN, h2, _, rfl, b', C, dx', fs', _, rfl, g1, T.ck.cl, T.nN, g2, ?_⟩
      refine ⟨_, _, .lst (.inl (.inl h4)) (dpa_strs ns), .lst (.inl (.inl g4)) (dpa_strs ns'), la.ns.shaped, lb.ns.shaped, _, rfl, ?_⟩
      unfold eqS at q
      cases c : PyData.eqv (.list (ns.map PyData.str)) (.list (ns'.map PyData.str)) with
      | false =>
        rw [c, Bool.false_and] at q
        exact iteF q
      | true =>
        rw [c, Bool.true_and] at q
        refine iteT ⟨_, rfl, a, C, dx, fs, _, rfl, h1, T.ck.cl, T.nR, h3, _, rfl, b', C, dx', fs', _, rfl, g1, T.ck.cl, T.nR, g3, ?_⟩
        exact ⟨_, _, .lst (.inl (.inl h5)) h6, .lst (.inl (.inl g5)) g6, la.rs.shaped, lb.rs.shaped, q⟩
end

end Pk19
namespace Pk19
open PySem PySem.Spec PyProof.Rows L2 Gd
section
variable {P : Program} {w : World} {K : PySem.W.Frag} {mg : Str → Option Value} {base : Heap}
set_option maxHeartbeats 8000000 in
-- _law_range: level 3; builtins ['int', 'max', 'min']; cells []; slots: 0 pool, 1 open_often, 2 one, 3 two, 4 low, 5 high, 6 way
theorem ok__law_range (h : At K mg "_law_range" s__law_range ["pool", "open_often"]) (D__law_draw : Dn P w K mg base 1 "_law_draw" s__law_draw ["pool", "many"] (sp__law_draw K)) (D__law_integer : Dn P w K mg base 2 "_law_integer" s__law_integer ["pool"] (sp__law_integer K)) (m_int : mg "int" = none) (m_max : mg "max" = none) (m_min : mg "min" = none) : Dn P w K mg base 3 "_law_range" s__law_range ["pool", "open_often"] (sp__law_range K) := by
  refine .mk' h fun f fd F => F.ok sc__law_range (fun vs H Q E h => ?_) (fun cdv A outer s H vs Q E hr h => ?_)
  · obtain ⟨a, b, n, rfl, rs, hn, q⟩ := h
    rfl
  · obtain ⟨a, b, n, rfl, rs, hn, q⟩ := h
    refine ⟨_, (pss_cons (ps_par (i := 2) (j := 3) rfl sc__law_range.nd rfl rfl (by decide) rfl rfl (pa_cons (pe_c D__law_integer hr (by rfl) (pa_cons (pv 0) pa_nil)) (pa_cons (pe_c D__law_integer hr (by rfl) (pa_cons (pv 0) pa_nil)) pa_nil)) (by rfl))
      (pss_cons (ps_par (i := 4) (j := 5) rfl sc__law_range.nd rfl rfl (by decide) rfl rfl (pa_cons (pe_callB (call_min2 rfl) (by rfl) m_min (by decide +kernel) (pa_cons (pv 2) (pa_cons (pv 3) pa_nil))) (pa_cons (pe_callB (call_max2 rfl) (by rfl) m_max (by decide +kernel) (pa_cons (pv 2) (pa_cons (pv 3) pa_nil))) pa_nil)) (by rfl))
      (pss_cons (ps_set (i := 6) sc__law_range.nd rfl (.inl rfl) (pe_c D__law_draw hr (by rfl) (pa_cons (pv 0) (pa_cons (pe_ix ix_list (pe_lst (pa_cons pe_int (pa_cons pe_int pa_nil))) (pe_callTy call_int1 (by rfl) m_int (by decide +kernel) (pa_cons (pv 1) pa_nil)) (fun _ _ => rfl)) pa_nil))))
      (C8.pss_cut (ps_if (pt_cmpR op_eq (pv 6) pe_int (nomark _))
        (pss_one (ps_set (i := 4) sc__law_range.nd rfl (.inl rfl) pe_non))
        pss_nil)
      (C8.pss_cut (ps_if (PW.pt (pw_or (pt_cmpR op_eq (pv 6) pe_int (nomark _)) (pw_or1 (pt_cmpR op_eq (pe_c D__law_draw hr (by rfl) (pa_cons (pv 0) (pa_cons pe_int pa_nil))) pe_int (nomark _)))))
        (pss_one (ps_set (i := 5) sc__law_range.nd rfl (.inl rfl) pe_non))
        pss_nil)
      (pss_one (ps_ret (pe_tup (pa_cons (pv 4) (pa_cons (pv 5) pa_nil)))))))))), ?_⟩
    refine ⟨_, rfl, a, n, rfl, rs, by omega, fun i1 H1 a0 a1 k1 rs1 => ?_⟩
    refine ⟨_, rfl, a, n + 4, rfl, rs1, by omega, fun i2 H2 b0 b1 k2 rs2 => ?_⟩
    have kk := k1.trans k2
    refine ⟨_, _, rfl, _, rfl, _, rfl, _, _, rfl, _, rfl, _, rfl, _, _, rfl, _, _, rfl, ?_⟩
    have lo0 : -(10 ^ 31) ≤ (if i2 < i1 then i2 else i1) ∧ (if i2 < i1 then i2 else i1) ≤ 10 ^ 31 := by split <;> exact ⟨by assumption, by assumption⟩
    have hi0 : -(10 ^ 31) ≤ (if i2 > i1 then i2 else i1) ∧ (if i2 > i1 then i2 else i1) ≤ 10 ^ 31 := by split <;> exact ⟨by assumption, by assumption⟩
    have lh : (if i2 < i1 then i2 else i1) ≤ (if i2 > i1 then i2 else i1) := by split <;> split <;> omega
    generalize (if i2 < i1 then i2 else i1) = lo at lo0 lh
    generalize (if i2 > i1 then i2 else i1) = hi at hi0 lh
    refine ⟨_, rfl, by show 2 ≤ sizeLine; decide, fun p np => ?_⟩
    have sm := Same.new (o := .lst [.int 8, .int 3]) np
    have op : upd H2 p (.lst [.int 8, .int 3]) p = some (.lst [.int 8, .int 3]) := upd_same
    generalize upd H2 p (.lst [.int 8, .int 3]) = H3 at sm op
    have rs3 := rs2.same sm
    have way : ∃ lim : Int, 0 < lim ∧ lim.natAbs < 2 ^ 200 ∧ atI [V.int 8, .int 3] (if b then 1 else 0) = some (.int lim) := by
      cases b
      · exact ⟨8, by decide, by decide, rfl⟩
      · exact ⟨3, by decide, by decide, rfl⟩
    obtain ⟨lim, w0, w1, ew⟩ := way
    refine ⟨_, rfl, .inr ⟨b, rfl, p, _, _, _, rfl, rfl, .inl (.inl op), ew, ?_⟩⟩
    refine ⟨a, lim, n + 8, rfl, rs3, by omega, w0, w1, fun r H4 c0 c1 k4 rs4 => ?_⟩
    have k04 := (kk.trans (Kp.of sm)).trans k4
    refine ⟨fun σ' H' => H' = H4 ∧ ∃ l : Option Int, (l = none ∨ l = some lo) ∧ σ' = [some (.ref a), some (.bl b), some (.int i1), some (.int i2), some (ov l), some (.int hi), some (.int r)], ⟨_, rfl, rfl, _, rfl, ite2 (fun _ => ⟨rfl, none, .inl rfl, rfl⟩) (fun _ => ⟨rfl, some lo, .inr rfl, rfl⟩)⟩, ?_⟩
    rintro σ' H4 ⟨rfl, l, hl, rfl⟩
    have bl : BdOk (10 ^ 31) l := by
      rcases hl with rfl | rfl
      · trivial
      · exact lo0
    have fin : ∀ (h : Option Int) (H' : Hp), (h = none ∨ h = some hi) → Kp a H4 H' → RP (n + 10) H' a → ∀ p, H' p = none → Q (.ref p) (upd H' p (.tup [ov l, ov h])) := by
      intro h H' hh k5 rs5 p np
      refine q _ (some (l, h)) _ ⟨?_, bl, ?_⟩ ((k04.trans k5).trans (Kp.new np)) (rs5.same (Same.new np)) ⟨p, rfl, .inl (.inl upd_same)⟩
      · rcases hl with rfl | rfl
        · cases h <;> rfl
        · rcases hh with rfl | rfl
          · rfl
          · show (false || decide (lo > hi)) = false
            rw [Bool.false_or]
            exact decide_eq_false (by omega)
      · rcases hh with rfl | rfl
        · trivial
        · exact hi0
    refine ⟨fun σ' H' => ∃ h : Option Int, (h = none ∨ h = some hi) ∧ Kp a H4 H' ∧ RP (n + 10) H' a ∧ σ' = [some (.ref a), some (.bl b), some (.int i1), some (.int i2), some (ov l), some (ov h), some (.int r)], ?_, ?_⟩
    · refine ⟨_, rfl, rfl, _, rfl, ite2 (fun _ => iteT ?_) (fun _ => ?_)⟩
      · exact ⟨none, .inl rfl, Kp.refl, rs4.mono (by omega), rfl⟩
      · refine ⟨_, rfl, a, _, n + 9, rfl, rs4, by omega, by decide, by decide, fun r2 H5 d0 d1 k5 rs5 => ⟨rfl, _, rfl, ite2 (fun _ => ?_) (fun _ => ?_)⟩⟩
        · exact ⟨none, .inl rfl, k5, rs5, rfl⟩
        · exact ⟨some hi, .inr rfl, k5, rs5, rfl⟩
    · rintro σ' H5 ⟨h, hh, k5, rs5, rfl⟩
      exact ⟨_, rfl, _, rfl, by show 2 ≤ sizeLine; decide, fun p np => fin h H5 hh k5 rs5 p np⟩
end

end Pk19
namespace Pk19
open PySem PySem.Spec PyProof.Rows L2 Gd
section
variable {P : Program} {w : World} {K : PySem.W.Frag} {mg : Str → Option Value} {base : Heap}
set_option maxHeartbeats 8000000 in
-- _law_titles: level 2; builtins ['int']; cells ['start']; slots: 0 pool, 1 start, 2 sign
theorem ok__law_titles (h : At K mg "_law_titles" s__law_titles ["pool"]) (D__law_draw : Dn P w K mg base 1 "_law_draw" s__law_draw ["pool", "many"] (sp__law_draw K)) (m_int : mg "int" = none) : Dn P w K mg base 2 "_law_titles" s__law_titles ["pool"] (sp__law_titles K) := by
  refine .mk' h fun f fd F => F.ok sc__law_titles (fun vs H Q E h => ?_) (fun cdv A outer s H vs Q E hr h => ?_)
  · obtain ⟨a, n, rfl, rs, hn, q⟩ := h
    rfl
  · obtain ⟨a, n, rfl, rs, hn, q⟩ := h
    refine ⟨_, (pss_cons (ps_if (pt_cmpR op_eq (pe_c D__law_draw hr (by rfl) (pa_cons (pv 0) (pa_cons pe_int pa_nil))) pe_int (nomark _))
        (pss_one (ps_ret (pe_slice sl_list (pe_lst (pa_cons pe_str (pa_cons pe_str (pa_cons pe_str (pa_cons pe_str (pa_cons pe_str (pa_cons pe_str pa_nil))))))) po_none (po_some (pe_op op_add pe_int (pe_c D__law_draw hr (by rfl) (pa_cons (pv 0) (pa_cons pe_int pa_nil))))))))
        pss_nil)
      (pss_cons (ps_set (i := 1) sc__law_titles.nd rfl (.inr rfl) (pe_slice sl_str pe_str po_none (po_some (pe_op op_mulW (pe_c D__law_draw hr (by rfl) (pa_cons (pv 0) (pa_cons pe_int pa_nil))) (pe_callTy call_int1 (by rfl) m_int (by decide +kernel) (pa_cons (pe_cmpR op_eq (pe_c D__law_draw hr (by rfl) (pa_cons (pv 0) (pa_cons pe_int pa_nil))) pe_int (nomark _)) pa_nil))))))
      (pss_one (ps_ret (pe_lc (own := [("sign", 2)]) (g := gName 2) rfl sc__law_titles.nd (pi_list (pe_slice sl_list (pe_lst (pa_cons pe_str (pa_cons pe_str (pa_cons pe_str (pa_cons pe_str (pa_cons pe_str (pa_cons pe_str pa_nil))))))) po_none (po_some (pe_op op_add pe_int (pe_c D__law_draw hr (by rfl) (pa_cons (pv 0) (pa_cons pe_int pa_nil))))))) (blkOk_by (N := ["pool", "start", "sign"]) (sc := defScope s__law_titles) (by decide +kernel)) (fun _ _ _ _ _ => pg_name (i := 2) sc__law_titles.nd rfl (Or.inl rfl)) (fun _ _ _ _ _ => pts_nil) (fun _ _ _ _ _ => (pe_op op_add_str (pv 1) (pv 2)))))))), ?_⟩
    refine ⟨_, rfl, a, _, n, rfl, rs, by omega, by decide, by decide, fun r H1 r0 r1 k1 rs1 => ⟨rfl, _, rfl, ite2 (fun _ => ?_) (fun _ => ?_)⟩⟩
    · refine ⟨by show 6 ≤ sizeLine; decide, fun p np => ?_⟩
      have sm := Same.new (o := .lst [V.str "counterx", .str "countery", .str "xounterx", .str "counxerx", .str "counter", .str "countern"]) np
      have op : upd H1 p (.lst [V.str "counterx", .str "countery", .str "xounterx", .str "counxerx", .str "counter", .str "countern"]) p = some (.lst (longN.map V.str)) := upd_same
      generalize hH : upd H1 p (.lst [V.str "counterx", .str "countery", .str "xounterx", .str "counxerx", .str "counter", .str "countern"]) = H2
      replace sm : Same H1 H2 := hH ▸ sm
      replace op : H2 p = some (.lst (longN.map V.str)) := hH ▸ op
      have rs2 := rs1.same sm
      refine ⟨_, rfl, a, _, n + 1, rfl, rs2, by omega, by decide, by decide, fun r2 H3 a0 a1 k3 rs3 => ?_⟩
      have op3 := k3 _ _ (rs1.fresh np) op
      refine ⟨_, _, rfl, rfl, _, rfl, p, _, rfl, .inl (.inl op3), fun l nl => ?_⟩
      have er : (1 + r2 : Int) = (((1 + r2.toNat : Nat)) : Int) := by omega
      have kk := (k1.trans (Kp.of sm)).trans k3
      refine q l _ (longN.take (1 + r2.toNat)) (kk.trans (Kp.new nl)) ((rs3.same (Same.new nl)).mono (by omega)) (rs3.none_of kk nl) ?_ (titles_of long_nd long_ok rfl (by omega))
      rw [upd_same, er, cut_upto, List.map_take]
    · refine ⟨_, rfl, a, _, n + 1, rfl, rs1, by omega, by decide, by decide, fun r2 H2 a0 a1 k2 rs2 => ?_⟩
      refine ⟨_, rfl, a, _, n + 2, rfl, rs2, by omega, by decide, by decide, fun r3 H3 b0 b1 k3 rs3 => ?_⟩
      refine ⟨rfl, .inr ⟨_, rfl, _, _, rfl, rfl, wide_mul (a := 10) (b := 10) (by omega) (by split <;> decide) (by decide) (by decide) (by decide), ?_⟩⟩
      obtain ⟨k, hk, ek⟩ : ∃ k : Nat, k ∈ [0, 1, 2, 3, 4] ∧ r2 * (if decide (V.int r3 = V.int 0) = true then 1 else 0) = (k : Int) := by
        have five : r2 = 0 ∨ r2 = 1 ∨ r2 = 2 ∨ r2 = 3 ∨ r2 = 4 := by omega
        split
        · rcases five with rfl | rfl | rfl | rfl | rfl
          · exact ⟨0, by decide, rfl⟩
          · exact ⟨1, by decide, rfl⟩
          · exact ⟨2, by decide, rfl⟩
          · exact ⟨3, by decide, rfl⟩
          · exact ⟨4, by decide, rfl⟩
        · exact ⟨0, by decide, by omega⟩
      have kk := (k1.trans k2).trans k3
      refine ⟨(k : Int), congrArg V.int ek, ?_⟩
      refine ⟨_, rfl, by show 4 ≤ sizeLine; decide, ?_⟩
      refine ⟨by show 6 ≤ sizeLine; decide, fun p np => ?_⟩
      have sm := Same.new (o := .lst [V.str "x", .str "b", .str "a", .str "xa", .str "m", .str "c"]) np
      have op : upd H3 p (.lst [V.str "x", .str "b", .str "a", .str "xa", .str "m", .str "c"]) p = some (.lst (signN.map V.str)) := upd_same
      generalize hH : upd H3 p (.lst [V.str "x", .str "b", .str "a", .str "xa", .str "m", .str "c"]) = H4
      replace sm : Same H3 H4 := hH ▸ sm
      replace op : H4 p = some (.lst (signN.map V.str)) := hH ▸ op
      have rs4 := rs3.same sm
      refine ⟨_, rfl, a, _, n + 3, rfl, rs4, by omega, by decide, by decide, fun r5 H5 c0 c1 k5 rs5 => ?_⟩
      have op5 := k5 _ _ (rs3.fresh np) op
      refine ⟨_, _, rfl, rfl, _, rfl, p, _, rfl, .inl (.inl op5), fun l nl => ?_⟩
      have er : (1 + r5 : Int) = (((1 + r5.toNat : Nat)) : Int) := by omega
      rw [er, cut_upto, ← List.map_take]
      have sl := Same.new (o := .lst ((signN.take (1 + r5.toNat)).map V.str)) nl
      have ol : upd H5 l (.lst ((signN.take (1 + r5.toNat)).map V.str)) l = some (.lst ((signN.take (1 + r5.toNat)).map V.str)) := upd_same
      generalize upd H5 l (.lst ((signN.take (1 + r5.toNat)).map V.str)) = H6 at sl ol
      have rs6 := rs5.same sl
      have k6 := ((kk.trans (Kp.of sm)).trans k5).trans (Kp.of sl)
      refine ⟨l, rfl, ⟨_, .inl (.inl ol)⟩, fun D nD => ?_⟩
      refine lc_map (xs := (signN.take (1 + r5.toNat)).map V.str) (fun z => match z with | .str x => .str (startS k ++ x) | z => z) (.inl (.inl ol)) ?_ nD (fun _ => rfl) ?_ ?_
      · rw [List.length_map, List.length_take]
        have : signN.length = 6 := rfl
        omega
      · intro z G R mz sG kq
        obtain ⟨x, mx, rfl⟩ := List.mem_map.mp mz
        have sh := sign_short k hk x (List.mem_of_mem_take mx)
        refine ⟨_, rfl, _, rfl, _, _, rfl, rfl, ?_, kq⟩
        exact Nat.le_trans (by omega : (startS k).length + x.length ≤ 100000) (by decide)
      · have ok := sign_ok k hk
        refine q D _ ((signN.map (startS k ++ ·)).take (1 + r5.toNat)) (k6.trans (Kp.new nD)) ((rs6.same (Same.new nD)).mono (by omega)) (rs6.none_of k6 nD) ?_ (titles_of ok.2 ok.1 (by rw [List.length_map]; rfl) (by omega))
        rw [upd_same, ← List.map_take, List.map_map, List.map_map]
        rfl
end

end Pk19
namespace Pk19
open PySem PySem.Spec PyProof.Rows L2 Gd
section
variable {P : Program} {w : World} {K : PySem.W.Frag} {mg : Str → Option Value} {base : Heap}
set_option maxHeartbeats 8000000 in
-- _law_rules: level 4; builtins ['len', 'range', 'tuple']; cells []; slots: 0 pool, 1 titles, 2 many, 3 some, 4 turn, 5 conds, 6 lap, 7 one, 8 two, 9 factor, 10 within_here
theorem ok__law_rules (h : At K mg "_law_rules" s__law_rules ["pool", "titles", "many"]) (D__law_draw : Dn P w K mg base 1 "_law_draw" s__law_draw ["pool", "many"] (sp__law_draw K)) (D__law_integer : Dn P w K mg base 2 "_law_integer" s__law_integer ["pool"] (sp__law_integer K)) (D__law_range : Dn P w K mg base 3 "_law_range" s__law_range ["pool", "open_often"] (sp__law_range K)) (m_len : mg "len" = none) (m_range : mg "range" = none) (m_tuple : mg "tuple" = none) : Dn P w K mg base 4 "_law_rules" s__law_rules ["pool", "titles", "many"] (sp__law_rules K) := by
  refine .mk' h fun f fd F => F.ok sc__law_rules (fun vs H Q E h => ?_) (fun cdv A outer s H vs Q E hr h => ?_)
  · obtain ⟨g, w, m, n, ws, rfl, rs, hn, wg, hw, tok, m0, m1, q⟩ := h
    rfl
  · obtain ⟨g, w, m, n, ws, rfl, rs, hn, wg, hw, tok, m0, m1, q⟩ := h
    refine ⟨_, (pss_cons (ps_set (i := 3) sc__law_rules.nd rfl (.inl rfl) (pe_lst pa_nil))
      (pss_cons (ps_for PassesOwn.never rfl (pi_range1 (by rfl) m_range (pa_cons (pv 2) pa_nil)) (pg_name (i := 4) sc__law_rules.nd rfl (.inl rfl))
        (pss_cons (ps_set (i := 5) sc__law_rules.nd rfl (.inl rfl) (pe_lst pa_nil))
        (pss_cons (ps_for PassesOwn.never rfl (pi_range1 (by rfl) m_range (pa_cons (pe_ix ix_list (pe_lst (pa_cons pe_int (pa_cons pe_int (pa_cons pe_int (pa_cons pe_int (pa_cons pe_int pa_nil)))))) (pe_c D__law_draw hr (by rfl) (pa_cons (pv 0) (pa_cons pe_int pa_nil))) (fun _ _ => rfl)) pa_nil)) (pg_name (i := 6) sc__law_rules.nd rfl (.inl rfl))
          (pss_one (ps_expr (pe_bm PySem.F.plainAttrs_list PySem.F.slot_list_append PySem.F.type_list_append mt_append (pv 5) (pa_cons (pe_tup (pa_cons (pe_ix ix_list (pv 1) (pe_c D__law_draw hr (by rfl) (pa_cons (pv 0) (pa_cons (pe_callB call_len_seq (by rfl) m_len PySem.boot_len (pa_cons (pv 1) pa_nil)) pa_nil))) (fun _ _ => rfl)) (pa_cons (pe_c D__law_range hr (by rfl) (pa_cons (pv 0) (pa_cons pe_bl pa_nil))) pa_nil))) pa_nil)))))
        (pss_cons (ps_par (i := 7) (j := 8) rfl sc__law_rules.nd rfl rfl (by decide) rfl rfl (pa_cons (pe_ix ix_list (pv 1) (pe_c D__law_draw hr (by rfl) (pa_cons (pv 0) (pa_cons (pe_callB call_len_seq (by rfl) m_len PySem.boot_len (pa_cons (pv 1) pa_nil)) pa_nil))) (fun _ _ => rfl)) (pa_cons (pe_ix ix_list (pv 1) (pe_c D__law_draw hr (by rfl) (pa_cons (pv 0) (pa_cons (pe_callB call_len_seq (by rfl) m_len PySem.boot_len (pa_cons (pv 1) pa_nil)) pa_nil))) (fun _ _ => rfl)) pa_nil)) (by rfl))
        (pss_one (ps_if (PW.pt (pw_or (pt_cmpR op_eq (pv 4) pe_int (nomark _)) (pw_or1 (pt_cmpR op_eq (pe_c D__law_draw hr (by rfl) (pa_cons (pv 0) (pa_cons pe_int pa_nil))) pe_int (nomark _)))))
          (pss_one (ps_expr (pe_bm PySem.F.plainAttrs_list PySem.F.slot_list_append PySem.F.type_list_append mt_append (pv 3) (pa_cons (pe_tup (pa_cons pe_str (pa_cons (pv 7) (pa_cons (pe_c D__law_range hr (by rfl) (pa_cons (pv 0) (pa_cons pe_bl pa_nil))) (pa_cons (pe_callTy call_tuple_of (by rfl) m_tuple (by decide +kernel) (pa_cons (pe_slice sl_list (pv 5) po_none (po_some (pv 4))) pa_nil)) pa_nil))))) pa_nil))))
          (pss_cons (ps_set (i := 9) sc__law_rules.nd rfl (.inl rfl) (pe_ix ix_list (pe_lst (pa_cons pe_int (pa_cons pe_int (pa_cons (pe_un un_neg pe_int) (pa_cons pe_int (pa_cons (pe_un un_neg pe_int) (pa_cons (pe_un un_neg pe_int) (pa_cons (pe_op op_add (pe_c D__law_draw hr (by rfl) (pa_cons (pv 0) (pa_cons pe_int pa_nil))) pe_int) (pa_cons (pe_op op_sub (pe_op op_sub pe_int pe_int) (pe_c D__law_draw hr (by rfl) (pa_cons (pv 0) (pa_cons pe_int pa_nil)))) pa_nil))))))))) (pe_c D__law_draw hr (by rfl) (pa_cons (pv 0) (pa_cons pe_int pa_nil))) (fun _ _ => rfl)))
          (C8.pss_cut (ps_set (i := 10) sc__law_rules.nd rfl (.inl rfl) (pe_ifExp (pt_cmpR op_eq (pe_c D__law_draw hr (by rfl) (pa_cons (pv 0) (pa_cons pe_int pa_nil))) pe_int (nomark _)) (pe_tup (pa_cons pe_non (pa_cons pe_non pa_nil))) (pe_c D__law_range hr (by rfl) (pa_cons (pv 0) (pa_cons pe_bl pa_nil)))))
          (pss_one (ps_expr (pe_bm PySem.F.plainAttrs_list PySem.F.slot_list_append PySem.F.type_list_append mt_append (pv 3) (pa_cons (pe_tup (pa_cons pe_str (pa_cons (pv 7) (pa_cons (pv 8) (pa_cons (pv 9) (pa_cons (pe_c D__law_integer hr (by rfl) (pa_cons (pv 0) pa_nil)) (pa_cons (pv 10) (pa_cons (pe_callTy call_tuple_of (by rfl) m_tuple (by decide +kernel) (pa_cons (pv 5) pa_nil)) pa_nil)))))))) pa_nil))))))))))))
      (pss_one (ps_ret (pv 3))))), ?_⟩
    have p200 : (2 : Nat) ^ 200 = 1606938044258990275541962092341162602522202993782792835301376 := by decide
    have wl := tok.l6
    have wpos : 0 < ws.length := List.length_pos_iff.mpr tok.l0
    have wi : (ws.map V.str).length = ws.length := List.length_map _
    refine ⟨by show 0 ≤ sizeLine; decide, fun S nS => ?_⟩
    have smS : Same H (upd H S (.lst [])) := Same.new nS
    have oS : upd H S (.lst []) S = some (.lst []) := upd_same
    have Sg : S ≠ g := rs.fresh nS
    generalize upd H S (.lst []) = HS at smS oS
    refine ⟨_, rfl, m, rfl, by omega, by omega, for_range (n := m.toNat) (fun i σ H' => ∃ (rr : List Rl) (xs : List V) (y4 y5 y6 y7 y8 y9 y10 : Option V), σ = [some (.ref g), some (.ref w), some (.int m), some (.ref S), y4, y5, y6, y7, y8, y9, y10] ∧ Kp g H H' ∧ RP (n + 60 * i) H' g ∧
      H' S = some (.lst xs) ∧ DpAll K H' xs (rr.map Rl.d) ∧ RowsGd ws rr ∧ rr.length = i ∧ ∀ r ∈ rr, FacOk r) ⟨[], [], none, none, none, none, none, none, none, rfl, Kp.of smS, (rs.same smS).mono (by omega), oS, .nil, (fun _ z => absurd z (by simp)), rfl, (fun _ z => absurd z (by simp))⟩ ?_ ?_⟩
    · rintro i σ H5 hi ⟨rr, xs, y4, y5, y6, y7, y8, y9, y10, rfl, kp5, rs5, oS5, dx5, gd5, l5, fc5⟩
      have hi12 : i < 12 := by omega
      refine ⟨by show 0 ≤ sizeLine; decide, fun c nc => ?_⟩
      have cg : c ≠ g := rs5.fresh nc
      have nc0 : H c = none := rs5.none_of kp5 nc
      have cS : c ≠ S := fun z => by rw [z, oS5] at nc; cases nc
      have sc : Same H5 (upd H5 c (.lst [])) := Same.new nc
      have oc : upd H5 c (.lst []) c = some (.lst []) := upd_same
      generalize upd H5 c (.lst []) = H6 at sc oc
      refine ⟨by show 5 ≤ sizeLine; decide, fun p np => ?_⟩
      have sp := Same.new (o := .lst [.int 0, .int 0, .int 0, .int 1, .int 2]) np
      have op : upd H6 p (.lst [.int 0, .int 0, .int 0, .int 1, .int 2]) p = some (.lst [.int 0, .int 0, .int 0, .int 1, .int 2]) := upd_same
      have pg := (rs5.same sc).fresh np
      generalize upd H6 p (.lst [.int 0, .int 0, .int 0, .int 1, .int 2]) = H7 at sp op
      have s57 := sc.trans sp
      refine ⟨_, rfl, g, _, n + 60 * i, rfl, rs5.same s57, by omega, by decide, by decide, fun r0 H8 a0 a1 k8 rs8 => ?_⟩
      obtain ⟨cnt, ecn, c0, c2⟩ := pick_few a0 a1
      refine ⟨p, _, r0, _, rfl, rfl, .inl (.inl (k8 _ _ pg op)), ecn, _, rfl, by omega, by omega, ?_⟩
      have k58 : Kp g H5 H8 := (Kp.of s57).trans k8
      have oc8 := k8 _ _ cg (sp _ _ oc)
      have kl58 := rs5.kl k58
      refine for_range (n := cnt.toNat) (fun j σ H' => ∃ (cs : List Cd) (ys : List V) (y6 : Option V), σ = [some (.ref g), some (.ref w), some (.int m), some (.ref S), some (.int (0 + (i : Nat))), some (.ref c), y6, y7, y8, y9, y10] ∧ Kp g H H' ∧
        RP (n + 60 * i + 1 + 12 * j) H' g ∧ H' c = some (.lst ys) ∧ DpAll K H' ys (cs.map cdD) ∧ cs.length = j ∧ CdsOk ws cs ∧ H' S = some (.lst xs) ∧ DpAll K H' xs (rr.map Rl.d))
        ⟨[], [], y6, rfl, kp5.trans k58, rs8, oc8, .nil, rfl, (fun _ z => absurd z (by simp)), k58 _ _ Sg oS5, dpa_kl kl58 dx5 (noL_rls rr)⟩ ?_ ?_
      · rintro j σ H2 hj ⟨cs, ys, y6, rfl, kp, rs2, oc2, dc, lc, gc, oS2, dx2⟩
        refine ⟨_, rfl, ty_lst oc2, _, rfl, _, rfl, _, rfl, w, _, rfl, .inl (Kp.lst kp wg hw), g, _, n + 60 * i + 1 + 12 * j, rfl, rs2, by omega, by rw [wi]; omega, by rw [wi, p200]; omega, fun r H3 r0 r1 k3 rs3 => ?_⟩
        rw [wi] at r1
        obtain ⟨x, mx, ex⟩ := str_at r0 r1
        have kp3 := kp.trans k3
        refine ⟨w, _, r, _, rfl, rfl, Kp.lst kp3 wg hw, ex, _, rfl, g, true, n + 60 * i + 1 + 12 * j + 1, rfl, rs3, by omega, fun v gv H4 gd k4 rs4 hv => ?_⟩
        refine ⟨by show 2 ≤ sizeLine; decide, fun p np => ?_⟩
        have k34 : Kl g H2 H4 := rs2.kl (k3.trans k4)
        have oc4 : H4 c = some (.lst ys) := k34.2 _ _ cg oc2
        have sm5 : Same H4 (upd H4 p (.tup [.str x, v])) := Same.new np
        have op : upd H4 p (.tup [.str x, v]) p = some (.tup [.str x, v]) := upd_same
        have rs5 := rs4.same sm5
        generalize upd H4 p (.tup [.str x, v]) = H5 at sm5 op rs5
        have oc5 := sm5 _ _ oc4
        have dc5 : DpAll K H5 ys (cs.map cdD) := dpa_same sm5 (dpa_kl k34 dc (noL_map cs))
        have dn : Dp K H5 (.ref p) (cdD (x, gv)) := .tup (.inl (.inl op)) (.cons (.str x) (.cons (dp_rg (RgV.same sm5 hv)) .nil))
        have ly : ys.length = cs.length := by rw [dpa_len dc, List.length_map]
        refine ⟨c, ys, _, rfl, rfl, oc5, Nat.lt_of_lt_of_le (by omega : ys.length < 100000) (by decide), ?_⟩
        have kc : Kl c H5 (upd H5 c (.lst (ys ++ [.ref p]))) := ⟨⟨_, oc5⟩, Kp.at⟩
        refine ⟨cs ++ [(x, gv)], ys ++ [.ref p], _, rfl, ?_, (rs5.put (Ne.symm cg)).mono (by omega), upd_same, dpa_snoc (dpa_kl kc dc5 (noL_map cs)) (dp_kl kc dn (noL_cd _)), by rw [List.length_append, lc]; rfl, gc.snoc ⟨mx, gd⟩, ?_, ?_⟩
        · intro b o hb e
          rw [upd_ne (ne_of_none e nc0)]
          exact sm5 _ _ (k34.2 _ _ hb (kp _ _ hb e))
        · rw [upd_ne (Ne.symm cS)]
          exact sm5 _ _ (k34.2 _ _ Sg oS2)
        · exact dpa_kl kc (dpa_same sm5 (dpa_kl k34 dx2 (noL_rls rr))) (noL_rls rr)
      · rintro σ H2 ⟨cs, ys, y6, rfl, kp, rs2, oc2, dc, lc, gc, oS2, dx2⟩
        have lc2 : cs.length ≤ 2 := by omega
        replace rs2 := rs2.mono (show n + 60 * i + 1 + 12 * cnt.toNat ≤ n + 60 * i + 25 by omega)
        refine ⟨_, rfl, _, rfl, _, rfl, w, _, rfl, .inl (Kp.lst kp wg hw), g, _, n + 60 * i + 25, rfl, rs2, by omega, by rw [wi]; omega, by rw [wi, p200]; omega, fun r3 H3 r30 r31 k3 rs3 => ?_⟩
        rw [wi] at r31
        obtain ⟨x, mx, ex⟩ := str_at r30 r31
        have kp3 := kp.trans k3
        refine ⟨w, _, r3, _, rfl, rfl, Kp.lst kp3 wg hw, ex, _, rfl, _, rfl, _, rfl, w, _, rfl, .inl (Kp.lst kp3 wg hw), g, _, n + 60 * i + 26, rfl, rs3, by omega, by rw [wi]; omega, by rw [wi, p200]; omega, fun r4 H4 r40 r41 k4 rs4 => ?_⟩
        rw [wi] at r41
        obtain ⟨y, my, ey⟩ := str_at r40 r41
        have kp4 := kp3.trans k4
        refine ⟨w, _, r4, _, rfl, rfl, Kp.lst kp4 wg hw, ey, _, _, rfl, ?_⟩
        -- the end of both ways: a rule is put in
        have fin : ∀ (H9 : Hp) (p : Addr) (r : Rl) (u4 y9 y10 : Option V), Kp g H2 H9 → RP (n + 60 * i + 59) H9 g → Dp K H9 (.ref p) r.d → RlGd ws r → FacOk r → H9 S = some (.lst xs) ∧ xs.length < sizeLine ∧
            (∃ (rr : List Rl) (xs' : List V) (z4 z5 z6 z7 z8 z9 z10 : Option V), ([some (.ref g), some (.ref w), some (.int m), some (.ref S), u4, some (.ref c), y6, some (.str x), some (.str y), y9, y10] : L2.St) = [some (.ref g), some (.ref w), some (.int m), some (.ref S), z4, z5, z6, z7, z8, z9, z10] ∧
              Kp g H (upd H9 S (.lst (xs ++ [.ref p]))) ∧ RP (n + 60 * (i + 1)) (upd H9 S (.lst (xs ++ [.ref p]))) g ∧ upd H9 S (.lst (xs ++ [.ref p])) S = some (.lst xs') ∧ DpAll K (upd H9 S (.lst (xs ++ [.ref p]))) xs' (rr.map Rl.d) ∧ RowsGd ws rr ∧ rr.length = i + 1 ∧ ∀ r ∈ rr, FacOk r) := by
          intro H9 p r u4 y9 y10 k9 rs9 dr gr fr
          have kl9 : Kl g H2 H9 := rs2.kl k9
          have oS9 := kl9.2 _ _ Sg oS2
          have lx : xs.length = rr.length := by rw [dpa_len dx2, List.length_map]
          have kS : Kl S H9 (upd H9 S (.lst (xs ++ [.ref p]))) := ⟨⟨_, oS9⟩, Kp.at⟩
          refine ⟨oS9, Nat.lt_of_lt_of_le (by omega : xs.length < 100000) (by decide), rr ++ [r], xs ++ [.ref p], _, _, _, _, _, _, _, rfl, ?_, (rs9.put (Ne.symm Sg)).mono (by omega), upd_same, ?_, gd5.snoc gr, by rw [List.length_append, l5]; rfl, fun z mz => ?_⟩
          · intro b o hb e
            rw [upd_ne (ne_of_none e nS)]
            exact kl9.2 _ _ hb (kp _ _ hb e)
          · rw [List.map_append]
            exact dpa_app (dpa_kl kS (dpa_kl kl9 dx2 (noL_rls rr)) (noL_rls rr)) (dpa_one (dp_kl kS dr (noL_rl r)))
          · rcases List.mem_append.mp mz with mz | mz
            · exact fc5 z mz
            · obtain rfl : z = r := by simpa using mz
              exact fr
        have k24 : Kp g H2 H4 := k3.trans k4
        refine ⟨_, rfl, rfl, _, rfl, ite2 (fun _ => iteT ?_) (fun _ => ⟨_, rfl, g, _, n + 60 * i + 27, rfl, rs4.mono (by omega), by omega, by decide, by decide, fun r5 H5 r50 r51 k5 rs5 => ⟨rfl, _, rfl, ite2 (fun _ => ?_) (fun _ => ?_)⟩⟩)⟩
        · -- a set, at first
          · have k2X : Kl g H2 H4 := rs2.kl k24
            have rsX : RP (n + 60 * i + 28) H4 g := rs4.mono (by omega)
            refine ⟨_, rfl, ty_lst (k2X.2 _ _ Sg oS2), _, rfl, _, rfl, g, false, n + 60 * i + 28, rfl, rsX, by omega, fun v gv H6 gv_ k6 rs6 hv => ?_⟩
            have k26 : Kp g H2 H6 := k2X.2.trans k6
            have kl26 := rs2.kl k26
            have oc6 := k26 _ _ cg oc2
            refine ⟨_, rfl, _, rfl, _, rfl, c, _, rfl, .inl (.inl oc6), fun l nl => ?_⟩
            rw [show (0 + (i : Nat) : Int) = ((i : Nat) : Int) by omega, cut_upto]
            have sl := Same.new (o := .lst (ys.take i)) nl
            have ol : upd H6 l (.lst (ys.take i)) l = some (.lst (ys.take i)) := upd_same
            generalize upd H6 l (.lst (ys.take i)) = H7 at sl ol
            refine ⟨l, _, rfl, .inl ⟨.inl (.inl ol), fun t nt => ?_⟩⟩
            have st := Same.new (o := .tup (ys.take i)) nt
            have ot : upd H7 t (.tup (ys.take i)) t = some (.tup (ys.take i)) := upd_same
            generalize upd H7 t (.tup (ys.take i)) = H8 at st ot
            refine ⟨by show 4 ≤ sizeLine; decide, fun p np => ?_⟩
            have sp := Same.new (o := .tup [.str "set", .str x, v, .ref t]) np
            have op : upd H8 p (.tup [.str "set", .str x, v, .ref t]) p = some (.tup [.str "set", .str x, v, .ref t]) := upd_same
            generalize upd H8 p (.tup [.str "set", .str x, v, .ref t]) = H9 at sp op
            have s69 := (sl.trans st).trans sp
            obtain ⟨oS9, lt9, inv⟩ := fin H9 p (.set x gv (cs.take i)) (some (.int ((i : Nat) : Int))) y9 y10 (k26.trans (Kp.of s69)) ((rs6.same s69).mono (by omega)) (dp_set op (hv.same s69) (.inl (.inl (sp _ _ ot))) (dpa_take (dpa_same s69 (dpa_kl kl26 dc (noL_map cs))))) (rlGd_set mx gv_ (gc.sub fun z m => List.mem_of_mem_take m) (by rw [List.length_take]; omega)) trivial
            exact ⟨S, xs, _, rfl, rfl, oS9, lt9, inv⟩
        · -- a set
          · have k2X : Kl g H2 H5 := rs2.kl (k24.trans k5)
            have rsX : RP (n + 60 * i + 28) H5 g := rs5.mono (by omega)
            refine ⟨_, rfl, ty_lst (k2X.2 _ _ Sg oS2), _, rfl, _, rfl, g, false, n + 60 * i + 28, rfl, rsX, by omega, fun v gv H6 gv_ k6 rs6 hv => ?_⟩
            have k26 : Kp g H2 H6 := k2X.2.trans k6
            have kl26 := rs2.kl k26
            have oc6 := k26 _ _ cg oc2
            refine ⟨_, rfl, _, rfl, _, rfl, c, _, rfl, .inl (.inl oc6), fun l nl => ?_⟩
            rw [show (0 + (i : Nat) : Int) = ((i : Nat) : Int) by omega, cut_upto]
            have sl := Same.new (o := .lst (ys.take i)) nl
            have ol : upd H6 l (.lst (ys.take i)) l = some (.lst (ys.take i)) := upd_same
            generalize upd H6 l (.lst (ys.take i)) = H7 at sl ol
            refine ⟨l, _, rfl, .inl ⟨.inl (.inl ol), fun t nt => ?_⟩⟩
            have st := Same.new (o := .tup (ys.take i)) nt
            have ot : upd H7 t (.tup (ys.take i)) t = some (.tup (ys.take i)) := upd_same
            generalize upd H7 t (.tup (ys.take i)) = H8 at st ot
            refine ⟨by show 4 ≤ sizeLine; decide, fun p np => ?_⟩
            have sp := Same.new (o := .tup [.str "set", .str x, v, .ref t]) np
            have op : upd H8 p (.tup [.str "set", .str x, v, .ref t]) p = some (.tup [.str "set", .str x, v, .ref t]) := upd_same
            generalize upd H8 p (.tup [.str "set", .str x, v, .ref t]) = H9 at sp op
            have s69 := (sl.trans st).trans sp
            obtain ⟨oS9, lt9, inv⟩ := fin H9 p (.set x gv (cs.take i)) (some (.int ((i : Nat) : Int))) y9 y10 (k26.trans (Kp.of s69)) ((rs6.same s69).mono (by omega)) (dp_set op (hv.same s69) (.inl (.inl (sp _ _ ot))) (dpa_take (dpa_same s69 (dpa_kl kl26 dc (noL_map cs))))) (rlGd_set mx gv_ (gc.sub fun z m => List.mem_of_mem_take m) (by rw [List.length_take]; omega)) trivial
            exact ⟨S, xs, _, rfl, rfl, oS9, lt9, inv⟩
        · -- a step
          refine ⟨_, rfl, _, rfl, _, rfl, _, rfl, g, _, n + 60 * i + 28, rfl, rs5.mono (by omega), by omega, by decide, by decide, fun r6 H6 r60 r61 k6 rs6 => ⟨_, _, rfl, rfl, _, _, rfl, rfl, ?_⟩⟩
          refine ⟨_, rfl, g, _, n + 60 * i + 29, rfl, rs6, by omega, by decide, by decide, fun r7 H7 r70 r71 k7 rs7 => ⟨_, _, rfl, rfl, by show 8 ≤ sizeLine; decide, fun t1 nt1 => ?_⟩⟩
          have st1 := Same.new (o := .lst [.int 1, .int 1, .int (-1), .int 2, .int (-2), .int (-1), .int (r6 + 1), .int (0 - 1 - r7)]) nt1
          refine ⟨_, rfl, g, _, n + 60 * i + 30, rfl, rs7.same st1, by omega, by decide, by decide, fun r8 H8 r80 r81 k8 rs8 => ?_⟩
          obtain ⟨sz, esz, sz0, szb⟩ := pick_fac r60 r61 r70 r71 r80 r81
          refine ⟨t1, _, r8, _, rfl, rfl, .inl (.inl (k8 _ _ (rs7.fresh nt1) upd_same)), esz, ?_⟩
          have k28 : Kp g H2 H8 := ((k24.trans k5).trans (k6.trans k7)).trans ((Kp.of st1).trans k8)
          refine ⟨fun σ' H' => ∃ (v : V) (gv : Rg), σ' = [some (.ref g), some (.ref w), some (.int m), some (.ref S), some (.int (0 + (i : Nat))), some (.ref c), y6, some (.str x), some (.str y), some (.int sz), some v] ∧ RgGd gv ∧ RgV K H' v gv ∧ Kp g H2 H' ∧ RP (n + 60 * i + 42) H' g, ?_, ?_⟩
          · refine ⟨_, rfl, g, _, n + 60 * i + 31, rfl, rs8, by omega, by decide, by decide, fun r9 H9 r90 r91 k9 rs9 => ⟨rfl, _, rfl, ite2 (fun _ => ?_) (fun _ => ?_)⟩⟩
            · refine ⟨by show 2 ≤ sizeLine; decide, fun t nt => ?_⟩
              exact ⟨.ref t, some (none, none), rfl, ⟨rfl, trivial, trivial⟩, ⟨t, rfl, .inl (.inl upd_same)⟩, (k28.trans k9).trans (Kp.new nt), (rs9.same (Same.new nt)).mono (by omega)⟩
            · refine ⟨_, rfl, g, true, n + 60 * i + 32, rfl, rs9, by omega, fun v gv Ha ga ka rsa hv => ?_⟩
              exact ⟨v, gv, rfl, ga, hv, (k28.trans k9).trans ka, rsa⟩
          · rintro σ' Ha ⟨v, gv, rfl, ga, hv, k2a, rsa⟩
            refine ⟨_, rfl, ty_lst (k2a _ _ Sg oS2), _, rfl, _, rfl, _, rfl, _, rfl, g, n + 60 * i + 42, rfl, rsa, by omega, fun ad Hb ad0 ad1 kb rsb => ?_⟩
            have k2b := k2a.trans kb
            have klb := rs2.kl k2b
            refine ⟨_, rfl, _, rfl, c, _, rfl, .inl ⟨.inl (.inl (k2b _ _ cg oc2)), fun t nt => ?_⟩⟩
            have st := Same.new (o := .tup ys) nt
            have ot : upd Hb t (.tup ys) t = some (.tup ys) := upd_same
            generalize upd Hb t (.tup ys) = Hc at st ot
            refine ⟨by show 7 ≤ sizeLine; decide, fun p np => ?_⟩
            have sp := Same.new (o := .tup [.str "step", .str x, .str y, .int sz, .int ad, v, .ref t]) np
            have op : upd Hc p (.tup [.str "step", .str x, .str y, .int sz, .int ad, v, .ref t]) p = some (.tup [.str "step", .str x, .str y, .int sz, .int ad, v, .ref t]) := upd_same
            generalize upd Hc p (.tup [.str "step", .str x, .str y, .int sz, .int ad, v, .ref t]) = Hd_ at sp op
            have sbd := st.trans sp
            have hv2 := (RgV.kl (rsa.kl kb) hv).same sbd
            obtain ⟨oS9, lt9, inv⟩ := fin Hd_ p (.stp x y sz ad gv cs) (some (.int (0 + (i : Nat)))) (some (.int sz)) (some v) (k2b.trans (Kp.of sbd)) ((rsb.same sbd).mono (by omega)) (dp_stp op hv2 (.inl (.inl (sp _ _ ot))) (dpa_same sbd (dpa_kl klb dc (noL_map cs)))) (rlGd_stp mx my sz0 szb ad0 ad1 ga gc lc2) szb
            exact ⟨S, xs, _, rfl, rfl, oS9, lt9, inv⟩
    · rintro σ H5 ⟨rr, xs, y4, y5, y6, y7, y8, y9, y10, rfl, kp5, rs5, oS5, dx5, gd5, l5, fc5⟩
      exact ⟨_, rfl, q S H5 xs rr gd5 fc5 (by omega) kp5 (rs5.mono (by omega)) nS oS5 dx5⟩
end

end Pk19
namespace Pk19
open PySem PySem.Spec PyProof.Rows L2 Gd
section
variable {P : Program} {w : World} {K : PySem.W.Frag} {mg : Str → Option Value} {base : Heap}
set_option maxHeartbeats 8000000 in
-- rule_counts: level 5; builtins ['all']; cells ['ranges']; slots: 0 rule, 1 ranges, 2 name, 3 one
theorem ok_rule_counts (h : At K mg "rule_counts" s_rule_counts ["rule", "ranges"]) (D_meets : Dn P w K mg base 4 "meets" s_meets ["one", "other"] (sp_meets K)) (m_all : mg "all" = none) : Dn P w K mg base 5 "rule_counts" s_rule_counts ["rule", "ranges"] (sp_rule_counts K) := by
  refine .mk' h fun f fd F => F.ok sc_rule_counts (fun vs H Q E h => ?_) (fun cdv A outer s H vs Q E hr h => ?_)
  · obtain ⟨v, r, a, ws, g, rfl, hv, hd, gd, q⟩ := h
    rfl
  · obtain ⟨v, r, a, ws, g, rfl, hv, hd, gd, q⟩ := h
    refine ⟨_, (pss_cons (ps_if (pt_not (pt_val (pe_callB (cr_all rfl) (by rfl) m_all (by decide +kernel) (pa_cons (pe_lc (own := [("name", 2), ("one", 3)]) (g := (gTup K 2 (gCons (gName 2) (gCons (gName 3) gNil)))) rfl sc_rule_counts.nd (pi_tup (pe_ix ix_tup (pv 0) (pe_un un_neg pe_int) (fun _ _ => rfl))) (blkOk_by (N := ["rule", "ranges", "name", "one"]) (sc := defScope s_rule_counts) (by decide +kernel)) (fun _ _ _ _ _ => (pg_tup (by rfl) (pgs_cons (pg_name (i := 2) sc_rule_counts.nd rfl (.inl rfl)) (pgs_cons (pg_name (i := 3) sc_rule_counts.nd rfl (.inl rfl)) pgs_nil)))) (fun _ _ _ _ _ => pts_nil) (fun _ _ _ _ _ => (pe_c D_meets hr (by rfl) (pa_cons (pe_dget (hu_of hr) (pv 1) (pv 2) (fun _ _ => rfl)) (pa_cons (pv 3) pa_nil))))) pa_nil))))
        (pss_one (ps_ret pe_bl))
        pss_nil)
      (pss_one (ps_ret (pe_or (pe_cmpR op_eq (pe_ix ix_tup (pv 0) pe_int (fun _ _ => rfl)) pe_str (nomark _)) (pe_one (pe_c D_meets hr (by rfl) (pa_cons (pe_dget (hu_of hr) (pv 1) (pe_ix ix_tup (pv 0) pe_int (fun _ _ => rfl)) (fun _ _ => rfl)) (pa_cons (pe_ix ix_tup (pv 0) pe_int (fun _ _ => rfl)) pa_nil)))))))), ?_⟩
    obtain ⟨p, xs, vr, c, ys, rr, rfl, s, e2, e1, hr2, s2, a2, er⟩ := rl_last hv
    have ly : ys.length = r.cs.length := by rw [dpa_len a2, List.length_map]
    have lc := gd.cs
    refine ⟨_, rfl, _, rfl, p, _, -1, .ref c, rfl, rfl, s, e1, c, rfl, ⟨_, s2⟩, fun D nD => ?_⟩
    refine lc_tup (K := K) (a := c) (xs := ys) (fun i G => Same H G ∧ G D = some (.lst (((r.cs.take i).map (onC g)).map V.bl))) ⟨Same.new nD, upd_same⟩ (fun i G _ h => SqT.same h.1 s2) ?_ ?_
    · rintro i z G ez ⟨sm, oD⟩
      obtain ⟨cd, ec, dz⟩ := dpa_map_get (dpa_same sm a2) ez
      obtain ⟨pc, vr2, rfl, sc, hr3⟩ := cd_inv dz
      obtain ⟨mn, gn⟩ := gd.cdn cd (List.mem_of_getElem? ec)
      obtain ⟨u, du, ru⟩ := (hd.same sm).get mn
      refine ⟨pc, _, rfl, sc, rfl, _, _, rfl, _, _, rfl, rfl, rfl, ?_⟩
      refine ⟨_, rfl, _, rfl, a, u, rfl, du, _, rfl, u, vr2, g cd.1, cd.2, rfl, ru, hr3, (hd.gd _ mn).1, gn.fit, fun G' k => ?_⟩
      refine ⟨_, k _ _ oD, ?_, fun b o e => ?_, ?_⟩
      · rw [List.length_map, List.length_map, List.length_take]
        exact Nat.lt_of_le_of_lt (by omega : _ ≤ 100) (by decide)
      · rw [upd_ne (ne_of_none e nD)]
        exact k _ _ (sm _ _ e)
      · rw [upd_same, take_succ ec, List.map_append, List.map_append]
        rfl
    · rintro G ⟨sm, oD⟩
      rw [ly, List.take_length] at oD
      refine ⟨D, _, rfl, .inl (.inl oD), ?_⟩
      have al : (List.map (onC g) r.cs).all id = r.cs.all (onC g) := by rw [List.all_map]; rfl
      rw [al]
      match r, hv, gd, er, q with
      | .set x rg cs, hv, gd, er, q =>
        obtain ⟨p', vr', q', ys', e_, s', _, _, _⟩ := set_inv hv
        cases e_
        cases hc : cs.all (onC g) with
        | false =>
          have o1 : onR g (.set x rg cs) = false := hc
          rw [o1] at q
          exact ⟨false, by rw [← hc]; rfl, iteT (q _ sm)⟩
        | true =>
          have o1 : onR g (.set x rg cs) = true := hc
          rw [o1] at q
          refine ⟨true, by rw [← hc]; rfl, iteF ?_⟩
          exact ⟨_, rfl, p, _, 0, _, rfl, rfl, SqT.same sm s', atI_nat (j := 0) rfl, rfl, true, sEqT, iteT (q _ sm)⟩
      | .stp x y fa ad rg cs, hv, gd, er, q =>
        obtain ⟨p', vr', q', ys', e_, s', hrg, _, _⟩ := stp_inv hv
        cases e_
        cases hc : cs.all (onC g) with
        | false =>
          have o1 : onR g (.stp x y fa ad rg cs) = false := by
            show (cs.all (onC g) && _) = false
            rw [hc]
            rfl
          rw [o1] at q
          exact ⟨false, by rw [← hc]; rfl, iteT (q _ sm)⟩
        | true =>
          have o1 : onR g (.stp x y fa ad rg cs) = (comR (g y) rg).isSome := by
            show (cs.all (onC g) && _) = _
            rw [hc]
            rfl
          rw [o1] at q
          refine ⟨true, by rw [← hc]; rfl, iteF ?_⟩
          have my : y ∈ ws := gd.nm y (List.mem_cons_of_mem _ List.mem_cons_self)
          have gr := gd.rg rg List.mem_cons_self
          obtain ⟨u, du, ru⟩ := (hd.same sm).get my
          refine ⟨_, rfl, p, _, 0, _, rfl, rfl, SqT.same sm s', atI_nat (j := 0) rfl, rfl, false, (by decide +kernel), iteF ?_⟩
          refine ⟨_, rfl, _, rfl, p, _, 2, _, rfl, rfl, SqT.same sm s', atI_nat (j := 2) rfl, a, u, rfl, du, _, rfl, p, _, 5, _, rfl, rfl, SqT.same sm s', atI_nat (j := 5) rfl, ?_⟩
          exact ⟨u, vr', g y, rg, rfl, ru, hrg.same sm, (hd.gd _ my).1, gr.fit, fun G' k => q _ (sm.trans k)⟩
end

end Pk19
namespace Pk19
open PySem PySem.Spec PyProof.Rows L2 Gd
section
variable {P : Program} {w : World} {K : PySem.W.Frag} {mg : Str → Option Value} {base : Heap}
set_option maxHeartbeats 8000000 in
-- rule_gives: level 6; builtins []; cells []; slots: 0 rule, 1 ranges, 2 y, 3 factor, 4 add, 5 within
theorem ok_rule_gives (h : At K mg "rule_gives" s_rule_gives ["rule", "ranges"]) (D_common : Dn P w K mg base 3 "common" s_common ["one", "other"] (sp_common K)) (D_rule_counts : Dn P w K mg base 5 "rule_counts" s_rule_counts ["rule", "ranges"] (sp_rule_counts K)) (D_stepped : Dn P w K mg base 3 "stepped" s_stepped ["one", "factor", "add"] (sp_stepped K)) : Dn P w K mg base 6 "rule_gives" s_rule_gives ["rule", "ranges"] (sp_rule_gives K) := by
  refine .mk' h fun f fd F => F.ok sc_rule_gives (fun vs H Q E h => ?_) (fun cdv A outer s H vs Q E hr h => ?_)
  · obtain ⟨v, r, a, ws, g, rfl, hv, hd, gd, h9, q⟩ := h
    rfl
  · obtain ⟨v, r, a, ws, g, rfl, hv, hd, gd, h9, q⟩ := h
    refine ⟨_, (pss_cons (ps_if (pt_not (pt_val (pe_c D_rule_counts hr (by rfl) (pa_cons (pv 0) (pa_cons (pv 1) pa_nil)))))
        (pss_one (ps_ret pe_non))
        pss_nil)
      (pss_cons (ps_if (pt_cmpR op_eq (pe_ix ix_tup (pv 0) pe_int (fun _ _ => rfl)) pe_str (nomark _))
        (pss_one (ps_ret (pe_ix ix_tup (pv 0) pe_int (fun _ _ => rfl))))
        pss_nil)
      (pss_cons (ps_asg (pe_slice sl_tup (pv 0) (po_some pe_int) (po_some pe_int)) (pg_tup (by rfl) (pgs_cons (pg_name (i := 2) sc_rule_gives.nd rfl (.inl rfl)) (pgs_cons (pg_name (i := 3) sc_rule_gives.nd rfl (.inl rfl)) (pgs_cons (pg_name (i := 4) sc_rule_gives.nd rfl (.inl rfl)) (pgs_cons (pg_name (i := 5) sc_rule_gives.nd rfl (.inl rfl)) pgs_nil))))))
      (pss_one (ps_ret (pe_c D_stepped hr (by rfl) (pa_cons (pe_c D_common hr (by rfl) (pa_cons (pe_dget (hu_of hr) (pv 1) (pv 2) (fun _ _ => rfl)) (pa_cons (pv 5) pa_nil))) (pa_cons (pv 3) (pa_cons (pv 4) pa_nil))))))))), ?_⟩
    refine ⟨_, rfl, _, rfl, v, r, a, ws, g, rfl, hv, hd, gd, fun H1 s1 => ?_⟩
    cases ho : onR g r with
    | false =>
      have o1 : giftR g r = none := by unfold giftR; rw [ho]; rfl
      rw [o1] at q
      exact ⟨false, rfl, iteT (q _ _ s1 rfl)⟩
    | true =>
      refine ⟨true, rfl, iteF ?_⟩
      match r, hv, gd, h9, ho, q with
      | .set x rg cs, hv, gd, h9, ho, q =>
        have o1 : giftR g (.set x rg cs) = rg := by unfold giftR; rw [ho]; rfl
        rw [o1] at q
        obtain ⟨p, vr, c, ys, rfl, s, hrg, s2, a2⟩ := set_inv hv
        refine ⟨_, rfl, p, _, 0, _, rfl, rfl, SqT.same s1 s, atI_nat (j := 0) rfl, rfl, true, sEqT, iteT ?_⟩
        exact ⟨_, rfl, p, _, 2, _, rfl, rfl, SqT.same s1 s, atI_nat (j := 2) rfl, q _ _ s1 (hrg.same s1)⟩
      | .stp x y fa ad rg cs, hv, gd, h9, ho, q =>
        have o1 : giftR g (.stp x y fa ad rg cs) = stepR fa ad (comR (g y) rg) := by unfold giftR; rw [ho]; rfl
        rw [o1] at q
        obtain ⟨p, vr, c, ys, rfl, s, hrg, s2, a2⟩ := stp_inv hv
        have my : y ∈ ws := gd.nm y (List.mem_cons_of_mem _ List.mem_cons_self)
        have gr := gd.rg rg List.mem_cons_self
        refine ⟨_, rfl, p, _, 0, _, rfl, rfl, SqT.same s1 s, atI_nat (j := 0) rfl, rfl, false, (by decide +kernel), iteF ?_⟩
        refine ⟨_, rfl, 2, rfl, 6, rfl, p, _, rfl, SqT.same s1 s, (fun z => absurd (show (2 : Nat) = 0 from z.1) (by decide)), fun t nt => ?_⟩
        have k1 : Same H1 (upd H1 t (.tup (cutV [V.str "step", .str x, .str y, .int fa, .int ad, vr, .ref c] (some 2) (some 6)))) := Same.new nt
        have e1 : upd H1 t (.tup (cutV [V.str "step", .str x, .str y, .int fa, .int ad, vr, .ref c] (some 2) (some 6))) t = some (.tup [.str y, .int fa, .int ad, vr]) := upd_same
        generalize upd H1 t (.tup (cutV [V.str "step", .str x, .str y, .int fa, .int ad, vr, .ref c] (some 2) (some 6))) = H2 at k1 e1
        have k02 := s1.trans k1
        refine ⟨t, _, rfl, .inl (.inl e1), rfl, _, _, rfl, _, _, rfl, _, _, rfl, _, _, rfl, rfl, ?_⟩
        obtain ⟨u, du, ru⟩ := (hd.same k02).get my
        refine ⟨_, rfl, _, rfl, a, u, rfl, du, _, rfl, u, vr, g y, rg, rfl, ru, hrg.same k02, (hd.gd _ my).1, gr.fit, fun v3 H3 k3 hv3 => ?_⟩
        refine ⟨_, rfl, _, rfl, v3, comR (g y) rg, fa, ad, rfl, hv3, comR_fit, szR_in (comR_in (hd.gd _ my).2 gr.2), h9 _ _ _ _ _ _ rfl, fun v4 H4 k4 hv4 => ?_⟩
        exact q _ _ ((k02.trans k3).trans k4) hv4
end

end Pk19
namespace Pk19
open PySem PySem.Spec PyProof.Rows L2 Gd
section
variable {P : Program} {w : World} {K : PySem.W.Frag} {mg : Str → Option Value} {base : Heap}
set_option maxHeartbeats 8000000 in
-- RangeError.__init__: level 1; builtins []; cells []; slots: 0 self, 1 value
theorem ok_RangeError___init__ {fI : Addr} (h : AtI K fI "RangeError.__init__" s_RangeError___init__ ["self", "value"]) : DnI P w K mg base 1 fI "RangeError.__init__" s_RangeError___init__ ["self", "value"] (spIni K) := by
  refine .mk' h fun f fd F => F.ok sc_RangeError___init__ (fun vs H Q E h => ?_) (fun cdv A outer s H vs Q E hr h => ?_)
  · obtain ⟨a, c, v, rfl, ox, nv, ea, q⟩ := h
    rfl
  · obtain ⟨a, c, v, rfl, ox, nv, ea, q⟩ := h
    refine ⟨_, (pss_one (ps_ost (pv 0) (pv 1) rfl)), ?_⟩
    exact ⟨_, rfl, _, rfl, a, c, rfl, ox, nv, .inl ⟨ea, fun dx n ne => q dx n ne⟩⟩
end

end Pk19
namespace Pk19
open PySem PySem.Spec PyProof.Rows L2 Gd
section
variable {P : Program} {w : World} {K : PySem.W.Frag} {mg : Str → Option Value} {base : Heap}
set_option maxHeartbeats 8000000 in
-- check_number: level 3; builtins ['len']; cells []; slots: 0 system, 1 number
theorem ok_check_number {C : Addr} (T : SysT K mg C) {c0 c1 c2 c3 c4 c5 c6 c7 c8 fI : Addr} (X : ErrT K mg [c0, c1, c2, c3, c4, c5, c6, c7, c8] ["RangeError", "InvalidRange", "InvalidName", "InvalidSystem", "InvalidRule", "UnknownName", "InvalidMove", "NothingToUndo", "Unreadable"] fI) (h : At K mg "check_number" s_check_number ["system", "number"]) (D_RangeError___init__ : DnI P w K mg base 1 fI "RangeError.__init__" s_RangeError___init__ ["self", "value"] (spIni K)) (kI_value : ∀ fd, Fun K "__init__" "RangeError.__init__" s_RangeError___init__ fI fd → ∀ (s : Shared) (a u : Value), BindsTo s fd ⟨[a], [("value", u)]⟩ ((["self", "value"] : List Str).zip [a, u])) (D_System___len__ : Mt P w K mg base 1 C "__len__" "System.__len__" s_System___len__ ["self"] (sp_System___len__ K C)) (m_len : mg "len" = none) : DnX P w K mg base 3 "check_number" s_check_number ["system", "number"] (sp_check_number K C [c0, c1, c2, c3, c4, c5, c6, c7, c8]) := by
  refine .mk' h fun f fd F => F.okX sc_check_number (fun vs H Q E h => ?_) (fun cdv A outer s H vs Q E hr h => ?_)
  · obtain ⟨a, p, b, ns, rs, n, rfl, ss, rl, q, e⟩ := h
    rfl
  · obtain ⟨a, p, b, ns, rs, n, rfl, ss, rl, q, e⟩ := h
    refine ⟨_, (pss_one (ps_if (pt_not (pt_chain op_le op_lt pe_int (pv 1) (pe_callB (call_lenO D_System___len__ hr) (by rfl) m_len PySem.boot_len (pa_cons (pv 0) pa_nil))))
        (pss_one (ps_raiseE rfl (X.t 4 _ _ rfl rfl) D_RangeError___init__ hr (takes_of rfl rfl rfl rfl) (by rfl) (pa_cons (pv 1) pa_nil)))
        pss_nil)), ?_⟩
    obtain ⟨dx, fs, ea⟩ := ss.ins
    have T4 := X.t 4 _ _ rfl rfl
    by_cases n0 : 0 ≤ n
    · refine ⟨_, rfl, _, _, rfl, rfl, true, congrArg V.bl (decide_eq_true n0), iteT ?_⟩
      by_cases n1 : n < (rs.length : Int)
      · exact ⟨_, rfl, a, dx, fs, rfl, ea, a, p, b, ns, rs, rfl, ss, _, rfl, by omega, by omega, _, _, rfl, rfl, true, congrArg V.bl (decide_eq_true n1), iteF (q ⟨n0, n1⟩)⟩
      · refine ⟨_, rfl, a, dx, fs, rfl, ea, a, p, b, ns, rs, rfl, ss, _, rfl, by omega, by omega, _, _, rfl, rfl, false, congrArg V.bl (decide_eq_false n1), iteT ?_⟩
        obtain ⟨c, ec, e⟩ := e (fun z => n1 z.2)
        obtain rfl := Option.some.inj ec
        exact ⟨_, rfl, by show 1 ≤ 1000; decide, mk_raise T4.ox T4.nV e⟩
    · refine ⟨_, rfl, _, _, rfl, rfl, false, congrArg V.bl (decide_eq_false n0), iteF ?_⟩
      obtain ⟨c, ec, e⟩ := e (fun z => n0 z.1)
      obtain rfl := Option.some.inj ec
      exact ⟨false, rfl, iteT ⟨_, rfl, by show 1 ≤ 1000; decide, mk_raise T4.ox T4.nV e⟩⟩
end

end Pk19
namespace Pk19
open PySem PySem.Spec PyProof.Rows L2 Gd
section
variable {P : Program} {w : World} {K : PySem.W.Frag} {mg : Str → Option Value} {base : Heap}
set_option maxHeartbeats 8000000 in
-- counts: level 6; builtins []; cells []; slots: 0 system, 1 ranges, 2 number
theorem ok_counts {C : Addr} (T : SysT K mg C) {c0 c1 c2 c3 c4 c5 c6 c7 c8 fI : Addr} (X : ErrT K mg [c0, c1, c2, c3, c4, c5, c6, c7, c8] ["RangeError", "InvalidRange", "InvalidName", "InvalidSystem", "InvalidRule", "UnknownName", "InvalidMove", "NothingToUndo", "Unreadable"] fI) (h : At K mg "counts" s_counts ["system", "ranges", "number"]) (D_System_rules : Pt P w K mg base 1 C "rules" "System.rules" s_System_rules ["self"] (sp_System_rules K C)) (D_check_number : DnX P w K mg base 3 "check_number" s_check_number ["system", "number"] (sp_check_number K C [c0, c1, c2, c3, c4, c5, c6, c7, c8])) (D_rule_counts : Dn P w K mg base 5 "rule_counts" s_rule_counts ["rule", "ranges"] (sp_rule_counts K)) : DnX P w K mg base 6 "counts" s_counts ["system", "ranges", "number"] (sp_counts K C [c0, c1, c2, c3, c4, c5, c6, c7, c8]) := by
  refine .mk' h fun f fd F => F.okX sc_counts (fun vs H Q E h => ?_) (fun cdv A outer s H vs Q E hr h => ?_)
  · obtain ⟨o, p, b, ns, rs, a, ws, g, n, rfl, made, lr, hd, gd, q, e⟩ := h
    rfl
  · obtain ⟨o, p, b, ns, rs, a, ws, g, n, rfl, made, lr, hd, gd, q, e⟩ := h
    refine ⟨_, (pss_cons (ps_expr (pe_cX (takes_of rfl rfl rfl rfl) D_check_number hr (by rfl) (pa_cons (pv 0) (pa_cons (pv 2) pa_nil))))
      (pss_one (ps_ret (pe_c D_rule_counts hr (by rfl) (pa_cons (pe_ix ix_list (pe_p T.ck D_System_rules hr (pv 0)) (pv 2) (fun _ _ => rfl)) (pa_cons (pv 1) pa_nil)))))), ?_⟩
    obtain ⟨dx, fs, ea⟩ := made.ins
    refine ⟨_, rfl, _, rfl, o, p, b, ns, rs, n, rfl, made, lr, fun hn => ?_, fun hn => e hn⟩
    obtain ⟨i, rfl⟩ := Int.eq_ofNat_of_zero_le hn.1
    have lt : i < rs.length := by have := hn.2; omega
    have ei := List.getElem?_eq_getElem lt
    refine ⟨_, rfl, o, dx, fs, rfl, ea, o, p, b, ns, rs, rfl, made, fun l xs nl da => ?_⟩
    have s1 : Same H (upd H l (.lst xs)) := Same.new nl
    have o1 : upd H l (.lst xs) l = some (.lst xs) := upd_same
    have da1 := dpa_same s1 da
    generalize upd H l (.lst xs) = H1 at s1 o1 da1
    have lx : i < xs.length := by rw [dpa_len da1, List.length_map]; exact lt
    have e2 := List.getElem?_eq_getElem lx
    obtain ⟨r', er, dr⟩ := dpa_map_get da1 e2
    exact ⟨_, rfl, l, _, _, _, rfl, rfl, .inl (.inl o1), at_of (j := i) rfl e2, _, rfl, _, r', a, ws, g, rfl, dr, hd.same s1, gd r' (List.mem_of_getElem? er), fun H2 k2 => q hn _ _ (s1.trans k2)⟩
end

end Pk19
namespace Pk19
open PySem PySem.Spec PyProof.Rows L2 Gd
section
variable {P : Program} {w : World} {K : PySem.W.Frag} {mg : Str → Option Value} {base : Heap}
set_option maxHeartbeats 8000000 in
-- gives: level 7; builtins []; cells []; slots: 0 system, 1 ranges, 2 number
theorem ok_gives {C : Addr} (T : SysT K mg C) {c0 c1 c2 c3 c4 c5 c6 c7 c8 fI : Addr} (X : ErrT K mg [c0, c1, c2, c3, c4, c5, c6, c7, c8] ["RangeError", "InvalidRange", "InvalidName", "InvalidSystem", "InvalidRule", "UnknownName", "InvalidMove", "NothingToUndo", "Unreadable"] fI) (h : At K mg "gives" s_gives ["system", "ranges", "number"]) (D_System_rules : Pt P w K mg base 1 C "rules" "System.rules" s_System_rules ["self"] (sp_System_rules K C)) (D_check_number : DnX P w K mg base 3 "check_number" s_check_number ["system", "number"] (sp_check_number K C [c0, c1, c2, c3, c4, c5, c6, c7, c8])) (D_rule_gives : Dn P w K mg base 6 "rule_gives" s_rule_gives ["rule", "ranges"] (sp_rule_gives K)) : DnX P w K mg base 7 "gives" s_gives ["system", "ranges", "number"] (sp_gives K C [c0, c1, c2, c3, c4, c5, c6, c7, c8]) := by
  refine .mk' h fun f fd F => F.okX sc_gives (fun vs H Q E h => ?_) (fun cdv A outer s H vs Q E hr h => ?_)
  · obtain ⟨o, p, b, ns, rs, a, ws, g, n, rfl, made, lr, hd, gd, q, e⟩ := h
    rfl
  · obtain ⟨o, p, b, ns, rs, a, ws, g, n, rfl, made, lr, hd, gd, q, e⟩ := h
    refine ⟨_, (pss_cons (ps_expr (pe_cX (takes_of rfl rfl rfl rfl) D_check_number hr (by rfl) (pa_cons (pv 0) (pa_cons (pv 2) pa_nil))))
      (pss_one (ps_ret (pe_c D_rule_gives hr (by rfl) (pa_cons (pe_ix ix_list (pe_p T.ck D_System_rules hr (pv 0)) (pv 2) (fun _ _ => rfl)) (pa_cons (pv 1) pa_nil)))))), ?_⟩
    obtain ⟨dx, fs, ea⟩ := made.ins
    refine ⟨_, rfl, _, rfl, o, p, b, ns, rs, n, rfl, made, lr, fun hn => ?_, fun hn => e hn⟩
    obtain ⟨i, rfl⟩ := Int.eq_ofNat_of_zero_le hn.1
    have lt : i < rs.length := by have := hn.2; omega
    have ei := List.getElem?_eq_getElem lt
    refine ⟨_, rfl, o, dx, fs, rfl, ea, o, p, b, ns, rs, rfl, made, fun l xs nl da => ?_⟩
    have s1 : Same H (upd H l (.lst xs)) := Same.new nl
    have o1 : upd H l (.lst xs) l = some (.lst xs) := upd_same
    have da1 := dpa_same s1 da
    generalize upd H l (.lst xs) = H1 at s1 o1 da1
    have lx : i < xs.length := by rw [dpa_len da1, List.length_map]; exact lt
    have e2 := List.getElem?_eq_getElem lx
    obtain ⟨r', er, dr⟩ := dpa_map_get da1 e2
    have gr := gd r' (List.mem_of_getElem? er)
    exact ⟨_, rfl, l, _, _, _, rfl, rfl, .inl (.inl o1), at_of (j := i) rfl e2, _, rfl, _, r', a, ws, g, rfl, dr, hd.same s1, gr.1, gr.2.lt, fun v2 H2 k2 _ => q hn _ _ (s1.trans k2)⟩
end

end Pk19
namespace Pk19
open PySem PySem.Spec PyProof.Rows L2 Gd
section
variable {P : Program} {w : World} {K : PySem.W.Frag} {mg : Str → Option Value} {base : Heap}
set_option maxHeartbeats 8000000 in
-- _law_kind: level 1; builtins ['ValueError', 'isinstance']; cells []; slots: 0 caught, 1 odd
theorem ok__law_kind {c0 c1 c2 c3 c4 c5 c6 c7 c8 fI : Addr} (X : ErrT K mg [c0, c1, c2, c3, c4, c5, c6, c7, c8] ["RangeError", "InvalidRange", "InvalidName", "InvalidSystem", "InvalidRule", "UnknownName", "InvalidMove", "NothingToUndo", "Unreadable"] fI) (h : At K mg "_law_kind" s__law_kind ["caught"]) (m_ValueError : mg "ValueError" = none) (m_isinstance : mg "isinstance" = none) : Dn P w K mg base 1 "_law_kind" s__law_kind ["caught"] (sp__law_kind K [c0, c1, c2, c3, c4, c5, c6, c7, c8]) := by
  refine .mk' h fun f fd F => F.ok sc__law_kind (fun vs H Q E h => ?_) (fun cdv A outer s H vs Q E hr h => ?_)
  · obtain ⟨a, c, v, rfl, ec, ea, q⟩ := h
    rfl
  · obtain ⟨a, c, v, rfl, ec, ea, q⟩ := h
    refine ⟨_, (pss_cons (ps_set (i := 1) sc__law_kind.nd rfl (.inl rfl) (pe_callB (call_isXT X.all) (by rfl) m_isinstance (by decide +kernel) (pa_cons (pv 0) (pa_cons (pe_tup (pa_cons (pe_glob (v := .ref c6) rfl (X.t 6 _ _ rfl rfl).mg_ rfl) (pa_cons (pe_glob (v := .ref c2) rfl (X.t 2 _ _ rfl rfl).mg_ rfl) (pa_cons (pe_glob (v := .ref c1) rfl (X.t 1 _ _ rfl rfl).mg_ rfl) (pa_cons (pe_glob (v := .ref c3) rfl (X.t 3 _ _ rfl rfl).mg_ rfl) (pa_cons (pe_glob (v := .ref c7) rfl (X.t 7 _ _ rfl rfl).mg_ rfl) pa_nil)))))) pa_nil))))
      (pss_cons (ps_set (i := 1) sc__law_kind.nd rfl (.inl rfl) (pe_or (pv 1) (pe_one (pe_callB (call_isXT X.all) (by rfl) m_isinstance (by decide +kernel) (pa_cons (pv 0) (pa_cons (pe_tup (pa_cons (pe_glob (v := .ref c5) rfl (X.t 5 _ _ rfl rfl).mg_ rfl) (pa_cons (pe_glob (v := .ref c8) rfl (X.t 8 _ _ rfl rfl).mg_ rfl) pa_nil))) pa_nil))))))
      (pss_cons (ps_if (PW.pt (pw_or (pt_val (pv 1)) (pw_or (pt_not (pt_val (pe_callB (call_isXK X.all) (by rfl) m_isinstance (by decide +kernel) (pa_cons (pv 0) (pa_cons (pe_glob (v := .ref c4) rfl (X.t 4 _ _ rfl rfl).mg_ rfl) pa_nil))))) (pw_or1 (pt_not (pt_val (pe_callB (call_isXT X.all) (by rfl) m_isinstance (by decide +kernel) (pa_cons (pv 0) (pa_cons (pe_tup (pa_cons (pe_glob (v := .ref c0) rfl (X.t 0 _ _ rfl rfl).mg_ rfl) (pa_cons (pe_bltn (v := .ty "ValueError") (u := .type "ValueError") (by rfl) m_ValueError (by decide +kernel) rfl) pa_nil))) pa_nil)))))))))
        (pss_one (ps_ret pe_str))
        pss_nil)
      (pss_one (ps_ret pe_str))))), ?_⟩
    obtain rfl := Option.some.inj ec
    have kF : ∀ (j : Nat) D, [c0, c1, c2, c3, c4, c5, c6, c7, c8][j]? = some D → 4 ≠ j → j ≠ 0 → PySem.W.kitOne K (.ref c4) (.ref D) = some false := fun j D hD h1 h2 => by
      rw [X.sub 4 j _ D rfl hD, decide_eq_false (fun z => z.elim h1 h2)]
    have kT : ∀ (j : Nat) D, [c0, c1, c2, c3, c4, c5, c6, c7, c8][j]? = some D → (4 = j ∨ j = 0) → PySem.W.kitOne K (.ref c4) (.ref D) = some true := fun j D hD h1 => by
      rw [X.sub 4 j _ D rfl hD, decide_eq_true h1]
    have m4 : c4 ∈ [c0, c1, c2, c3, c4, c5, c6, c7, c8] := by simp
    refine ⟨_, rfl, by show 5 ≤ sizeLine; decide, fun t1 n1 => ?_⟩
    have s1 := Same.new (o := .tup [.ref c6, .ref c2, .ref c1, .ref c3, .ref c7]) n1
    have o1 : upd H t1 (.tup [.ref c6, .ref c2, .ref c1, .ref c3, .ref c7]) t1 = some (.tup [.ref c6, .ref c2, .ref c1, .ref c3, .ref c7]) := upd_same
    generalize upd H t1 (.tup [V.ref c6, .ref c2, .ref c1, .ref c3, .ref c7]) = H1 at s1 o1
    refine ⟨a, c4, t1, v, _, _, false, rfl, m4, ea.same s1, o1, fun ws => vals_refs (cs := [c6, c2, c1, c3, c7]), ?_, ?_⟩
    · exact kitAny_F (kF 6 _ rfl (by decide) (by decide)) (kitAny_F (kF 2 _ rfl (by decide) (by decide)) (kitAny_F (kF 1 _ rfl (by decide) (by decide)) (kitAny_F (kF 3 _ rfl (by decide) (by decide)) (kitAny_F (kF 7 _ rfl (by decide) (by decide)) kitAny_N))))
    refine ⟨_, rfl, false, rfl, iteF ⟨_, rfl, by show 2 ≤ sizeLine; decide, fun t2 n2 => ?_⟩⟩
    have s2 := Same.new (o := .tup [.ref c5, .ref c8]) n2
    have o2 : upd H1 t2 (.tup [.ref c5, .ref c8]) t2 = some (.tup [.ref c5, .ref c8]) := upd_same
    generalize upd H1 t2 (.tup [V.ref c5, .ref c8]) = H2 at s2 o2
    have s12 := s1.trans s2
    refine ⟨a, c4, t2, v, _, _, false, rfl, m4, ea.same s12, o2, fun ws => vals_refs (cs := [c5, c8]), ?_, ?_⟩
    · exact kitAny_F (kF 5 _ rfl (by decide) (by decide)) (kitAny_F (kF 8 _ rfl (by decide) (by decide)) kitAny_N)
    refine ⟨_, rfl, false, rfl, iteF ?_⟩
    refine ⟨_, rfl, a, c4, v, _, _, true, rfl, m4, ea.same s12, fun u hu => hu, kT 4 _ rfl (.inl rfl), true, rfl, iteF ?_⟩
    refine ⟨_, rfl, by show 2 ≤ sizeLine; decide, fun t3 n3 => ?_⟩
    have s3 := Same.new (o := .tup [.ref c0, .ty "ValueError"]) n3
    have o3 : upd H2 t3 (.tup [.ref c0, .ty "ValueError"]) t3 = some (.tup [.ref c0, .ty "ValueError"]) := upd_same
    generalize upd H2 t3 (.tup [V.ref c0, .ty "ValueError"]) = H3 at s3 o3
    refine ⟨a, c4, t3, v, _, [.ref c0, .type "ValueError"], true, rfl, m4, ea.same (s12.trans s3), o3, fun ws r => ?_, kitAny_T (kT 0 _ rfl (.inr rfl)), true, rfl, iteF ?_⟩
    · match ws, r with
      | _, .cons a (.cons b .nil) =>
        cases (show _ = Value.ref c0 from a)
        cases (show _ = Value.type "ValueError" from b)
        rfl
    exact q _ (s12.trans s3)
end

end Pk19
namespace Pk19
open PySem PySem.Spec PyProof.Rows L2 Gd
section
variable {P : Program} {w : World} {K : PySem.W.Frag} {mg : Str → Option Value} {base : Heap}
set_option maxHeartbeats 8000000 in
-- _law_told: level 8; builtins []; cells []; slots: 0 door, 1 made, 2 held, 3 spot, 4 caught, 5 e
theorem ok__law_told {C : Addr} (T : SysT K mg C) {c0 c1 c2 c3 c4 c5 c6 c7 c8 fI : Addr} (X : ErrT K mg [c0, c1, c2, c3, c4, c5, c6, c7, c8] ["RangeError", "InvalidRange", "InvalidName", "InvalidSystem", "InvalidRule", "UnknownName", "InvalidMove", "NothingToUndo", "Unreadable"] fI) (h : At K mg "_law_told" s__law_told ["door", "made", "held", "spot"]) (D__law_kind : Dn P w K mg base 1 "_law_kind" s__law_kind ["caught"] (sp__law_kind K [c0, c1, c2, c3, c4, c5, c6, c7, c8])) (D_counts : DnX P w K mg base 6 "counts" s_counts ["system", "ranges", "number"] (sp_counts K C [c0, c1, c2, c3, c4, c5, c6, c7, c8])) (D_gives : DnX P w K mg base 7 "gives" s_gives ["system", "ranges", "number"] (sp_gives K C [c0, c1, c2, c3, c4, c5, c6, c7, c8])) : Dn P w K mg base 8 "_law_told" s__law_told ["door", "made", "held", "spot"] (sp__law_told K C [c0, c1, c2, c3, c4, c5, c6, c7, c8]) := by
  refine .mk' h fun f fd F => F.ok sc__law_told (fun vs H Q E h => ?_) (fun cdv A outer s H vs Q E hr h => ?_)
  · obtain ⟨t, o, p, b, ns, rs, a, ws, g, n, rfl, made, lr, hd, gd, q⟩ := h
    rfl
  · obtain ⟨t, o, p, b, ns, rs, a, ws, g, n, rfl, made, lr, hd, gd, q⟩ := h
    refine ⟨_, (pss_cons (ps_set (i := 4) sc__law_told.nd rfl (.inl rfl) pe_non)
      (pss_cons (ps_try_keep (i := 5) (j := 4) rfl rfl rfl sc__law_told.nd rfl rfl rfl rfl ⟨rfl, by decide, .inl (X.t 0 _ _ rfl rfl).mg_⟩ L2.takes0 (fun a pn => ps_set (i := 4) sc__law_told.nd rfl (.inl rfl) (pv 5)) (fun W pn xe tk _ =>
        (pss_one (ps_if (pt_cmpR op_eq (pv 0) pe_int (nomark _))
          (pss_one (ps_expr (pe_cX tk D_counts hr (by rfl) (pa_cons (pv 1) (pa_cons (pv 2) (pa_cons (pv 3) pa_nil))))))
          (pss_one (ps_expr (pe_cX tk D_gives hr (by rfl) (pa_cons (pv 1) (pa_cons (pv 2) (pa_cons (pv 3) pa_nil))))))))))
      (pss_one (ps_ret (pe_ifExp (pt_cmpR op_isN (pv 4) pe_non (nomark _)) (pe_lst (pa_cons pe_str (pa_cons pe_non pa_nil))) (pe_lst (pa_cons (pe_c D__law_kind hr (by rfl) (pa_cons (pv 4) pa_nil)) (pa_cons (pe_valK X.all (pv 4)) pa_nil)))))))), ?_⟩
    have xm := errT_exm (i := 4) X rfl rfl (by decide)
    have m4 : c4 ∈ [c0, c1, c2, c3, c4, c5, c6, c7, c8] := by simp
    refine ⟨_, rfl, rfl, ?_⟩
    by_cases ht : t = 0
    · refine ⟨true, congrArg V.bl (decide_eq_true (congrArg V.int ht)), iteT ?_⟩
      refine ⟨_, rfl, _, rfl, _, rfl, o, p, b, ns, rs, a, ws, g, n, rfl, made, lr, hd, fun r m => (gd r m).1, fun hn z H1 k1 => ?_, fun hn => ⟨c4, rfl, fun d H1 k1 nd ed => ⟨true, xm, fun _ x nx => ?_, fun q => nomatch q⟩⟩⟩
      · refine ⟨_, rfl, rfl, true, congrArg V.bl (decide_eq_true rfl), iteT ⟨by show 2 ≤ sizeLine; decide, fun l nl => ?_⟩⟩
        have sl := Same.new (o := .lst [.str "none", .non]) nl
        exact q l _ (k1.trans sl) (same_none k1 nl) (by unfold dueV; rw [if_pos hn]; exact upd_same)
      · have dx : d ≠ x := ne_of_none ed nx
        have sx := Same.new (o := Kept (.ref c4) (some d) x) nx
        have ek : ErrK (upd H1 x (Kept (.ref c4) (some d) x)) c4 x (.int n) := ⟨d, upd_same, by rw [upd_ne dx]; exact ed⟩
        generalize upd H1 x (Kept (.ref c4) (some d) x) = H2 at sx ek
        refine ⟨_, rfl, rfl, false, congrArg V.bl (decide_eq_false (fun z => nomatch z)), iteF ?_⟩
        refine ⟨_, rfl, x, c4, _, rfl, rfl, ek, fun H3 k3 => ?_⟩
        refine ⟨_, rfl, x, c4, _, rfl, m4, ek.same k3, by show 2 ≤ sizeLine; decide, fun l nl => ?_⟩
        have sl := Same.new (o := .lst [.str "rule", .int n]) nl
        have k := (k1.trans sx).trans k3
        exact q l _ (k.trans sl) (same_none k nl) (by unfold dueV; rw [if_neg hn]; exact upd_same)
    · refine ⟨false, congrArg V.bl (decide_eq_false (fun z => ht (by injection z))), iteF ?_⟩
      refine ⟨_, rfl, _, rfl, _, rfl, o, p, b, ns, rs, a, ws, g, n, rfl, made, lr, hd, gd, fun hn z H1 k1 => ?_, fun hn => ⟨c4, rfl, fun d H1 k1 nd ed => ⟨true, xm, fun _ x nx => ?_, fun q => nomatch q⟩⟩⟩
      · refine ⟨_, rfl, rfl, true, congrArg V.bl (decide_eq_true rfl), iteT ⟨by show 2 ≤ sizeLine; decide, fun l nl => ?_⟩⟩
        have sl := Same.new (o := .lst [.str "none", .non]) nl
        exact q l _ (k1.trans sl) (same_none k1 nl) (by unfold dueV; rw [if_pos hn]; exact upd_same)
      · have dx : d ≠ x := ne_of_none ed nx
        have sx := Same.new (o := Kept (.ref c4) (some d) x) nx
        have ek : ErrK (upd H1 x (Kept (.ref c4) (some d) x)) c4 x (.int n) := ⟨d, upd_same, by rw [upd_ne dx]; exact ed⟩
        generalize upd H1 x (Kept (.ref c4) (some d) x) = H2 at sx ek
        refine ⟨_, rfl, rfl, false, congrArg V.bl (decide_eq_false (fun z => nomatch z)), iteF ?_⟩
        refine ⟨_, rfl, x, c4, _, rfl, rfl, ek, fun H3 k3 => ?_⟩
        refine ⟨_, rfl, x, c4, _, rfl, m4, ek.same k3, by show 2 ≤ sizeLine; decide, fun l nl => ?_⟩
        have sl := Same.new (o := .lst [.str "rule", .int n]) nl
        have k := (k1.trans sx).trans k3
        exact q l _ (k.trans sl) (same_none k nl) (by unfold dueV; rw [if_neg hn]; exact upd_same)
end

end Pk19
namespace Pk19
open PySem PySem.Spec PyProof.Rows L2 Gd
section
variable {P : Program} {w : World} {K : PySem.W.Frag} {mg : Str → Option Value} {base : Heap}
set_option maxHeartbeats 8000000 in
-- _law_right: level 9; builtins ['dict', 'len', 'range', 'repr']; cells ['held', 'made', 'pool', 'spot']; slots: 0 pool, 1 titles, 2 some, 3 made, 4 held, 5 kept, 6 spot, 7 due, 8 title, 9 door
theorem ok__law_right {C : Addr} (T : SysT K mg C) {c0 c1 c2 c3 c4 c5 c6 c7 c8 fI : Addr} (X : ErrT K mg [c0, c1, c2, c3, c4, c5, c6, c7, c8] ["RangeError", "InvalidRange", "InvalidName", "InvalidSystem", "InvalidRule", "UnknownName", "InvalidMove", "NothingToUndo", "Unreadable"] fI) (h : At K mg "_law_right" s__law_right ["pool"]) (D_System___eq__ : Mt P w K mg base 1 C "__eq__" "System.__eq__" s_System___eq__ ["self", "other"] (sp_System___eq__ K C)) (D_System___init__ : Mt P w K mg base 4 C "__init__" "System.__init__" s_System___init__ ["self", "names", "rules"] (sp_System___init__ K C)) (D__law_draw : Dn P w K mg base 1 "_law_draw" s__law_draw ["pool", "many"] (sp__law_draw K)) (D__law_range : Dn P w K mg base 3 "_law_range" s__law_range ["pool", "open_often"] (sp__law_range K)) (D__law_rules : Dn P w K mg base 4 "_law_rules" s__law_rules ["pool", "titles", "many"] (sp__law_rules K)) (D__law_titles : Dn P w K mg base 2 "_law_titles" s__law_titles ["pool"] (sp__law_titles K)) (D__law_told : Dn P w K mg base 8 "_law_told" s__law_told ["door", "made", "held", "spot"] (sp__law_told K C [c0, c1, c2, c3, c4, c5, c6, c7, c8])) (m_dict : mg "dict" = none) (m_len : mg "len" = none) (m_range : mg "range" = none) (m_repr : mg "repr" = none) : DnG P w K mg base 9 "_law_right" s__law_right ["pool"] (sp__law_right K) := by
  refine .mk' h fun f fd F => okG F sc__law_right (fun vs H Q E h => ?_) (fun cdv A outer s H vs Q E hgd hr h => ?_)
  · obtain ⟨g, n, rfl, rs, hn, q⟩ := h
    rfl
  · obtain ⟨g, n, rfl, rs, hn, q⟩ := h
    refine ⟨_, (pss_cons (ps_set (i := 1) sc__law_right.nd rfl (.inl rfl) (pe_c D__law_titles hr (by rfl) (pa_cons (pv 0) pa_nil)))
      (pss_cons (ps_set (i := 2) sc__law_right.nd rfl (.inl rfl) (pe_c D__law_rules hr (by rfl) (pa_cons (pv 0) (pa_cons (pv 1) (pa_cons (pe_c D__law_draw hr (by rfl) (pa_cons (pv 0) (pa_cons pe_int pa_nil))) pa_nil)))))
      (pss_cons (ps_asg (pe_tup (pa_cons (pe_new T.ck D_System___init__ hr (by rfl) (pa_cons (pv 1) (pa_cons (pv 2) pa_nil))) (pa_cons (pe_callTy (call_dictP rfl) (by rfl) m_dict (by decide +kernel) (pa_cons (pe_lc (own := [("title", 8)]) (g := gName 8) rfl sc__law_right.nd (pi_list (pv 1)) (blkOk_by (N := ["pool", "titles", "some", "made", "held", "kept", "spot", "due", "title", "door"]) (sc := defScope s__law_right) (by decide +kernel)) (fun _ _ _ _ _ => pg_name (i := 8) sc__law_right.nd rfl (Or.inl rfl)) (fun _ _ _ _ _ => pts_nil) (fun _ _ _ _ _ => (pe_tup (pa_cons (pv 8) (pa_cons (pe_c D__law_range hr (by rfl) (pa_cons (pv 0) (pa_cons pe_bl pa_nil))) pa_nil))))) pa_nil)) pa_nil))) (pg_tup (by rfl) (pgs_cons (pg_name (i := 3) sc__law_right.nd rfl (.inr rfl)) (pgs_cons (pg_name (i := 4) sc__law_right.nd rfl (.inr rfl)) pgs_nil))))
      (pss_cons (ps_set (i := 5) sc__law_right.nd rfl (.inl rfl) (pe_callB (Gd.call_reprDct hgd hr) (by rfl) m_repr (by decide +kernel) (pa_cons (pv 4) pa_nil)))
      (pss_cons (ps_for PassesOwn.never rfl (pi_list (pe_lst (pa_cons (pe_callB call_len_seq (by rfl) m_len PySem.boot_len (pa_cons (pv 2) pa_nil)) (pa_cons (pe_op op_sub (pe_callB call_len_seq (by rfl) m_len PySem.boot_len (pa_cons (pv 2) pa_nil)) pe_int) (pa_cons (pe_un un_neg pe_int) (pa_cons pe_int (pa_cons (pe_op op_powW pe_int pe_int) (pa_cons (pe_op op_sub pe_int (pe_op op_powW pe_int pe_int)) (pa_cons (pe_c D__law_draw hr (by rfl) (pa_cons (pv 0) (pa_cons pe_int pa_nil))) pa_nil))))))))) (pg_name (i := 6) sc__law_right.nd rfl (.inr rfl))
        (C8.pss_cut (ps_set (i := 7) sc__law_right.nd rfl (.inl rfl) (pe_ifExp (pt_chain op_le op_lt pe_int (pv 6) (pe_callB call_len_seq (by rfl) m_len PySem.boot_len (pa_cons (pv 2) pa_nil))) (pe_lst (pa_cons pe_str (pa_cons pe_non pa_nil))) (pe_lst (pa_cons pe_str (pa_cons (pv 6) pa_nil)))))
        (pss_one (ps_if (pt_cmpR (op_neD hr.units) (pe_lc (own := [("door", 9)]) (g := gName 9) rfl sc__law_right.nd (pi_range1 (by rfl) m_range (pa_cons pe_int pa_nil)) (blkOk_by (N := ["pool", "titles", "some", "made", "held", "kept", "spot", "due", "title", "door"]) (sc := defScope s__law_right) (by decide +kernel)) (fun _ _ _ _ _ => pg_name (i := 9) sc__law_right.nd rfl (Or.inl rfl)) (fun _ _ _ _ _ => pts_nil) (fun _ _ _ _ _ => (pe_c D__law_told hr (by rfl) (pa_cons (pv 9) (pa_cons (pv 3) (pa_cons (pv 4) (pa_cons (pv 6) pa_nil))))))) (pe_lst (pa_cons (pv 7) (pa_cons (pv 7) pa_nil))) (nomark _))
          (pss_one (ps_ret pe_bl))
          pss_nil))))
      (pss_one (ps_ret (pe_and (pe_cmpR (op_eqO D_System___eq__ hr) (pv 3) (pe_new T.ck D_System___init__ hr (by rfl) (pa_cons (pv 1) (pa_cons (pv 2) pa_nil))) (nomark _)) (pe_one (pe_cmpR op_eq (pe_callB (Gd.call_reprDct hgd hr) (by rfl) m_repr (by decide +kernel) (pa_cons (pv 4) pa_nil)) (pv 5) (nomark _))))))))))), ?_⟩
    refine ⟨_, rfl, g, n, rfl, rs, by omega, fun W H1 ws k1 rs1 nW oW tok => ?_⟩
    have Wg : W ≠ g := fun z => by
      obtain ⟨_, _, _, e, _⟩ := rs.ok
      rw [← z, nW] at e
      cases e
    refine ⟨_, rfl, _, rfl, _, rfl, g, _, n + 5, rfl, rs1, by omega, by decide, by decide, fun r H2 r0 r1 k2 rs2 => ?_⟩
    have oW2 := k2 _ _ Wg oW
    refine ⟨g, W, _, n + 6, ws, rfl, rs2, by omega, Wg, .inl (.inl oW2), tok, by omega, by omega, fun R H3 xs rr gd fac lr k3 rs3 nR oR dR => ?_⟩
    have oW3 := k3 _ _ Wg oW2
    have Rg_ : R ≠ g := rs2.fresh nR
    have lr12 : rr.length ≤ 12 := by rw [lr]; omega
    refine ⟨_, rfl, _, rfl, mk_sys (.inl (.inl oW3)) (.inl (.inl oR)) dR (sysOk_tl tok gd (by omega)) (fun O H4 P1 R1 ss pm so sm nO nP1 nR1 made => ?_)⟩
    have rs4 := rs3.same sm
    have P1g : P1 ≠ g := rs3.fresh nP1
    have R1g : R1 ≠ g := rs3.fresh nR1
    have S4 : R13 K C g W R O P1 R1 ws ss rr xs H4 := ⟨sm _ _ oW3, sm _ _ oR, dpa_same sm dR, made⟩
    have k04 : Kp g H H4 := ((k1.trans k2).trans k3).trans (Kp.of sm)
    have wl := tok.l6
    refine ⟨_, rfl, W, rfl, ⟨_, .inl (.inl S4.oW)⟩, fun D nD => ?_⟩
    have Dg : D ≠ g := rs4.fresh nD
    refine lc_list (K := K) (a := W) (xs := ws.map V.str) (fun i G => Kp g H4 G ∧ RP (n + 1006 + 12 * i) G g ∧ ∃ ps vs gs, G D = some (.lst (ps.map V.ref)) ∧ ps.length = i ∧ vs.length = i ∧ gs.length = i ∧
        PrL K G ps (kvOf (ws.take i) vs) ∧ DpAll K G vs (gs.map rgD) ∧ ∀ r ∈ gs, RgFit r ∧ RgIn (10 ^ 31) r)
      ⟨Kp.of (Same.new nD), (rs4.same (Same.new nD)).mono (by omega), [], [], [], upd_same, rfl, rfl, rfl, .nil, .nil, fun _ z => absurd z (by simp)⟩
      (fun i G _ h => .inl (.inl (h.1 _ _ Wg S4.oW))) ?_ ?_
    · rintro i x G ex ⟨kp, rsG, ps, vs, gs, oD, lp, lv, lg, pr, da, gr⟩
      obtain ⟨x, ew, rfl⟩ := map_get ex
      have li : i < ws.length := (List.getElem?_eq_some_iff.mp ew).1
      refine ⟨rfl, _, rfl, _, rfl, g, true, n + 1006 + 12 * i, rfl, rsG, by omega, fun v r G1 gd1 k5 rs5 hv => ?_⟩
      refine ⟨by show 2 ≤ sizeLine; decide, fun p np => ?_⟩
      have sp := Same.new (o := .tup [.str x, v]) np
      have op : upd G1 p (.tup [.str x, v]) p = some (.tup [.str x, v]) := upd_same
      generalize upd G1 p (.tup [.str x, v]) = G2 at sp op
      have k6 : Kp g G G2 := k5.trans (Kp.of sp)
      have rs6 := rs5.same sp
      have oD2 := k6 _ _ Dg oD
      have kl6 : Kl g G G2 := rsG.kl k6
      have pr2 : PrL K G2 ps (kvOf (ws.take i) vs) := prl_mono (fun p xs h => by
        obtain ⟨_, _, _, e, _⟩ := rsG.ok
        exact SqT.kpl k6 e h) pr
      have nol : ∀ d ∈ gs.map rgD, NoL d := fun z m => by
        obtain ⟨y, _, rfl⟩ := List.mem_map.mp m
        exact noL_rg y
      have da2 := dpa_kl kl6 da nol
      refine ⟨ps.map V.ref, oD2, by rw [List.length_map, lp]; exact Nat.lt_of_le_of_lt (by omega : i ≤ 100) (by decide), ?_⟩
      have kd : Kp D G2 (upd G2 D (.lst (ps.map V.ref ++ [.ref p]))) := Kp.at
      have lt : (ws.take i).length = i := by rw [List.length_take]; omega
      refine ⟨?_, (rs6.put (Ne.symm Dg)).mono (by omega), ps ++ [p], vs ++ [v], gs ++ [r], ?_, by rw [List.length_append, lp]; rfl, by rw [List.length_append, lv]; rfl, by rw [List.length_append, lg]; rfl, ?_, ?_, ?_⟩
      · intro b o hb e
        rw [upd_ne (ne_of_none e nD)]
        exact k6 _ _ hb (kp _ _ hb e)
      · rw [List.map_append]
        exact upd_same
      · rw [take_succ ew, ← kvOf_snoc (by omega)]
        exact prl_snoc (SqT.kpl kd oD2 (.inl (.inl op))) (prl_mono (fun p xs h => SqT.kpl kd oD2 h) pr2)
      · rw [List.map_append]
        exact dpa_app (dpa_kl ⟨⟨_, oD2⟩, kd⟩ da2 nol) (dpa_one (dp_rg (RgV.kpl kd oD2 (hv.same sp))))
      · intro z mz
        rcases List.mem_append.mp mz with mz | mz
        · exact gr z mz
        · obtain rfl : z = r := by simpa using mz
          exact ⟨gd1.fit, gd1.2⟩
    · rintro G ⟨kp, rsG, ps, vs, gs, oD, lp, lv, lg, pr, da, gr⟩
      have e0 : (ws.map V.str).length = ws.length := List.length_map _
      rw [e0] at lp lv lg rsG pr
      rw [List.take_length] at pr
      refine ⟨D, ps, kvOf ws vs, rfl, .inl (.inl oD), pr, fun d nd => ?_⟩
      have em : mergeK [] (kvOf ws vs) = kvOf ws vs := merge_kv (ks := []) (vs := []) rfl lv tok.nd
      rw [em]
      have s5 := Same.new (o := .dK (kvOf ws vs)) nd
      have od : upd G d (.dK (kvOf ws vs)) d = some (.dK (kvOf ws vs)) := upd_same
      generalize upd G d (.dK (kvOf ws vs)) = G5 at s5 od
      obtain ⟨f, ef⟩ := fun_of tok.nd lg
      have hd : Held K G5 d ws f := ⟨⟨⟨vs, lv, od, by
        rw [← ef, List.map_map] at da
        exact dpa_same s5 da⟩, fun z m => by
          obtain ⟨x, _, rfl⟩ := List.mem_map.mp m
          exact noL_rg _⟩, tok.nd, fun x m => gr _ (by rw [← ef]; exact List.mem_map.mpr ⟨x, m, rfl⟩)⟩
      have S5 := (S4.kl (rs4.kl kp) Wg Rg_ P1g R1g).same s5
      have k05 : Kp g H G5 := (k04.trans kp).trans (Kp.of s5)
      have rs5 := (rsG.same s5).mono (show n + 1006 + 12 * ws.length ≤ n + 1100 by omega)
      refine ⟨by show 2 ≤ sizeLine; decide, fun T1 nT => ?_⟩
      have s6 := Same.new (o := .tup [.ref O, .ref d]) nT
      have oT : upd G5 T1 (.tup [.ref O, .ref d]) T1 = some (.tup [.ref O, .ref d]) := upd_same
      generalize upd G5 T1 (.tup [.ref O, .ref d]) = G6 at s6 oT
      have hd6 := hd.same s6
      have S6 := S5.same s6
      have k06 := k05.trans (Kp.of s6)
      have rs6 := rs5.same s6
      have dok := hd6.ok tok
      refine ⟨T1, _, rfl, .inl (.inl oT), rfl, _, _, rfl, _, _, rfl, rfl, ?_⟩
      refine ⟨_, rfl, d, ws, _, 2, 2, rfl, hd6.dc, dok, by decide, by decide, by decide, ?_⟩
      have lx : xs.length = rr.length := by rw [dpa_len S6.dR, List.length_map]
      have hh : (10 : Int) ^ (30 : Int).toNat = 1000000000000000000000000000000 := by decide
      refine ⟨_, rfl, R, xs, rfl, .inl (.inl (.inl S6.oR)), ?_⟩
      refine ⟨_, rfl, R, xs, rfl, .inl (.inl (.inl S6.oR)), _, _, rfl, rfl, ?_⟩
      refine ⟨_, rfl, _, _, rfl, rfl, ten30, ?_⟩
      dsimp (config := { proj := false, iota := false, eta := false }) only
      generalize hT : (10 : Int) ^ (30 : Int).toNat = T30
      refine ⟨_, _, rfl, rfl, ten30, ?_⟩
      dsimp (config := { proj := false, iota := false, eta := false }) only
      generalize hU : (10 : Int) ^ (30 : Int).toNat = U
      refine ⟨_, _, rfl, rfl, ?_⟩
      refine ⟨_, rfl, g, _, n + 1100, rfl, rs6, by omega, by decide, by decide, fun r4 G7 c0' c1' k7 rs7 => ?_⟩
      have S7 := S6.kl (rs6.kl k7) Wg Rg_ P1g R1g
      have hd7 := hd6.kl (rs6.kl k7)
      have k07 := k06.trans k7
      refine ⟨by show 7 ≤ sizeLine; decide, fun L nL => ?_⟩
      dsimp (config := { proj := false, iota := false, eta := false }) only
      generalize hG : upd G7 L (.lst [V.int (xs.length : Int), .int ((xs.length : Int) - 1), .int (-1), .int 0, .int T30, .int (0 - U), .int r4]) = G8
      have s8 : Same G7 G8 := hG ▸ Same.new nL
      have oL : G8 L = some (.lst (([(xs.length : Int), (xs.length : Int) - 1, -1, 0, T30, 0 - U, r4] : List Int).map V.int)) := hG ▸ upd_same
      generalize ([(xs.length : Int), (xs.length : Int) - 1, -1, 0, T30, 0 - U, r4] : List Int) = spots at oL
      clear hG
      have S8 := S7.same s8
      have hd8 := hd7.same s8
      have rs8 := rs7.same s8
      have k08 := k07.trans (Kp.of s8)
      refine ⟨L, rfl, ⟨_, .inl (.inl oL)⟩, for_list (K := K) (xs := spots.map V.int) (fun i σ G' => Same G8 G' ∧ ∃ y6 y7 y8 y9, σ = [some (.ref g), some (.ref W), some (.ref R), some (.ref O), some (.ref d), some (.str (dctD ws (ws.map fun x => rgD (f x))).shown), y6, y7, y8, y9])
        ⟨Same.refl _, none, none, none, none, rfl⟩ (fun i σ G' _ h => .inl (.inl (h.1 _ _ oL))) ?_ ?_⟩
      · rintro i z σ G9 ez ⟨k9, y6, y7, y8, y9, rfl⟩
        obtain ⟨sp, es, rfl⟩ := map_get ez
        have S9 := S8.same k9
        have hd9 := hd8.same k9
        refine ⟨fun σ' Ga => Same G8 Ga ∧ ∃ y z8 z9, σ' = [some (.ref g), some (.ref W), some (.ref R), some (.ref O), some (.ref d), some (.str (dctD ws (ws.map fun x => rgD (f x))).shown), some (.int sp), some (.ref y), z8, z9] ∧ Ga y = some (.lst (dueV rr.length sp)), ?_, ?_⟩
        · by_cases n0 : 0 ≤ sp
          · refine ⟨_, rfl, _, _, rfl, rfl, true, congrArg V.bl (decide_eq_true n0), iteT ?_⟩
            by_cases n1 : sp < (xs.length : Int)
            · refine ⟨_, rfl, R, xs, rfl, .inl (.inl (.inl S9.oR)), _, _, rfl, rfl, true, congrArg V.bl (decide_eq_true n1), iteT ?_⟩
              refine ⟨by show 2 ≤ sizeLine; decide, fun y ny => ⟨k9.trans (Same.new ny), y, _, _, rfl, ?_⟩⟩
              unfold dueV
              rw [if_pos ⟨n0, by omega⟩]
              exact upd_same
            · refine ⟨_, rfl, R, xs, rfl, .inl (.inl (.inl S9.oR)), _, _, rfl, rfl, false, congrArg V.bl (decide_eq_false n1), iteF ?_⟩
              refine ⟨_, rfl, by show 2 ≤ sizeLine; decide, fun y ny => ⟨k9.trans (Same.new ny), y, _, _, rfl, ?_⟩⟩
              unfold dueV
              rw [if_neg (by omega)]
              exact upd_same
          · refine ⟨_, rfl, _, _, rfl, rfl, false, congrArg V.bl (decide_eq_false n0), iteF ?_⟩
            refine ⟨false, rfl, iteF ?_⟩
            refine ⟨_, rfl, by show 2 ≤ sizeLine; decide, fun y ny => ⟨k9.trans (Same.new ny), y, _, _, rfl, ?_⟩⟩
            unfold dueV
            rw [if_neg (by omega)]
            exact upd_same
        · rintro σ' Ga ⟨ka, y, z8, z9, rfl, ey⟩
          refine ⟨2, rfl, by decide, by decide, fun D2 nD2 => ?_⟩
          refine lc_range (n := 2) (fun j Gb => Same Ga Gb ∧ ∃ ls : List Addr, Gb D2 = some (.lst (ls.map V.ref)) ∧ ls.length = j ∧ ∀ l ∈ ls, l ≠ D2 ∧ Gb l = some (.lst (dueV rr.length sp)))
            ⟨Same.new nD2, [], upd_same, rfl, fun _ m => absurd m (by simp)⟩ ?_ ?_
          · rintro j Gb hj ⟨kb, ls, oD2, ll, al⟩
            have kab := ka.trans kb
            refine ⟨rfl, _, rfl, _, rfl, _, rfl, _, rfl, ?_⟩
            refine ⟨_, O, P1, R1, ss, rr, d, ws, f, sp, rfl, S8.made.same kab, by omega, hd8.same kab, fun r m => ⟨gd r m, fac r m⟩, fun l Gc kc nl el => ?_⟩
            have lD : l ≠ D2 := fun z => by rw [z, oD2] at nl; cases nl
            refine ⟨_, kc _ _ oD2, by rw [List.length_map, ll]; exact Nat.lt_of_le_of_lt (by omega : j ≤ 100) (by decide), ?_⟩
            refine ⟨fun b o e => ?_, ls ++ [l], by rw [List.map_append]; exact upd_same, by rw [List.length_append, ll]; rfl, fun x mx => ?_⟩
            · rw [upd_ne (ne_of_none e nD2)]
              exact kc _ _ (kb _ _ e)
            · rcases List.mem_append.mp mx with mx | mx
              · exact ⟨(al x mx).1, by rw [upd_ne (al x mx).1]; exact kc _ _ (al x mx).2⟩
              · obtain rfl : x = l := by simpa using mx
                exact ⟨lD, by rw [upd_ne lD]; exact el⟩
          · rintro Gb ⟨kb, ls, oD2, ll, al⟩
            refine ⟨_, rfl, _, rfl, by show 2 ≤ sizeLine; decide, fun E2 nE2 => ?_⟩
            have se := Same.new (o := .lst [.ref y, .ref y]) nE2
            have oE : upd Gb E2 (.lst [.ref y, .ref y]) E2 = some (.lst [.ref y, .ref y]) := upd_same
            generalize upd Gb E2 (.lst [.ref y, .ref y]) = Gc at se oE
            have kc := kb.trans se
            have dv := due_dp (K := K) (kc _ _ ey)
            have ly : Ly 3 (.list [dueD rr.length sp, dueD rr.length sp]) := Ly.list (lyA_of fun d m => by
              simp only [List.mem_cons, List.not_mem_nil, or_false] at m
              rcases m with rfl | rfl <;> exact due_ly _ _)
            have da : DpAll K Gc (ls.map V.ref) (List.replicate ls.length (dueD rr.length sp)) := due_all fun l m => se _ _ (al l m).2
            rw [ll] at da
            refine ⟨_, _, .lst (.inl (.inl (se _ _ oD2))) da, .lst (.inl (.inl oE)) (.cons dv (.cons dv .nil)), ly.shaped, ly.shaped, false, ?_, iteF ?_⟩
            · show V.bl (!PyData.eqv (.list [dueD rr.length sp, dueD rr.length sp]) (.list [dueD rr.length sp, dueD rr.length sp])) = _
              rw [ly.eqv]
              rfl
            exact ⟨ka.trans kc, _, _, _, _, rfl⟩
      · rintro σ G9 ⟨k9, y6, y7, y8, y9, rfl⟩
        have S9 := S8.same k9
        have hd9 := hd8.same k9
        have laid := laid_tl tok gd pm
        refine ⟨_, rfl, _, rfl, _, rfl, mk_sys (.inl (.inl S9.oW)) (.inl (.inl S9.oR)) S9.dR (sysOk_tl tok gd (by omega)) (fun O2 Ga P2 R2 ss2 pm2 so2 sm2 nO2 nP2 nR2 made2 => ?_)⟩
        have ess : ss = ss2 := sorted_unique (pm.trans pm2.symm) so so2
        subst ess
        have Sa := S9.same sm2
        obtain ⟨dxO, fsO, eO⟩ := Sa.made.ins
        refine ⟨O, dxO, fsO, .ref C, rfl, eO, made2.ty T, nfC, O, P1, R1, ss, rr, .ref O2, rfl, Sa.made, .inr ⟨O2, P2, R2, ss, rr, rfl, made2, laid, laid, true, congrArg V.bl ((eqS_self laid).trans laid.rs.eqv), true, rfl, iteT ?_⟩⟩
        refine ⟨_, rfl, d, ws, _, 2, 2, rfl, (hd9.same sm2).dc, dok, by decide, by decide, by decide, _, rfl, rfl, ?_⟩
        rw [decide_eq_true rfl]
        exact q _ (k08.trans (Kp.of (k9.trans sm2))) (((rs8.same k9).same sm2).mono (by omega))
end

end Pk19
namespace Pk19
open PySem PySem.Spec PyProof.Rows L2 Gd
section
variable {P : Program} {w : World} {K : PySem.W.Frag} {mg : Str → Option Value} {base : Heap}
set_option maxHeartbeats 8000000 in
-- law: level 10; builtins ['len', 'max', 'min', 'range']; cells []; slots: 0 script, 1 at, 2 pool, 3 turn
theorem ok_law {C : Addr} (T : SysT K mg C) {c0 c1 c2 c3 c4 c5 c6 c7 c8 fI : Addr} (X : ErrT K mg [c0, c1, c2, c3, c4, c5, c6, c7, c8] ["RangeError", "InvalidRange", "InvalidName", "InvalidSystem", "InvalidRule", "UnknownName", "InvalidMove", "NothingToUndo", "Unreadable"] fI) (h : At K mg "law" s_law ["script"]) (D_System___init__ : Mt P w K mg base 4 C "__init__" "System.__init__" s_System___init__ ["self", "names", "rules"] (sp_System___init__ K C)) (D__law_pool : Dn P w K mg base 1 "_law_pool" s__law_pool ["script", "at"] (sp__law_pool K)) (D__law_right : DnG P w K mg base 9 "_law_right" s__law_right ["pool"] (sp__law_right K)) (D__law_told : Dn P w K mg base 8 "_law_told" s__law_told ["door", "made", "held", "spot"] (sp__law_told K C [c0, c1, c2, c3, c4, c5, c6, c7, c8])) (m_len : mg "len" = none) (m_max : mg "max" = none) (m_min : mg "min" = none) (m_range : mg "range" = none) : DnG P w K mg base 10 "law" s_law ["script"] (sp_law K) := by
  refine .mk' h fun f fd F => okG F sc_law (fun vs H Q E h => ?_) (fun cdv A outer s H vs Q E hgd hr h => ?_)
  · obtain ⟨a, ns, rfl, hS, hn, q⟩ := h
    rfl
  · obtain ⟨a, ns, rfl, hS, hn, q⟩ := h
    refine ⟨_, (pss_cons (ps_for PassesOwn.never rfl (pi_range1 (by rfl) m_range (pa_cons (pe_callB (call_max2 rfl) (by rfl) m_max (by decide +kernel) (pa_cons pe_int (pa_cons (pe_callB (call_min2 rfl) (by rfl) m_min (by decide +kernel) (pa_cons pe_int (pa_cons (pe_callB call_len_seq (by rfl) m_len PySem.boot_len (pa_cons (pv 0) pa_nil)) pa_nil))) pa_nil))) pa_nil)) (pg_name (i := 1) sc_law.nd rfl (.inl rfl))
        (pss_cons (ps_set (i := 2) sc_law.nd rfl (.inl rfl) (pe_c D__law_pool hr (by rfl) (pa_cons (pv 0) (pa_cons (pv 1) pa_nil))))
        (pss_one (ps_for PassesOwn.never rfl (pi_range1 (by rfl) m_range (pa_cons pe_int pa_nil)) (pg_name (i := 3) sc_law.nd rfl (.inl rfl))
          (pss_one (ps_if (pt_not (pt_val (pe_cG hgd D__law_right hr (by rfl) (pa_cons (pv 2) pa_nil))))
            (pss_one (ps_ret pe_bl))
            pss_nil))))))
      (pss_one (ps_ret (pe_cmpR (op_eqD hr.units) (pe_c D__law_told hr (by rfl) (pa_cons pe_int (pa_cons (pe_new T.ck D_System___init__ hr (by rfl) (pa_cons (pe_lst (pa_cons pe_str pa_nil)) (pa_cons (pe_lst pa_nil) pa_nil))) (pa_cons (pe_disp (pps_cons pe_str pe_non pps_nil) rfl rfl (by decide) (by decide)) (pa_cons pe_int pa_nil))))) (pe_lst (pa_cons pe_str (pa_cons pe_int pa_nil))) (nomark _))))), ?_⟩
    refine ⟨_, rfl, a, _, rfl, .inl hS, _, _, rfl, _, _, rfl, _, rfl, ?_, ?_, ?_⟩
    · split <;> split <;> omega
    · split <;> split <;> omega
    have ml : (if (if ((ns.map V.int).length : Int) < 8 then ((ns.map V.int).length : Int) else 8) > 1 then (if ((ns.map V.int).length : Int) < 8 then ((ns.map V.int).length : Int) else 8) else 1).toNat ≤ 10 := by split <;> split <;> omega
    generalize (if (if ((ns.map V.int).length : Int) < 8 then ((ns.map V.int).length : Int) else 8) > 1 then (if ((ns.map V.int).length : Int) < 8 then ((ns.map V.int).length : Int) else 8) else 1).toNat = m at ml
    refine for_range (n := m) (fun i σ G => SqL K G a (ns.map V.int) ∧ ∃ y1 y2 y3, σ = [some (.ref a), y1, y2, y3]) ⟨hS, _, _, _, rfl⟩ ?_ ?_
    · rintro i σ G hi ⟨hG, y1, y2, y3, rfl⟩
      refine ⟨_, rfl, _, rfl, a, ns, _, rfl, hG, hn, by omega, by omega, fun p G1 sm np rp => ?_⟩
      have keepS : ∀ {X Y : Hp}, Kp p X Y → SqL K X a (ns.map V.int) → SqL K Y a (ns.map V.int) := fun {X Y} k hX => by
        by_cases ap : a = p
        · subst ap
          rcases hG with (h | ⟨o, h⟩) | h
          · rw [h] at np; cases np
          · rw [h] at np; cases np
          · exact .inr h
        · exact Kp.lst k ap hX
      refine ⟨6, rfl, by decide, by decide, for_range (n := 6) (fun j σ G' => SqL K G' a (ns.map V.int) ∧ RP (1400 * j) G' p ∧ ∃ y3, σ = [some (.ref a), some (.int (0 + (i : Nat))), some (.ref p), y3]) ⟨sm.seq hG, rp, _, rfl⟩ ?_ ?_⟩
      · rintro j σ G2 hj ⟨hG2, rp2, y3, rfl⟩
        refine ⟨_, rfl, p, 1400 * j, rfl, rp2, by omega, fun G3 k3 rp3 => ⟨true, rfl, iteF ⟨keepS k3 hG2, rp3, _, rfl⟩⟩⟩
      · rintro σ G2 ⟨hG2, rp2, y3, rfl⟩
        exact ⟨hG2, _, _, _, rfl⟩
    · rintro σ G ⟨hG, y1, y2, y3, rfl⟩
      refine ⟨by show 1 ≤ sizeLine; decide, fun W nW => ?_⟩
      have sW := Same.new (o := .lst [.str "x"]) nW
      have oW : upd G W (.lst [.str "x"]) W = some (.lst ((["x"] : List Str).map V.str)) := upd_same
      generalize hW : upd G W (.lst [V.str "x"]) = G1
      replace sW : Same G G1 := hW ▸ sW
      replace oW : G1 W = some (.lst ((["x"] : List Str).map V.str)) := hW ▸ oW
      refine ⟨by show 0 ≤ sizeLine; decide, fun R nR => ?_⟩
      have sR := Same.new (o := .lst []) nR
      have oR : upd G1 R (.lst []) R = some (.lst []) := upd_same
      generalize upd G1 R (.lst []) = G2 at sR oR
      refine mk_sys (rs := []) (.inl (.inl (sR _ _ oW))) (.inl (.inl oR)) .nil ⟨by decide +kernel, by decide +kernel, fun r m => absurd m (by simp), fun r m => absurd m (by simp), by decide, by decide⟩ (fun O G3 P1 R1 ss pm so sm nO nP1 nR1 made => ?_)
      refine fun d nd => ?_
      have od : upd G3 d (.dK []) d = some (.dK []) := upd_same
      refine ⟨od, [(Sum.inr "x", .non)], rfl, by show 1 ≤ 15; decide, ?_⟩
      have sd : Same G3 (upd (upd G3 d (.dK [])) d (.dK (mergeK [] [((Sum.inr "x" : Key), V.non)]))) := fun b o e => by
        rw [upd_ne (ne_of_none e nd), upd_ne (ne_of_none e nd)]
        exact e
      have hd : Held K (upd (upd G3 d (.dK [])) d (.dK (mergeK [] [((Sum.inr "x" : Key), V.non)]))) d ["x"] (fun _ => none) := held1 upd_same
      generalize upd (upd G3 d (.dK [])) d (.dK (mergeK [] [((Sum.inr "x" : Key), V.non)])) = G5 at sd hd
      refine ⟨0, O, P1, R1, ss, [], d, ["x"], _, 0, rfl, made.same sd, by decide, hd, fun r m => absurd m (by simp), fun l G6 k6 nl el => ?_⟩
      refine ⟨by show 2 ≤ sizeLine; decide, fun E2 nE2 => ?_⟩
      have se := Same.new (o := .lst [.str "rule", .int 0]) nE2
      have oE : upd G6 E2 (.lst [.str "rule", .int 0]) E2 = some (.lst [.str "rule", .int 0]) := upd_same
      generalize upd G6 E2 (.lst [.str "rule", .int 0]) = G7 at se oE
      have d1 := due_dp (K := K) (se _ _ el)
      have e0 : dueD (([] : List Rl).length) 0 = .list [.str "rule", .int 0] := rfl
      rw [e0] at d1
      have ly : Ly 2 (.list [.str "rule", .int 0]) := e0 ▸ due_ly 0 0
      refine ⟨_, _, d1, .lst (.inl (.inl oE)) (.cons (.str _) (.cons (.int _) .nil)), ly.shaped, ly.shaped, ?_⟩
      rw [ly.eqv]
      exact q _
end

end Pk19
namespace Pk19
open PySem PySem.Spec PyProof.Rows L2 Gd
set_option maxHeartbeats 8000000
variable {P : Program} {w : World} {K : PySem.W.Frag} {mg : Str → Option Value}
theorem at_mk {x : Str} {st : Stmt} {ps : List Str} {h : Heap} {f : Addr} {oc : Value} {od an : Option Addr} {sl : Array (Option Value)} {kV dc pm cd ct : Value} (X : K.In h) (G : h.Ns mainGlobals mg) (a : PySem.W.nsIn K mainGlobals x = some (some (.ref f))) (l : K.lookup f = some ⟨oc, od, .func (PySem.W.fnOf x x (defArgs st) (defBody st) (defScope st) .none kV dc pm an cd ct), sl⟩) (c : PySem.W.codeIn K cd x = true) (k : PySem.W.keepIn K (.ref f) = true)
    (b : ∀ (kV doc pm : Value) (an : Option Addr) (cdv ct : Value) (us : List Value), us.length = ps.length → bindArgs (PySem.W.fnOf x x (defArgs st) (defBody st) (defScope st) .none kV doc pm an cdv ct) ⟨us, []⟩ = pure (ps.zip us)) : At K mg x st ps :=
  ⟨f, _, fun_mk l c k, (fun_mk l c k).binds b, PySem.W.mg_of X G a⟩
theorem all_mk {l : PySem.W.OpenLaw} {h : Heap} {fa : Addr} (X : K.In h) (G : h.Ns mainGlobals mg) (hfa : mg "law" = some (.ref fa))
    {f0 f1 f2 f3 f4 f5 f6 f7 f8 f9 f10 f11 f12 f13 f14 f15 f16 f17 f18 f19 f20 f21 f22 f23 f24 f25 f26 f27 f28 f29 f30 f31 f32 f33 : Addr} {od0 an0 od1 an1 od2 an2 od3 an3 od4 an4 od5 an5 od6 an6 od7 an7 od8 an8 od9 an9 od10 an10 od11 an11 od12 an12 od13 an13 od14 an14 od15 an15 od16 an16 od17 an17 od18 an18 od19 an19 od20 an20 od21 an21 od22 an22 od23 an23 od24 an24 od25 an25 od26 an26 od27 an27 od28 an28 od29 an29 od30 an30 od31 an31 od32 an32 od33 an33 : Option Addr} {sl0 sl1 sl2 sl3 sl4 sl5 sl6 sl7 sl8 sl9 sl10 sl11 sl12 sl13 sl14 sl15 sl16 sl17 sl18 sl19 sl20 sl21 sl22 sl23 sl24 sl25 sl26 sl27 sl28 sl29 sl30 sl31 sl32 sl33 : Array (Option Value)} {oc0 kV0 dc0 pm0 cd0 ct0 oc1 kV1 dc1 pm1 cd1 ct1 oc2 kV2 dc2 pm2 cd2 ct2 oc3 kV3 dc3 pm3 cd3 ct3 oc4 kV4 dc4 pm4 cd4 ct4 oc5 kV5 dc5 pm5 cd5 ct5 oc6 kV6 dc6 pm6 cd6 ct6 oc7 kV7 dc7 pm7 cd7 ct7 oc8 kV8 dc8 pm8 cd8 ct8 oc9 kV9 dc9 pm9 cd9 ct9 oc10 kV10 dc10 pm10 cd10 ct10 oc11 kV11 dc11 pm11 cd11 ct11 oc12 kV12 dc12 pm12 cd12 ct12 oc13 kV13 dc13 pm13 cd13 ct13 oc14 kV14 dc14 pm14 cd14 ct14 oc15 kV15 dc15 pm15 cd15 ct15 oc16 kV16 dc16 pm16 cd16 ct16 oc17 kV17 dc17 pm17 cd17 ct17 oc18 kV18 dc18 pm18 cd18 ct18 oc19 kV19 dc19 pm19 cd19 ct19 oc20 kV20 dc20 pm20 cd20 ct20 oc21 kV21 dc21 pm21 cd21 ct21 oc22 kV22 dc22 pm22 cd22 ct22 oc23 kV23 dc23 pm23 cd23 ct23 oc24 kV24 dc24 pm24 cd24 ct24 oc25 kV25 dc25 pm25 cd25 ct25 oc26 kV26 dc26 pm26 cd26 ct26 oc27 kV27 dc27 pm27 cd27 ct27 oc28 kV28 dc28 pm28 cd28 ct28 oc29 kV29 dc29 pm29 cd29 ct29 oc30 kV30 dc30 pm30 cd30 ct30 oc31 kV31 dc31 pm31 cd31 ct31 oc32 kV32 dc32 pm32 cd32 ct32 oc33 kV33 dc33 pm33 cd33 ct33 : Value}
    {C : Addr} {pp18 pp19 : Addr} {rest18 rest19 : List Value}
    {e0 eN0 e1 eN1 e2 eN2 e3 eN3 e4 eN4 e5 eN5 e6 eN6 e7 eN7 e8 eN8 : Addr} {en0 eq0 en1 eq1 en2 eq2 en3 eq3 en4 eq4 en5 eq5 en6 eq6 en7 eq7 en8 eq8 : Str} {ebs0 ebm0 esub0 ebs1 ebm1 esub1 ebs2 ebm2 esub2 ebs3 ebm3 esub3 ebs4 ebm4 esub4 ebs5 ebm5 esub5 ebs6 ebm6 esub6 ebs7 ebm7 esub7 ebs8 ebm8 esub8 : List Value} {esn0 esn1 esn2 esn3 esn4 esn5 esn6 esn7 esn8 : List Str} {eab0 eab1 eab2 eab3 eab4 eab5 eab6 eab7 eab8 : Bool} {ecol0 ecol1 ecol2 ecol3 ecol4 ecol5 ecol6 ecol7 ecol8 : Option Bool} {edd0 edd1 edd2 edd3 edd4 edd5 edd6 edd7 edd8 : Option Addr} {ek00 ek10 ek20 ek30 ek50 ek01 ek11 ek21 ek31 ek51 ek02 ek12 ek22 ek32 ek52 ek03 ek13 ek23 ek33 ek53 ek04 ek14 ek24 ek34 ek54 ek05 ek15 ek25 ek35 ek55 ek06 ek16 ek26 ek36 ek56 ek07 ek17 ek27 ek37 ek57 ek08 ek18 ek28 ek38 ek58 : Option Value}
    (aC : PySem.W.nsIn K mainGlobals "System" = some (some (.ref C)))
    (pg : PySem.W.plainGet K C Str.empty = true)
    (hd : PySem.W.hasDictIn K C = true)
    (po : PySem.W.plainOver K C = true)
    (sa : PySem.W.findIn K (.ref C) "__setattr__" = some (some (.builtin "object.__setattr__")))
    (mk : PySem.W.makesIn K C = true)
    (kc : PySem.W.keepIn K (.ref C) = true)
    (nN : PySem.W.findIn K (.ref C) "_names" = some none)
    (nR : PySem.W.findIn K (.ref C) "_rules" = some none)
    (ha : PySem.W.findIn K (.ref C) "__class__" = some (some (.builtin "object.__class__")))
    (hn : PySem.W.specialIn K (.builtin "object.__class__") "__get__" = some (some (.builtin "getset_descriptor.__get__")))
    (ht : PySem.W.takesIn K (.builtin "object.__class__") = some true)
    (hm : PySem.W.mroIn K C (.type "object") = some true)
    (ki : PySem.W.isClsIn K C = true)
    (ty : PySem.W.typeIn K (.ref C) = some (.type "type"))
    (xn0 : PySem.W.nsIn K mainGlobals "RangeError" = some (some (.ref e0)))
    (xl0 : K.lookup e0 = some (excClassObj en0 eq0 e0 eN0 ebs0 ebm0 true esn0 esub0 eab0 ecol0 edd0 ek00 ek10 ek20 ek30 ek50 "ValueError.__new__"))
    (xr0 : PySem.HandSPX.refsVE ebm0 = true)
    (xn1 : PySem.W.nsIn K mainGlobals "InvalidRange" = some (some (.ref e1)))
    (xl1 : K.lookup e1 = some (excClassObj en1 eq1 e1 eN1 ebs1 ebm1 true esn1 esub1 eab1 ecol1 edd1 ek01 ek11 ek21 ek31 ek51 "ValueError.__new__"))
    (xr1 : PySem.HandSPX.refsVE ebm1 = true)
    (xn2 : PySem.W.nsIn K mainGlobals "InvalidName" = some (some (.ref e2)))
    (xl2 : K.lookup e2 = some (excClassObj en2 eq2 e2 eN2 ebs2 ebm2 true esn2 esub2 eab2 ecol2 edd2 ek02 ek12 ek22 ek32 ek52 "ValueError.__new__"))
    (xr2 : PySem.HandSPX.refsVE ebm2 = true)
    (xn3 : PySem.W.nsIn K mainGlobals "InvalidSystem" = some (some (.ref e3)))
    (xl3 : K.lookup e3 = some (excClassObj en3 eq3 e3 eN3 ebs3 ebm3 true esn3 esub3 eab3 ecol3 edd3 ek03 ek13 ek23 ek33 ek53 "ValueError.__new__"))
    (xr3 : PySem.HandSPX.refsVE ebm3 = true)
    (xn4 : PySem.W.nsIn K mainGlobals "InvalidRule" = some (some (.ref e4)))
    (xl4 : K.lookup e4 = some (excClassObj en4 eq4 e4 eN4 ebs4 ebm4 true esn4 esub4 eab4 ecol4 edd4 ek04 ek14 ek24 ek34 ek54 "ValueError.__new__"))
    (xr4 : PySem.HandSPX.refsVE ebm4 = true)
    (xn5 : PySem.W.nsIn K mainGlobals "UnknownName" = some (some (.ref e5)))
    (xl5 : K.lookup e5 = some (excClassObj en5 eq5 e5 eN5 ebs5 ebm5 true esn5 esub5 eab5 ecol5 edd5 ek05 ek15 ek25 ek35 ek55 "ValueError.__new__"))
    (xr5 : PySem.HandSPX.refsVE ebm5 = true)
    (xn6 : PySem.W.nsIn K mainGlobals "InvalidMove" = some (some (.ref e6)))
    (xl6 : K.lookup e6 = some (excClassObj en6 eq6 e6 eN6 ebs6 ebm6 true esn6 esub6 eab6 ecol6 edd6 ek06 ek16 ek26 ek36 ek56 "ValueError.__new__"))
    (xr6 : PySem.HandSPX.refsVE ebm6 = true)
    (xn7 : PySem.W.nsIn K mainGlobals "NothingToUndo" = some (some (.ref e7)))
    (xl7 : K.lookup e7 = some (excClassObj en7 eq7 e7 eN7 ebs7 ebm7 true esn7 esub7 eab7 ecol7 edd7 ek07 ek17 ek27 ek37 ek57 "ValueError.__new__"))
    (xr7 : PySem.HandSPX.refsVE ebm7 = true)
    (xn8 : PySem.W.nsIn K mainGlobals "Unreadable" = some (some (.ref e8)))
    (xl8 : K.lookup e8 = some (excClassObj en8 eq8 e8 eN8 ebs8 ebm8 true esn8 esub8 eab8 ecol8 edd8 ek08 ek18 ek28 ek38 ek58 "ValueError.__new__"))
    (xr8 : PySem.HandSPX.refsVE ebm8 = true)
    (xi : PySem.W.findIn K (.ref e0) "__init__" = some (some (.ref f26)))
    (xb0 : errB K e0 f26 = true)
    (xk0 : kitB K e0 0 0 [e0, e1, e2, e3, e4, e5, e6, e7, e8] = true)
    (xb1 : errB K e1 f26 = true)
    (xk1 : kitB K e1 1 0 [e0, e1, e2, e3, e4, e5, e6, e7, e8] = true)
    (xb2 : errB K e2 f26 = true)
    (xk2 : kitB K e2 2 0 [e0, e1, e2, e3, e4, e5, e6, e7, e8] = true)
    (xb3 : errB K e3 f26 = true)
    (xk3 : kitB K e3 3 0 [e0, e1, e2, e3, e4, e5, e6, e7, e8] = true)
    (xb4 : errB K e4 f26 = true)
    (xk4 : kitB K e4 4 0 [e0, e1, e2, e3, e4, e5, e6, e7, e8] = true)
    (xb5 : errB K e5 f26 = true)
    (xk5 : kitB K e5 5 0 [e0, e1, e2, e3, e4, e5, e6, e7, e8] = true)
    (xb6 : errB K e6 f26 = true)
    (xk6 : kitB K e6 6 0 [e0, e1, e2, e3, e4, e5, e6, e7, e8] = true)
    (xb7 : errB K e7 f26 = true)
    (xk7 : kitB K e7 7 0 [e0, e1, e2, e3, e4, e5, e6, e7, e8] = true)
    (xb8 : errB K e8 f26 = true)
    (xk8 : kitB K e8 8 0 [e0, e1, e2, e3, e4, e5, e6, e7, e8] = true)
    (xj : initB K f26 = true)
    (a0 : PySem.W.nsIn K mainGlobals "is_upside_down" = some (some (.ref f0))) (l0 : K.lookup f0 = some ⟨oc0, od0, .func (PySem.W.fnOf "is_upside_down" "is_upside_down" (defArgs s_is_upside_down) (defBody s_is_upside_down) (defScope s_is_upside_down) .none kV0 dc0 pm0 an0 cd0 ct0), sl0⟩) (c0 : PySem.W.codeIn K cd0 "is_upside_down" = true) (k0 : PySem.W.keepIn K (.ref f0) = true)
    (a1 : PySem.W.nsIn K mainGlobals "check_range" = some (some (.ref f1))) (l1 : K.lookup f1 = some ⟨oc1, od1, .func (PySem.W.fnOf "check_range" "check_range" (defArgs s_check_range) (defBody s_check_range) (defScope s_check_range) .none kV1 dc1 pm1 an1 cd1 ct1), sl1⟩) (c1 : PySem.W.codeIn K cd1 "check_range" = true) (k1 : PySem.W.keepIn K (.ref f1) = true)
    (a2 : PySem.W.nsIn K mainGlobals "_least" = some (some (.ref f2))) (l2 : K.lookup f2 = some ⟨oc2, od2, .func (PySem.W.fnOf "_least" "_least" (defArgs s__least) (defBody s__least) (defScope s__least) .none kV2 dc2 pm2 an2 cd2 ct2), sl2⟩) (c2 : PySem.W.codeIn K cd2 "_least" = true) (k2 : PySem.W.keepIn K (.ref f2) = true)
    (a3 : PySem.W.nsIn K mainGlobals "_greatest" = some (some (.ref f3))) (l3 : K.lookup f3 = some ⟨oc3, od3, .func (PySem.W.fnOf "_greatest" "_greatest" (defArgs s__greatest) (defBody s__greatest) (defScope s__greatest) .none kV3 dc3 pm3 an3 cd3 ct3), sl3⟩) (c3 : PySem.W.codeIn K cd3 "_greatest" = true) (k3 : PySem.W.keepIn K (.ref f3) = true)
    (a4 : PySem.W.nsIn K mainGlobals "common" = some (some (.ref f4))) (l4 : K.lookup f4 = some ⟨oc4, od4, .func (PySem.W.fnOf "common" "common" (defArgs s_common) (defBody s_common) (defScope s_common) .none kV4 dc4 pm4 an4 cd4 ct4), sl4⟩) (c4 : PySem.W.codeIn K cd4 "common" = true) (k4 : PySem.W.keepIn K (.ref f4) = true)
    (a5 : PySem.W.nsIn K mainGlobals "meets" = some (some (.ref f5))) (l5 : K.lookup f5 = some ⟨oc5, od5, .func (PySem.W.fnOf "meets" "meets" (defArgs s_meets) (defBody s_meets) (defScope s_meets) .none kV5 dc5 pm5 an5 cd5 ct5), sl5⟩) (c5 : PySem.W.codeIn K cd5 "meets" = true) (k5 : PySem.W.keepIn K (.ref f5) = true)
    (a6 : PySem.W.nsIn K mainGlobals "_taken" = some (some (.ref f6))) (l6 : K.lookup f6 = some ⟨oc6, od6, .func (PySem.W.fnOf "_taken" "_taken" (defArgs s__taken) (defBody s__taken) (defScope s__taken) .none kV6 dc6 pm6 an6 cd6 ct6), sl6⟩) (c6 : PySem.W.codeIn K cd6 "_taken" = true) (k6 : PySem.W.keepIn K (.ref f6) = true)
    (a7 : PySem.W.nsIn K mainGlobals "stepped" = some (some (.ref f7))) (l7 : K.lookup f7 = some ⟨oc7, od7, .func (PySem.W.fnOf "stepped" "stepped" (defArgs s_stepped) (defBody s_stepped) (defScope s_stepped) .none kV7 dc7 pm7 an7 cd7 ct7), sl7⟩) (c7 : PySem.W.codeIn K cd7 "stepped" = true) (k7 : PySem.W.keepIn K (.ref f7) = true)
    (a8 : PySem.W.nsIn K mainGlobals "_law_pool" = some (some (.ref f8))) (l8 : K.lookup f8 = some ⟨oc8, od8, .func (PySem.W.fnOf "_law_pool" "_law_pool" (defArgs s__law_pool) (defBody s__law_pool) (defScope s__law_pool) .none kV8 dc8 pm8 an8 cd8 ct8), sl8⟩) (c8 : PySem.W.codeIn K cd8 "_law_pool" = true) (k8 : PySem.W.keepIn K (.ref f8) = true)
    (a9 : PySem.W.nsIn K mainGlobals "_law_draw" = some (some (.ref f9))) (l9 : K.lookup f9 = some ⟨oc9, od9, .func (PySem.W.fnOf "_law_draw" "_law_draw" (defArgs s__law_draw) (defBody s__law_draw) (defScope s__law_draw) .none kV9 dc9 pm9 an9 cd9 ct9), sl9⟩) (c9 : PySem.W.codeIn K cd9 "_law_draw" = true) (k9 : PySem.W.keepIn K (.ref f9) = true)
    (a10 : PySem.W.nsIn K mainGlobals "_law_integer" = some (some (.ref f10))) (l10 : K.lookup f10 = some ⟨oc10, od10, .func (PySem.W.fnOf "_law_integer" "_law_integer" (defArgs s__law_integer) (defBody s__law_integer) (defScope s__law_integer) .none kV10 dc10 pm10 an10 cd10 ct10), sl10⟩) (c10 : PySem.W.codeIn K cd10 "_law_integer" = true) (k10 : PySem.W.keepIn K (.ref f10) = true)
    (a11 : PySem.W.nsIn K mainGlobals "_names_of" = some (some (.ref f11))) (l11 : K.lookup f11 = some ⟨oc11, od11, .func (PySem.W.fnOf "_names_of" "_names_of" (defArgs s__names_of) (defBody s__names_of) (defScope s__names_of) .none kV11 dc11 pm11 an11 cd11 ct11), sl11⟩) (c11 : PySem.W.codeIn K cd11 "_names_of" = true) (k11 : PySem.W.keepIn K (.ref f11) = true)
    (a12 : PySem.W.nsIn K mainGlobals "_ranges_of" = some (some (.ref f12))) (l12 : K.lookup f12 = some ⟨oc12, od12, .func (PySem.W.fnOf "_ranges_of" "_ranges_of" (defArgs s__ranges_of) (defBody s__ranges_of) (defScope s__ranges_of) .none kV12 dc12 pm12 an12 cd12 ct12), sl12⟩) (c12 : PySem.W.codeIn K cd12 "_ranges_of" = true) (k12 : PySem.W.keepIn K (.ref f12) = true)
    (a13 : PySem.W.nsIn K mainGlobals "is_faulty" = some (some (.ref f13))) (l13 : K.lookup f13 = some ⟨oc13, od13, .func (PySem.W.fnOf "is_faulty" "is_faulty" (defArgs s_is_faulty) (defBody s_is_faulty) (defScope s_is_faulty) .none kV13 dc13 pm13 an13 cd13 ct13), sl13⟩) (c13 : PySem.W.codeIn K cd13 "is_faulty" = true) (k13 : PySem.W.keepIn K (.ref f13) = true)
    (a14 : PySem.W.nsIn K mainGlobals "is_name" = some (some (.ref f14))) (l14 : K.lookup f14 = some ⟨oc14, od14, .func (PySem.W.fnOf "is_name" "is_name" (defArgs s_is_name) (defBody s_is_name) (defScope s_is_name) .none kV14 dc14 pm14 an14 cd14 ct14), sl14⟩) (c14 : PySem.W.codeIn K cd14 "is_name" = true) (k14 : PySem.W.keepIn K (.ref f14) = true)
    (a15 : PySem.W.nsIn K mainGlobals "_check_system" = some (some (.ref f15))) (l15 : K.lookup f15 = some ⟨oc15, od15, .func (PySem.W.fnOf "_check_system" "_check_system" (defArgs s__check_system) (defBody s__check_system) (defScope s__check_system) .none kV15 dc15 pm15 an15 cd15 ct15), sl15⟩) (c15 : PySem.W.codeIn K cd15 "_check_system" = true) (k15 : PySem.W.keepIn K (.ref f15) = true)
    (a16 : PySem.W.findIn K (.ref C) "__init__" = some (some (.ref f16))) (i16 : PySem.W.isFn K (.ref f16) = true) (l16 : K.lookup f16 = some ⟨oc16, od16, .func (PySem.W.fnOf "__init__" "System.__init__" (defArgs s_System___init__) (defBody s_System___init__) (defScope s_System___init__) .none kV16 dc16 pm16 an16 cd16 ct16), sl16⟩) (c16 : PySem.W.codeIn K cd16 "System.__init__" = true) (k16 : PySem.W.keepIn K (.ref f16) = true)
    (a17 : PySem.W.findIn K (.ref C) "__len__" = some (some (.ref f17))) (i17 : PySem.W.isFn K (.ref f17) = true) (l17 : K.lookup f17 = some ⟨oc17, od17, .func (PySem.W.fnOf "__len__" "System.__len__" (defArgs s_System___len__) (defBody s_System___len__) (defScope s_System___len__) .none kV17 dc17 pm17 an17 cd17 ct17), sl17⟩) (c17 : PySem.W.codeIn K cd17 "System.__len__" = true) (k17 : PySem.W.keepIn K (.ref f17) = true)
    (a18 : PySem.W.findIn K (.ref C) "names" = some (some (.ref pp18))) (g18 : PySem.W.specialIn K (.ref pp18) "__get__" = some (some (.builtin "property.__get__"))) (t18 : PySem.W.takesIn K (.ref pp18) = some true) (r18 : PySem.W.recIn K pp18 "property" = some (.ref f18 :: rest18)) (l18 : K.lookup f18 = some ⟨oc18, od18, .func (PySem.W.fnOf "names" "System.names" (defArgs s_System_names) (defBody s_System_names) (defScope s_System_names) .none kV18 dc18 pm18 an18 cd18 ct18), sl18⟩) (c18 : PySem.W.codeIn K cd18 "System.names" = true) (k18 : PySem.W.keepIn K (.ref f18) = true)
    (a19 : PySem.W.findIn K (.ref C) "rules" = some (some (.ref pp19))) (g19 : PySem.W.specialIn K (.ref pp19) "__get__" = some (some (.builtin "property.__get__"))) (t19 : PySem.W.takesIn K (.ref pp19) = some true) (r19 : PySem.W.recIn K pp19 "property" = some (.ref f19 :: rest19)) (l19 : K.lookup f19 = some ⟨oc19, od19, .func (PySem.W.fnOf "rules" "System.rules" (defArgs s_System_rules) (defBody s_System_rules) (defScope s_System_rules) .none kV19 dc19 pm19 an19 cd19 ct19), sl19⟩) (c19 : PySem.W.codeIn K cd19 "System.rules" = true) (k19 : PySem.W.keepIn K (.ref f19) = true)
    (a20 : PySem.W.findIn K (.ref C) "__eq__" = some (some (.ref f20))) (i20 : PySem.W.isFn K (.ref f20) = true) (l20 : K.lookup f20 = some ⟨oc20, od20, .func (PySem.W.fnOf "__eq__" "System.__eq__" (defArgs s_System___eq__) (defBody s_System___eq__) (defScope s_System___eq__) .none kV20 dc20 pm20 an20 cd20 ct20), sl20⟩) (c20 : PySem.W.codeIn K cd20 "System.__eq__" = true) (k20 : PySem.W.keepIn K (.ref f20) = true)
    (a21 : PySem.W.nsIn K mainGlobals "_law_range" = some (some (.ref f21))) (l21 : K.lookup f21 = some ⟨oc21, od21, .func (PySem.W.fnOf "_law_range" "_law_range" (defArgs s__law_range) (defBody s__law_range) (defScope s__law_range) .none kV21 dc21 pm21 an21 cd21 ct21), sl21⟩) (c21 : PySem.W.codeIn K cd21 "_law_range" = true) (k21 : PySem.W.keepIn K (.ref f21) = true)
    (a22 : PySem.W.nsIn K mainGlobals "_law_titles" = some (some (.ref f22))) (l22 : K.lookup f22 = some ⟨oc22, od22, .func (PySem.W.fnOf "_law_titles" "_law_titles" (defArgs s__law_titles) (defBody s__law_titles) (defScope s__law_titles) .none kV22 dc22 pm22 an22 cd22 ct22), sl22⟩) (c22 : PySem.W.codeIn K cd22 "_law_titles" = true) (k22 : PySem.W.keepIn K (.ref f22) = true)
    (a23 : PySem.W.nsIn K mainGlobals "_law_rules" = some (some (.ref f23))) (l23 : K.lookup f23 = some ⟨oc23, od23, .func (PySem.W.fnOf "_law_rules" "_law_rules" (defArgs s__law_rules) (defBody s__law_rules) (defScope s__law_rules) .none kV23 dc23 pm23 an23 cd23 ct23), sl23⟩) (c23 : PySem.W.codeIn K cd23 "_law_rules" = true) (k23 : PySem.W.keepIn K (.ref f23) = true)
    (a24 : PySem.W.nsIn K mainGlobals "rule_counts" = some (some (.ref f24))) (l24 : K.lookup f24 = some ⟨oc24, od24, .func (PySem.W.fnOf "rule_counts" "rule_counts" (defArgs s_rule_counts) (defBody s_rule_counts) (defScope s_rule_counts) .none kV24 dc24 pm24 an24 cd24 ct24), sl24⟩) (c24 : PySem.W.codeIn K cd24 "rule_counts" = true) (k24 : PySem.W.keepIn K (.ref f24) = true)
    (a25 : PySem.W.nsIn K mainGlobals "rule_gives" = some (some (.ref f25))) (l25 : K.lookup f25 = some ⟨oc25, od25, .func (PySem.W.fnOf "rule_gives" "rule_gives" (defArgs s_rule_gives) (defBody s_rule_gives) (defScope s_rule_gives) .none kV25 dc25 pm25 an25 cd25 ct25), sl25⟩) (c25 : PySem.W.codeIn K cd25 "rule_gives" = true) (k25 : PySem.W.keepIn K (.ref f25) = true)
    (l26 : K.lookup f26 = some ⟨oc26, od26, .func (PySem.W.fnOf "__init__" "RangeError.__init__" (defArgs s_RangeError___init__) (defBody s_RangeError___init__) (defScope s_RangeError___init__) .none kV26 dc26 pm26 an26 cd26 ct26), sl26⟩) (c26 : PySem.W.codeIn K cd26 "RangeError.__init__" = true) (k26 : PySem.W.keepIn K (.ref f26) = true)
    (a27 : PySem.W.nsIn K mainGlobals "check_number" = some (some (.ref f27))) (l27 : K.lookup f27 = some ⟨oc27, od27, .func (PySem.W.fnOf "check_number" "check_number" (defArgs s_check_number) (defBody s_check_number) (defScope s_check_number) .none kV27 dc27 pm27 an27 cd27 ct27), sl27⟩) (c27 : PySem.W.codeIn K cd27 "check_number" = true) (k27 : PySem.W.keepIn K (.ref f27) = true)
    (a28 : PySem.W.nsIn K mainGlobals "counts" = some (some (.ref f28))) (l28 : K.lookup f28 = some ⟨oc28, od28, .func (PySem.W.fnOf "counts" "counts" (defArgs s_counts) (defBody s_counts) (defScope s_counts) .none kV28 dc28 pm28 an28 cd28 ct28), sl28⟩) (c28 : PySem.W.codeIn K cd28 "counts" = true) (k28 : PySem.W.keepIn K (.ref f28) = true)
    (a29 : PySem.W.nsIn K mainGlobals "gives" = some (some (.ref f29))) (l29 : K.lookup f29 = some ⟨oc29, od29, .func (PySem.W.fnOf "gives" "gives" (defArgs s_gives) (defBody s_gives) (defScope s_gives) .none kV29 dc29 pm29 an29 cd29 ct29), sl29⟩) (c29 : PySem.W.codeIn K cd29 "gives" = true) (k29 : PySem.W.keepIn K (.ref f29) = true)
    (a30 : PySem.W.nsIn K mainGlobals "_law_kind" = some (some (.ref f30))) (l30 : K.lookup f30 = some ⟨oc30, od30, .func (PySem.W.fnOf "_law_kind" "_law_kind" (defArgs s__law_kind) (defBody s__law_kind) (defScope s__law_kind) .none kV30 dc30 pm30 an30 cd30 ct30), sl30⟩) (c30 : PySem.W.codeIn K cd30 "_law_kind" = true) (k30 : PySem.W.keepIn K (.ref f30) = true)
    (a31 : PySem.W.nsIn K mainGlobals "_law_told" = some (some (.ref f31))) (l31 : K.lookup f31 = some ⟨oc31, od31, .func (PySem.W.fnOf "_law_told" "_law_told" (defArgs s__law_told) (defBody s__law_told) (defScope s__law_told) .none kV31 dc31 pm31 an31 cd31 ct31), sl31⟩) (c31 : PySem.W.codeIn K cd31 "_law_told" = true) (k31 : PySem.W.keepIn K (.ref f31) = true)
    (a32 : PySem.W.nsIn K mainGlobals "_law_right" = some (some (.ref f32))) (l32 : K.lookup f32 = some ⟨oc32, od32, .func (PySem.W.fnOf "_law_right" "_law_right" (defArgs s__law_right) (defBody s__law_right) (defScope s__law_right) .none kV32 dc32 pm32 an32 cd32 ct32), sl32⟩) (c32 : PySem.W.codeIn K cd32 "_law_right" = true) (k32 : PySem.W.keepIn K (.ref f32) = true)
    (a33 : PySem.W.nsIn K mainGlobals "law" = some (some (.ref f33))) (l33 : K.lookup f33 = some ⟨oc33, od33, .func (PySem.W.fnOf "law" "law" (defArgs s_law) (defBody s_law) (defScope s_law) .none kV33 dc33 pm33 an33 cd33 ct33), sl33⟩) (c33 : PySem.W.codeIn K cd33 "law" = true) (k33 : PySem.W.keepIn K (.ref f33) = true)
    (z0 : PySem.W.nsIn K mainGlobals "ValueError" = some none)
    (z1 : PySem.W.nsIn K mainGlobals "abs" = some none)
    (z2 : PySem.W.nsIn K mainGlobals "all" = some none)
    (z3 : PySem.W.nsIn K mainGlobals "any" = some none)
    (z4 : PySem.W.nsIn K mainGlobals "dict" = some none)
    (z5 : PySem.W.nsIn K mainGlobals "enumerate" = some none)
    (z6 : PySem.W.nsIn K mainGlobals "int" = some none)
    (z7 : PySem.W.nsIn K mainGlobals "isinstance" = some none)
    (z8 : PySem.W.nsIn K mainGlobals "len" = some none)
    (z9 : PySem.W.nsIn K mainGlobals "list" = some none)
    (z10 : PySem.W.nsIn K mainGlobals "max" = some none)
    (z11 : PySem.W.nsIn K mainGlobals "min" = some none)
    (z12 : PySem.W.nsIn K mainGlobals "range" = some none)
    (z13 : PySem.W.nsIn K mainGlobals "repr" = some none)
    (z14 : PySem.W.nsIn K mainGlobals "sorted" = some none)
    (z15 : PySem.W.nsIn K mainGlobals "tuple" = some none)
    : ∃ fd : FuncData, (∀ (s : Shared) (v : Value), BindsTo s fd ⟨[v], []⟩ [("script", v)]) ∧ ∀ base : Heap, K.In base → base.Ns mainGlobals mg → FnGd l.prog w K mg base 10 fa fd ["script"] (sp_law K) := by
  have e := hfa.symm.trans (PySem.W.mg_of X G a33)
  cases e
  have T : SysT K mg C := ⟨⟨⟨pg, hd, po, sa⟩, mk, kc, PySem.W.mg_of X G aC⟩, nN, nR, ha, hn, ht, hm, ki, ty⟩
  have XE : ErrT K mg [e0, e1, e2, e3, e4, e5, e6, e7, e8] ["RangeError", "InvalidRange", "InvalidName", "InvalidSystem", "InvalidRule", "UnknownName", "InvalidMove", "NothingToUndo", "Unreadable"] f26 := by
    refine ⟨fun i C x hc hx => ?_, fun i j C D hc hd => ?_, fun i C hc => ?_, rfl⟩
    · match i, hc, hx with
      | 0, hc, hx => obtain rfl := Option.some.inj hc; obtain rfl := Option.some.inj hx; exact ext_mk ⟨_, _, _, _, _, _, _, _, _, _, _, _, _, _, _, xl0, xr0⟩ (PySem.W.mg_of X G xn0) xb0 xj
      | 1, hc, hx => obtain rfl := Option.some.inj hc; obtain rfl := Option.some.inj hx; exact ext_mk ⟨_, _, _, _, _, _, _, _, _, _, _, _, _, _, _, xl1, xr1⟩ (PySem.W.mg_of X G xn1) xb1 xj
      | 2, hc, hx => obtain rfl := Option.some.inj hc; obtain rfl := Option.some.inj hx; exact ext_mk ⟨_, _, _, _, _, _, _, _, _, _, _, _, _, _, _, xl2, xr2⟩ (PySem.W.mg_of X G xn2) xb2 xj
      | 3, hc, hx => obtain rfl := Option.some.inj hc; obtain rfl := Option.some.inj hx; exact ext_mk ⟨_, _, _, _, _, _, _, _, _, _, _, _, _, _, _, xl3, xr3⟩ (PySem.W.mg_of X G xn3) xb3 xj
      | 4, hc, hx => obtain rfl := Option.some.inj hc; obtain rfl := Option.some.inj hx; exact ext_mk ⟨_, _, _, _, _, _, _, _, _, _, _, _, _, _, _, xl4, xr4⟩ (PySem.W.mg_of X G xn4) xb4 xj
      | 5, hc, hx => obtain rfl := Option.some.inj hc; obtain rfl := Option.some.inj hx; exact ext_mk ⟨_, _, _, _, _, _, _, _, _, _, _, _, _, _, _, xl5, xr5⟩ (PySem.W.mg_of X G xn5) xb5 xj
      | 6, hc, hx => obtain rfl := Option.some.inj hc; obtain rfl := Option.some.inj hx; exact ext_mk ⟨_, _, _, _, _, _, _, _, _, _, _, _, _, _, _, xl6, xr6⟩ (PySem.W.mg_of X G xn6) xb6 xj
      | 7, hc, hx => obtain rfl := Option.some.inj hc; obtain rfl := Option.some.inj hx; exact ext_mk ⟨_, _, _, _, _, _, _, _, _, _, _, _, _, _, _, xl7, xr7⟩ (PySem.W.mg_of X G xn7) xb7 xj
      | 8, hc, hx => obtain rfl := Option.some.inj hc; obtain rfl := Option.some.inj hx; exact ext_mk ⟨_, _, _, _, _, _, _, _, _, _, _, _, _, _, _, xl8, xr8⟩ (PySem.W.mg_of X G xn8) xb8 xj
      | n + 9, hc, _ => simp at hc
    · match i, hc with
      | 0, hc => obtain rfl := Option.some.inj hc; have z := (kitB_at xk0).1 j D hd; rw [Nat.zero_add] at z; exact z
      | 1, hc => obtain rfl := Option.some.inj hc; have z := (kitB_at xk1).1 j D hd; rw [Nat.zero_add] at z; exact z
      | 2, hc => obtain rfl := Option.some.inj hc; have z := (kitB_at xk2).1 j D hd; rw [Nat.zero_add] at z; exact z
      | 3, hc => obtain rfl := Option.some.inj hc; have z := (kitB_at xk3).1 j D hd; rw [Nat.zero_add] at z; exact z
      | 4, hc => obtain rfl := Option.some.inj hc; have z := (kitB_at xk4).1 j D hd; rw [Nat.zero_add] at z; exact z
      | 5, hc => obtain rfl := Option.some.inj hc; have z := (kitB_at xk5).1 j D hd; rw [Nat.zero_add] at z; exact z
      | 6, hc => obtain rfl := Option.some.inj hc; have z := (kitB_at xk6).1 j D hd; rw [Nat.zero_add] at z; exact z
      | 7, hc => obtain rfl := Option.some.inj hc; have z := (kitB_at xk7).1 j D hd; rw [Nat.zero_add] at z; exact z
      | 8, hc => obtain rfl := Option.some.inj hc; have z := (kitB_at xk8).1 j D hd; rw [Nat.zero_add] at z; exact z
      | n + 9, hc => simp at hc
    · match i, hc with
      | 0, hc => obtain rfl := Option.some.inj hc; exact (kitB_at xk0).2
      | 1, hc => obtain rfl := Option.some.inj hc; exact (kitB_at xk1).2
      | 2, hc => obtain rfl := Option.some.inj hc; exact (kitB_at xk2).2
      | 3, hc => obtain rfl := Option.some.inj hc; exact (kitB_at xk3).2
      | 4, hc => obtain rfl := Option.some.inj hc; exact (kitB_at xk4).2
      | 5, hc => obtain rfl := Option.some.inj hc; exact (kitB_at xk5).2
      | 6, hc => obtain rfl := Option.some.inj hc; exact (kitB_at xk6).2
      | 7, hc => obtain rfl := Option.some.inj hc; exact (kitB_at xk7).2
      | 8, hc => obtain rfl := Option.some.inj hc; exact (kitB_at xk8).2
      | n + 9, hc => simp at hc
  have A0 : At K mg "is_upside_down" s_is_upside_down ["one"] := at_mk X G a0 l0 c0 k0 fun _ _ _ _ _ _ us hl => match us, hl with | [_], _ => rfl
  have A1 : At K mg "check_range" s_check_range ["one"] := at_mk X G a1 l1 c1 k1 fun _ _ _ _ _ _ us hl => match us, hl with | [_], _ => rfl
  have A2 : At K mg "_least" s__least ["one", "other"] := at_mk X G a2 l2 c2 k2 fun _ _ _ _ _ _ us hl => match us, hl with | [_, _], _ => rfl
  have A3 : At K mg "_greatest" s__greatest ["one", "other"] := at_mk X G a3 l3 c3 k3 fun _ _ _ _ _ _ us hl => match us, hl with | [_, _], _ => rfl
  have A4 : At K mg "common" s_common ["one", "other"] := at_mk X G a4 l4 c4 k4 fun _ _ _ _ _ _ us hl => match us, hl with | [_, _], _ => rfl
  have A5 : At K mg "meets" s_meets ["one", "other"] := at_mk X G a5 l5 c5 k5 fun _ _ _ _ _ _ us hl => match us, hl with | [_, _], _ => rfl
  have A6 : At K mg "_taken" s__taken ["bound", "factor", "add"] := at_mk X G a6 l6 c6 k6 fun _ _ _ _ _ _ us hl => match us, hl with | [_, _, _], _ => rfl
  have A7 : At K mg "stepped" s_stepped ["one", "factor", "add"] := at_mk X G a7 l7 c7 k7 fun _ _ _ _ _ _ us hl => match us, hl with | [_, _, _], _ => rfl
  have A8 : At K mg "_law_pool" s__law_pool ["script", "at"] := at_mk X G a8 l8 c8 k8 fun _ _ _ _ _ _ us hl => match us, hl with | [_, _], _ => rfl
  have A9 : At K mg "_law_draw" s__law_draw ["pool", "many"] := at_mk X G a9 l9 c9 k9 fun _ _ _ _ _ _ us hl => match us, hl with | [_, _], _ => rfl
  have A10 : At K mg "_law_integer" s__law_integer ["pool"] := at_mk X G a10 l10 c10 k10 fun _ _ _ _ _ _ us hl => match us, hl with | [_], _ => rfl
  have A11 : At K mg "_names_of" s__names_of ["rule"] := at_mk X G a11 l11 c11 k11 fun _ _ _ _ _ _ us hl => match us, hl with | [_], _ => rfl
  have A12 : At K mg "_ranges_of" s__ranges_of ["rule"] := at_mk X G a12 l12 c12 k12 fun _ _ _ _ _ _ us hl => match us, hl with | [_], _ => rfl
  have A13 : At K mg "is_faulty" s_is_faulty ["rule", "names"] := at_mk X G a13 l13 c13 k13 fun _ _ _ _ _ _ us hl => match us, hl with | [_, _], _ => rfl
  have A14 : At K mg "is_name" s_is_name ["text"] := at_mk X G a14 l14 c14 k14 fun _ _ _ _ _ _ us hl => match us, hl with | [_], _ => rfl
  have A15 : At K mg "_check_system" s__check_system ["names", "rules"] := at_mk X G a15 l15 c15 k15 fun _ _ _ _ _ _ us hl => match us, hl with | [_, _], _ => rfl
  have A16 : AtM K C "__init__" "System.__init__" s_System___init__ ["self", "names", "rules"] := ⟨f16, _, a16, i16, fun_mk l16 c16 k16, (fun_mk l16 c16 k16).binds (fun _ _ _ _ _ _ us hl => match us, hl with | [_, _, _], _ => rfl)⟩
  have A17 : AtM K C "__len__" "System.__len__" s_System___len__ ["self"] := ⟨f17, _, a17, i17, fun_mk l17 c17 k17, (fun_mk l17 c17 k17).binds (fun _ _ _ _ _ _ us hl => match us, hl with | [_], _ => rfl)⟩
  have A18 : AtP K C "names" "System.names" s_System_names ["self"] := ⟨pp18, f18, _, ⟨a18, g18, t18, rest18, r18⟩, fun_mk l18 c18 k18, (fun_mk l18 c18 k18).binds (fun _ _ _ _ _ _ us hl => match us, hl with | [_], _ => rfl)⟩
  have A19 : AtP K C "rules" "System.rules" s_System_rules ["self"] := ⟨pp19, f19, _, ⟨a19, g19, t19, rest19, r19⟩, fun_mk l19 c19 k19, (fun_mk l19 c19 k19).binds (fun _ _ _ _ _ _ us hl => match us, hl with | [_], _ => rfl)⟩
  have A20 : AtM K C "__eq__" "System.__eq__" s_System___eq__ ["self", "other"] := ⟨f20, _, a20, i20, fun_mk l20 c20 k20, (fun_mk l20 c20 k20).binds (fun _ _ _ _ _ _ us hl => match us, hl with | [_, _], _ => rfl)⟩
  have A21 : At K mg "_law_range" s__law_range ["pool", "open_often"] := at_mk X G a21 l21 c21 k21 fun _ _ _ _ _ _ us hl => match us, hl with | [_, _], _ => rfl
  have A22 : At K mg "_law_titles" s__law_titles ["pool"] := at_mk X G a22 l22 c22 k22 fun _ _ _ _ _ _ us hl => match us, hl with | [_], _ => rfl
  have A23 : At K mg "_law_rules" s__law_rules ["pool", "titles", "many"] := at_mk X G a23 l23 c23 k23 fun _ _ _ _ _ _ us hl => match us, hl with | [_, _, _], _ => rfl
  have A24 : At K mg "rule_counts" s_rule_counts ["rule", "ranges"] := at_mk X G a24 l24 c24 k24 fun _ _ _ _ _ _ us hl => match us, hl with | [_, _], _ => rfl
  have A25 : At K mg "rule_gives" s_rule_gives ["rule", "ranges"] := at_mk X G a25 l25 c25 k25 fun _ _ _ _ _ _ us hl => match us, hl with | [_, _], _ => rfl
  have A26 : AtI K f26 "RangeError.__init__" s_RangeError___init__ ["self", "value"] := ⟨_, fun_mk l26 c26 k26, (fun_mk l26 c26 k26).binds (fun _ _ _ _ _ _ us hl => match us, hl with | [_, _], _ => rfl)⟩
  have kI_value : ∀ fd, Fun K "__init__" "RangeError.__init__" s_RangeError___init__ f26 fd → ∀ (s : Shared) (a u : Value), BindsTo s fd ⟨[a], [("value", u)]⟩ ((["self", "value"] : List Str).zip [a, u]) := by
    intro fd F s a u
    obtain ⟨oc, od, kV, doc, pm, an, cdv, ct, osl, rfl, lk, hcd⟩ := F.ex
    exact .of_eq rfl
  have A27 : At K mg "check_number" s_check_number ["system", "number"] := at_mk X G a27 l27 c27 k27 fun _ _ _ _ _ _ us hl => match us, hl with | [_, _], _ => rfl
  have A28 : At K mg "counts" s_counts ["system", "ranges", "number"] := at_mk X G a28 l28 c28 k28 fun _ _ _ _ _ _ us hl => match us, hl with | [_, _, _], _ => rfl
  have A29 : At K mg "gives" s_gives ["system", "ranges", "number"] := at_mk X G a29 l29 c29 k29 fun _ _ _ _ _ _ us hl => match us, hl with | [_, _, _], _ => rfl
  have A30 : At K mg "_law_kind" s__law_kind ["caught"] := at_mk X G a30 l30 c30 k30 fun _ _ _ _ _ _ us hl => match us, hl with | [_], _ => rfl
  have A31 : At K mg "_law_told" s__law_told ["door", "made", "held", "spot"] := at_mk X G a31 l31 c31 k31 fun _ _ _ _ _ _ us hl => match us, hl with | [_, _, _, _], _ => rfl
  have A32 : At K mg "_law_right" s__law_right ["pool"] := at_mk X G a32 l32 c32 k32 fun _ _ _ _ _ _ us hl => match us, hl with | [_], _ => rfl
  have A33 : At K mg "law" s_law ["script"] := at_mk X G a33 l33 c33 k33 fun _ _ _ _ _ _ us hl => match us, hl with | [_], _ => rfl
  refine ⟨PySem.W.fnOf "law" "law" (defArgs s_law) (defBody s_law) (defScope s_law) .none kV33 dc33 pm33 an33 cd33 ct33, fun s v => .of_eq rfl, fun base _ _ => ?_⟩
  have m_ValueError := PySem.W.mg_none_of X G z0
  have m_abs := PySem.W.mg_none_of X G z1
  have m_all := PySem.W.mg_none_of X G z2
  have m_any := PySem.W.mg_none_of X G z3
  have m_dict := PySem.W.mg_none_of X G z4
  have m_enumerate := PySem.W.mg_none_of X G z5
  have m_int := PySem.W.mg_none_of X G z6
  have m_isinstance := PySem.W.mg_none_of X G z7
  have m_len := PySem.W.mg_none_of X G z8
  have m_list := PySem.W.mg_none_of X G z9
  have m_max := PySem.W.mg_none_of X G z10
  have m_min := PySem.W.mg_none_of X G z11
  have m_range := PySem.W.mg_none_of X G z12
  have m_repr := PySem.W.mg_none_of X G z13
  have m_sorted := PySem.W.mg_none_of X G z14
  have m_tuple := PySem.W.mg_none_of X G z15
  have D__names_of := ok__names_of (P := l.prog) (w := w) (mg := mg) (base := base) A11 m_list
  have D__ranges_of := ok__ranges_of (P := l.prog) (w := w) (mg := mg) (base := base) A12
  have D_is_upside_down := ok_is_upside_down (P := l.prog) (w := w) (mg := mg) (base := base) A0
  have D_is_faulty := ok_is_faulty (P := l.prog) (w := w) (mg := mg) (base := base) A13 D__names_of D__ranges_of D_is_upside_down m_any
  have D_is_name := ok_is_name (P := l.prog) (w := w) (mg := mg) (base := base) A14 m_all m_len
  have D__check_system := ok__check_system (P := l.prog) (w := w) (mg := mg) (base := base) A15 D_is_faulty D_is_name m_enumerate
  have D_System___init__ := ok_System___init__ (P := l.prog) (w := w) (mg := mg) (base := base) T A16 D__check_system m_list m_sorted
  have D__law_pool := ok__law_pool (P := l.prog) (w := w) (mg := mg) (base := base) A8 m_abs m_int m_len m_max
  have D_System___eq__ := ok_System___eq__ (P := l.prog) (w := w) (mg := mg) (base := base) T A20 m_isinstance
  have D__law_draw := ok__law_draw (P := l.prog) (w := w) (mg := mg) (base := base) A9 m_int
  have D__law_integer := ok__law_integer (P := l.prog) (w := w) (mg := mg) (base := base) A10 D__law_draw
  have D__law_range := ok__law_range (P := l.prog) (w := w) (mg := mg) (base := base) A21 D__law_draw D__law_integer m_int m_max m_min
  have D__law_rules := ok__law_rules (P := l.prog) (w := w) (mg := mg) (base := base) A23 D__law_draw D__law_integer D__law_range m_len m_range m_tuple
  have D__law_titles := ok__law_titles (P := l.prog) (w := w) (mg := mg) (base := base) A22 D__law_draw m_int
  have D__law_kind := ok__law_kind (P := l.prog) (w := w) (mg := mg) (base := base) XE A30 m_ValueError m_isinstance
  have D_System_rules := ok_System_rules (P := l.prog) (w := w) (mg := mg) (base := base) T A19 m_list
  have D_RangeError___init__ := ok_RangeError___init__ (P := l.prog) (w := w) (mg := mg) (base := base) A26
  have D_System___len__ := ok_System___len__ (P := l.prog) (w := w) (mg := mg) (base := base) T A17 m_len
  have D_check_number := ok_check_number (P := l.prog) (w := w) (mg := mg) (base := base) T XE A27 D_RangeError___init__ kI_value D_System___len__ m_len
  have D__greatest := ok__greatest (P := l.prog) (w := w) (mg := mg) (base := base) A3 m_max
  have D__least := ok__least (P := l.prog) (w := w) (mg := mg) (base := base) A2 m_min
  have D_check_range := ok_check_range (P := l.prog) (w := w) (mg := mg) (base := base) A1 D_is_upside_down
  have D_common := ok_common (P := l.prog) (w := w) (mg := mg) (base := base) A4 D__greatest D__least D_check_range D_is_upside_down
  have D_meets := ok_meets (P := l.prog) (w := w) (mg := mg) (base := base) A5 D_common
  have D_rule_counts := ok_rule_counts (P := l.prog) (w := w) (mg := mg) (base := base) A24 D_meets m_all
  have D_counts := ok_counts (P := l.prog) (w := w) (mg := mg) (base := base) T XE A28 D_System_rules D_check_number D_rule_counts
  have D__taken := ok__taken (P := l.prog) (w := w) (mg := mg) (base := base) A6
  have D_stepped := ok_stepped (P := l.prog) (w := w) (mg := mg) (base := base) A7 D__taken D_check_range
  have D_rule_gives := ok_rule_gives (P := l.prog) (w := w) (mg := mg) (base := base) A25 D_common D_rule_counts D_stepped
  have D_gives := ok_gives (P := l.prog) (w := w) (mg := mg) (base := base) T XE A29 D_System_rules D_check_number D_rule_gives
  have D__law_told := ok__law_told (P := l.prog) (w := w) (mg := mg) (base := base) T XE A31 D__law_kind D_counts D_gives
  have D__law_right := ok__law_right (P := l.prog) (w := w) (mg := mg) (base := base) T XE A32 D_System___eq__ D_System___init__ D__law_draw D__law_range D__law_rules D__law_titles D__law_told m_dict m_len m_range m_repr
  have D_law := ok_law (P := l.prog) (w := w) (mg := mg) (base := base) T XE A33 D_System___init__ D__law_pool D__law_right D__law_told m_len m_max m_min m_range
  obtain ⟨f, fd, F, _, g, ok⟩ := D_law.ex
  have e2 := (PySem.W.mg_of X G a33).symm.trans g
  cases e2
  obtain ⟨oc, od, kV, doc, pm, an, cdv, ct, osl, rfl, lk, _⟩ := F.ex
  rw [l33] at lk
  cases lk
  exact ok
end Pk19
open PySem PySem.W PyProof.Rows
set_option maxHeartbeats 0 in
theorem PySem.Challenge.cw_tightranges_k19_errors_of_holdings_holds : PySem.Challenge.rw_tightranges_k19_errors_of_holdings.Holds := by
  w_on; o_law; k_head; (case hw => w_witness2)
  k_fill
  refine Gd.walkG (l := PySem.Challenge.rw_tightranges_k19_errors_of_holdings) (n := 63) (k := 10) (x := "script") (sp := fun w => Pk19.sp_law _) rfl (by decide) rfl ⟨rfl, by decide, by decide⟩ (fun w h Y => PySem.W.kIn_of Y) ?F (fun _ _ a ns hl _ hS => ⟨a, ns, rfl, hS, hl, fun _ => rfl⟩)
  case F =>
    intro w mg fa h KX G hmg
    refine' Pk19.all_mk KX G hmg ?aC ?pg ?hd ?po ?sa ?mk ?kc ?nN ?nR ?ha ?hn ?ht ?hm ?ki ?ty ?xn0 ?xl0 ?xr0 ?xn1 ?xl1 ?xr1 ?xn2 ?xl2 ?xr2 ?xn3 ?xl3 ?xr3 ?xn4 ?xl4 ?xr4 ?xn5 ?xl5 ?xr5 ?xn6 ?xl6 ?xr6 ?xn7 ?xl7 ?xr7 ?xn8 ?xl8 ?xr8 ?xi ?xb0 ?xk0 ?xb1 ?xk1 ?xb2 ?xk2 ?xb3 ?xk3 ?xb4 ?xk4 ?xb5 ?xk5 ?xb6 ?xk6 ?xb7 ?xk7 ?xb8 ?xk8 ?xj ?a0 ?l0 ?c0 ?k0 ?a1 ?l1 ?c1 ?k1 ?a2 ?l2 ?c2 ?k2 ?a3 ?l3 ?c3 ?k3 ?a4 ?l4 ?c4 ?k4 ?a5 ?l5 ?c5 ?k5 ?a6 ?l6 ?c6 ?k6 ?a7 ?l7 ?c7 ?k7 ?a8 ?l8 ?c8 ?k8 ?a9 ?l9 ?c9 ?k9 ?a10 ?l10 ?c10 ?k10 ?a11 ?l11 ?c11 ?k11 ?a12 ?l12 ?c12 ?k12 ?a13 ?l13 ?c13 ?k13 ?a14 ?l14 ?c14 ?k14 ?a15 ?l15 ?c15 ?k15 ?a16 ?i16 ?l16 ?c16 ?k16 ?a17 ?i17 ?l17 ?c17 ?k17 ?a18 ?g18 ?t18 ?r18 ?l18 ?c18 ?k18 ?a19 ?g19 ?t19 ?r19 ?l19 ?c19 ?k19 ?a20 ?i20 ?l20 ?c20 ?k20 ?a21 ?l21 ?c21 ?k21 ?a22 ?l22 ?c22 ?k22 ?a23 ?l23 ?c23 ?k23 ?a24 ?l24 ?c24 ?k24 ?a25 ?l25 ?c25 ?k25 ?l26 ?c26 ?k26 ?a27 ?l27 ?c27 ?k27 ?a28 ?l28 ?c28 ?k28 ?a29 ?l29 ?c29 ?k29 ?a30 ?l30 ?c30 ?k30 ?a31 ?l31 ?c31 ?k31 ?a32 ?l32 ?c32 ?k32 ?a33 ?l33 ?c33 ?k33 ?z0 ?z1 ?z2 ?z3 ?z4 ?z5 ?z6 ?z7 ?z8 ?z9 ?z10 ?z11 ?z12 ?z13 ?z14 ?z15
    (case aC => k_is); (case pg => k_is); (case hd => k_is); (case po => k_is); (case sa => k_is); (case mk => k_is); (case kc => k_is); (case nN => k_is); (case nR => k_is); (case ha => k_is); (case hn => k_is); (case ht => k_is); (case hm => k_is); (case ki => k_is); (case ty => k_is); (case xn0 => k_is); (case xl0 => k_is); (case xr0 => first | decide +kernel | rfl | k_is | trace_state); (case xn1 => k_is); (case xl1 => k_is); (case xr1 => first | decide +kernel | rfl | k_is | trace_state); (case xn2 => k_is); (case xl2 => k_is); (case xr2 => first | decide +kernel | rfl | k_is | trace_state); (case xn3 => k_is); (case xl3 => k_is); (case xr3 => first | decide +kernel | rfl | k_is | trace_state); (case xn4 => k_is); (case xl4 => k_is); (case xr4 => first | decide +kernel | rfl | k_is | trace_state); (case xn5 => k_is); (case xl5 => k_is); (case xr5 => first | decide +kernel | rfl | k_is | trace_state); (case xn6 => k_is); (case xl6 => k_is); (case xr6 => first | decide +kernel | rfl | k_is | trace_state); (case xn7 => k_is); (case xl7 => k_is); (case xr7 => first | decide +kernel | rfl | k_is | trace_state); (case xn8 => k_is); (case xl8 => k_is); (case xr8 => first | decide +kernel | rfl | k_is | trace_state); (case xi => k_is); (case xb0 => first | decide +kernel | rfl | k_is | trace_state); (case xk0 => first | decide +kernel | rfl | k_is | trace_state); (case xb1 => first | decide +kernel | rfl | k_is | trace_state); (case xk1 => first | decide +kernel | rfl | k_is | trace_state); (case xb2 => first | decide +kernel | rfl | k_is | trace_state); (case xk2 => first | decide +kernel | rfl | k_is | trace_state); (case xb3 => first | decide +kernel | rfl | k_is | trace_state); (case xk3 => first | decide +kernel | rfl | k_is | trace_state); (case xb4 => first | decide +kernel | rfl | k_is | trace_state); (case xk4 => first | decide +kernel | rfl | k_is | trace_state); (case xb5 => first | decide +kernel | rfl | k_is | trace_state); (case xk5 => first | decide +kernel | rfl | k_is | trace_state); (case xb6 => first | decide +kernel | rfl | k_is | trace_state); (case xk6 => first | decide +kernel | rfl | k_is | trace_state); (case xb7 => first | decide +kernel | rfl | k_is | trace_state); (case xk7 => first | decide +kernel | rfl | k_is | trace_state); (case xb8 => first | decide +kernel | rfl | k_is | trace_state); (case xk8 => first | decide +kernel | rfl | k_is | trace_state); (case xj => first | decide +kernel | rfl | k_is | trace_state); (case a0 => k_is); (case l0 => k_is); (case c0 => k_is); (case k0 => k_is); (case a1 => k_is); (case l1 => k_is); (case c1 => k_is); (case k1 => k_is); (case a2 => k_is); (case l2 => k_is); (case c2 => k_is); (case k2 => k_is); (case a3 => k_is); (case l3 => k_is); (case c3 => k_is); (case k3 => k_is); (case a4 => k_is); (case l4 => k_is); (case c4 => k_is); (case k4 => k_is); (case a5 => k_is); (case l5 => k_is); (case c5 => k_is); (case k5 => k_is); (case a6 => k_is); (case l6 => k_is); (case c6 => k_is); (case k6 => k_is); (case a7 => k_is); (case l7 => k_is); (case c7 => k_is); (case k7 => k_is); (case a8 => k_is); (case l8 => k_is); (case c8 => k_is); (case k8 => k_is); (case a9 => k_is); (case l9 => k_is); (case c9 => k_is); (case k9 => k_is); (case a10 => k_is); (case l10 => k_is); (case c10 => k_is); (case k10 => k_is); (case a11 => k_is); (case l11 => k_is); (case c11 => k_is); (case k11 => k_is); (case a12 => k_is); (case l12 => k_is); (case c12 => k_is); (case k12 => k_is); (case a13 => k_is); (case l13 => k_is); (case c13 => k_is); (case k13 => k_is); (case a14 => k_is); (case l14 => k_is); (case c14 => k_is); (case k14 => k_is); (case a15 => k_is); (case l15 => k_is); (case c15 => k_is); (case k15 => k_is); (case a16 => k_is); (case i16 => k_is); (case l16 => k_is); (case c16 => k_is); (case k16 => k_is); (case a17 => k_is); (case i17 => k_is); (case l17 => k_is); (case c17 => k_is); (case k17 => k_is); (case a18 => k_is); (case g18 => k_is); (case t18 => k_is); (case r18 => k_is); (case l18 => k_is); (case c18 => k_is); (case k18 => k_is); (case a19 => k_is); (case g19 => k_is); (case t19 => k_is); (case r19 => k_is); (case l19 => k_is); (case c19 => k_is); (case k19 => k_is); (case a20 => k_is); (case i20 => k_is); (case l20 => k_is); (case c20 => k_is); (case k20 => k_is); (case a21 => k_is); (case l21 => k_is); (case c21 => k_is); (case k21 => k_is); (case a22 => k_is); (case l22 => k_is); (case c22 => k_is); (case k22 => k_is); (case a23 => k_is); (case l23 => k_is); (case c23 => k_is); (case k23 => k_is); (case a24 => k_is); (case l24 => k_is); (case c24 => k_is); (case k24 => k_is); (case a25 => k_is); (case l25 => k_is); (case c25 => k_is); (case k25 => k_is); (case l26 => k_is); (case c26 => k_is); (case k26 => k_is); (case a27 => k_is); (case l27 => k_is); (case c27 => k_is); (case k27 => k_is); (case a28 => k_is); (case l28 => k_is); (case c28 => k_is); (case k28 => k_is); (case a29 => k_is); (case l29 => k_is); (case c29 => k_is); (case k29 => k_is); (case a30 => k_is); (case l30 => k_is); (case c30 => k_is); (case k30 => k_is); (case a31 => k_is); (case l31 => k_is); (case c31 => k_is); (case k31 => k_is); (case a32 => k_is); (case l32 => k_is); (case c32 => k_is); (case k32 => k_is); (case a33 => k_is); (case l33 => k_is); (case c33 => k_is); (case k33 => k_is); (case z0 => k_is); (case z1 => k_is); (case z2 => k_is); (case z3 => k_is); (case z4 => k_is); (case z5 => k_is); (case z6 => k_is); (case z7 => k_is); (case z8 => k_is); (case z9 => k_is); (case z10 => k_is); (case z11 => k_is); (case z12 => k_is); (case z13 => k_is); (case z14 => k_is); (case z15 => k_is)
