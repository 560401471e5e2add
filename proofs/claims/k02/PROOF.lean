import PyProof.Rows.All
import Wide.All
import OpenK.AllK
import Wide.FinOn
import HandS.ForMost
import HandS.Exc
import HandS.TryOnly
import HandS.ExcOwn
import HandS.WordsExc
import HandS.IsInst
import HandS.Wide
import HandS.Defaults
import HandS.MakeKwOnly
import HandS.OwnEq
import HandS.CallSlots
import HandS.NamedTupSort
import PyProof.ReprRoads
import PyProof.ReprReads
import PyProof.NeKinds
import KE.KExcStr
import PyProof.ReprLen
import HandS.TupSets
import HandS.Strs
import HandS.Style
import HandS.TupAny
import HandS.Text
import HandS.Walk
import HandS.TryMany
import HandS.SetFor
import HandS.Conv
import HandS.Evl
import PySem.Challenge.RW_tableheld_k02_tables_that_are_equal
set_option Elab.async false
set_option linter.all false
set_option maxRecDepth 100000
set_option maxHeartbeats 4000000
/-! # Xby: what the laws of this program want over the hand layer: repr of data, defs under no repr, == and != of an own class -/
namespace Xby
open PySem PySem.Spec PyProof.Rows L2

/-! ## defs that run under no repr -/
structure FnG (P : Program) (w : World) (K : PySem.W.Frag) (mg : Str → Option Value) (base : Heap) (CX : CXT) (k : Nat) (f : Addr) (fd : FuncData) (ps : List Str) (sp : Sp) : Prop where
  len : ∀ vs H Q E, sp vs H Q E → vs.length = ps.length
  run : ∀ (A : Around) (outer : List Env) (s : Shared) (H : Hp) (args : Args) (us : List Value) (vs : List V) (Q : VK) (E : XK),
    A.guards = some [] → Room k A → Env0 P w K mg base A outer s H → BindsTo s fd args (ps.zip us) → Vals vs us → sp vs H Q E →
      codeAny (model P w) A (.call (.ref f) args) (CR CX outer P w H s Q E) s
section
variable {P : Program} {w : World} {K : PySem.W.Frag} {mg : Str → Option Value} {base : Heap}
/-- a def by its body, under no repr -/
theorem okG {x qual : Str} {st : Stmt} {f : Addr} {fd : FuncData} {N ps : List Str} {k : Nat} {sp : Sp}
    (F : Fun K x qual st f fd) (S : FnScope N ps (defScope st)) (len : ∀ vs H Q E, sp vs H Q E → vs.length = ps.length)
    (body : ∀ (cdv : Value) (A : Around) (outer : List Env) (s : Shared) (H : Hp) (vs : List V) (Q : VK) (E : XK),
      A.guards = some [] → Room k (A.deeper (envOfC qual (defScope st) s.heap.objs.size f cdv)) → sp vs H Q E →
        ∃ t, PSs (cxOf CX0 P w K mg base N qual (defScope st) f cdv A outer s H E).nox (defBody st) t ∧
          t { nx := fun _ H' => Q .non H', rt := Q } (start N vs) H) :
    FnG P w K mg base CX0 (k + 1) f fd ps sp := by
  constructor
  · exact len
  intro A outer s H args us vs Q E hg room e0 bnd rv hsp
  obtain ⟨oc, od, kV, doc, pm, an, cdv, ct, osl, rfl, lk, code⟩ := F.ex
  have inK : K.In s.heap := e0.mod.kin.keeps fun b o e => (e0.bs b o e).1
  have lim : s.heap.NoLimit := e0.mod.nolimit.keeps fun b o e => (e0.bs b o e).1
  have kinds : ∀ y ∈ ps.zip us, (defScope st).names.lookup y.1 = some .local ∨
      ((defScope st).names.lookup y.1 = some .cell ∧ ((cellsFrom (s.heap.objs.size + 1) (defScope st).names []).lookup y.1).isSome = true) := by
    rintro ⟨n, v⟩ hy
    rcases S.par n (List.of_mem_zip hy).1 with q | q
    · exact Or.inl q
    · exact Or.inr ⟨q, PySem.W.cellsFrom_some _ _ _ (Or.inl q)⟩
  refine codeAny_call_function room.depth (inK _ _ lk) rfl S.co S.gen rfl (PySem.W.codeRec_of inK code) (bnd _ _ _ _ ?_)
  refine wpAny_newFunctionEnv_cells S.kind kinds fun env he s1 ic => ?_
  subst he
  refine ⟨lim.keeps ic.toInCall.keep, codeAny_func ?_⟩
  obtain ⟨t, ht, q0⟩ := body cdv A outer s H vs Q E hg (room.deeper _) hsp
  have I0 := inv_start (CX := CX0) (E := E) (cd := cdv) S room.hd e0 (len _ _ _ _ hsp) rv ic
  refine wpAny_mono (ht.nox.run [] s1 (start N vs) H _ I0 q0) (fun fl s' end_ => ?_) fun e s' z => z
  cases fl with
  | next =>
    obtain ⟨σ', H', J, q⟩ := end_
    exact ⟨V.non, H', J.os, J.bare, J.base, J.hok, rfl, q⟩
  | ret u =>
    obtain ⟨v, σ', H', J, rr, q⟩ := end_
    exact ⟨v, H', J.os, J.bare, J.base, J.hok, rr, q⟩
  | brk =>
    obtain ⟨_, _, _, q⟩ := end_
    exact (show False from q).elim
  | cont =>
    obtain ⟨_, _, _, q⟩ := end_
    exact (show False from q).elim
end
section
variable {X : Cx} {k : Nat} {f : Addr} {fd : FuncData} {ps : List Str} {sp : Sp} {x : Str} {p pos : Pos} {e : Expr} {es : List Expr} {t : TA}
/-- such a def called by its name -/
theorem pe_callG (F : FnG X.prog X.w X.K X.mg X.base CX0 k f fd ps sp) (hgd : X.A.guards = some []) (hr : Room k X.A) (hg : Gl X x) (hm : X.mg x = some (.ref f)) (hk : PySem.W.keepIn X.K (.ref f) = true)
    (hb : Binds X.K fd ps []) (ha : PA X (e :: es) t) (hdb : (x == ("__debug__" : Str)) = false := by decide)
    (he : starEach (e :: es) X.env = (false, eval e X.env) :: starEach es X.env := by rfl) (hpl : (backTo pos (starEach es X.env)).any (·.1) = false := by rfl) :
    PE X (.Call (.Name x p) (e :: es) [] pos) (tCall sp [] E0 t) := by
  constructor
  intro pins s σ H Q I h
  refine wpAny_Call_Name_kw (ld_glob I hg hm ?_ hdb)
  refine PySem.W.callWith_K (h₀ := X.base) I.ok.mod.kin hk (thn (ha.run pos pins s σ H _ I h) ?_) he hpl
  rintro us s1 ⟨vs, H1, I1, r, q⟩
  refine ⟨I1.kIn, ?_⟩
  have q' : sp vs H1 Q E0 := by have z := q; rw [List.append_nil] at z; exact z
  have hl : us.length = ps.length := by rw [← r.length]; exact F.len _ _ _ _ q'
  have bn := hb s1 us I1.kIn (by rw [List.append_nil]; exact hl)
  rw [List.append_nil] at bn
  refine wpAny_call (codeAny_mono (F.run X.A X.stack s1 H1 ⟨us, []⟩ us vs Q E0 hgd hr I1.env0 bn r q') fun rr s' hq => ?_)
  cases rr with
  | error e => exact (show False from hq).elim
  | ok fl =>
    cases fl with
    | ret u => exact I1.after hq
    | next => exact (show False from hq).elim
    | brk => exact (show False from hq).elim
    | cont => exact (show False from hq).elim
end
/-! ## the law's end over such a def -/
/-- the script alone is tracked, as it stands; or nothing is -/
def scriptHp (a : Addr) (vs : List Value) (ns : List Int) (tracked : Bool) : Hp := fun b =>
  if tracked = true ∧ b = a then some (.frz { cls := .type "list", data := .seq vs.toArray } (.lst (ns.map V.int))) else none
theorem scriptHp_some {a b : Addr} {vs : List Value} {ns : List Int} {t : Bool} {u : HO} (h : scriptHp a vs ns t b = some u) :
    t = true ∧ b = a ∧ u = .frz { cls := .type "list", data := .seq vs.toArray } (.lst (ns.map V.int)) := by
  unfold scriptHp at h
  by_cases c : t = true ∧ b = a
  · rw [if_pos c] at h
    exact ⟨c.1, c.2, (Option.some.inj h).symm⟩
  · rw [if_neg c] at h
    cases h
theorem enterG {P : Program} {w : World} {K : PySem.W.Frag} {mg mb : Str → Option Value} {k : Nat} {fa a : Addr} {fd : FuncData} {x : Str} {sp : Sp} {S : Shared} {vs : List Value} {ns : List Int}
    (inK : K.In S.heap) (gl : S.heap.Ns mainGlobals mg) (bl : S.heap.Ns builtinsNs mb) (bb : ∀ y : Str, y ≠ "__name__" → mb y = bootBuiltins y) (lim : S.heap.NoLimit) (gens : S.gens = #[])
    (at_a : S.heap.get? a = some { cls := .type "list", data := .seq vs.toArray }) (hin : IntsAre vs ns) (few : ns.length ≤ sizeLine) (room : Room k callerA)
    (F : ∀ base : Heap, K.In base → base.Ns mainGlobals mg → FnG P w K mg base CX0 k fa fd [x] sp)
    (bnd : ∀ (s : Shared) (u : Value), BindsTo s fd ⟨[u], []⟩ [(x, u)])
    (promise : ∀ H : Hp, SqL K H a (ns.map V.int) → (∀ b o, H b = some o → ∃ ob xs, o = .frz ob (.lst xs)) → sp [.ref a] H (fun v _ => v = .bl true) E0) :
    codeAny (model P w) callerA (.call (.ref fa) ⟨[.ref a], []⟩) (fun r s' => r = .ok (.ret (.bool true)) ∧ OldK S.heap s'.heap ∧ s'.os = S.os ∧ AllBare s'.gens) S := by
  have rv : Vals (ns.map V.int) vs := vals_ints hin
  obtain ⟨t, sq, noK⟩ : ∃ t : Bool, SqL K (scriptHp a vs ns t) a (ns.map V.int) ∧ (t = true → K.lookup a = none) := by
    cases e : K.lookup a with
    | none => exact ⟨true, Or.inl (Or.inr ⟨_, if_pos ⟨rfl, rfl⟩⟩), fun _ => rfl⟩
    | some o =>
      have e' := inK a o e
      rw [at_a] at e'
      obtain rfl := (Option.some.inj e').symm
      refine ⟨false, Or.inr ⟨_, vs.toArray, _, e, rfl, rfl, rfl, ?_, by simpa using rv⟩, fun z => by cases z⟩
      have := rv.length
      rw [List.length_map] at this
      rw [List.size_toArray]
      omega
  have ok : HOk P w (scriptHp a vs ns t) S.heap := by
    intro b u hb
    obtain ⟨_, rfl, rfl⟩ := scriptHp_some hb
    exact ⟨at_a, by rw [List.length_map]; exact few, vs, _, rv, at_a⟩
  have untr : ∀ (b : Addr) (o : Obj), S.heap.get? b = some o → b ≠ a → (hidT S.heap (scriptHp a vs ns t)).get? b = some o := by
    intro b o e ne
    refine hidT_get e ?_
    cases q : scriptHp a vs ns t b with
    | none => rfl
    | some u => exact absurd (scriptHp_some q).2.1 ne
  have nsOk : ∀ {b : Addr} {m : Str → Option Value}, S.heap.Ns b m → (hidT S.heap (scriptHp a vs ns t)).Ns b m := by
    rintro b m ⟨o, es, ep, e, d, r⟩
    refine ⟨o, es, ep, untr b o e ?_, d, r⟩
    rintro rfl
    rw [at_a] at e
    obtain rfl := Option.some.inj e
    exact Data.noConfusion (show Data.seq vs.toArray _ = Data.dict es ep from d)
  have kIn : K.In (hidT S.heap (scriptHp a vs ns t)) := by
    intro b o e
    refine hidT_get (inK b o e) ?_
    cases q : scriptHp a vs ns t b with
    | none => rfl
    | some u =>
      obtain ⟨tt, rfl, _⟩ := scriptHp_some q
      rw [noK tt] at e
      cases e
  obtain ⟨mc, l1, l2⟩ := lim
  have e0 : Env0 P w K mg (hidT S.heap (scriptHp a vs ns t)) callerA [] S (scriptHp a vs ns t) :=
    { frames := rfl, mod := ⟨kIn, nsOk gl, ⟨mb, nsOk bl, bb⟩, ⟨mc, nsOk l1, l2⟩⟩, bs := fun b o e => of_hidT e, bsz := Nat.le_of_eq (hidT_size _ _), funs := trivial,
      frf := fun b hb => by simp [frs] at hb, hok := ok, bare := AllBare.of_eq gens }
  have onlyF : ∀ b o, scriptHp a vs ns t b = some o → ∃ ob xs, o = .frz ob (.lst xs) := fun b o e => ⟨_, _, (scriptHp_some e).2.2⟩
  refine codeAny_mono ((F _ kIn (nsOk gl)).run callerA [] S _ ⟨[.ref a], []⟩ [.ref a] [.ref a] _ _ rfl room e0 (bnd S (.ref a)) (.cons rfl .nil) (promise _ sq onlyF)) ?_
  intro r s' h
  cases r with
  | error e => exact (show False from h).elim
  | ok fl =>
    cases fl with
    | next => exact (show False from h).elim
    | brk => exact (show False from h).elim
    | cont => exact (show False from h).elim
    | ret u =>
      obtain ⟨v, H', os, bare, un, ok', rr, q⟩ := h
      obtain rfl : v = .bl true := q
      obtain rfl : u = Value.bool true := rr
      refine ⟨rfl, OldK.of_keep ?_, os, bare⟩
      intro b o e
      cases q : scriptHp a vs ns t b with
      | none => exact un.keep b o e q (by simp [frs]) (by simp)
      | some u =>
        obtain ⟨_, rfl, rfl⟩ := scriptHp_some q
        have z := (ok' b _ (un.frzs b _ _ q)).1
        rw [at_a] at e
        rw [← e]
        exact z
theorem walkG {l : PySem.W.OpenLaw} {n k : Nat} {q : Program} {loose : List Str} {XP : (Str → Option Value) → Heap → Prop} {YP : World → Heap → Prop} {d : DefRec} {K : Params → PySem.W.Frag} {sp : PySem.W.Frag → Sp} {x : Str}
    (most : l.most = some n) (few : n ≤ sizeLine) (plain : d.params.defaults = []) (room : Room k callerA) (hY : ∀ (w : World) (h : Heap), YP w h → (K w.params).In h)
    (F : ∀ (w : World) (mg : Str → Option Value) (fa : Addr) (h : Heap), (K w.params).In h → h.Ns mainGlobals mg → mg d.name = some (.ref fa) →
      ∃ fd : FuncData, (∀ (s : Shared) (u : Value), BindsTo s fd ⟨[u], []⟩ [(x, u)]) ∧
        ∀ base : Heap, (K w.params).In base → base.Ns mainGlobals mg → FnG l.prog w (K w.params) mg base CX0 k fa fd [x] (sp (K w.params)))
    (promise : ∀ (K : PySem.W.Frag) (H : Hp) (a : Addr) (ns : List Int), ns.length ≤ n → SqL K H a (ns.map V.int) → (∀ b o, H b = some o → ∃ ob xs, o = .frz ob (.lst xs)) → sp K [.ref a] H (fun v _ => v = .bl true) E0) :
    PySem.W.WalkO q loose XP YP l.row.toRowW d [] (fun f vs => PySem.call f vs) := by
  refine Att.attach_call most plain ?_
  intro w s₀ S mg mb fa o pm cd doc a vs ns G Y ho hd hcd hmg hobj hints hlen hg
  obtain ⟨fd, hb, hF⟩ := F w mg fa _ (hY w _ Y) G.T.g hmg
  exact enterG (hY w _ Y) G.T.g G.T.b G.T.builtins G.T.nolimit hg hobj hints (Nat.le_trans hlen few) room hF hb fun H h1 h2 => promise _ H a ns hlen h1 h2
end Xby

set_option Elab.async false
set_option linter.all false
set_option maxRecDepth 100000
set_option maxHeartbeats 4000000
/-! # repr of data; list != []; ** of great numbers; == and != of an own class -/
namespace Xby
open PySem PySem.Spec PyProof.Rows L2
/-! ## data, dicts among it -/
def keyD : Key → PyData
  | .inl i => .int i
  | .inr x => .str x
mutual
inductive Dq (K : PySem.W.Frag) (H : Hp) : V → PyData → Prop
  | non : Dq K H .non .none
  | bl (b : Bool) : Dq K H (.bl b) (.bool b)
  | int (i : Int) : Dq K H (.int i) (.int i)
  | str (x : Str) : Dq K H (.str x) (.str x)
  | lst {a : Addr} {xs : List V} {ds : List PyData} : H a = some (.lst xs) → sysModules ≠ a → DqAll K H xs ds → Dq K H (.ref a) (.list ds)
  | tup {a : Addr} {xs : List V} {ds : List PyData} : SqT K H a xs → DqAll K H xs ds → Dq K H (.ref a) (.tuple ds)
  | dct {a : Addr} {kvs : List (Key × V)} {ds : List (PyData × PyData)} : H a = some (.dK kvs) → DqKv K H kvs ds → Dq K H (.ref a) (.dict ds)
inductive DqAll (K : PySem.W.Frag) (H : Hp) : List V → List PyData → Prop
  | nil : DqAll K H [] []
  | cons {v : V} {vs : List V} {d : PyData} {ds : List PyData} : Dq K H v d → DqAll K H vs ds → DqAll K H (v :: vs) (d :: ds)
inductive DqKv (K : PySem.W.Frag) (H : Hp) : List (Key × V) → List (PyData × PyData) → Prop
  | nil : DqKv K H [] []
  | cons {k : Key} {v : V} {r : List (Key × V)} {d : PyData} {ds : List (PyData × PyData)} : Dq K H v d → DqKv K H r ds → DqKv K H ((k, v) :: r) ((keyD k, d) :: ds)
end
section
variable {X : Cx} {pins : List (Addr × Obj)} {σ : L2.St} {H : Hp} {s : Shared}
theorem readsKeys {K : PySem.W.Frag} {h : Heap} {es : List DictEntry} {vs : List (Key × Value)} (p : Pairs (mixKind X.prog X.w) es vs) :
    ∀ {kvs : List (Key × V)} {ds : List (PyData × PyData)}, KV kvs vs → DqKv K H kvs ds → ReadsAll h (es.map (·.key)) (ds.map (·.1)) [] := by
  induction p with
  | nil =>
    intro kvs ds kv q
    cases kv
    cases q
    exact .nil
  | @cons e kv0 es kvs0 h1 h2 h3 ih =>
    intro kvs ds kv q
    cases kv with
    | cons r t =>
      cases q with
      | @cons k v rr d dd q1 q2 =>
        have tl := ih t q2
        have r1 : k = kv0.1 := r.1
        have hd : Reads h e.key (keyD k) [] := by
          rcases keyIs_shape (show keyIs _ _ = true from h1) with ⟨i, tk, e1, e2⟩ | ⟨x, tk, e1, e2⟩
          · rw [r1, e1, e2]
            exact .int i tk
          · rw [r1, e1, e2]
            exact .str x tk
        exact .cons hd tl
mutual
theorem Dq.reads (I : Inv X pins σ H s) : ∀ (d : PyData) (v : V) (u : Value), Dq X.K H v d → RelV v u → ∃ as, Reads s.heap u d as ∧ sysModules ∉ as
  | .none, _, _, h, r => by
    cases h; cases r
    exact ⟨[], Reads.none, by simp⟩
  | .bool b, _, _, h, r => by
    cases h; cases r
    exact ⟨[], Reads.bool b, by simp⟩
  | .int i, _, _, h, r => by
    cases h
    obtain ⟨t, rfl⟩ := r
    exact ⟨[], Reads.int i t, by simp⟩
  | .str x, _, _, h, r => by
    cases h
    obtain ⟨t, rfl⟩ := r
    exact ⟨[], Reads.str x t, by simp⟩
  | .list ds, _, _, h, r => by
    cases h with
    | lst hs sm ha =>
      cases r
      obtain ⟨its, rv, ⟨o, n, ho, hc, _, hd⟩, _⟩ := I.list (SqL.of hs)
      obtain ⟨as, hr, ha⟩ := Dq.readsAll I ds _ its ha rv
      exact ⟨_, Reads.list ho hc hd hr, by rw [List.mem_cons, not_or]; exact ⟨sm, ha⟩⟩
  | .tuple ds, _, _, h, r => by
    cases h with
    | tup hs ha =>
      cases r
      obtain ⟨its, rv, ⟨o, ho, hc, n, hd⟩, _⟩ := I.tuple hs
      obtain ⟨as, hr, ha⟩ := Dq.readsAll I ds _ its ha rv
      exact ⟨_, Reads.tuple ho hc hd hr, ha⟩
  | .dict ds, _, _, h, r => by
    cases h with
    | dct hs ha =>
      cases r
      obtain ⟨_, sm, vs, kv, o, es, ep, ho, ex, hd, _, prs, _⟩ := I.hok _ _ hs
      obtain ⟨bs, hr, hb⟩ := Dq.readsKv I ds _ vs es.toList ha kv prs
      refine ⟨_, Reads.dict ho ex.1 hd (readsKeys prs kv ha) hr, ?_⟩
      rw [List.mem_append, List.mem_cons, not_or, not_or]
      exact ⟨⟨fun e => by rw [e] at sm; simp at sm, by simp⟩, hb⟩
theorem Dq.readsAll (I : Inv X pins σ H s) : ∀ (ds : List PyData) (vs : List V) (us : List Value), DqAll X.K H vs ds → Vals vs us → ∃ as, ReadsAll s.heap us ds as ∧ sysModules ∉ as
  | [], _, _, h, r => by
    cases h; cases r
    exact ⟨[], ReadsAll.nil, by simp⟩
  | d :: ds, _, _, h, r => by
    cases h with
    | cons h1 h2 =>
      cases r with
      | cons r1 r2 =>
        obtain ⟨as, q1, n1⟩ := Dq.reads I d _ _ h1 r1
        obtain ⟨bs, q2, n2⟩ := Dq.readsAll I ds _ _ h2 r2
        exact ⟨_, ReadsAll.cons q1 q2, by rw [List.mem_append, not_or]; exact ⟨n1, n2⟩⟩
theorem Dq.readsKv (I : Inv X pins σ H s) : ∀ (ds : List (PyData × PyData)) (kvs : List (Key × V)) (vs : List (Key × Value)) (es : List DictEntry), DqKv X.K H kvs ds → KV kvs vs → Pairs (mixKind X.prog X.w) es vs →
    ∃ as, ReadsAll s.heap (es.map (·.val)) (ds.map (·.2)) as ∧ sysModules ∉ as
  | [], _, _, _, h, r, p => by
    cases h; cases r; cases p
    exact ⟨[], ReadsAll.nil, by simp⟩
  | (_, d) :: ds, _, _, _, h, r, p => by
    cases h with
    | cons h1 h2 =>
      cases r with
      | cons r1 r2 =>
        cases p with
        | cons p1 p2 p3 =>
          obtain ⟨as, q1, n1⟩ := Dq.reads I d _ _ h1 (p2.symm ▸ r1.2)
          obtain ⟨bs, q2, n2⟩ := Dq.readsKv I ds _ _ _ h2 r2 p3
          exact ⟨_, ReadsAll.cons q1 q2, by rw [List.mem_append, not_or]; exact ⟨n1, n2⟩⟩
end
theorem mods_lt (I : Inv X pins σ H s) : sysModules < s.heap.objs.size := Nat.lt_of_le_of_lt (show sysModules ≤ mainGlobals by decide) (I.mod.glob.keeps I.bk).lt
/-- small enough to be shown -/
structure Fine (d : PyData) : Prop where
  sh : d.showable = true
  len : d.shown.length ≤ sizeLine
  dp : d.depth ≤ 60
def rRepr (K : PySem.W.Frag) : List V → Hp → VK → Prop := fun xs H Q => ∃ (x : V) (d : PyData), xs = [x] ∧ Dq K H x d ∧ Fine d ∧ Q (.str d.shown) H
theorem call_reprD (hg : X.A.guards = some []) (hu : X.A.units + 64 < cLine) : CallR X (.builtin "repr") (rRepr X.K) := by
  rintro pins s σ H xs us Q I rv ⟨x, d, rfl, hd, fine, q⟩
  obtain ⟨u, rfl, r⟩ := vals1 rv
  obtain ⟨as, rd, sm⟩ := Dq.reads I d x u hd r
  have dp := fine.dp
  cases rd with
  | none => exact PySem.P.repr_of_none ⟨.str _, H, I.tok _, ⟨_, rfl⟩, by simpa only [PyData.shown] using q⟩
  | bool b => exact PySem.P.repr_of_bool ⟨.str _, H, I.tok _, ⟨_, rfl⟩, by simpa only [PyData.shown] using q⟩
  | int i t => exact PySem.P.repr_of_int (by simpa [PyData.showable] using fine.sh) ⟨.str _, H, I.tok _, ⟨_, rfl⟩, by simpa only [PyData.shown] using q⟩
  | str y t => exact PySem.P.repr_of_str ⟨.str _, H, I.tok _, ⟨_, rfl⟩, by simpa only [PyData.shown] using q⟩ (by simpa only [PyData.shown] using fine.len)
  | list h1 h2 h3 h4 =>
    refine repr_of_reads' (Reads.list h1 h2 h3 h4) fine.sh (fun _ => sm) hg (by omega) (fun _ _ e => e) (fun h' u tk k => ?_) fine.len
    exact ⟨.str _, H, I.kept k, ⟨_, rfl⟩, q⟩
  | tuple h1 h2 h3 h4 =>
    refine repr_of_reads' (Reads.tuple h1 h2 h3 h4) fine.sh (fun _ => sm) hg (by omega) (fun _ _ e => e) (fun h' u tk k => ?_) fine.len
    exact ⟨.str _, H, I.kept k, ⟨_, rfl⟩, q⟩
  | dict h1 h2 h3 h4 h5 =>
    refine repr_of_reads' (Reads.dict h1 h2 h3 h4 h5) fine.sh (fun _ => sm) hg (by omega) (fun _ _ e => e) (fun h' u tk k => ?_) fine.len
    exact ⟨.str _, H, I.kept k, ⟨_, rfl⟩, q⟩
end
mutual
theorem Dq.same {K : PySem.W.Frag} {H H' : Hp} (e : Same H H') : ∀ {v : V} {d : PyData}, Dq K H v d → Dq K H' v d
  | _, _, .non => .non
  | _, _, .bl b => .bl b
  | _, _, .int i => .int i
  | _, _, .str x => .str x
  | _, _, .lst h n a => .lst (e _ _ h) n (DqAll.same e a)
  | _, _, .tup h a => .tup (SqT.ext h e) (DqAll.same e a)
  | _, _, .dct h a => .dct (e _ _ h) (DqKv.same e a)
theorem DqAll.same {K : PySem.W.Frag} {H H' : Hp} (e : Same H H') : ∀ {vs : List V} {ds : List PyData}, DqAll K H vs ds → DqAll K H' vs ds
  | _, _, .nil => .nil
  | _, _, .cons h a => .cons (Dq.same e h) (DqAll.same e a)
theorem DqKv.same {K : PySem.W.Frag} {H H' : Hp} (e : Same H H') : ∀ {kvs : List (Key × V)} {ds : List (PyData × PyData)}, DqKv K H kvs ds → DqKv K H' kvs ds
  | _, _, .nil => .nil
  | _, _, .cons h a => .cons (Dq.same e h) (DqKv.same e a)
end
section
variable {X : Cx}
/-- the same of data without dicts, wherever its lists lie -/
def rReprP (K : PySem.W.Frag) : List V → Hp → VK → Prop := fun xs H Q => ∃ (x : V) (d : PyData), xs = [x] ∧ Dp K H x d ∧ d.hasDict = false ∧ Fine d ∧ Q (.str d.shown) H
theorem call_reprP (hg : X.A.guards = some []) (hu : X.A.units + 64 < cLine) : CallR X (.builtin "repr") (rReprP X.K) := by
  rintro pins s σ H xs us Q I rv ⟨x, d, rfl, hd, nd, fine, q⟩
  obtain ⟨u, rfl, r⟩ := vals1 rv
  obtain ⟨as, rd⟩ := Dp.reads I d x u hd r
  have dp := fine.dp
  cases rd with
  | none => exact PySem.P.repr_of_none ⟨.str _, H, I.tok _, ⟨_, rfl⟩, by simpa only [PyData.shown] using q⟩
  | bool b => exact PySem.P.repr_of_bool ⟨.str _, H, I.tok _, ⟨_, rfl⟩, by simpa only [PyData.shown] using q⟩
  | int i t => exact PySem.P.repr_of_int (by simpa [PyData.showable] using fine.sh) ⟨.str _, H, I.tok _, ⟨_, rfl⟩, by simpa only [PyData.shown] using q⟩
  | str y t => exact PySem.P.repr_of_str ⟨.str _, H, I.tok _, ⟨_, rfl⟩, by simpa only [PyData.shown] using q⟩ (by simpa only [PyData.shown] using fine.len)
  | list h1 h2 h3 h4 =>
    refine repr_of_reads' (Reads.list h1 h2 h3 h4) fine.sh (PyData.noDict_hsm nd) hg (by omega) (fun _ _ e => e) (fun h' u tk k => ?_) fine.len
    exact ⟨.str _, H, I.kept k, ⟨_, rfl⟩, q⟩
  | tuple h1 h2 h3 h4 =>
    refine repr_of_reads' (Reads.tuple h1 h2 h3 h4) fine.sh (PyData.noDict_hsm nd) hg (by omega) (fun _ _ e => e) (fun h' u tk k => ?_) fine.len
    exact ⟨.str _, H, I.kept k, ⟨_, rfl⟩, q⟩
  | dict h1 h2 h3 h4 h5 =>
    simp only [PyData.hasDict] at nd
    cases nd
/-- a written list; it is not sys.modules -/
def tLstS (t : TA) : TE := fun σ H Q => t σ H fun xs H1 => xs.length ≤ sizeLine ∧ ∀ p, H1 p = none → sysModules ≠ p → Q (.ref p) (L2.upd H1 p (.lst xs))
theorem pe_lstS {es : List Expr} {t : TA} {pos : Pos} (h : PA X es t) : PE X (.List es pos) (tLstS t) := by
  constructor
  intro pins s σ H Q I hq
  refine wpAny_List_spliced (thn (h.run pos pins s σ H _ I hq) ?_)
  rintro us s1 ⟨xs, H1, I1, r, z, q⟩
  refine ⟨r.length ▸ z, ?_⟩
  have J := I1.laid (a := s1.heap.objs.size) (o := .lst xs) (h' := s1.heap.push { cls := .type "list", data := .seq us.toArray }) (t' := s1.toks) (fun b u e => Heap.get?_push_of_some _ e) (Nat.le_refl _) ⟨z, us, 0, r, Heap.get?_push_size _ rfl⟩
  exact ⟨.ref _, _, J, rfl, q _ (I1.hok.fresh (Nat.le_refl _)) (Nat.ne_of_lt (mods_lt I1))⟩
end
end Xby

set_option Elab.async false
set_option linter.all false
set_option maxRecDepth 100000
set_option maxHeartbeats 4000000
namespace Xby
open PySem PySem.Spec PyProof.Rows L2
section
variable {X : Cx}
/-- ** within 2^27 bits -/
def CPowW (i j : Int) : Prop := 0 ≤ j ∧ (Builtin.Int.intBits i : Int) * j ≤ 2 ^ 27
theorem op_powW : OpR X (binaryOp .Pow) (rI CPowW fun i j => .int (i ^ j.toNat)) := opI fun _ _ _ _ _ _ _ c q => pow_int c.1 c.2 q
/-- xs != [] -/
def rNeNil (K : PySem.W.Frag) : R2 := fun x y H Q => ∃ a b xs, x = .ref a ∧ y = .ref b ∧ SqL K H a xs ∧ SqL K H b [] ∧ Q (.bl (!xs.isEmpty)) H
theorem op_neNil (hu : X.A.units < cLine) : OpR X (compareOp .NotEq) (rNeNil X.K) := by
  rintro pins s σ H x y v u Q I rx ry ⟨a, b, xs, rfl, rfl, ha, hb, q⟩
  obtain rfl : v = Value.ref a := rx
  obtain rfl : u = Value.ref b := ry
  obtain ⟨its, rv, p, _⟩ := I.list ha
  obtain ⟨its2, rv2, p2, _⟩ := I.list hb
  cases rv2
  have l := rv.length
  unfold compareOp
  cases xs with
  | nil =>
    cases rv
    refine SeqAt.RcNeAt.lists p.isList p2.isList rfl hu (e := fun _ => true) (fun j h1 => absurd h1 (by simp)) _ _ _ _ ?_
    exact ⟨.bl false, H, I, rfl, q⟩
  | cons z zs =>
    refine SeqAt.RcNeAt.lists_lengths p.isList p2.isList ?_ hu _ _ _ _ ⟨.bl true, H, I, rfl, q⟩
    have : its.length ≠ 0 := by rw [← l]; simp
    simpa using this
end
section
open PySem.W
variable {prog : Program} {w : World} {A : Around} {E : Value → Shared → Prop} {s : Shared} {K : Frag} {x C f : Addr} {ox : Obj} {od : Option Obj} {b tb : Value}
theorem special_look {M : Model} {h : Heap} {nm : Str} {id : String} (X : K.In h) (I : InstAt h x ox C od) (hs : findIn K (.ref C) nm = some (some (.builtin id))) :
    Looks M h (specialOf (.ref x) nm) (some (.builtin id)) := I.type.andThen (looks_findIn X hs)
/-- x != b by the class's own ==, where object's != stands -/
theorem ne_own {Q : Value → Shared → Prop} (hu : A.units + 1 < cLine) (X : K.In s.heap) (I : InstAt s.heap x ox C od) (ne : findIn K (.ref C) "__ne__" = some (some (.builtin "object.__ne__")))
    (eq : findIn K (.ref C) "__eq__" = some (some (.ref f))) (hf : isFn K (.ref f) = true) (ob : mroIn K C (.type "object") = some true) (hb : Looks (model prog w) s.heap (typeOf b) tb) (hn : notFirst K C tb = true)
    (h : wpAny (model prog w) A.in1 (call (.ref f) [.ref x, b]) (fun v s' => ∃ c, v = .bool c ∧ Q (.bool (!c)) s') E s) :
    wpAny (model prog w) A (richCompare .NotEq (.ref x) b) Q E s := by
  have one : wpAny (model prog w) A (tryCompare (.ref x) "__ne__" b) (fun r s' => ∃ v, r = some v ∧ Q v s') E s := by
    unfold tryCompare
    refine wpAny_bind (NtL.csib (special_look X I ne) (F.slot_dict_itemiterator_ne.bind _) ?_)
    refine wpAny_call (codeAny_call_builtin F.slot_dict_itemiterator_ne.plain F.cmpEntry_ne (PySem.W.check_slot F.cmpKind_ne F.cmpSplit_ne (I.type.andThen (looks_mroIn X ob)) (F.cmpArgs_ne _ _) ?_))
    unfold Builtin.«object.__ne__»
    repeat (first
      | with_reducible refine wpAny_cRoomFor (show A.in1.units < cLine from hu) ?_
      | (refine wpAny_bind (m := callSpecialIfBound? (.ref x) (Str.ofString "__eq__") [b]) (ifBound_K X I eq hf (wpAny_mono h (fun v s' hv => ?_) fun _ _ z => z)); obtain ⟨c, rfl, q⟩ := hv)
      | exact ⟨_, rfl, q⟩
      | exact wpAny_pure ⟨_, rfl, q⟩
      | (refine wpAny_bind (m := truthy (.bool _)) (wpAny_truthy_bool ?_))
      | wp_step)
  unfold richCompare
  simp only [oneThing_ref]
  refine wpAny_holding (wpAny_bind (wpAny_cRoomFor (Nat.lt_of_succ_lt hu) ?_))
  refine wpAny_bind (I.type.here (wpAny_bind (hb.here ?_)))
  have e : tb ≠ .ref C → subIn K tb (.ref C) = some false := fun n => by
    unfold notFirst at hn
    rcases Bool.or_eq_true_iff.mp hn with z | z
    · exact absurd (beq_iff_eq.mp z) n
    · exact beq_iff_eq.mp z
  have fin : ∀ {α : Type} {k : Option Value → Sem α} {R : α → Shared → Prop}, (∀ v s', Q v s' → wpAny (model prog w) A (k (some v)) R E s') → wpAny (model prog w) A (tryCompare (.ref x) "__ne__" b >>= k) R E s := fun h2 =>
    wpAny_bind (wpAny_mono one (fun r s' z => by obtain ⟨v, rfl, q⟩ := z; exact h2 v s' q) fun _ _ z => z)
  by_cases c : tb = .ref C
  · rw [if_neg (by rw [c]; simp)]
    refine wpAny_bind (wpAny_pure ?_)
    rw [if_neg Bool.false_ne_true]
    exact fin fun v s' q => wpAny_pure q
  · rw [if_pos (by simpa using fun z => c z.symm)]
    refine wpAny_bind ((looks_subIn X (e c)).here ?_)
    rw [if_neg Bool.false_ne_true]
    exact fin fun v s' q => wpAny_pure q
end
section
variable {X : Cx} {C f : Addr} {fd : FuncData} {n : Nat} {sp : Sp} {ps : List Str} {CX : CXT} {E : XK}
theorem vback {Q : Value → Shared → Prop} {z : V} {v : Value} {s' : Shared} (r : RelV z v) (h : Q v s') : PySem.W.CmpBack Q v s' := by
  cases z with
  | non => cases r; exact h
  | bl _ => cases r; exact h
  | int _ => obtain ⟨t, rfl⟩ := r; exact h
  | str _ => obtain ⟨t, rfl⟩ := r; exact h
  | byt _ => obtain ⟨t, rfl⟩ := r; exact h
  | flt _ => obtain ⟨t, rfl⟩ := r; exact h
  | ref _ => cases r; exact h
  | ty _ => cases r; exact h
/-- x == y, x != y, x an instance of the class at C whose == is the def at f; y of type tb -/
def rOwn (K : PySem.W.Frag) (C : Addr) (sp : Sp) (E : XK) (g : VK → VK) : R2 := fun x y H Q => ∃ (a dx : Addr) (fs : List (Str × V)) (tb : Value), x = .ref a ∧ H a = some (.ins C dx fs) ∧ TyX K H y tb ∧ PySem.W.notFirst K C tb = true ∧ sp [x, y] H (g Q) E
theorem op_ownEq (F : FnOk X.prog X.w X.K X.mg X.base CX n f fd ps sp) (hr : Room n X.A) (bd : Binds X.K fd ps []) (hx : Passes CX X E)
    (eq : PySem.W.findIn X.K (.ref C) "__eq__" = some (some (.ref f))) (hf : PySem.W.isFn X.K (.ref f) = true) : OpR X (compareOp .Eq) (rOwn X.K C sp E fun Q => Q) := by
  rintro pins s σ H x y v u Q I rx ry ⟨a, dx, fs, tb, rfl, ha, ty, nf, q⟩
  obtain rfl : v = Value.ref a := rx
  obtain ⟨mA, J, _⟩ := ins_get I.hok ha
  obtain ⟨od, J, _⟩ := J.look
  obtain ⟨P, kx, hp, _⟩ := kit_of I ry ty
  obtain ⟨m, hF⟩ := I.fr
  refine PySem.W.cmp_K (op := .Eq) (tb := tb) hr.units0 hF I.ok.mod.kin J (kx.ty _ _ I.kIn hp) nf eq hf ?_
  refine wpAny_mono (run_fn (us := [.ref a, u]) (vs := [.ref a, y]) (dvs := []) F hr bd .nil hx I (.cons rfl (.cons ry .nil)) q) (fun w s' z => ?_) fun _ _ z => z
  obtain ⟨z', H', I', rz, qz⟩ := z
  exact vback rz ⟨z', H', I', rz, qz⟩
end
section
variable {X : Cx} {C f : Addr} {fd : FuncData} {n : Nat} {sp : Sp} {ps : List Str}
theorem op_ownNe (F : FnOk X.prog X.w X.K X.mg X.base CX0 n f fd ps sp) (hr : Room (n + 1) X.A) (bd : Binds X.K fd ps [])
    (eq : PySem.W.findIn X.K (.ref C) "__eq__" = some (some (.ref f))) (hf : PySem.W.isFn X.K (.ref f) = true) (ne : PySem.W.findIn X.K (.ref C) "__ne__" = some (some (.builtin "object.__ne__"))) (ob : PySem.W.mroIn X.K C (.type "object") = some true) :
    OpR X (compareOp .NotEq) (rOwn X.K C sp E0 fun Q v H => ∃ c, v = .bl c ∧ Q (.bl (!c)) H) := by
  rintro pins s σ H x y v u Q I rx ry ⟨a, dx, fs, tb, rfl, ha, ty, nf, q⟩
  obtain rfl : v = Value.ref a := rx
  obtain ⟨mA, J, _⟩ := ins_get I.hok ha
  obtain ⟨od, J, _⟩ := J.look
  obtain ⟨P, kx, hp, _⟩ := kit_of I ry ty
  have hun : X.A.units + 1 < cLine := by have := hr.un; omega
  unfold compareOp
  refine ne_own hun I.kIn J ne eq hf ob (kx.ty _ _ I.kIn hp) nf ?_
  have e0 : Env0 X.prog X.w X.K X.mg X.base X.A.in1 X.stack s H := I.env0.in1
  have hl := F.len _ _ _ _ q
  have rv : Vals [V.ref a, y] [Value.ref a, u] := .cons rfl (.cons ry .nil)
  have bn := bd s [.ref a, u] I.kIn (by rw [List.append_nil]; simpa using hl)
  rw [List.append_nil] at bn
  refine wpAny_call (codeAny_mono (F.run X.A.in1 X.stack s H ⟨[.ref a, u], []⟩ [.ref a, u] [.ref a, y] _ E0 hr.in1 e0 bn rv q) fun r s' hq => ?_)
  cases r with
  | error e => exact (show False from hq).elim
  | ok fl =>
    cases fl with
    | next => exact (show False from hq).elim
    | brk => exact (show False from hq).elim
    | cont => exact (show False from hq).elim
    | ret w =>
      obtain ⟨z, H', I', rz, c, rfl, qz⟩ := I.after hq
      obtain rfl : w = Value.bool c := rz
      exact ⟨c, rfl, .bl (!c), H', I', rfl, qz⟩
end
section
variable {X : Cx} {C f : Addr} {fd : FuncData} {n : Nat} {sp : Sp} {ps : List Str}
/-- the same, for a written part told -/
theorem op_ownEqK (K : PySem.W.Frag) (mg : Str → Option Value) (base : Heap) (P : Program) (w : World) (hK : X.K = K) (hm : X.mg = mg) (hB : X.base = base) (hP : X.prog = P) (hw : X.w = w) (F : FnOk P w K mg base CX0 n f fd ps sp) (hr : Room n X.A) (bd : Binds K fd ps [])
    (eq : PySem.W.findIn K (.ref C) "__eq__" = some (some (.ref f))) (hf : PySem.W.isFn K (.ref f) = true) : OpR X (compareOp .Eq) (rOwn K C sp E0 fun Q => Q) := by
  subst hK hm hB hP hw
  exact op_ownEq F hr bd pass0 eq hf
theorem op_ownNeK (K : PySem.W.Frag) (mg : Str → Option Value) (base : Heap) (P : Program) (w : World) (hK : X.K = K) (hm : X.mg = mg) (hB : X.base = base) (hP : X.prog = P) (hw : X.w = w) (F : FnOk P w K mg base CX0 n f fd ps sp) (hr : Room (n + 1) X.A) (bd : Binds K fd ps [])
    (eq : PySem.W.findIn K (.ref C) "__eq__" = some (some (.ref f))) (hf : PySem.W.isFn K (.ref f) = true) (ne : PySem.W.findIn K (.ref C) "__ne__" = some (some (.builtin "object.__ne__"))) (ob : PySem.W.mroIn K C (.type "object") = some true) :
    OpR X (compareOp .NotEq) (rOwn K C sp E0 fun Q v H => ∃ c, v = .bl c ∧ Q (.bl (!c)) H) := by
  subst hK hm hB hP hw
  exact op_ownNe F hr bd eq hf ne ob
end
section
variable {X : Cx}
theorem ix_listK (K : PySem.W.Frag) (hK : X.K = K) : IxR X (rIxL K) := by
  subst hK
  exact ix_list
theorem ix_tupK (K : PySem.W.Frag) (hK : X.K = K) : IxR X (rIxT K) := by
  subst hK
  exact ix_tup
theorem ix_seqK (K : PySem.W.Frag) (hK : X.K = K) : IxR X (rIx K) := by
  subst hK
  exact ix_seq
theorem op_inK (K : PySem.W.Frag) (hK : X.K = K) : OpR X (compareOp .In) (rIn K false) := by
  subst hK
  exact op_in_seq
theorem op_notInK (K : PySem.W.Frag) (hK : X.K = K) : OpR X (compareOp .NotIn) (rIn K true) := by
  subst hK
  exact op_notIn_seq
theorem call_lenK (K : PySem.W.Frag) (hK : X.K = K) : CallR X (.builtin "len") (fun xs H Q => ∃ x n, xs = [x] ∧ LenV K x H n ∧ Q (.int n) H) := by
  subst hK
  exact call_len
theorem call_isiK (K : PySem.W.Frag) (hK : X.K = K) : CallR X (.builtin "isinstance") (rIsi K) := by
  subst hK
  exact call_isi
theorem sl_listK (K : PySem.W.Frag) (hK : X.K = K) : SlR X (rSlL K) := by
  subst hK
  exact sl_list
theorem sl_tupK (K : PySem.W.Frag) (hK : X.K = K) : SlR X (rSlT K) := by
  subst hK
  exact sl_tup
theorem call_listK (K : PySem.W.Frag) (hK : X.K = K) : CallR X (.type "list") (fun xs H Q => ∃ p ys, xs = [.ref p] ∧ (SqL K H p ys ∨ SqT K H p ys) ∧ ∀ l, H l = none → Q (.ref l) (upd H l (.lst ys))) := by
  subst hK
  exact call_list_of
theorem cr_allK (K : PySem.W.Frag) (hK : X.K = K) (hc : X.calm = true) : CallR X (.builtin "all") (rAll K) := by
  subst hK
  exact cr_all hc
theorem cr_anyK (K : PySem.W.Frag) (hK : X.K = K) (hc : X.calm = true) : CallR X (.builtin "any") (rAny K) := by
  subst hK
  exact cr_any hc
theorem op_eqDK (K : PySem.W.Frag) (hK : X.K = K) (hu : X.A.units + 64 < cLine) : OpR X (compareOp .Eq) (rEqD K) := by
  subst hK
  exact op_eqD hu
theorem op_neDK (K : PySem.W.Frag) (hK : X.K = K) (hu : X.A.units + 64 < cLine) : OpR X (compareOp .NotEq) (rNeD K) := by
  subst hK
  exact op_neD hu
theorem op_neNilK (K : PySem.W.Frag) (hK : X.K = K) (hu : X.A.units < cLine) : OpR X (compareOp .NotEq) (rNeNil K) := by
  subst hK
  exact op_neNil hu
theorem call_reprK (K : PySem.W.Frag) (hK : X.K = K) (hg : X.A.guards = some []) (hu : X.A.units + 64 < cLine) : CallR X (.builtin "repr") (rRepr K) := by
  subst hK
  exact call_reprD hg hu
theorem call_reprPK (K : PySem.W.Frag) (hK : X.K = K) (hg : X.A.guards = some []) (hu : X.A.units + 64 < cLine) : CallR X (.builtin "repr") (rReprP K) := by
  subst hK
  exact call_reprP hg hu
theorem pe_fldK (K : PySem.W.Frag) (hK : X.K = K) {e : Expr} {f : Str} {pos : Pos} {ta : TE} (he : PE X e ta) (hb : attributeBase e f X.env (eval e X.env) = eval e X.env) : PE X (.Attribute e f pos) (tFld K ta f) := by
  subst hK
  exact pe_fld he hb
theorem pi_listK (K : PySem.W.Frag) (hK : X.K = K) {tg l : Expr} {tl : TE} (hl : PE X l tl) : PI X tg l (iList K tl) := by
  subst hK
  exact pi_list hl
theorem pi_tupK (K : PySem.W.Frag) (hK : X.K = K) {tg l : Expr} {tl : TE} (hl : PE X l tl) : PI X tg l (iTup K tl) := by
  subst hK
  exact pi_tup hl
end
end Xby

set_option Elab.async false
set_option linter.all false
set_option maxRecDepth 100000
set_option maxHeartbeats 4000000
namespace PySem
namespace LowV
open PySem.W PySem.Calls PyProof.Rows PySem.HandSPX
/-! ### the text of __init__ -/
def iA (p1 p2 : Pos) : Arguments := { posonlyargs := [], args := [{ arg := "self", annotation := none, pos := p1 }, { arg := "value", annotation := none, pos := p2 }], vararg := none, kwonlyargs := [], kw_defaults := [], kwarg := none, defaults := [] }
def iB (q1 q2 q3 q4 : Pos) : List Stmt := [.Assign [.Attribute (.Name "self" q1) "value" q2] (.Name "value" q3) q4]
def iS : Scope := { kind := .function, names := [(PySem.Str.ofString "self", .local), (PySem.Str.ofString "value", .local)], isGenerator := false, isCoroutine := false, more := [] }
/-- what the written part says of Low, at C, and of its __init__, at fI -/
structure LowTxt (K : Frag) (mg : Str → Option Value) (cn qn : Str) (C fI : Addr) : Prop where
  gC : mg cn = some (.ref C)
  cls : ∃ nm q N bs bm sn sub ab col dd k0 k1 k2 k3 k5, K.lookup C = some (excClassObj nm q C N bs bm true sn sub ab col dd k0 k1 k2 k3 k5 "ValueError.__new__") ∧ refsVE bm = true
  sa : findIn K (.ref C) "__setattr__" = some (some (.builtin "object.__setattr__"))
  ga : findIn K (.ref C) "__getattribute__" = some (some (.builtin "BaseException.__getattribute__"))
  gg : findIn K (.ref C) "__getattr__" = some none
  noN : findIn K (.ref C) "value" = some none
  iC : findIn K (.ref C) "__init__" = some (some (.ref fI))
  tC : typeIn K (.ref fI) = some (.type "function")
  kC : keepIn K (.ref C) = true
  exC : subIn K (.ref C) (.type "BaseException") = some true
  tyC : typeIn K (.ref C) = some (.type "type")
  hdC : hasDictIn K C = true
  te : exmOne K (.ref C) (.ref C) = some true
  fn : ∃ (oc : Value) (od : Option Addr) (doc pm : Value) (an : Option Addr) (cdv ct : Value) (osl : Array (Option Value)) (p1 p2 q1 q2 q3 q4 : Pos),
    K.lookup fI = some ⟨oc, od, .func (fnOf "__init__" qn (iA p1 p2) (iB q1 q2 q3 q4) iS .none .none doc pm an cdv ct), osl⟩ ∧ codeIn K cdv qn = true
theorem one_size (v : Value) : [v].length ≤ sizeLine := by
  rw [sizeLine_eq]
  exact (by decide : 1 ≤ 16777216)
theorem kept_but {K : Frag} {h h' : Heap} {x : Addr} (X : K.In h) (hx : K.lookup x = none) (k : ∀ b o, b ≠ x → h.get? b = some o → h'.get? b = some o) : K.In h' := fun a o e =>
  k a o (fun z => by rw [z, hx] at e; cases e) (X a o e)
theorem ldC {M : Model} {s : Shared} {name : Str} {scope : Scope} {L a : Addr} {cd : Value} {m : Str → Option Value} {x : Str} {pos : Pos} {v : Value} {Q : Value → Shared → Prop} {A : Around} {E : Value → Shared → Prop} (hn : s.heap.Ns L m) (hv : m x = some v) (h : Q v s)
    (hk : scope.kind = .function := by rfl) (hl : (envOfC name scope L a cd).kindOf x = some .local := by rfl) (hd : (x == ("__debug__" : Str)) = false := by decide) :
    wpAny M A (eval (.Name x pos) (envOfC name scope L a cd)) Q E s := wpAny_Name (wpAny_loadName_local hk hl hn hv h) hd
/-- what __init__ leaves of a fresh exception at x -/
structure InitEnd (h h' : Heap) (x C dx t1 : Addr) (v : Value) : Prop where
  keep : ∀ b o, b ≠ x → h.get? b = some o → h'.get? b = some o
  obj : h'.get? x = some { cls := .ref C, dict := some dx, data := .fields #[.ref t1, .none, .none, .none, .bool false, .none] }
  dbig : h.objs.size ≤ dx
  dne : dx ≠ x
  ns : h'.Ns1 dx (fun y => if y = "value" then some v else none)
/-- a made Low -/
structure OwnMade (h h' : Heap) (e C d : Addr) (v : Value) : Prop where
  keep : ∀ b o, h.get? b = some o → h'.get? b = some o
  new : h.objs.size ≤ e
  obj : ∃ oe vs, h'.get? e = some oe ∧ oe.cls = .ref C ∧ oe.dict = some d ∧ oe.data = .fields vs ∧ vs[1]? = some .none
  dbig : h.objs.size ≤ d
  dne : d ≠ e
  ns : h'.Ns1 d (fun y => if y = "value" then some v else none)
section
variable {cn qn : Str} {prog : Program} {w : World} {A : Around} {E : Value → Shared → Prop} {R : Result → Shared → Prop} {s : Shared} {K : Frag} {mg : Str → Option Value} {C fI : Addr}
theorem low_init (T : LowTxt K mg cn qn C fI) {x t0 : Addr} {v : Value} (X : K.In s.heap) (hlim : s.heap.NoLimit) (hx : s.heap.get? x = some (excO C t0)) (hnx : K.lookup x = none) (hroom : A.depth < recursionLimit)
    (hq : ∀ h' tk dx, InitEnd s.heap h' x C dx t0 v → R (.ok (.ret .none)) { s with heap := h', toks := tk }) :
    codeAny (model prog w) A (.call (.ref fI) ⟨[.ref x, v], []⟩) R s := by
  obtain ⟨oc, od, doc, pm, an, cdv, ct, osl, p1, p2, q1, q2, q3, q4, ho, hcd⟩ := T.fn
  obtain ⟨nm, q, N, bs, bm, sn, sub, ab, col, dd, k0, k1, k2, k3, k5, hC, hbm⟩ := T.cls
  have hcl : clsIn K C = some { name := nm, bases := bs, mro := .ref C :: bm, ns := N, qualname := q, hasDict := true, slotNames := sn, subclasses := sub, abstract := ab, collection := col, hasDel := false } := by unfold clsIn; rw [hC] <;> rfl
  refine Att.call_fn (binds := [("self", .ref x), ("value", v)]) X hlim ho hcd hroom (BindsTo.of_eq (by first | rfl | with_unfolding_all rfl)) (by first | rfl | decide | with_unfolding_all rfl) (fun s₁ IC => ?_) rfl rfl rfl
  obtain ⟨h₁, tk₁, rfl⟩ := IC.toInCall.same
  have k : ∀ b o, s.heap.get? b = some o → h₁.get? b = some o := IC.toInCall.keep
  have hn := IC.toInCall.ns
  have hxL : s.heap.objs.size ≠ x := Nat.ne_of_gt (Heap.lt_size hx)
  have X₁ : K.In h₁ := X.keeps k
  have hx₁ := k _ _ hx
  -- self.value = by
  show wpAny _ _ (execs _ _) _ _ _
  refine wpAny_execs_cons (plainObj_wpAny_Assign_Attribute ?_)
  refine ldC (v := v) hn (by first | rfl | with_unfolding_all rfl | kernel_rfl) (ldC (v := .ref x) hn (by first | rfl | with_unfolding_all rfl | kernel_rfl) ?_)
  refine set_plain X₁ (ox := excO C t0) (od := none) ⟨hx₁, rfl, rfl, trivial⟩ T.sa ?_
  refine exc_osa X₁ hx₁ hcl (show refsVE (.ref C :: bm) = true from hbm) rfl T.noN (fun h₃ tk₃ dx k₃ dn dne hx₃ hn₃ => ?_)
  show wpAny _ _ (execs _ _) _ _ _
  have z : s.heap.objs.size < h₁.objs.size := hn.lt
  exact wpAny_execs_nil (hq h₃ tk₃ dx ⟨fun b o hb e => k₃ b o hb (k b o e), hx₃, Nat.le_of_lt (Nat.lt_of_lt_of_le z dn), dne, hn₃⟩)
theorem low_made (T : LowTxt K mg cn qn C fI) {v : Value} (X : K.In s.heap) (hlim : s.heap.NoLimit) (hroom : A.depth + 1 < recursionLimit)
    (hq : ∀ h' tk e d, OwnMade s.heap h' e C d v → R (.ok (.ret (.ref e))) { s with heap := h', toks := tk }) :
    codeAny (model prog w) A (.call (.ref C) ⟨[v], []⟩) R s := by
  obtain ⟨nm, q, N, bs, bm, sn, sub, ab, col, dd, k0, k1, k2, k3, k5, hC, hbm⟩ := T.cls
  obtain ⟨hp, g, dr, tk, os⟩ := s
  have k : ∀ b o, hp.get? b = some o → ((hp.push (kdv_tup [v])).push (excO C hp.objs.size)).get? b = some o := fun b o e => Heap.get?_push_of_some _ (Heap.get?_push_of_some _ e)
  have hget : ((hp.push (kdv_tup [v])).push (excO C hp.objs.size)).get? (hp.objs.size + 1) = some (excO C hp.objs.size) := by heap_get
  have hnx : K.lookup (hp.objs.size + 1) = none := by
    cases e : K.lookup (hp.objs.size + 1) with
    | none => rfl
    | some o =>
      have z : hp.get? (hp.objs.size + 1) = some o := X _ _ e
      exact absurd (Nat.lt_of_succ_lt (Heap.lt_size z)) (Nat.lt_irrefl _)
  refine call_own F.excBase_ValueError (fun X => refsVE_contains X bm hbm) (X _ _ hC) (looks_findIn X T.iC) (fun self => bind_fn X self T.tC) (one_size v) ?_
  refine low_init (s := ⟨(hp.push (kdv_tup [v])).push (excO C hp.objs.size), g, dr, tk, os⟩) T (X.keeps k) (hlim.keeps k) hget hnx ?_ fun h' tk' dx ⟨k', hx, dn, dne, hns⟩ => ?_
  · show A.depth + 1 < recursionLimit
    exact hroom
  · have old : ∀ b o, hp.get? b = some o → h'.get? b = some o := fun b o e => k' b o (Nat.ne_of_lt (Nat.lt_succ_of_lt (Heap.lt_size e))) (k b o e)
    have z : hp.objs.size + 1 + 1 ≤ dx := by
      first
        | (simpa only [Heap.size_push] using dn)
        | exact dn
        | (have q := dn; rw [Heap.size_push, Heap.size_push] at q; exact q)
    exact ⟨rfl, hq h' tk' (hp.objs.size + 1) dx ⟨old, Nat.le_succ _, ⟨_, _, hx, rfl, rfl, rfl, rfl⟩, Nat.le_trans (Nat.le_trans (Nat.le_succ _) (Nat.le_succ _)) z, dne, hns⟩⟩
end
end LowV
end PySem
namespace L2
namespace LowV
open PySem PySem.Spec PyProof.Rows
theorem relO_low {v : V} {v' : Value} (r : RelV v v') (f : Str) : RelO (List.lookup f [(("value" : Str), v)]) (if f = "value" then some v' else none) := by
  by_cases hw : f = "value"
  · subst hw
    rw [if_pos rfl]
    have q : List.lookup ("value" : Str) [(("value" : Str), v)] = some v := by simp [List.lookup]
    rw [q]
    exact r
  · rw [if_neg hw]
    have qw : (f == ("value" : Str)) = false := by simpa using hw
    have q2 : List.lookup f [(("value" : Str), v)] = none := by simp [List.lookup, qw]
    rw [q2]
    trivial
section
variable {X : Cx} {C fI : Addr} {cn qn : Str}
/-- Low(e) -/
def tMkLow (C : Addr) (ta : TA) : St → Hp → XK → Prop := fun σ H Q => ta σ H fun vs H1 => ∃ v, vs = [v] ∧ ∀ d, H1 d = none → Q (.ref C) (some d) (upd H1 d (.xd [(("value" : Str), v)]))
theorem pmk_low {a : Expr} {ta : TA} {p pos : Pos} {k : Nat} (T : PySem.LowV.LowTxt X.K X.mg cn qn C fI) (hr : Room k X.A) (ha : PA X [a] ta) (hg : Gl X cn := by rfl) (hdb : (cn == ("__debug__" : Str)) = false := by decide)
    (he : starEach (a :: []) X.env = (false, eval a X.env) :: starEach [] X.env := by rfl) (hpl : (backTo pos (starEach [] X.env)).any (·.1) = false := by rfl) :
    PMk X (.Call (.Name cn p) [a] [] pos) (tMkLow C ta) := by
  intro pins s σ H Q I h
  refine wpAny_Call_Name_kw (ld_glob I hg T.gC ?_ hdb)
  refine PySem.W.callWith_K (h₀ := X.base) I.ok.mod.kin T.kC (thn (ha.run pos pins s σ H _ I h) fun us s1 hh => ?_) he hpl
  obtain ⟨vs, H1, I1, r1, v, ev, q1⟩ := hh
  subst ev
  refine ⟨I1.kIn, ?_⟩
  cases r1 with
  | cons rv rn =>
    rename_i v' us'
    cases rn
    show wpAny _ _ (call (.ref C) [v']) _ _ _
    have hlim := I1.nolimit
    obtain ⟨hp, g, dr, tk, os⟩ := s1
    refine wpAny_call (PySem.LowV.low_made T I1.kIn hlim (by have := hr.dp; omega) fun h' tk' e d M => ?_)
    show MkP X pins σ Q (.ref e) ⟨h', g, dr, tk', os⟩
    obtain ⟨oe, fv, hoe, hc, hd, hdat, h1⟩ := M.obj
    have hns := M.ns
    obtain ⟨G', g1, g2⟩ := restrict h' fun b => decide (b ≠ e)
    have gk : ∀ b, b ≠ e → G'.get? b = h'.get? b := fun b hb => g1 b (decide_eq_true hb)
    have ge : G'.get? e = none := g2 e (by simp)
    have old : ∀ b o, hp.get? b = some o → G'.get? b = some o := fun b o q => (gk b (Nat.ne_of_lt (Nat.lt_of_lt_of_le (Heap.lt_size q) M.new))).trans (M.keep b o q)
    have ob : ObjOk X.prog X.w (upd H1 d (.xd [(("value" : Str), v)])) G' d (.xd [(("value" : Str), v)]) :=
      ⟨_, hns.at (fun o q => (gk d M.dne).trans q), fun f => relO_low rv f⟩
    have J : Inv X pins σ (upd H1 d (.xd [(("value" : Str), v)])) ⟨G', g, dr, tk', os⟩ := I1.laid (t' := tk') old M.dbig ob
    refine ⟨e, oe, fv, ⟨G', g, dr, tk', os⟩, _, .ref C, some d, rfl, J, fun b o q => ?_, ge, hoe, ⟨hc, hd⟩, hdat, h1, ?_, rfl, I1.bare, raises_own T.exC T.tyC, q1 d (I1.hok.fresh M.dbig)⟩
    · by_cases hb : b = e
      · have q' : G'.get? b = some o := q
        rw [hb, ge] at q'; cases q'
      · exact (gk b hb).symm.trans q
    · rw [upd_ne (Ne.symm M.dne)]
      exact I1.hok.fresh M.new
/-- raise Low(e) -/
def tRaiseLow (C : Addr) (W : WX) (ta : TA) : TS := fun _ σ H => tMkLow C ta σ H fun cls d H' => W cls d σ H'
theorem ps_raiseLow {a : Expr} {ta : TA} {W : WX} {p pos pos2 : Pos} {k : Nat} (hc : X.calm = true) (T : PySem.LowV.LowTxt X.K X.mg cn qn C fI) (hr : Room k X.A) (tk : Takes X W) (ha : PA X [a] ta) (hg : Gl X cn := by rfl) (hdb : (cn == ("__debug__" : Str)) = false := by decide)
    (he : starEach (a :: []) X.env = (false, eval a X.env) :: starEach [] X.env := by rfl) (hpl : (backTo pos (starEach [] X.env)).any (·.1) = false := by rfl) :
    PS X (.Raise (some (.Call (.Name cn p) [a] [] pos)) none pos2) (tRaiseLow C W ta) := ps_raise hc tk (pmk_low T hr ha hg hdb he hpl)
/-- low.by, low the exception that the suite holds (at a; its class cls, its dict d) -/
def tByLow (C : Addr) (a : Addr) (cls : Value) (d : Option Addr) (te : TE) : TE := fun σ H Q => te σ H fun x H1 => x = .ref a ∧ cls = .ref C ∧ ∃ (dd : Addr) (v : V), d = some dd ∧ H1 dd = some (.xd [(("value" : Str), v)]) ∧ Q v H1
theorem pe_byLow {a : Addr} {oe : Obj} {cls : Value} {d : Option Addr} {pn : List (Addr × Obj)} {e : Expr} {te : TE} {pos : Pos} (T : PySem.LowV.LowTxt X.K X.mg cn qn C fI) (hz : Zc cls d oe) (hf : ∃ vs, oe.data = .fields vs) (he : PE (X.suite a ((a, oe) :: pn)) e te)
    (hb : attributeBase e "value" X.env (eval e X.env) = eval e X.env := by rfl) :
    PE (X.suite a ((a, oe) :: pn)) (.Attribute e "value" pos) (tByLow C a cls d te) := by
  refine ⟨fun pins s σ H Q I h => ?_⟩
  refine attr_of hb (thn (he.run pins s σ H _ I h) fun u s1 hh => ?_)
  obtain ⟨x, H1, I1, rx, ex, ec, dd, v, ed, ea, q⟩ := hh
  subst ex
  obtain rfl : u = Value.ref a := rx
  subst ec
  subst ed
  obtain ⟨ha, _⟩ := I1.pin (a, oe) (List.mem_append_left _ List.mem_cons_self)
  obtain ⟨vs, hd⟩ := hf
  have hx : ObjOk X.prog X.w H1 s1.heap dd (.xd [(("value" : Str), v)]) := I1.hok dd _ ea
  obtain ⟨mA, hns, hr⟩ := hx
  obtain ⟨od, ho, hl⟩ := lookIn_ns hns
  have l : List.lookup ("value" : Str) [(("value" : Str), v)] = some v := by simp [List.lookup]
  obtain ⟨u, hu, ru⟩ := RelO.some_of (v := v) (o := mA "value") (by rw [← l]; exact hr "value")
  have J : PySem.W.InstAt s1.heap a oe C (some od) := ⟨ha, hz.1, by unfold PySem.W.notCls; rw [hd] <;> rfl, by rw [hz.2]; exact ho⟩
  exact HandSPX.exc_get I1.kIn J T.ga T.gg T.exC (PySem.W.findObj_own T.hdC T.noN rfl (by rw [hl, hu])) (handed_of ru) ⟨v, H1, I1.tok _, ru, q⟩
end
end LowV
end L2
namespace PySem
namespace LowL
open PySem.W PySem.Calls PyProof.Rows PySem.HandSPX
/-! ### the text of __init__ -/
def iA (p1 p2 : Pos) : Arguments := { posonlyargs := [], args := [{ arg := "self", annotation := none, pos := p1 }, { arg := "limit", annotation := none, pos := p2 }], vararg := none, kwonlyargs := [], kw_defaults := [], kwarg := none, defaults := [] }
def iB (q1 q2 q3 q4 : Pos) : List Stmt := [.Assign [.Attribute (.Name "self" q1) "limit" q2] (.Name "limit" q3) q4]
def iS : Scope := { kind := .function, names := [(PySem.Str.ofString "self", .local), (PySem.Str.ofString "limit", .local)], isGenerator := false, isCoroutine := false, more := [] }
/-- what the written part says of Low, at C, and of its __init__, at fI -/
structure LowTxt (K : Frag) (mg : Str → Option Value) (cn qn : Str) (C fI : Addr) : Prop where
  gC : mg cn = some (.ref C)
  cls : ∃ nm q N bs bm sn sub ab col dd k0 k1 k2 k3 k5, K.lookup C = some (excClassObj nm q C N bs bm true sn sub ab col dd k0 k1 k2 k3 k5 "ValueError.__new__") ∧ refsVE bm = true
  sa : findIn K (.ref C) "__setattr__" = some (some (.builtin "object.__setattr__"))
  ga : findIn K (.ref C) "__getattribute__" = some (some (.builtin "BaseException.__getattribute__"))
  gg : findIn K (.ref C) "__getattr__" = some none
  noN : findIn K (.ref C) "limit" = some none
  iC : findIn K (.ref C) "__init__" = some (some (.ref fI))
  tC : typeIn K (.ref fI) = some (.type "function")
  kC : keepIn K (.ref C) = true
  exC : subIn K (.ref C) (.type "BaseException") = some true
  tyC : typeIn K (.ref C) = some (.type "type")
  hdC : hasDictIn K C = true
  te : exmOne K (.ref C) (.ref C) = some true
  fn : ∃ (oc : Value) (od : Option Addr) (doc pm : Value) (an : Option Addr) (cdv ct : Value) (osl : Array (Option Value)) (p1 p2 q1 q2 q3 q4 : Pos),
    K.lookup fI = some ⟨oc, od, .func (fnOf "__init__" qn (iA p1 p2) (iB q1 q2 q3 q4) iS .none .none doc pm an cdv ct), osl⟩ ∧ codeIn K cdv qn = true
theorem one_size (v : Value) : [v].length ≤ sizeLine := by
  rw [sizeLine_eq]
  exact (by decide : 1 ≤ 16777216)
theorem kept_but {K : Frag} {h h' : Heap} {x : Addr} (X : K.In h) (hx : K.lookup x = none) (k : ∀ b o, b ≠ x → h.get? b = some o → h'.get? b = some o) : K.In h' := fun a o e =>
  k a o (fun z => by rw [z, hx] at e; cases e) (X a o e)
theorem ldC {M : Model} {s : Shared} {name : Str} {scope : Scope} {L a : Addr} {cd : Value} {m : Str → Option Value} {x : Str} {pos : Pos} {v : Value} {Q : Value → Shared → Prop} {A : Around} {E : Value → Shared → Prop} (hn : s.heap.Ns L m) (hv : m x = some v) (h : Q v s)
    (hk : scope.kind = .function := by rfl) (hl : (envOfC name scope L a cd).kindOf x = some .local := by rfl) (hd : (x == ("__debug__" : Str)) = false := by decide) :
    wpAny M A (eval (.Name x pos) (envOfC name scope L a cd)) Q E s := wpAny_Name (wpAny_loadName_local hk hl hn hv h) hd
/-- what __init__ leaves of a fresh exception at x -/
structure InitEnd (h h' : Heap) (x C dx t1 : Addr) (v : Value) : Prop where
  keep : ∀ b o, b ≠ x → h.get? b = some o → h'.get? b = some o
  obj : h'.get? x = some { cls := .ref C, dict := some dx, data := .fields #[.ref t1, .none, .none, .none, .bool false, .none] }
  dbig : h.objs.size ≤ dx
  dne : dx ≠ x
  ns : h'.Ns1 dx (fun y => if y = "limit" then some v else none)
/-- a made Low -/
structure OwnMade (h h' : Heap) (e C d : Addr) (v : Value) : Prop where
  keep : ∀ b o, h.get? b = some o → h'.get? b = some o
  new : h.objs.size ≤ e
  obj : ∃ oe vs, h'.get? e = some oe ∧ oe.cls = .ref C ∧ oe.dict = some d ∧ oe.data = .fields vs ∧ vs[1]? = some .none
  dbig : h.objs.size ≤ d
  dne : d ≠ e
  ns : h'.Ns1 d (fun y => if y = "limit" then some v else none)
section
variable {cn qn : Str} {prog : Program} {w : World} {A : Around} {E : Value → Shared → Prop} {R : Result → Shared → Prop} {s : Shared} {K : Frag} {mg : Str → Option Value} {C fI : Addr}
theorem low_init (T : LowTxt K mg cn qn C fI) {x t0 : Addr} {v : Value} (X : K.In s.heap) (hlim : s.heap.NoLimit) (hx : s.heap.get? x = some (excO C t0)) (hnx : K.lookup x = none) (hroom : A.depth < recursionLimit)
    (hq : ∀ h' tk dx, InitEnd s.heap h' x C dx t0 v → R (.ok (.ret .none)) { s with heap := h', toks := tk }) :
    codeAny (model prog w) A (.call (.ref fI) ⟨[.ref x, v], []⟩) R s := by
  obtain ⟨oc, od, doc, pm, an, cdv, ct, osl, p1, p2, q1, q2, q3, q4, ho, hcd⟩ := T.fn
  obtain ⟨nm, q, N, bs, bm, sn, sub, ab, col, dd, k0, k1, k2, k3, k5, hC, hbm⟩ := T.cls
  have hcl : clsIn K C = some { name := nm, bases := bs, mro := .ref C :: bm, ns := N, qualname := q, hasDict := true, slotNames := sn, subclasses := sub, abstract := ab, collection := col, hasDel := false } := by unfold clsIn; rw [hC] <;> rfl
  refine Att.call_fn (binds := [("self", .ref x), ("limit", v)]) X hlim ho hcd hroom (BindsTo.of_eq (by first | rfl | with_unfolding_all rfl)) (by first | rfl | decide | with_unfolding_all rfl) (fun s₁ IC => ?_) rfl rfl rfl
  obtain ⟨h₁, tk₁, rfl⟩ := IC.toInCall.same
  have k : ∀ b o, s.heap.get? b = some o → h₁.get? b = some o := IC.toInCall.keep
  have hn := IC.toInCall.ns
  have hxL : s.heap.objs.size ≠ x := Nat.ne_of_gt (Heap.lt_size hx)
  have X₁ : K.In h₁ := X.keeps k
  have hx₁ := k _ _ hx
  -- self.limit = by
  show wpAny _ _ (execs _ _) _ _ _
  refine wpAny_execs_cons (plainObj_wpAny_Assign_Attribute ?_)
  refine ldC (v := v) hn (by first | rfl | with_unfolding_all rfl | kernel_rfl) (ldC (v := .ref x) hn (by first | rfl | with_unfolding_all rfl | kernel_rfl) ?_)
  refine set_plain X₁ (ox := excO C t0) (od := none) ⟨hx₁, rfl, rfl, trivial⟩ T.sa ?_
  refine exc_osa X₁ hx₁ hcl (show refsVE (.ref C :: bm) = true from hbm) rfl T.noN (fun h₃ tk₃ dx k₃ dn dne hx₃ hn₃ => ?_)
  show wpAny _ _ (execs _ _) _ _ _
  have z : s.heap.objs.size < h₁.objs.size := hn.lt
  exact wpAny_execs_nil (hq h₃ tk₃ dx ⟨fun b o hb e => k₃ b o hb (k b o e), hx₃, Nat.le_of_lt (Nat.lt_of_lt_of_le z dn), dne, hn₃⟩)
theorem low_made (T : LowTxt K mg cn qn C fI) {v : Value} (X : K.In s.heap) (hlim : s.heap.NoLimit) (hroom : A.depth + 1 < recursionLimit)
    (hq : ∀ h' tk e d, OwnMade s.heap h' e C d v → R (.ok (.ret (.ref e))) { s with heap := h', toks := tk }) :
    codeAny (model prog w) A (.call (.ref C) ⟨[v], []⟩) R s := by
  obtain ⟨nm, q, N, bs, bm, sn, sub, ab, col, dd, k0, k1, k2, k3, k5, hC, hbm⟩ := T.cls
  obtain ⟨hp, g, dr, tk, os⟩ := s
  have k : ∀ b o, hp.get? b = some o → ((hp.push (kdv_tup [v])).push (excO C hp.objs.size)).get? b = some o := fun b o e => Heap.get?_push_of_some _ (Heap.get?_push_of_some _ e)
  have hget : ((hp.push (kdv_tup [v])).push (excO C hp.objs.size)).get? (hp.objs.size + 1) = some (excO C hp.objs.size) := by heap_get
  have hnx : K.lookup (hp.objs.size + 1) = none := by
    cases e : K.lookup (hp.objs.size + 1) with
    | none => rfl
    | some o =>
      have z : hp.get? (hp.objs.size + 1) = some o := X _ _ e
      exact absurd (Nat.lt_of_succ_lt (Heap.lt_size z)) (Nat.lt_irrefl _)
  refine call_own F.excBase_ValueError (fun X => refsVE_contains X bm hbm) (X _ _ hC) (looks_findIn X T.iC) (fun self => bind_fn X self T.tC) (one_size v) ?_
  refine low_init (s := ⟨(hp.push (kdv_tup [v])).push (excO C hp.objs.size), g, dr, tk, os⟩) T (X.keeps k) (hlim.keeps k) hget hnx ?_ fun h' tk' dx ⟨k', hx, dn, dne, hns⟩ => ?_
  · show A.depth + 1 < recursionLimit
    exact hroom
  · have old : ∀ b o, hp.get? b = some o → h'.get? b = some o := fun b o e => k' b o (Nat.ne_of_lt (Nat.lt_succ_of_lt (Heap.lt_size e))) (k b o e)
    have z : hp.objs.size + 1 + 1 ≤ dx := by
      first
        | (simpa only [Heap.size_push] using dn)
        | exact dn
        | (have q := dn; rw [Heap.size_push, Heap.size_push] at q; exact q)
    exact ⟨rfl, hq h' tk' (hp.objs.size + 1) dx ⟨old, Nat.le_succ _, ⟨_, _, hx, rfl, rfl, rfl, rfl⟩, Nat.le_trans (Nat.le_trans (Nat.le_succ _) (Nat.le_succ _)) z, dne, hns⟩⟩
end
end LowL
end PySem
namespace L2
namespace LowL
open PySem PySem.Spec PyProof.Rows
theorem relO_low {v : V} {v' : Value} (r : RelV v v') (f : Str) : RelO (List.lookup f [(("limit" : Str), v)]) (if f = "limit" then some v' else none) := by
  by_cases hw : f = "limit"
  · subst hw
    rw [if_pos rfl]
    have q : List.lookup ("limit" : Str) [(("limit" : Str), v)] = some v := by simp [List.lookup]
    rw [q]
    exact r
  · rw [if_neg hw]
    have qw : (f == ("limit" : Str)) = false := by simpa using hw
    have q2 : List.lookup f [(("limit" : Str), v)] = none := by simp [List.lookup, qw]
    rw [q2]
    trivial
section
variable {X : Cx} {C fI : Addr} {cn qn : Str}
/-- Low(e) -/
def tMkLow (C : Addr) (ta : TA) : St → Hp → XK → Prop := fun σ H Q => ta σ H fun vs H1 => ∃ v, vs = [v] ∧ ∀ d, H1 d = none → Q (.ref C) (some d) (upd H1 d (.xd [(("limit" : Str), v)]))
theorem pmk_low {a : Expr} {ta : TA} {p pos : Pos} {k : Nat} (T : PySem.LowL.LowTxt X.K X.mg cn qn C fI) (hr : Room k X.A) (ha : PA X [a] ta) (hg : Gl X cn := by rfl) (hdb : (cn == ("__debug__" : Str)) = false := by decide)
    (he : starEach (a :: []) X.env = (false, eval a X.env) :: starEach [] X.env := by rfl) (hpl : (backTo pos (starEach [] X.env)).any (·.1) = false := by rfl) :
    PMk X (.Call (.Name cn p) [a] [] pos) (tMkLow C ta) := by
  intro pins s σ H Q I h
  refine wpAny_Call_Name_kw (ld_glob I hg T.gC ?_ hdb)
  refine PySem.W.callWith_K (h₀ := X.base) I.ok.mod.kin T.kC (thn (ha.run pos pins s σ H _ I h) fun us s1 hh => ?_) he hpl
  obtain ⟨vs, H1, I1, r1, v, ev, q1⟩ := hh
  subst ev
  refine ⟨I1.kIn, ?_⟩
  cases r1 with
  | cons rv rn =>
    rename_i v' us'
    cases rn
    show wpAny _ _ (call (.ref C) [v']) _ _ _
    have hlim := I1.nolimit
    obtain ⟨hp, g, dr, tk, os⟩ := s1
    refine wpAny_call (PySem.LowL.low_made T I1.kIn hlim (by have := hr.dp; omega) fun h' tk' e d M => ?_)
    show MkP X pins σ Q (.ref e) ⟨h', g, dr, tk', os⟩
    obtain ⟨oe, fv, hoe, hc, hd, hdat, h1⟩ := M.obj
    have hns := M.ns
    obtain ⟨G', g1, g2⟩ := restrict h' fun b => decide (b ≠ e)
    have gk : ∀ b, b ≠ e → G'.get? b = h'.get? b := fun b hb => g1 b (decide_eq_true hb)
    have ge : G'.get? e = none := g2 e (by simp)
    have old : ∀ b o, hp.get? b = some o → G'.get? b = some o := fun b o q => (gk b (Nat.ne_of_lt (Nat.lt_of_lt_of_le (Heap.lt_size q) M.new))).trans (M.keep b o q)
    have ob : ObjOk X.prog X.w (upd H1 d (.xd [(("limit" : Str), v)])) G' d (.xd [(("limit" : Str), v)]) :=
      ⟨_, hns.at (fun o q => (gk d M.dne).trans q), fun f => relO_low rv f⟩
    have J : Inv X pins σ (upd H1 d (.xd [(("limit" : Str), v)])) ⟨G', g, dr, tk', os⟩ := I1.laid (t' := tk') old M.dbig ob
    refine ⟨e, oe, fv, ⟨G', g, dr, tk', os⟩, _, .ref C, some d, rfl, J, fun b o q => ?_, ge, hoe, ⟨hc, hd⟩, hdat, h1, ?_, rfl, I1.bare, raises_own T.exC T.tyC, q1 d (I1.hok.fresh M.dbig)⟩
    · by_cases hb : b = e
      · have q' : G'.get? b = some o := q
        rw [hb, ge] at q'; cases q'
      · exact (gk b hb).symm.trans q
    · rw [upd_ne (Ne.symm M.dne)]
      exact I1.hok.fresh M.new
/-- raise Low(e) -/
def tRaiseLow (C : Addr) (W : WX) (ta : TA) : TS := fun _ σ H => tMkLow C ta σ H fun cls d H' => W cls d σ H'
theorem ps_raiseLow {a : Expr} {ta : TA} {W : WX} {p pos pos2 : Pos} {k : Nat} (hc : X.calm = true) (T : PySem.LowL.LowTxt X.K X.mg cn qn C fI) (hr : Room k X.A) (tk : Takes X W) (ha : PA X [a] ta) (hg : Gl X cn := by rfl) (hdb : (cn == ("__debug__" : Str)) = false := by decide)
    (he : starEach (a :: []) X.env = (false, eval a X.env) :: starEach [] X.env := by rfl) (hpl : (backTo pos (starEach [] X.env)).any (·.1) = false := by rfl) :
    PS X (.Raise (some (.Call (.Name cn p) [a] [] pos)) none pos2) (tRaiseLow C W ta) := ps_raise hc tk (pmk_low T hr ha hg hdb he hpl)
/-- low.by, low the exception that the suite holds (at a; its class cls, its dict d) -/
def tByLow (C : Addr) (a : Addr) (cls : Value) (d : Option Addr) (te : TE) : TE := fun σ H Q => te σ H fun x H1 => x = .ref a ∧ cls = .ref C ∧ ∃ (dd : Addr) (v : V), d = some dd ∧ H1 dd = some (.xd [(("limit" : Str), v)]) ∧ Q v H1
theorem pe_byLow {a : Addr} {oe : Obj} {cls : Value} {d : Option Addr} {pn : List (Addr × Obj)} {e : Expr} {te : TE} {pos : Pos} (T : PySem.LowL.LowTxt X.K X.mg cn qn C fI) (hz : Zc cls d oe) (hf : ∃ vs, oe.data = .fields vs) (he : PE (X.suite a ((a, oe) :: pn)) e te)
    (hb : attributeBase e "limit" X.env (eval e X.env) = eval e X.env := by rfl) :
    PE (X.suite a ((a, oe) :: pn)) (.Attribute e "limit" pos) (tByLow C a cls d te) := by
  refine ⟨fun pins s σ H Q I h => ?_⟩
  refine attr_of hb (thn (he.run pins s σ H _ I h) fun u s1 hh => ?_)
  obtain ⟨x, H1, I1, rx, ex, ec, dd, v, ed, ea, q⟩ := hh
  subst ex
  obtain rfl : u = Value.ref a := rx
  subst ec
  subst ed
  obtain ⟨ha, _⟩ := I1.pin (a, oe) (List.mem_append_left _ List.mem_cons_self)
  obtain ⟨vs, hd⟩ := hf
  have hx : ObjOk X.prog X.w H1 s1.heap dd (.xd [(("limit" : Str), v)]) := I1.hok dd _ ea
  obtain ⟨mA, hns, hr⟩ := hx
  obtain ⟨od, ho, hl⟩ := lookIn_ns hns
  have l : List.lookup ("limit" : Str) [(("limit" : Str), v)] = some v := by simp [List.lookup]
  obtain ⟨u, hu, ru⟩ := RelO.some_of (v := v) (o := mA "limit") (by rw [← l]; exact hr "limit")
  have J : PySem.W.InstAt s1.heap a oe C (some od) := ⟨ha, hz.1, by unfold PySem.W.notCls; rw [hd] <;> rfl, by rw [hz.2]; exact ho⟩
  exact HandSPX.exc_get I1.kIn J T.ga T.gg T.exC (PySem.W.findObj_own T.hdC T.noN rfl (by rw [hl, hu])) (handed_of ru) ⟨v, H1, I1.tok _, ru, q⟩
end
end LowL
end L2
set_option Elab.async false
set_option linter.all false
set_option maxRecDepth 100000
set_option maxHeartbeats 4000000
/-! # callees in one word; kinds of data; the drawer's words -/
namespace Xby
open PySem L2
structure Ca (P : Program) (w : World) (K : PySem.W.Frag) (mg : Str → Option Value) (base : Heap) (CX : CXT) (x : Str) (k : Nat) (ps : List Str) (sp : Sp) (f : Addr) (fd : FuncData) : Prop where
  G : FnOk P w K mg base CX k f fd ps sp
  g : mg x = some (.ref f)
  k : PySem.W.keepIn K (.ref f) = true
  B : Binds K fd ps []
/-- what a value is to is_integer_within and its like -/
def okV (lo hi : Int) : V → Bool
  | .int i => decide (lo ≤ i ∧ i ≤ hi)
  | _ => false
theorem Dq.kind {K : PySem.W.Frag} {H : Hp} {v : V} {d : PyData} (h : Dq K H v d) :
    (∃ b, v = .bl b) ∨ (∃ i, v = .int i) ∨ ∃ T : String, TyX K H v (.type T) ∧ (kitB T "bool" = some false ∧ kitB T "int" = some false) ∧ ∀ lo hi, okV lo hi v = false := by
  cases h with
  | non => exact .inr (.inr ⟨_, .base .non, ⟨by decide +kernel, by decide +kernel⟩, fun _ _ => rfl⟩)
  | bl b => exact .inl ⟨b, rfl⟩
  | int i => exact .inr (.inl ⟨i, rfl⟩)
  | str x => exact .inr (.inr ⟨_, .base (.str x), ⟨by decide +kernel, by decide +kernel⟩, fun _ _ => rfl⟩)
  | lst hs _ _ =>
    refine .inr (.inr ⟨"list", ?_, ⟨by decide +kernel, by decide +kernel⟩, fun _ _ => rfl⟩)
    exact .base (.lst hs)
  | tup hs _ =>
    refine .inr (.inr ⟨"tuple", ?_, ⟨by decide +kernel, by decide +kernel⟩, fun _ _ => rfl⟩)
    rcases hs with (hs | ⟨o, hs⟩) | ⟨o, _, _, hk, hc, _⟩
    · exact .base (.tup hs)
    · exact .fTuple hs
    · exact .kTuple hk hc
  | dct hs _ => exact .inr (.inr ⟨"dict", .base (.dK hs), ⟨by decide +kernel, by decide +kernel⟩, fun _ _ => rfl⟩)
theorem kit_bb : kitB "bool" "bool" = some true := by decide +kernel
theorem kit_ib : kitB "int" "bool" = some false := by decide +kernel
theorem kit_ii : kitB "int" "int" = some true := by decide +kernel
theorem kit_bi : kitB "bool" "int" = some true := by decide +kernel
/-! ## the drawer -/
def Pot (H : Hp) (p : Addr) (n : Nat) : Prop := ∃ a m c : Int, H p = some (.lst [.int a, .int m, .int c]) ∧ (0 ≤ a ∧ a.natAbs < 2 ^ 1000) ∧ (0 ≤ m ∧ m < 2305843009213693921) ∧ (0 ≤ c ∧ c ≤ n)
theorem Pot.more {H : Hp} {p : Addr} {n m : Nat} (h : Pot H p n) (l : n ≤ m) : Pot H p m := by
  obtain ⟨a, b, c, e, h1, h2, h3, h4⟩ := h
  exact ⟨a, b, c, e, h1, h2, h3, by omega⟩
/-- all but p is as it was -/
def But (p : Addr) (H H' : Hp) : Prop := ∀ b o, b ≠ p → H b = some o → H' b = some o
theorem But.refl (p : Addr) (H : Hp) : But p H H := fun _ _ _ e => e
theorem But.trans {p : Addr} {H H1 H2 : Hp} (a : But p H H1) (b : But p H1 H2) : But p H H2 := fun c o n e => b c o n (a c o n e)
theorem But.of {p : Addr} {H H' : Hp} (a : Same H H') : But p H H' := fun c o _ e => a c o e
theorem But.upd {p : Addr} {H H' : Hp} {o : HO} (a : But p H H') : But p H (upd H' p o) := fun c u n e => by rw [upd_ne n]; exact a c u n e
theorem Same.upd {H H' : Hp} {p : Addr} {o : HO} (a : Same H H') (n : H' p = none) : Same H (upd H' p o) := fun c u e => by
  have e' := a c u e
  rw [upd_ne (ne_of_none e' n)]
  exact e'
theorem But.new {q : Addr} {H H' : Hp} {p : Addr} {o : HO} (a : But q H H') (n : H' p = none) : But q H (L2.upd H' p o) := fun c u m e => by
  have e' := a c u m e
  rw [upd_ne (ne_of_none e' n)]
  exact e'
def spDraw : Sp := fun vs H Q _ => ∃ (p : Addr) (many : Int) (n : Nat), vs = [.ref p, .int many] ∧ (0 < many ∧ many < 1000) ∧ n ≤ 1000000 ∧ Pot H p n ∧
  ∀ r H', 0 ≤ r → r < many → Pot H' p (n + 1) → But p H H' → Q (.int r) H'
/-- an item of the list -/
def spAny : Sp := fun vs H Q _ => ∃ (p l : Addr) (xs : List V) (n : Nat), vs = [.ref p, .ref l] ∧ H l = some (.lst xs) ∧ l ≠ p ∧ (0 < xs.length ∧ xs.length < 1000) ∧ n ≤ 1000000 ∧ Pot H p n ∧
  ∀ x H', x ∈ xs → Pot H' p (n + 1) → But p H H' → Q x H'
/-- the drawer of a cell -/
def spPot (K : PySem.W.Frag) : Sp := fun vs H Q _ => ∃ (a : Addr) (ns : List Int) (k : Int), vs = [.ref a, .int k] ∧ SqL K H a (ns.map V.int) ∧ ns.length ≤ 63 ∧ (0 ≤ k ∧ k < 3) ∧
  ∀ p H', H p = none → Same H H' → Pot H' p 0 → Q (.ref p) H'
theorem Pot.ne {H : Hp} {p l : Addr} {n : Nat} (h : Pot H p n) (nl : H l = none) : p ≠ l := by
  obtain ⟨_, _, _, e, _⟩ := h
  exact ne_of_none e nl
theorem Pot.upd {H : Hp} {p l : Addr} {n : Nat} {o : HO} (h : Pot H p n) (ne : p ≠ l) : Pot (upd H l o) p n := by
  obtain ⟨a, m, c, e, r⟩ := h
  exact ⟨a, m, c, by rw [upd_ne ne]; exact e, r⟩
theorem Pot.new {H : Hp} {p l : Addr} {n : Nat} {o : HO} (h : Pot H p n) (nl : H l = none) : Pot (L2.upd H l o) p n := h.upd (h.ne nl)
theorem Pot.same {H H' : Hp} {p : Addr} {n : Nat} (h : Pot H p n) (s : Same H H') : Pot H' p n := by
  obtain ⟨a, m, c, e, r⟩ := h
  exact ⟨a, m, c, s _ _ e, r⟩
theorem But.updN {H H' : Hp} {p D : Addr} {o : HO} (b : But p H H') (n : H D = none) : But p H (L2.upd H' D o) := fun c u m e => by
  rw [upd_ne (ne_of_none e n)]
  exact b c u m e
theorem Same.updN {H H' : Hp} {D : Addr} {o : HO} (b : Same H H') (n : H D = none) : Same H (L2.upd H' D o) := fun c u e => by
  rw [upd_ne (ne_of_none e n)]
  exact b c u e
theorem Same.both {G H : Hp} {t : Addr} {o : HO} (s : Same G H) : Same (L2.upd G t o) (L2.upd H t o) := fun c u e => by
  by_cases h : c = t
  · subst h
    rw [upd_same] at e ⊢
    exact e
  · rw [upd_ne h] at e ⊢
    exact s c u e
theorem Same.but {G H H' : Hp} {p : Addr} (s : Same G H) (b : But p H H') (n : G p = none) : Same G H' := fun c u e => b c u (ne_of_none e n) (s c u e)
theorem But.same {p : Addr} {H H1 H2 : Hp} (a : But p H H1) (s : Same H1 H2) : But p H H2 := a.trans (But.of s)
theorem Same.one {H : Hp} {l : Addr} {o : HO} (n : H l = none) : Same H (L2.upd H l o) := Same.upd (Same.refl H) n
theorem Dq.list {K : PySem.W.Frag} {H : Hp} : ∀ {vs : List V}, (∀ v ∈ vs, ∃ d, Dq K H v d) → ∃ ds, DqAll K H vs ds
  | [], _ => ⟨[], .nil⟩
  | v :: vs, h => by
    obtain ⟨d, hd⟩ := h v (List.mem_cons_self ..)
    obtain ⟨ds, hds⟩ := Dq.list (vs := vs) fun u hu => h u (List.mem_cons_of_mem _ hu)
    exact ⟨d :: ds, .cons hd hds⟩
/-! ## small data -/
structure Sz (w k : Nat) (d : PyData) : Prop where
  lv : d.leavesShort 40 = true
  wt : d.weight ≤ w
  dp : d.depth ≤ k
  sh : d.showable = true
instance (w k : Nat) (d : PyData) : Decidable (Sz w k d) :=
  if h : d.leavesShort 40 = true ∧ d.weight ≤ w ∧ d.depth ≤ k ∧ d.showable = true then isTrue ⟨h.1, h.2.1, h.2.2.1, h.2.2.2⟩ else isFalse fun z => h ⟨z.lv, z.wt, z.dp, z.sh⟩
theorem Sz.more {w w' k k' : Nat} {d : PyData} (h : Sz w k d) (hw : w ≤ w') (hk : k ≤ k') : Sz w' k' d := ⟨h.lv, Nat.le_trans h.wt hw, Nat.le_trans h.dp hk, h.sh⟩
theorem Sz.fine {w k : Nat} {d : PyData} (h : Sz w k d) (hw : w ≤ 200000) (hk : k ≤ 60) : Fine d := by
  refine ⟨h.sh, ?_, Nat.le_trans h.dp hk⟩
  have a := PyData.shown_le 40 (by decide) d h.lv
  have b : (40 + 2) * d.weight ≤ (40 + 2) * 200000 := Nat.mul_le_mul_left _ (Nat.le_trans h.wt hw)
  rw [sizeLine_eq]
  omega
theorem Sz.all {w k : Nat} : ∀ {ds : List PyData}, (∀ d ∈ ds, Sz w k d) → PyData.leavesShortAll 40 ds = true ∧ PyData.weightAll ds ≤ (w + 1) * ds.length ∧ PyData.depthAll ds ≤ k ∧ PyData.showableAll ds = true
  | [], _ => ⟨rfl, Nat.zero_le _, Nat.zero_le _, rfl⟩
  | d :: ds, h => by
    have a := h d (List.mem_cons_self ..)
    obtain ⟨b1, b2, b3, b4⟩ := Sz.all (ds := ds) fun e he => h e (List.mem_cons_of_mem _ he)
    refine ⟨?_, ?_, ?_, ?_⟩
    · simp only [PyData.leavesShortAll, a.lv, b1, Bool.and_self]
    · simp only [PyData.weightAll, List.length_cons, Nat.mul_add, Nat.mul_one]
      have := a.wt
      omega
    · simp only [PyData.depthAll]
      exact Nat.max_le.mpr ⟨a.dp, b3⟩
    · simp only [PyData.showableAll, a.sh, b4, Bool.and_self]
theorem Sz.list {w k : Nat} {ds : List PyData} (h : ∀ d ∈ ds, Sz w k d) : Sz ((w + 1) * ds.length) (k + 1) (.list ds) := by
  obtain ⟨a, b, c, d⟩ := Sz.all h
  exact ⟨by simpa only [PyData.leavesShort] using a, by simpa only [PyData.weight] using b, by simp only [PyData.depth]; omega, by simpa only [PyData.showable] using d⟩
theorem Sz.tup {w k : Nat} {ds : List PyData} (h : ∀ d ∈ ds, Sz w k d) : Sz ((w + 1) * ds.length) (k + 1) (.tuple ds) := by
  obtain ⟨a, b, c, d⟩ := Sz.all h
  exact ⟨by simpa only [PyData.leavesShort] using a, by simpa only [PyData.weight] using b, by simp only [PyData.depth]; omega, by simpa only [PyData.showable] using d⟩
theorem small50 : ∀ m : Nat, m < 51 → Sz 40 0 (.int m) := by decide +kernel
theorem Sz.int50 {m : Int} (h0 : 0 ≤ m) (h1 : m ≤ 50) : Sz 40 0 (.int m) := by
  obtain ⟨n, rfl⟩ := Int.eq_ofNat_of_zero_le h0
  exact small50 n (by omega)
/-- values that stand in the fixed part G, with small data -/
def Gd (K : PySem.W.Frag) (w k : Nat) (G : Hp) (v : V) : Prop := ∃ d, Dq K G v d ∧ Sz w k d
theorem Gd.same {K : PySem.W.Frag} {w k : Nat} {G G' : Hp} {v : V} (s : Same G G') (h : Gd K w k G v) : Gd K w k G' v := by
  obtain ⟨d, a, b⟩ := h
  exact ⟨d, a.same s, b⟩
theorem Gd.list {K : PySem.W.Frag} {w k : Nat} {G : Hp} : ∀ {vs : List V}, (∀ v ∈ vs, Gd K w k G v) → ∃ ds, DqAll K G vs ds ∧ (∀ d ∈ ds, Sz w k d) ∧ ds.length = vs.length
  | [], _ => ⟨[], .nil, by simp, rfl⟩
  | v :: vs, h => by
    obtain ⟨d, hd, sd⟩ := h v (List.mem_cons_self ..)
    obtain ⟨ds, hds, sds, l⟩ := Gd.list (vs := vs) fun u hu => h u (List.mem_cons_of_mem _ hu)
    refine ⟨d :: ds, .cons hd hds, fun e he => ?_, by simp [l]⟩
    rcases List.mem_cons.mp he with rfl | he
    · exact sd
    · exact sds e he
/-! ## classes -/
theorem kit_own {K : PySem.W.Frag} {C : Addr} {T : String} {b : Bool} (ic : PySem.W.isClsIn K C = true) (ty : PySem.W.typeIn K (.ref C) = some (.type "type")) (sb : PySem.W.subIn K (.type T) (.ref C) = some b) : PySem.W.kitOne K (.type T) (.ref C) = some b := by
  have ic' : (PySem.W.clsIn K C).isSome = true := ic
  unfold PySem.W.kitOne PySem.W.kitCls
  rw [if_neg (by simp)]
  simp only [ic', ty]
  exact sb
theorem nf_own {K : PySem.W.Frag} {C : Addr} {T : String} (sb : PySem.W.subIn K (.type T) (.ref C) = some false) : PySem.W.notFirst K C (.type T) = true := by
  unfold PySem.W.notFirst
  rw [sb]
  simp
theorem exm_of {K : PySem.W.Frag} {A B : Addr} {b : Bool} (ex : PySem.W.subIn K (.ref B) (.type "BaseException") = some true) (ic : PySem.W.isClsIn K B = true) (ty : PySem.W.typeIn K (.ref B) = some (.type "type")) (sb : PySem.W.subIn K (.ref A) (.ref B) = some b) :
    PySem.W.exmOne K (.ref A) (.ref B) = some b := by
  have ic' : (PySem.W.clsIn K B).isSome = true := ic
  unfold PySem.W.exmOne PySem.W.kitCls
  rw [ex]
  simp only [ic', ty]
  exact sb
end Xby

set_option Elab.async false
set_option linter.all false
set_option maxRecDepth 100000
set_option maxHeartbeats 4000000
/-! # len(set(t)), t a tuple of any texts -/
namespace Xby
open PySem PySem.Spec PyProof.Rows
/-- how many different ones stand among the first i -/
def news (ys : List Str) : Nat → Nat
  | 0 => 0
  | i + 1 => if (ys.take i).any (· == ys.getD i Str.empty) then news ys i else news ys i + 1
theorem news_le (ys : List Str) : ∀ i, news ys i ≤ i
  | 0 => Nat.le_refl _
  | i + 1 => by
    have := news_le ys i
    unfold news
    split <;> omega
theorem news_all {ys : List Str} : ∀ {i : Nat}, i ≤ ys.length → (news ys i = i ↔ (ys.take i).Nodup)
  | 0, _ => by simp [news]
  | i + 1, h => by
    have hi : i < ys.length := h
    have ih := news_all (ys := ys) (i := i) (by omega)
    have le := news_le ys i
    have e1 : ys.getD i Str.empty = ys[i] := by simp [hi]
    have e2 : ys.take (i + 1) = ys.take i ++ [ys[i]] := by rw [List.take_succ, List.getElem?_eq_getElem hi]; rfl
    rw [e2, List.nodup_append]
    unfold news
    rw [e1]
    by_cases c : (ys.take i).any (· == ys[i]) = true
    · rw [if_pos c]
      obtain ⟨y, hy, he⟩ := List.any_eq_true.mp c
      obtain rfl : y = ys[i] := by simpa using he
      refine ⟨fun z => by omega, fun z => ?_⟩
      exact absurd rfl (z.2.2 _ hy _ (by simp))
    · rw [if_neg c]
      refine ⟨fun z => ⟨ih.mp (by omega), by simp, fun a ha b hb => ?_⟩, fun z => by rw [ih.mpr z.1]⟩
      obtain rfl : b = ys[i] := by simpa using hb
      intro q
      exact c (List.any_eq_true.mpr ⟨a, ha, by simpa using q⟩)
section
variable {prog : Program} {w : World} {A : Around} {R : Result → Shared → Prop} {it : Addr} {fp wr : List Addr} {G : Array GenState → Array GenState → Prop} {n : Nat} {P : Nat → Value → Prop} {St : Nat → Shared → Prop}
theorem fillTexts (W : WalksS prog w A.in1 it fp wr G n P St) (c : Addr) (nc : c ∉ fp) (ys : List Str) (len : ys.length = n) (few : n + 1 < scanBound) (its : ∀ i v, P i v → ∃ t, v = .str (ys.getD i Str.empty) t) :
    ∀ (m i : Nat) (s : Shared), n - i = m → i ≤ n → St i s → s.heap.SetOf (strKind prog w) c (fun y => (ys.take i).any (· == y)) (news ys i) →
      (∀ s1, Moved (c :: wr) G s s1 → s1.heap.SetOf (strKind prog w) c (fun y => (ys.take n).any (· == y)) (news ys n) → R (.ok (.ret .none)) s1) →
      codeAny (model prog w) A (.builtin "set.update.loop" ⟨[.ref c, .ref it], []⟩) R s := by
  have ncw : c ∉ wr := fun z => nc (W.sub _ z)
  have more : ∀ b ∈ wr, b ∈ c :: wr := fun b => List.mem_cons_of_mem _
  have kept : ∀ {s s1 : Shared} {T : Str → Bool} {k : Nat}, Moved wr G s s1 → s.heap.SetOf (strKind prog w) c T k → s1.heap.SetOf (strKind prog w) c T k := by
    rintro s s1 T k mv ⟨o, es, ep, t, g, rest⟩
    exact ⟨o, es, ep, t, mv.heap c _ ncw g, rest⟩
  intro m
  induction m with
  | zero =>
    intro i s hm hi st so fin
    obtain rfl : i = n := by omega
    refine codeAny_builtin F.entry_set_update_loop ?_
    rw [Around.under_plainId F.plain_set_update_loop _]
    change wpAny _ A.in1 (pyNext (.ref it) >>= _) _ _ s
    refine wpAny_bind (W.done s _ _ st fun s1 mv => ?_)
    change wpAny _ A.in1 (ret Value.none) _ _ s1
    exact wpAny_pure (fin s1 (mv.mono more) (kept mv so))
  | succ m ih =>
    intro i s hm hi st so fin
    have lt : i < n := by omega
    refine codeAny_builtin F.entry_set_update_loop ?_
    rw [Around.under_plainId F.plain_set_update_loop _]
    change wpAny _ A.in1 (pyNext (.ref it) >>= _) _ _ s
    refine wpAny_bind (W.item i s _ _ lt st fun v s1 pv st1 mv => ?_)
    obtain ⟨t, rfl⟩ := its i v pv
    have so1 := kept mv so
    change wpAny _ A.in1 (holding [Value.str (ys.getD i Str.empty) t] (setAdd c (.str (ys.getD i Str.empty) t)) >>= _) _ _ s1
    refine wpAny_bind (wpAny_holding ?_)
    unfold setAdd
    refine wpAny_holding ?_
    refine wpAny_bind ((strKind prog w).pyHash (k := ys.getD i Str.empty) (strKind_is _ _ _ _) ?_)
    have le := news_le ys i
    refine wpAny_setAddHashed_of (knd := strKind prog w) (s := { s1 with toks := s1.toks + 1 }) (strKind_is _ _ _ _) rfl so1 (by omega) fun h2 sb so2 => ?_
    have so3 : h2.SetOf (strKind prog w) c (fun y => (ys.take (i + 1)).any (· == y)) (news ys (i + 1)) := by
      refine SetOf_congr so2 (fun y => ?_) rfl
      have hi' : i < ys.length := by omega
      have e1 : ys.getD i Str.empty = ys[i] := by simp [hi']
      show ((ys.take i).any (· == y) || decide (y = ys.getD i Str.empty)) = _
      rw [List.take_succ, List.getElem?_eq_getElem hi', e1, List.any_append]
      congr 1
      by_cases e : y = ys[i]
      · subst e; simp
      · have e' : (ys[i] == y) = false := by simpa using fun z : ys[i] = y => e z.symm
        simp [e', e]
    refine wpAny_pure ⟨plainId_quiet F.plain_set_update_loop _, ih (i + 1) _ (by omega) lt (W.frame _ s1 _ _ st1 (Nat.le_succ _) fun b hb o e => ?_) so3 fun s3 mv3 so4 => ?_⟩
    · rw [sb.2 b fun z => nc (z ▸ hb)]
      exact e
    · refine fin s3 (Moved.trans W.gtrans ((mv.mono more).then_heap (Nat.le_succ _) fun b o hb e => ?_) mv3) so4
      rw [sb.2 b fun z => hb (z ▸ List.mem_cons_self)]
      exact e
end
section
variable {prog : Program} {w : World} {A : Around} {E : Value → Shared → Prop} {s : Shared}
/-- the new set -/
abbrev emptySet (led : Bool) : Obj := { cls := .type "set", dict := none, data := .set #[] 0 (.fresh 0 0 led) }
set_option maxHeartbeats 3200000 in
theorem set_of_texts {l : Addr} {us : Array Value} {ys : List Str} {Q : Value → Shared → Prop} (hh : A.handled = none) (hl : s.heap.IsTuple l us) (hi : StrsAre us.toList ys) (few : us.size + 1 < scanBound)
    (q : ∀ (h2 : Heap) (tk : Nat), h2.SetOf (strKind prog w) s.heap.objs.size (fun y => (ys.take us.size).any (· == y)) (news ys us.size) → (∀ b o, b < s.heap.objs.size → s.heap.get? b = some o → h2.get? b = some o) → Q (.ref s.heap.objs.size) { s with heap := h2, toks := tk }) :
    wpAny (model prog w) A (call (.type "set") [.ref l]) Q E s := by
  obtain ⟨cc, tl, mro⟩ := PySem.F.called_set.mro
  have made := PySem.F.called_set.made
  have sub := PySem.F.called_set.sub
  have nt := PySem.F.called_set.notType
  have cr := PySem.F.called_set.canCreate
  have ct := PySem.F.typeCall_set_1 (.ref l)
  refine wpAny_call (codeAny_of_tree ?_)
  change wpAny _ _ (callAny (.type "set") _) _ _ _
  refine wpAny_pure ⟨Code.quiet_builtin _ (by decide +kernel), codeAny_builtin PySem.F.entry_type_call ?_⟩
  rw [Around.under_plain (weight_type_call_type "set" [.ref l] []) rfl]
  repeat (any_goals (first | assumption | wp_step))
  refine codeAny_mono (code_set_new_1 (.ref l) (E := E) (Q₁ := fun u s1 => ∃ led : Bool, u = .ref s.heap.objs.size ∧ s1 = { s with heap := s.heap.push (emptySet led) }) fun led => ⟨led, rfl, rfl⟩) fun r s1 hr => ?_
  cases r with
  | error e => exact hr
  | ok fl =>
    cases fl with
    | ret u =>
      obtain ⟨led, rfl, rfl⟩ := hr
      have new : (s.heap.push (emptySet led)).get? s.heap.objs.size = some (emptySet led) := Heap.get?_push_size _ rfl
      have ty : Shared.TypeIs { s with heap := s.heap.push (emptySet led) } (.ref s.heap.objs.size) "set" := ⟨_, new, rfl⟩
      have lk := PySem.F.called_set.init.lookup
      have bd := PySem.F.called_set.init.bind (.ref s.heap.objs.size)
      repeat (any_goals (first | assumption | wp_step))
      refine codeAny_mono (codeAny_call_builtin (R := wants (fun r s2 => r = .none ∧ ∃ h2 tk, s2 = { s with heap := h2, toks := tk } ∧ h2.SetOf (strKind prog w) s.heap.objs.size (fun y => (ys.take us.size).any (· == y)) (news ys us.size) ∧
        (∀ b o, b < s.heap.objs.size → s.heap.get? b = some o → h2.get? b = some o)) E) PySem.F.called_set.init.plain PySem.F.entry_set_init (check_set_init_1 ty ?_)) fun r2 s2 hr2 => ?_
      · obtain ⟨⟨tc, td, tdata, tsl⟩, g, hc, nl, hd⟩ := hl
        simp only at hc hd
        subst hc hd
        have ls : l < s.heap.objs.size := Heap.lt_size g
        have g1 : (s.heap.push (emptySet led)).get? l = some { cls := .type "tuple", dict := td, data := .seq us nl, slots := tsl } := Heap.get?_push_of_some _ g
        have st := PySem.F.sub_tuple_set
        have sf := PySem.F.sub_tuple_frozenset
        have nd : (Value.type "tuple" == Value.type "dict") = false := by decide
        have tup1 : (s.heap.push (emptySet led)).IsTuple l us := ⟨_, g1, rfl, nl, rfl⟩
        unfold Builtin.«set.__init__» noKeywords Builtin.Frozenset.updateFrom
        generalize e : pyIter = it
        wp_walk
        subst e
        refine wpAny_pyIter_tuple tup1 (wpAny_bind (wpAny_runValue ?_))
        have h3 : A.in1.in1.in1.handled = none := by simp [hh]
        have ne : l ≠ (s.heap.push (emptySet led)).objs.size := by
          rw [Heap.size_push]
          exact Nat.ne_of_lt (Nat.lt_succ_of_lt ls)
        have nf : s.heap.objs.size ∉ [(s.heap.push (emptySet led)).objs.size, l] := by
          rw [Heap.size_push]
          simp only [List.mem_cons, List.not_mem_nil, or_false, not_or]
          exact ⟨Nat.ne_of_lt (Nat.lt_succ_self _), Nat.ne_of_gt ls⟩
        have len : ys.length = us.size := by rw [← StrsAre.len_eq hi, Array.length_toList]
        refine fillTexts ((Walks.tuple h3 _ l ne us).toS) s.heap.objs.size nf ys len few (fun i v hv => SS.strs_at hi i v (by rw [Array.getElem?_toList]; exact hv)) (us.size - 0) 0 _ (by omega) (Nat.zero_le _) ⟨⟨_, Heap.get?_push_size _ rfl, rfl, rfl⟩, tup1.push _⟩ ?_ ?_
        · have g2 : ((s.heap.push (emptySet led)).push { cls := .type "tuple_iterator", data := .fields #[.ref l, .int 0 0] }).get? s.heap.objs.size = some (emptySet led) := Heap.get?_push_of_some _ new
          exact SetOf_congr ((setObjOf_fresh (knd := strKind prog w) led).setOf g2 (by unfold scanBound; omega)) (fun _ => rfl) rfl
        · rintro ⟨h2, g2, d2, t2, o2⟩ mv so
          obtain rfl : g2 = s.gens := mv.gens
          obtain rfl : d2 = s.drawn := mv.drawn
          obtain rfl : o2 = s.os := mv.os
          change wpAny _ _ _ _ _ _
          refine wpAny_pure ?_
          change wpAny _ _ (ret Value.none) _ _ _
          refine wpAny_pure ⟨rfl, h2, t2, rfl, so, fun b o hb e => ?_⟩
          refine mv.heap b o ?_ (Heap.get?_push_of_some _ (Heap.get?_push_of_some _ e))
          rw [Heap.size_push]
          simp only [List.mem_cons, List.not_mem_nil, or_false, not_or]
          exact ⟨Nat.ne_of_lt hb, Nat.ne_of_lt (Nat.lt_succ_of_lt hb)⟩
      · cases r2 with
        | error e => exact hr2
        | ok fl2 =>
          cases fl2 with
          | ret r =>
            obtain ⟨rfl, h2, tk, rfl, so, k⟩ := hr2
            repeat (any_goals (first | assumption | wp_step))
            exact q _ _ so k
          | _ => exact hr2.elim
    | _ => exact hr.elim
end
end Xby
namespace Xby
open PySem PySem.Spec PyProof.Rows L2
section
variable {X : Cx}
/-- len(set(t)) -/
def tLenSetT (K : PySem.W.Frag) (ta : TE) : TE := fun σ H Q => ta σ H fun x H1 => ∃ (l : Addr) (ys : List Str), x = .ref l ∧ SqT K H1 l (ys.map V.str) ∧ ys.length ≤ 60 ∧ Q (.int (news ys ys.length)) H1
theorem pe_lenSetT {a : Expr} {ta : TE} {p p2 q pos : Pos} (hc : X.calm = true) (hg : Gl X "len") (hm : X.mg "len" = none) (hg2 : Gl X "set") (hm2 : X.mg "set" = none) (ha : PE X a ta)
    (na : starEach [a] X.env = (false, eval a X.env) :: starEach [] X.env := by rfl) : PE X (.Call (.Name "len" p) [.Call (.Name "set" p2) [a] [] q] [] pos) (tLenSetT X.K ta) := by
  constructor
  intro pins s σ H Q I h
  refine Call_ (ld_blt I hg hm boot_len (callWith_builtin1 (args_cons (Call_ (ld_blt I hg2 hm2 boot_set ?_)) rfl) rfl rfl))
  refine callWith_type1 (args_cons (thn (ha.run pins s σ H _ I h) fun v s1 ⟨x, H1, I1, r1, q1⟩ => args_nil ?_) na) na rfl
  obtain ⟨l, ys, rfl, hq, few, q1⟩ := q1
  cases r1
  obtain ⟨its, r, pl, _⟩ := I1.tuple hq
  have len : its.toArray.size = ys.length := by rw [List.size_toArray, ← r.length, List.length_map]
  have fits : its.toArray.size + 1 < scanBound := by
    rw [len]
    unfold scanBound
    omega
  refine set_of_texts (I1.ok.hd hc) pl (by simpa using strsAre_of r) fits fun h2 tk so k => ?_
  rw [len] at so
  refine args_nil ?_
  obtain ⟨o, es, ep, t, ho, ex, hd, _, _, _, hf, hn⟩ := so
  have I2 : Inv X pins σ H1 { s1 with heap := h2, toks := tk } := I1.kept fun b o e => k b o (Heap.lt_size e) e
  have le := news_le ys ys.length
  refine call_len_set ho ex hd hf (by rw [hn]; omega) ⟨.int (news ys ys.length), H1, I2.tok _, ⟨_, by rw [hn]⟩, q1⟩
theorem pe_lenSetTK (K : PySem.W.Frag) (hK : X.K = K) {a : Expr} {ta : TE} {p p2 q pos : Pos} (hc : X.calm = true) (hg : Gl X "len") (hm : X.mg "len" = none) (hg2 : Gl X "set") (hm2 : X.mg "set" = none) (ha : PE X a ta)
    (na : starEach [a] X.env = (false, eval a X.env) :: starEach [] X.env := by rfl) : PE X (.Call (.Name "len" p) [.Call (.Name "set" p2) [a] [] q] [] pos) (tLenSetT K ta) := by
  subst hK
  exact pe_lenSetT hc hg hm hg2 hm2 ha na
end
end Xby

set_option Elab.async false
set_option linter.all false
set_option maxRecDepth 100000
set_option maxHeartbeats 4000000
/-! # t[::-1], t a tuple -/
namespace Xby
open PySem PySem.Spec PyProof.Rows HT
section
variable {prog : Program} {w : World} {A : Around} {E : Value → Shared → Prop} {s : Shared}
theorem back_adjust (n : Nat) : Builtin.Slice.sliceAdjust none none (-1) (n : Int) = ((n : Int) - 1, -1) := by
  unfold Builtin.Slice.sliceAdjust
  simp
theorem back_places (n : Nat) : Builtin.Slice.slicePlaces ((n : Int) - 1) (-1) (-1) = n := by
  unfold Builtin.Slice.slicePlaces
  rw [if_neg (by decide)]
  by_cases h : (n : Int) - 1 > -1
  · rw [if_pos h]
    have : ((n : Int) - 1 - -1 - 1) / (- -1) = (n : Int) - 1 := by
      rw [show (- -1 : Int) = 1 by decide, Int.ediv_one]
      omega
    rw [this]
    omega
  · rw [if_neg h]
    omega
theorem back_applied {sl : Addr} {vl vu vs : Value} {n : Nat} {Q : Int × Int × Nat → Shared → Prop} (hs : s.heap.IsSliceOf sl vl vu vs) (pl : IsPart vl none) (pu : IsPart vu none) (ps : IsPart vs (some (-1)))
    (q : Q ((n : Int) - 1, -1, n) s) : wpAny (model prog w) A (Builtin.Slice.sliceApplied (.ref sl) (pure (n : Int))) Q E s := by
  obtain ⟨o, g, c, d⟩ := hs
  unfold Builtin.Slice.sliceApplied Builtin.Slice.sliceFields
  refine wpAny_bind (wpAny_bind (wpAny_field g d (x := vl) rfl (wpAny_bind (wpAny_field g d (x := vu) rfl (wpAny_bind (wpAny_field g d (x := vs) rfl (wpAny_pure ?_)))))))
  refine wpAny_bind (slicePart_ ps ?_)
  change wpAny _ _ (if ((-1 : Int) == 0) = true then _ else _) _ _ s
  rw [if_neg (by decide)]
  refine wpAny_bind (slicePart_ pl (wpAny_bind (slicePart_ pu (wpAny_bind (wpAny_pure ?_)))))
  change wpAny _ _ (match Builtin.Slice.sliceAdjust none none (-1) (n : Int) with | (lo, hi) => pure (lo, (-1 : Int), Builtin.Slice.slicePlaces lo hi (-1))) _ _ s
  rw [back_adjust]
  change wpAny _ _ (pure ((n : Int) - 1, (-1 : Int), Builtin.Slice.slicePlaces ((n : Int) - 1) (-1) (-1))) _ _ s
  rw [back_places]
  exact wpAny_pure q
theorem fm_congr {α β : Type} {f g : α → Option β} : ∀ {l : List α}, (∀ x ∈ l, f x = g x) → l.filterMap f = l.filterMap g
  | [], _ => rfl
  | x :: xs, h => by
    rw [List.filterMap_cons, List.filterMap_cons, h x List.mem_cons_self, fm_congr fun y hy => h y (List.mem_cons_of_mem _ hy)]
theorem back_items (us : Array Value) : ((List.range us.size).filterMap fun (k : Nat) => us[((us.size : Int) - 1 + (k : Int) * (-1)).toNat]?).toArray = us.toList.reverse.toArray := by
  have e : ((List.range us.size).filterMap fun (k : Nat) => us[((us.size : Int) - 1 + (k : Int) * (-1)).toNat]?) = (List.range us.size).filterMap ((us[·]?) ∘ fun k => us.size - 1 - k) := by
    refine fm_congr fun k hk => ?_
    have := List.mem_range.mp hk
    have : ((us.size : Int) - 1 + (k : Int) * (-1)).toNat = us.size - 1 - k := by omega
    show us[((us.size : Int) - 1 + (k : Int) * (-1)).toNat]? = us[us.size - 1 - k]?
    rw [this]
  rw [e, ← List.filterMap_map, PySem.W.krv_range, List.filterMap_reverse, PySem.W.krv_all]
theorem back_tuple {t sl : Addr} {us : Array Value} {vl vu vs : Value} {Q : Value → Shared → Prop} (ht : IsTup s.heap t us) (hs : s.heap.IsSliceOf sl vl vu vs) (pl : IsPart vl none) (pu : IsPart vu none) (ps : IsPart vs (some (-1))) (few : us.size ≤ sizeLine)
    (q : Q (.ref s.heap.objs.size) { s with heap := s.heap.push { cls := .type "tuple", data := .seq us.toList.reverse.toArray } }) : wpAny (model prog w) A (getItem (.ref t) (.ref sl)) Q E s := by
  have fits : sizeOk (.seq us.toList.reverse.toArray) := by
    show us.toList.reverse.toArray.size ≤ sizeLine
    rw [List.size_toArray, List.length_reverse, Array.length_toList]
    exact few
  have ty : s.TypeIs (.ref sl) "slice" := by
    obtain ⟨o, g, c, _⟩ := hs
    exact ⟨o, g, c⟩
  unfold getItem
  try with_reducible refine wpAny_holding ?_
  first | refine wpAny_bind (wpAny_pure ?_) | skip
  refine wpAny_bind (wpAny_sequenceKey ht.typeIs (by decide) (wpAny_bind (wpAny_callSpecial?_slot (name := Str.ofString "__getitem__") ht.typeIs slot_tuple_getitem (wpAny_call_entry slot_tuple_getitem ht.typeIs entry_tuple_getitem ?_ (args_tuple_getitem _ _)))))
  change wpAny _ _ (Builtin.Tuple.tupleItemsOf (.ref t) >>= _) _ _ s
  refine wpAny_bind (tupleItemsOf_ ht (wpAny_bind (wpAny_typeOf ty ?_)))
  rw [if_pos (by decide)]
  refine wpAny_bind (back_applied hs pl pu ps ?_)
  change wpAny _ _ (if ((us.size : Int) - 1 == 0 && (-1 : Int) == 1 && us.size == us.size) = true then _ else _) _ _ s
  rw [if_neg (by rw [show ((-1 : Int) == 1) = false by decide]; simp), back_items]
  first
    | exact wpAny_bind (m := Builtin.Tuple.tupleExact _) (wpAny_newObj_type (wpAny_pure ⟨_, rfl, wpAny_pure q⟩) fits)
    | exact wpAny_bind (wpAny_bind (m := Builtin.Tuple.tupleExact _) (wpAny_newObj_type (wpAny_pure (wpAny_pure ⟨_, rfl, wpAny_pure q⟩)) fits))
    | exact wpAny_bind (wpAny_bind (m := Builtin.Tuple.tupleExact _) (wpAny_newObj_type (wpAny_pure ⟨_, rfl, wpAny_pure q⟩) fits))
end
end Xby
namespace Xby
open PySem PySem.Spec PyProof.Rows L2
section
variable {X : Cx}
def tBackT (K : PySem.W.Frag) (te : TE) : TE := fun σ H Q => te σ H fun x H1 => ∃ a xs, x = .ref a ∧ SqT K H1 a xs ∧ ∀ p, H1 p = none → Q (.ref p) (upd H1 p (.tup xs.reverse))
theorem pe_backT {e : Expr} {te : TE} {k : Nat} {p1 p2 p3 pos : Pos} (K : PySem.W.Frag) (hK : X.K = K) (he : PE X e te) : PE X (.Subscript e (.Slice none none (some (.UnaryOp .USub (.Constant (.int 1) k p1) p2)) p3) pos) (tBackT K te) := by
  subst hK
  constructor
  intro pins s σ H Q I h
  refine Subscript_ (thn (he.run pins s σ H _ I h) fun v s1 ⟨x, H1, I1, r1, a, xs, ex, hx, q⟩ => ?_)
  subst ex
  cases r1
  have neg : PO X (some (.UnaryOp .USub (.Constant (.int 1) k p1) p2)) (tPart (tUn (rU fun i => .int (-i)) (tC (.int 1)))) := po_some (pe_un un_neg pe_int)
  refine wpAny_Slice (thn (po_none.run pins s1 σ H1 (fun o G => o = none ∧ G = H1) I1 ⟨rfl, rfl⟩) fun vl s2 ⟨l, H2, I2, pl, el, e2⟩ => ?_)
  refine thn (po_none.run pins s2 σ H2 (fun o G => o = none ∧ G = H2) I2 ⟨rfl, rfl⟩) fun vu s3 ⟨u, H3, I3, pu, eu, e3⟩ => ?_
  refine thn (neg.run pins s3 σ H3 (fun o G => o = some (-1) ∧ G = H3) I3 ⟨1, rfl, -1, rfl, rfl, rfl⟩) fun vs s4 ⟨o, H4, I4, ps, eo, e4⟩ => ?_
  subst el e2 eu e3 eo e4
  have J : Inv X pins σ H4 { s4 with heap := s4.heap.push { cls := .type "slice", data := .fields #[vl, vu, vs] } } := I4.kept (t' := s4.toks) fun b ob z => Heap.get?_push_of_some _ z
  obtain ⟨its, r, ht, hz⟩ := J.tuple hx
  have len := r.length
  change wpAny (model X.prog X.w) X.A (subscriptTail e (.Slice none none (some (.UnaryOp .USub (.Constant (.int 1) k p1) p2)) p3) (.ref a) (.ref s4.heap.objs.size)) (EP X pins σ Q) X.xe { s4 with heap := s4.heap.push { cls := .type "slice", data := .fields #[vl, vu, vs] } }
  refine tail_any (ops := [.ref a, .ref s4.heap.objs.size]) ht.typeIs slot_tuple_getitem.lookup ?_ (by with_unfolding_all rfl)
  refine back_tuple ht (Heap.IsSliceOf.new _ vl vu vs) pl pu ps (by rw [List.size_toArray]; omega) ?_
  refine ⟨.ref _, _, J.laid (t' := s4.toks) (o := .tup xs.reverse) (fun b ob z => Heap.get?_push_of_some _ z) (Nat.le_refl _) ?_, rfl, q _ (J.hok.fresh (Nat.le_refl _))⟩
  exact ⟨by rw [List.length_reverse]; exact hz, _, r.reverse, IsTup.new _ _⟩
theorem sl_tupAK (K : PySem.W.Frag) (hK : X.K = K) : SlR X (rSlA K) := by
  subst hK
  exact sl_tupA
theorem op_catAK (K : PySem.W.Frag) (hK : X.K = K) : OpR X (binaryOp .Add) (rCatA K) := by
  subst hK
  exact op_catA
theorem call_tupleK (K : PySem.W.Frag) (hK : X.K = K) : CallR X (.type "tuple") (fun xs H Q => ∃ p ys, xs = [.ref p] ∧ ((SqL K H p ys ∧ ∀ l, H l = none → Q (.ref l) (upd H l (.tup ys))) ∨ (SqT K H p ys ∧ Q (.ref p) H))) := by
  subst hK
  exact call_tuple_of
end
end Xby

set_option Elab.async false
set_option linter.all false
set_option maxRecDepth 100000
set_option maxHeartbeats 4000000
/-! # words, cells, columns, rows, as data -/
namespace Xby
open PySem L2
def lowC (c : Nat) : Bool := decide (97 ≤ c ∧ c ≤ 122)
def wordS (x : Str) : Bool := decide (1 ≤ x.length ∧ x.length ≤ 8) && x.cps.toList.all lowC
def wordD : PyData → Bool
  | .str x => wordS x
  | _ => false
def intD (lo hi : Int) : PyData → Bool
  | .int i => decide (lo ≤ i ∧ i ≤ hi)
  | _ => false
def nonD : PyData → Bool
  | .none => true
  | _ => false
def cellD (d : PyData) : Bool := nonD d || intD (-999) 999 d || wordD d
def strD : PyData → Str
  | .str x => x
  | _ => Str.empty
def colsD : PyData → Bool
  | .tuple ds => decide (1 ≤ ds.length ∧ ds.length ≤ 3) && ds.all wordD && decide (ds.map strD).Nodup
  | _ => false
def rowD (n : Nat) : PyData → Bool
  | .tuple ds => decide (ds.length = n) && ds.all cellD
  | _ => false
/-- a text among them is no great one -/
def Sh (d : PyData) : Prop := ∀ x, d = .str x → x.length ≤ 1000000
def Sh1 (d : PyData) : Prop := ∀ ds, d = .tuple ds → ∀ e ∈ ds, Sh e
def Sh2 (d : PyData) : Prop := ∀ ds, d = .tuple ds → ∀ e ∈ ds, Sh1 e
theorem le_a (c : Nat) : (!decide ((⟨#[c]⟩ : Str).cps.toList < ("a" : Str).cps.toList)) = decide (97 ≤ c) := by
  have : ("a" : Str).cps.toList = [97] := by decide +kernel
  rw [this]
  show (!decide ([c] < [97])) = _
  simp only [List.cons_lt_cons_iff, List.not_lt_nil, and_false, or_false]
  by_cases h : c < 97
  · simp [h, Nat.not_le.mpr h]
  · simp [h, Nat.not_lt.mp h]
theorem le_z (c : Nat) : (!decide (("z" : Str).cps.toList < (⟨#[c]⟩ : Str).cps.toList)) = decide (c ≤ 122) := by
  have : ("z" : Str).cps.toList = [122] := by decide +kernel
  rw [this]
  show (!decide ([122] < [c])) = _
  simp only [List.cons_lt_cons_iff, List.not_lt_nil, and_false, or_false]
  by_cases h : 122 < c
  · simp [h, Nat.not_le.mpr h]
  · simp [h, Nat.not_lt.mp h]
section
variable {K : PySem.W.Frag} {H : Hp} {v : V} {d : PyData}
theorem Dq.isStr (h : Dq K H v d) : (∃ x, v = .str x ∧ d = .str x) ∨ ∃ T : String, TyX K H v (.type T) ∧ kitB T "str" = some false ∧ wordD d = false := by
  cases h with
  | non => exact .inr ⟨_, .base .non, by decide +kernel, rfl⟩
  | bl b => exact .inr ⟨_, .base (.bl b), by decide +kernel, rfl⟩
  | int i => exact .inr ⟨_, .base (.int i), by decide +kernel, rfl⟩
  | str x => exact .inl ⟨x, rfl, rfl⟩
  | lst hs _ _ => exact .inr ⟨_, .base (.lst hs), by decide +kernel, rfl⟩
  | tup hs _ =>
    refine .inr ⟨"tuple", ?_, by decide +kernel, rfl⟩
    rcases hs with (hs | ⟨o, hs⟩) | ⟨o, _, _, hk, hc, _⟩
    · exact .base (.tup hs)
    · exact .fTuple hs
    · exact .kTuple hk hc
  | dct hs _ => exact .inr ⟨_, .base (.dK hs), by decide +kernel, rfl⟩
theorem tyTup {a : Addr} {xs : List V} (hs : SqT K H a xs) : TyX K H (.ref a) (.type "tuple") := by
  rcases hs with (hs | ⟨o, hs⟩) | ⟨o, _, _, hk, hc, _⟩
  · exact .base (.tup hs)
  · exact .fTuple hs
  · exact .kTuple hk hc
theorem Dq.isTup (h : Dq K H v d) : (∃ a xs ds, v = .ref a ∧ d = .tuple ds ∧ SqT K H a xs ∧ DqAll K H xs ds) ∨ ∃ T : String, TyX K H v (.type T) ∧ kitB T "tuple" = some false ∧ ∀ ds, d ≠ .tuple ds := by
  cases h with
  | non => exact .inr ⟨_, .base .non, by decide +kernel, by simp⟩
  | bl b => exact .inr ⟨_, .base (.bl b), by decide +kernel, by simp⟩
  | int i => exact .inr ⟨_, .base (.int i), by decide +kernel, by simp⟩
  | str x => exact .inr ⟨_, .base (.str x), by decide +kernel, by simp⟩
  | lst hs _ _ => exact .inr ⟨_, .base (.lst hs), by decide +kernel, by simp⟩
  | tup hs ha => exact .inl ⟨_, _, _, rfl, rfl, hs, ha⟩
  | dct hs _ => exact .inr ⟨_, .base (.dK hs), by decide +kernel, by simp⟩
theorem Dq.ofTup {ds : List PyData} (h : Dq K H v (.tuple ds)) : ∃ a xs, v = .ref a ∧ SqT K H a xs ∧ DqAll K H xs ds := by
  cases h with
  | tup hs ha => exact ⟨_, _, rfl, hs, ha⟩
theorem Dq.okV (h : Dq K H v d) (lo hi : Int) : okV lo hi v = intD lo hi d := by
  cases h <;> rfl
theorem DqAll.len {vs : List V} {ds : List PyData} (h : DqAll K H vs ds) : vs.length = ds.length := by
  induction vs generalizing ds with
  | nil => cases h; rfl
  | cons v vs ih =>
    cases h with
    | cons _ t => simp [ih t]
theorem DqAll.get {vs : List V} {ds : List PyData} (h : DqAll K H vs ds) : ∀ {i : Nat} {v : V}, vs[i]? = some v → ∃ d, ds[i]? = some d ∧ Dq K H v d := by
  induction vs generalizing ds with
  | nil =>
    intro i v e
    simp at e
  | cons u vs ih =>
    intro i v e
    cases h with
    | cons a t =>
      cases i with
      | zero =>
        obtain rfl : u = v := by simpa using e
        exact ⟨_, rfl, a⟩
      | succ i => exact ih t (by simpa using e)
theorem kit_ss : kitB "str" "str" = some true := by decide +kernel
theorem kit_tt : kitB "tuple" "tuple" = some true := by decide +kernel
theorem DqAll.words {vs : List V} {ds : List PyData} (h : DqAll K H vs ds) (w : ds.all wordD = true) : vs = (ds.map strD).map V.str := by
  induction vs generalizing ds with
  | nil => cases h; rfl
  | cons v vs ih =>
    cases h with
    | cons a t =>
      rw [List.all_cons, Bool.and_eq_true] at w
      rw [List.map_cons, List.map_cons, ← ih t w.2]
      congr 1
      cases a with
      | str x => rfl
      | _ => exact absurd w.1 (by simp [wordD])
end
end Xby

set_option Elab.async false
set_option linter.all false
set_option maxRecDepth 100000
set_option maxHeartbeats 4000000
/-! # parts of tuples, in one word -/
namespace Xby
open PySem L2
section
variable {K : PySem.W.Frag} {H : Hp} {a b : Addr} {xs ys : List V} {Q : VK}
theorem cut_to {i : Int} (h0 : 0 ≤ i) : cutV xs none (some i) = xs.take i.toNat := by
  obtain ⟨k, rfl⟩ := Int.eq_ofNat_of_zero_le h0
  unfold cutV
  rw [HT.sIx_none, HT.sIx_nat, List.drop_zero, Int.toNat_natCast, Nat.sub_zero]
  by_cases h : k ≤ xs.length
  · rw [Nat.min_eq_left h]
  · rw [Nat.min_eq_right (by omega), List.take_of_length_le (Nat.le_refl _), List.take_of_length_le (by omega)]
theorem cut_from {i : Int} (h0 : 0 ≤ i) : cutV xs (some i) none = xs.drop i.toNat := by
  obtain ⟨k, rfl⟩ := Int.eq_ofNat_of_zero_le h0
  unfold cutV
  rw [HT.sIx_none, HT.sIx_nat, Int.toNat_natCast]
  by_cases h : k ≤ xs.length
  · rw [Nat.min_eq_left h, List.take_of_length_le (by rw [List.length_drop]; omega)]
  · rw [Nat.min_eq_right (by omega), List.drop_of_length_le (Nat.le_refl _), List.drop_of_length_le (by omega)]
    simp
theorem cut_all {lo hi : Option Int} (h : HT.sIx xs.length 0 lo = 0 ∧ HT.sIx xs.length xs.length hi = xs.length) : cutV xs lo hi = xs := by
  unfold cutV
  rw [h.1, h.2]
  simp
/-- a part of a tuple: at some address -/
theorem part_of {lo hi : Option Int} (ha : H a = some (.tup xs)) (k : ∀ c H', Same H H' → H' c = some (.tup (cutV xs lo hi)) → Q (.ref c) H') : rSlA K (.ref a) lo hi H Q := by
  refine ⟨a, xs, rfl, SqT.of ha, fun h => ?_, fun _ p np => k p _ (Same.one np) upd_same⟩
  refine k a H (Same.refl H) ?_
  rw [cut_all h]
  exact ha
/-- a + b, tuples -/
theorem cat_of (ha : H a = some (.tup xs)) (hb : H b = some (.tup ys)) (few : xs.length + ys.length ≤ 1000) (k : ∀ c H', Same H H' → H' c = some (.tup (xs ++ ys)) → Q (.ref c) H') : rCatA K (.ref a) (.ref b) H Q := by
  refine ⟨a, b, xs, ys, rfl, rfl, SqT.of ha, SqT.of hb, ?_, fun h => ?_, fun _ h => ?_, fun _ _ p np => k p _ (Same.one np) upd_same⟩
  · have : sizeLine = 16777216 := sizeLine_eq
    omega
  · subst h
    exact k b H (Same.refl H) hb
  · subst h
    refine k a H (Same.refl H) ?_
    rw [List.append_nil]
    exact ha
end
/-! ## values without address, as data -/
def datC : V → PyData
  | .non => .none
  | .bl b => .bool b
  | .int i => .int i
  | .str x => .str x
  | _ => .none
def flatC : V → Bool
  | .non => true
  | .bl _ => true
  | .int _ => true
  | .str _ => true
  | _ => false
section
variable {K : PySem.W.Frag} {H : Hp}
theorem Dp.flat {v : V} (h : flatC v = true) : Dp K H v (datC v) := by
  cases v with
  | non => exact .non
  | bl b => exact .bl b
  | int i => exact .int i
  | str x => exact .str x
  | _ => cases h
theorem DpAll.flat {vs : List V} (h : ∀ v ∈ vs, flatC v = true) : DpAll K H vs (vs.map datC) := by
  induction vs with
  | nil => exact .nil
  | cons v vs ih => exact .cons (Dp.flat (h v List.mem_cons_self)) (ih fun u hu => h u (List.mem_cons_of_mem _ hu))
theorem Dq.flat {v : V} (h : flatC v = true) : Dq K H v (datC v) := by
  cases v with
  | non => exact .non
  | bl b => exact .bl b
  | int i => exact .int i
  | str x => exact .str x
  | _ => cases h
theorem DqAll.flat {vs : List V} (h : ∀ v ∈ vs, flatC v = true) : DqAll K H vs (vs.map datC) := by
  induction vs with
  | nil => exact .nil
  | cons v vs ih => exact .cons (Dq.flat (h v List.mem_cons_self)) (ih fun u hu => h u (List.mem_cons_of_mem _ hu))
end
/-! ## shapes -/
def Shp (k : Nat) (d : PyData) : Prop := d.canLay0 = true ∧ d.depth ≤ k
instance (k : Nat) (d : PyData) : Decidable (Shp k d) := inferInstanceAs (Decidable (_ ∧ _))
theorem Shp.shaped {k : Nat} {d : PyData} (h : Shp k d) (hk : k ≤ 64) : SeqAt.shaped d = true := by
  unfold SeqAt.shaped
  rw [h.1, Bool.true_and]
  exact decide_eq_true (Nat.le_trans h.2 hk)
theorem Shp.all {k : Nat} : ∀ {ds : List PyData}, (∀ d ∈ ds, Shp k d) → PyData.canLayAll0 ds = true ∧ PyData.depthAll ds ≤ k
  | [], _ => ⟨rfl, Nat.zero_le _⟩
  | d :: ds, h => by
    obtain ⟨a, b⟩ := h d List.mem_cons_self
    obtain ⟨c, e⟩ := Shp.all (ds := ds) fun x hx => h x (List.mem_cons_of_mem _ hx)
    refine ⟨?_, ?_⟩
    · simp only [PyData.canLayAll0, a, c, Bool.and_self]
    · simp only [PyData.depthAll]
      exact Nat.max_le.mpr ⟨b, e⟩
theorem Shp.tup {k : Nat} {ds : List PyData} (h : ∀ d ∈ ds, Shp k d) : Shp (k + 1) (.tuple ds) := by
  obtain ⟨a, b⟩ := Shp.all h
  refine ⟨by simpa only [PyData.canLay0] using a, ?_⟩
  simp only [PyData.depth]
  omega
/-! ## the text shown tells data apart; == of it is equality -/
theorem cps_app (a b : Str) : (a ++ b).cps = a.cps ++ b.cps := rfl
def FrP (d e : PyData) : Prop := ∀ r q : List Nat, d.shown.cps.toList ++ r = e.shown.cps.toList ++ q → d = e ∧ r = q
inductive FrPs : List PyData → List PyData → Prop
  | nil : FrPs [] []
  | cons {d e : PyData} {ds es : List PyData} : FrP d e → FrPs ds es → FrPs (d :: ds) (e :: es)
theorem join_cons2 (x y : Str) (r : List Str) : (Str.join ", " (x :: y :: r)).cps.toList = x.cps.toList ++ ((", " : Str).cps.toList ++ (Str.join ", " (y :: r)).cps.toList) := by
  show ((x ++ ", ") ++ Str.join ", " (y :: r) : Str).cps.toList = _
  rw [cps_app, cps_app, Array.toList_append, Array.toList_append, List.append_assoc]
theorem FrPs.join {ds es : List PyData} (h : FrPs ds es) : ∀ r q : List Nat, (Str.join ", " (PyData.shownAll ds)).cps.toList ++ r = (Str.join ", " (PyData.shownAll es)).cps.toList ++ q → ds = es ∧ r = q := by
  induction h with
  | nil => exact fun r q z => ⟨rfl, z⟩
  | @cons d e ds es h1 h2 ih =>
    cases h2 with
    | nil =>
      intro r q z
      obtain ⟨a, b⟩ := h1 r q z
      exact ⟨by rw [a], b⟩
    | @cons d2 e2 ds2 es2 h3 h4 =>
      intro r q z
      have e1 : (Str.join ", " (PyData.shownAll (d :: d2 :: ds2))).cps.toList = d.shown.cps.toList ++ ((", " : Str).cps.toList ++ (Str.join ", " (PyData.shownAll (d2 :: ds2))).cps.toList) := join_cons2 _ _ _
      have e2 : (Str.join ", " (PyData.shownAll (e :: e2 :: es2))).cps.toList = e.shown.cps.toList ++ ((", " : Str).cps.toList ++ (Str.join ", " (PyData.shownAll (e2 :: es2))).cps.toList) := join_cons2 _ _ _
      rw [e1, e2, List.append_assoc, List.append_assoc, List.append_assoc, List.append_assoc] at z
      obtain ⟨a, b⟩ := h1 _ _ z
      obtain ⟨a2, b2⟩ := ih _ _ (List.append_cancel_left b)
      exact ⟨by rw [a, a2], b2⟩
theorem FrPs.len {ds es : List PyData} (h : FrPs ds es) : (PyData.shownAll ds).length = (PyData.shownAll es).length := by
  induction h with
  | nil => rfl
  | cons _ _ ih => exact congrArg (· + 1) ih
theorem FrPs.tup {ds es : List PyData} (h : FrPs ds es) : FrP (.tuple ds) (.tuple es) := by
  intro r q z
  have t : ∀ ds : List PyData, (PyData.shown (.tuple ds)).cps.toList = ("(" : Str).cps.toList ++ ((Str.join ", " (PyData.shownAll ds)).cps.toList ++ (if (PyData.shownAll ds).length == 1 then ",)" else ")" : Str).cps.toList) := fun ds => by
    simp only [PyData.shown]
    unfold tupleText
    rw [cps_app, cps_app, Array.toList_append, Array.toList_append, List.append_assoc]
    split <;> rfl
  rw [t, t, h.len, List.append_assoc, List.append_assoc, List.append_assoc, List.append_assoc] at z
  obtain ⟨a, b⟩ := h.join _ _ (List.append_cancel_left z)
  exact ⟨by rw [a], List.append_cancel_left b⟩
theorem FrP.shown {d e : PyData} (h : FrP d e) : d.shown = e.shown ↔ d = e := by
  refine ⟨fun z => ?_, fun z => by rw [z]⟩
  exact (h [] [] (by rw [z])).1
theorem FrP.of_not {d e : PyData} (h1 : d.shown.cps.toList.isPrefixOf e.shown.cps.toList = false) (h2 : e.shown.cps.toList.isPrefixOf d.shown.cps.toList = false) : FrP d e := by
  intro r q z
  rcases List.append_eq_append_iff.mp z with ⟨a, ha, _⟩ | ⟨a, ha, _⟩
  · rw [ha, List.isPrefixOf_iff_prefix.mpr (List.prefix_append _ _)] at h1
    cases h1
  · rw [ha, List.isPrefixOf_iff_prefix.mpr (List.prefix_append _ _)] at h2
    cases h2
theorem FrP.refl (d : PyData) : FrP d d := fun _ _ z => ⟨rfl, List.append_cancel_left z⟩
def EqP (d e : PyData) : Prop := PyData.eqv d e = true ↔ d = e
inductive EqPs : List PyData → List PyData → Prop
  | nil : EqPs [] []
  | cons {d e : PyData} {ds es : List PyData} : EqP d e → EqPs ds es → EqPs (d :: ds) (e :: es)
theorem EqPs.all {ds es : List PyData} (h : EqPs ds es) : PyData.eqvAll ds es = true ↔ ds = es := by
  induction h with
  | nil => simp [PyData.eqvAll]
  | cons a _ ih =>
    simp only [PyData.eqvAll, Bool.and_eq_true, List.cons.injEq]
    rw [ih]
    exact and_congr_left' a
theorem EqPs.tup {ds es : List PyData} (h : EqPs ds es) : EqP (.tuple ds) (.tuple es) := by
  unfold EqP
  simp only [PyData.eqv, PyData.tuple.injEq]
  exact h.all
def Plain : PyData → Bool
  | .none => true
  | .int _ => true
  | .str _ => true
  | _ => false
theorem EqP.plain {d e : PyData} (hd : Plain d = true) (he : Plain e = true) : EqP d e := by
  unfold EqP
  cases d <;> cases e <;> first | cases hd; done | cases he; done | simp [PyData.eqv]
end Xby
namespace Xby
theorem FrPs.map {α : Type} {f : α → PySem.PyData} : ∀ {l k : List α}, l.length = k.length → (∀ x ∈ l, ∀ y ∈ k, FrP (f x) (f y)) → FrPs (l.map f) (k.map f)
  | [], [], _, _ => .nil
  | x :: l, y :: k, e, h => .cons (h x List.mem_cons_self y List.mem_cons_self) (FrPs.map (by simpa using e) fun a ha b hb => h a (List.mem_cons_of_mem _ ha) b (List.mem_cons_of_mem _ hb))
theorem EqPs.map {α : Type} {f : α → PySem.PyData} : ∀ {l k : List α}, l.length = k.length → (∀ x ∈ l, ∀ y ∈ k, EqP (f x) (f y)) → EqPs (l.map f) (k.map f)
  | [], [], _, _ => .nil
  | x :: l, y :: k, e, h => .cons (h x List.mem_cons_self y List.mem_cons_self) (EqPs.map (by simpa using e) fun a ha b hb => h a (List.mem_cons_of_mem _ ha) b (List.mem_cons_of_mem _ hb))
end Xby

set_option Elab.async false
set_option linter.all false
set_option maxRecDepth 100000
set_option maxHeartbeats 4000000
/-! # try: .. with several clauses, each 'except X as n' of one name n -/
namespace Xby
open PySem PySem.Spec PyProof.Rows L2
abbrev Suite := Addr → Value → Option Addr → TS
/-- behind a suite the name goes -/
def goes (i : Nat) (D : Ends) : Ends := { nx := fun σ H => D.nx (σ.set i none) H, rt := D.rt, bk := fun σ H => D.bk (σ.set i none) H, ct := fun σ H => D.ct (σ.set i none) H }
def wEach (K : PySem.W.Frag) (i : Nat) (out : WX) (D : Ends) : List (Value × Suite) → WX
  | [] => out
  | (c, ts) :: r => fun cls d σ H => ∃ b, PySem.W.exmOne K cls c = some b ∧ (b = true → ∀ a, H a = none → ts a cls d (goes i D) (σ.set i (some (.ref a))) H) ∧ (b = false → wEach K i out D r cls d σ H)
inductive Clauses (X : Cx) (n : Str) : List ExceptHandler → List (Value × Suite) → Prop
  | nil : Clauses X n [] []
  | cons {x : Str} {c : Value} {ts : Suite} {st : Stmt} {suite : List Stmt} {p q : Pos} {hds : List ExceptHandler} {l : List (Value × Suite)} (hc : Names X x c)
      (hsu : ∀ (a : Addr) (oe : Obj) (cls : Value) (d : Option Addr) (pn : List (Addr × Obj)), Zc cls d oe → (∃ vs, oe.data = .fields vs) → PSs (X.suite a ((a, oe) :: pn)) (st :: suite) (ts a cls d)) (r : Clauses X n hds l) :
      Clauses X n (.ExceptHandler (some (.Name x p)) (some n) (st :: suite) q :: hds) ((c, ts) :: l)
section
variable {X : Cx} {n : Str} {i : Nat} {body : List Stmt} {h₀ : ExceptHandler} {hds : List ExceptHandler} {l : List (Value × Suite)} {pos : Pos} {tb : WX → TS} {out : WX}
/-- what one asks of the clauses where an exception e stands -/
def Handled (X : Cx) (pins : List (Addr × Obj)) (D : Ends) (hds : List ExceptHandler) (e : Value) (s : Shared) : Prop :=
  wpAny (model X.prog X.w) X.A (handleBy e X.env hds) (SP X pins D) X.xe s
theorem ps_try_each (stk : X.stack = X.env :: X.outer) (frm : X.env.frame = some X.env.locals) (nd : X.N.Nodup) (at_i : X.N[i]? = some n) (loc : X.env.kindOf n = some .local) (tk : Takes X out)
    (bodyOk : ∀ (W : WX) (pn : List (Addr × Obj)) (xe : Value → Shared → Prop), Takes (X.tr pn xe) W → PassesOwn (model X.prog X.w) X.A X.env xe → PSs (X.tr pn xe) body (tb W))
    (cl : Clauses X n (h₀ :: hds) l) : PS X (.Try body (h₀ :: hds) [] [] pos) (fun D σ H => tb (wEach X.K i out D l) D σ H) := by
  constructor
  intro pins s σ H D I h
  have ok := I.ok
  have frs' : X.A.frames = some (X.env :: X.outer) := by rw [ok.frames, stk]
  have vis : Loc X.env.scope n := .inl loc
  refine wpAny_Try_except ?_
  have B := bodyOk (wEach X.K i out D l) (X.pn ++ pins) (fun e s1 => wpAny (model X.prog X.w) X.A (noteFrame e X.env) (fun _ s2 => wpAny (model X.prog X.w) X.A (setFlight e none) (fun _ s3 => Handled X pins D (h₀ :: hds) e s3) X.xe s2) X.xe s1)
    (fun u s1 xx => ?_) PassesOwn.looking
  · refine wpAny_mono (B.run [] s σ H D (I.toTry _) h) (fun f s1 z => ?_) fun _ _ z => z
    cases f with
    | next =>
      obtain ⟨σ1, H1, J, q⟩ := z
      exact wpAny_execs_nil ⟨σ1, H1, J.ofTry ok, q⟩
    | brk =>
      obtain ⟨σ1, H1, J, q⟩ := z
      exact ⟨σ1, H1, J.ofTry ok, q⟩
    | cont =>
      obtain ⟨σ1, H1, J, q⟩ := z
      exact ⟨σ1, H1, J.ofTry ok, q⟩
    | ret u =>
      obtain ⟨v, σ1, H1, J, r, q⟩ := z
      exact ⟨v, σ1, H1, J.ofTry ok, r, q⟩
  obtain ⟨a, F, sI, ps, σ1, H1, cls, d, rfl, J0, nb, up, sky, na, os, ag, wish⟩ := xx
  have J : Inv X pins σ1 H1 sI := J0.ofTry ok
  have sky2 : Sky F (X.env :: X.outer) a (Zc cls d) X.env.locals s1.heap := by
    rw [← stk]
    exact sky
  change wpAny (model X.prog X.w) X.A (noteFrame (.ref a) X.env) _ _ _
  refine Sky.land Zc.steady frs' frm sky2 fun h3 fl3 up3 => ?_
  have J3 : Inv X pins σ1 H1 { s1 with heap := h3 } := J.landed nb fl3.1 (up.trans up3) os ag
  obtain ⟨oe3, vs3, g3, z3, d3⟩ := fl3.there
  have nfr : a ∉ frs (X.env :: X.outer) := fun mem => by
    obtain ⟨_, o2, g2, isnt⟩ := fl3.2.2.1.mem mem
    rw [g3] at g2
    cases g2
    exact isnt _ d3
  have nL : a ≠ X.env.locals := fun z => nfr (List.mem_filterMap.mpr ⟨X.env, List.mem_cons_self, by rw [frm, z]⟩)
  have nF : a ∉ X.fs := fun mem => by
    obtain ⟨e, he, q⟩ := List.mem_filterMap.mp mem
    exact nfr (List.mem_filterMap.mpr ⟨e, List.mem_cons_of_mem _ he, q⟩)
  have S3 := J3.suite g3 d3 na nL nF
  have all : ∀ {hs : List ExceptHandler} {k : List (Value × Suite)}, Clauses X n hs k → wEach X.K i out D k cls d σ1 H1 → Handled X pins D hs (.ref a) { s1 with heap := h3 } := by
    intro hs k ck
    induction ck with
    | nil =>
      intro w
      refine wpAny_handleBy_nil ?_
      obtain ⟨_, _, _, oe, vs, T, oT, ts', he, hz, hd, h1, hr⟩ := id fl3
      unfold PySem.passOn
      refine wpAny_bind (wpAny_field he hd h1 ?_)
      rw [if_neg (by simp : ¬ ((Value.ref T == Value.none) = true))]
      have on : wpAny (model X.prog X.w) X.A (setFlight (.ref a) X.env.frame) (fun _ s4 => wpAny (model X.prog X.w) X.A (throw (.ref a) : Sem Flow) (SP X pins D) X.xe s4) X.xe { s1 with heap := h3 } := by
        rw [frm]
        refine HandSPX.setFlight_upZ fl3 fun h4 fl4 up4 => wpAny_throw (tk _ _ ⟨a, F, sI, pins, σ1, H1, cls, d, rfl, J, nb, (up.trans up3).trans up4, .inr (.inr ?_), na, os, ag, w⟩)
        rw [stk]
        exact fl4
      first
        | exact wpAny_bind (wpAny_pure (wpAny_bind on))
        | exact wpAny_bind on
    | @cons x c ts st suite p q hs2 k2 named suiteOk rest ih =>
      rintro ⟨b, exm, yes, no⟩
      refine wpAny_handleBy_cons (codeAny_handlers_test ?_) (by intro z; cases z)
      have looks : PySem.W.Looks (model X.prog X.w) h3 (typeOf (.ref a)) cls := fun A Q E s k z => wpAny_typeOf_ref (k _ _ g3) (by rw [z3.1]; exact z)
      have isOne := PySem.W.exm_one (M := model X.prog X.w) J3.kIn looks exm
      have name : ∀ {Q : Value → Shared → Prop} {E : Value → Shared → Prop}, Q c { s1 with heap := h3 } → wpAny (model X.prog X.w) (X.A.mark (some (.ref a))) (eval (.Name x p) X.env) Q E { s1 with heap := h3 } := fun {Q E} z => by
        obtain ⟨gl, db, m | ⟨m, bv, nn⟩⟩ := named
        · exact ld_glob (X := X.suite a ((a, oe3) :: (X.pn ++ pins))) S3 gl m z db
        · exact ld_blt (X := X.suite a ((a, oe3) :: (X.pn ++ pins))) S3 gl m bv z nn db
      refine name (isOne.here ?_)
      cases b with
      | false =>
        change wpAny _ X.A (handleBy (.ref a) X.env hs2) _ _ _
        exact ih (no rfl)
      | true =>
        refine codeAny_handlers_suite_as (HandSPX.lands_againZ fl3 fun h4 fl4 up4 => ?_)
        have J4 : Inv X pins σ1 H1 { s1 with heap := h4 } := J.landed nb fl4.1 ((up.trans up3).trans up4) os ag
        obtain ⟨oe4, vs4, g4, z4, d4⟩ := fl4.there
        refine store_ok (X := X.suite a ((a, oe4) :: (X.pn ++ pins))) (v := .ref a) (J4.suite g4 d4 na nL nF) nd at_i vis rfl (fun s5 S5 => ?_) (.inr loc)
        refine wpAny_mono ((suiteOk a oe4 cls d (X.pn ++ pins) z4 ⟨_, d4⟩).run [] s5 _ H1 _ S5 (yes rfl a na)) (fun f s6 z => ?_) fun _ _ z => z.elim
        have last : ∀ {σ6 : L2.St} {H6 : Hp} {Q : Shared → Prop}, Inv (X.suite a ((a, oe4) :: (X.pn ++ pins))) [] σ6 H6 s6 → (∀ s7, Inv X pins (σ6.set i none) H6 s7 → Q s7) →
            wpAny (model X.prog X.w) X.A (do bindName X.env n .none; unbindBehindTheSuite X.env n q) (fun _ s7 => Q s7) X.xe s6 := fun {σ6 H6 Q} S6 hq => gone_ok (S6.unsuite ok) nd at_i loc hq
        cases f with
        | next =>
          obtain ⟨σ6, H6, S6, z6⟩ := z
          exact last S6 fun s7 J7 => ⟨_, _, J7, z6⟩
        | brk =>
          obtain ⟨σ6, H6, S6, z6⟩ := z
          exact last S6 fun s7 J7 => ⟨_, _, J7, z6⟩
        | cont =>
          obtain ⟨σ6, H6, S6, z6⟩ := z
          exact last S6 fun s7 J7 => ⟨_, _, J7, z6⟩
        | ret u =>
          obtain ⟨v6, σ6, H6, S6, r6, z6⟩ := z
          exact last S6 fun s7 J7 => ⟨_, _, _, J7, r6, z6⟩
  exact all cl wish
end
end Xby

set_option Elab.async false
set_option linter.all false
set_option maxRecDepth 100000
set_option maxHeartbeats 4000000
/-! # for laws of any value: making under a try, list(..), the heap without the drawer, sizes -/
namespace Xby
open PySem PySem.Spec PyProof.Rows L2
section
variable {X : Cx} {CX : CXT} {k : Nat} {f C : Addr} {fd : FuncData} {ps : List Str} {sp : Sp} {x : Str} {p pos : Pos} {e : Expr} {es : List Expr} {t : TA}
theorem run_makeS {pins : List (Addr × Obj)} {σ : L2.St} {H : Hp} {s : Shared} {Q : VK} {E : XK} {us : List Value} {vs : List V} (M : Mk X.K C f) (F : FnOk X.prog X.w X.K X.mg X.base CX k f fd ps sp) (room : Room (k + 1) X.A) (bd : Binds X.K fd ps [])
    (out : PassesAt CX X σ E) (I : Inv X pins σ H s) (r : Vals vs us)
    (q : ∀ y dy, H y = none → H dy = none → dy ≠ y → sp (.ref y :: vs) (upd (upd H dy (.own y)) y (.ins C dy [])) (fun v H2 => v = .non ∧ Q (.ref y) H2) E) :
    wpAny (model X.prog X.w) X.A (call (.ref C) us) (EP X pins σ Q) X.xe s := by
  obtain ⟨y, ey⟩ : ∃ y, y = s.heap.objs.size + 1 := ⟨_, rfl⟩
  have q0 := q (s.heap.objs.size + 1) s.heap.objs.size (I.hok.fresh (Nat.le_succ _)) (I.hok.fresh (Nat.le_refl _)) (Nat.ne_of_lt (Nat.lt_succ_self _))
  have J := Inv.made (C := C) I
  have rv : Vals (V.ref (s.heap.objs.size + 1) :: vs) (Value.ref (s.heap.objs.size + 1) :: us) := .cons rfl r
  have len : (Value.ref (s.heap.objs.size + 1) :: us).length = ps.length := rv.length.symm.trans (F.len _ _ _ _ q0)
  have bn := bd _ (Value.ref (s.heap.objs.size + 1) :: us) J.kIn (by rw [List.append_nil]; exact len)
  rw [List.append_nil] at bn
  have go := F.run _ X.stack _ _ ⟨Value.ref (s.heap.objs.size + 1) :: us, []⟩ (Value.ref (s.heap.objs.size + 1) :: us) _ _ E (room.make C us []) (J.env0.make C us []) bn rv q0
  refine wpAny_call (make_map (f := f) I.kIn M.makes M.init (beq_iff_eq.mp M.fn) (codeAny_mono go fun r s1 z => ?_))
  cases r with
  | error e => exact out pins _ _ e s1 J z
  | ok fl =>
    cases fl with
    | ret u =>
      obtain ⟨v, H1, J1, rv1, rfl, q1⟩ := J.after z
      exact ⟨rv1, V.ref (s.heap.objs.size + 1), H1, J1, rfl, q1⟩
    | next => exact z.elim
    | brk => exact z.elim
    | cont => exact z.elim
def tMakeS (C : Addr) (sp : Sp) (E : L2.St → XK) (t : TA) : TE := fun σ H Q => t σ H fun vs H1 => ∀ y dy, H1 y = none → H1 dy = none → dy ≠ y → sp (.ref y :: vs) (upd (upd H1 dy (.own y)) y (.ins C dy [])) (fun v H2 => v = .non ∧ Q (.ref y) H2) (E σ)
theorem pe_makeS {E : L2.St → XK} (M : Mk X.K C f) (F : FnOk X.prog X.w X.K X.mg X.base CX k f fd ps sp) (room : Room (k + 1) X.A) (gl : Gl X x) (at_x : X.mg x = some (.ref C)) (bd : Binds X.K fd ps []) (out : ∀ σ, PassesAt CX X σ (E σ)) (args : PA X (e :: es) t)
    (db : (x == ("__debug__" : Str)) = false := by decide) (he : starEach (e :: es) X.env = (false, eval e X.env) :: starEach es X.env := by rfl) (hpl : (backTo pos (starEach es X.env)).any (·.1) = false := by rfl) :
    PE X (.Call (.Name x p) (e :: es) [] pos) (tMakeS C sp E t) := by
  constructor
  intro pins s σ H Q I h
  refine wpAny_Call_Name_kw (ld_glob I gl at_x ?_ db)
  exact PySem.W.callWith_K (h₀ := X.base) I.ok.mod.kin M.kp (thn (args.run pos pins s σ H _ I h) fun us s1 ⟨vs, H1, I1, r, q⟩ => ⟨I1.kIn, run_makeS M F room bd (out σ) I1 r q⟩) he hpl
/-- list(t), t a tuple; it is not sys.modules -/
theorem call_listT (K : PySem.W.Frag) (hK : X.K = K) : CallR X (.type "list") (fun xs H Q => ∃ p ys, xs = [.ref p] ∧ SqT K H p ys ∧ ∀ l, H l = none → sysModules ≠ l → Q (.ref l) (upd H l (.lst ys))) := by
  subst hK
  rintro pins s σ H xs us Q I r ⟨p, ys, rfl, hq, q⟩
  obtain ⟨u, rfl, rx⟩ := vals1 r
  cases rx
  obtain ⟨its, rv, pl, few⟩ := I.tuple hq
  have len := rv.length
  obtain ⟨o, g, c, n, d⟩ := pl
  refine call_list_seq p (.inr rfl) g c d (fun h2 c2 kp e => ?_) (by simp only [List.size_toArray] <;> omega)
  have J := I.laid (o := .lst ys) (t' := s.toks) kp (Nat.le_refl _) ⟨few, its, c2, rv, e⟩
  exact ⟨.ref s.heap.objs.size, _, J, rfl, q _ (I.hok.fresh (Nat.le_refl _)) (Nat.ne_of_lt (mods_lt I))⟩
end
/-! ## the heap without the drawer -/
def wo (p : Addr) (H : Hp) : Hp := fun b => if b = p then none else H b
section
variable {p a : Addr} {H H' : Hp} {o : HO}
theorem wo_same : Same (wo p H) H := fun b o e => by
  unfold wo at e
  split at e
  · cases e
  · exact e
theorem wo_at (n : a ≠ p) (e : H a = some o) : wo p H a = some o := by
  unfold wo
  rw [if_neg n]
  exact e
theorem wo_p : wo p H p = none := if_pos rfl
theorem wo_but (b : But p H H') : Same (wo p H) (wo p H') := fun c u e => by
  have n : c ≠ p := fun z => by rw [z, wo_p] at e; cases e
  exact wo_at n (b c u n (wo_same c u e))
end
/-! ## sizes, added up -/
structure Szs (w k : Nat) (ds : List PyData) : Prop where
  lv : PyData.leavesShortAll 40 ds = true
  wt : PyData.weightAll ds ≤ w
  dp : PyData.depthAll ds ≤ k
  sh : PyData.showableAll ds = true
theorem lvA : ∀ xs ys : List PyData, PyData.leavesShortAll 40 (xs ++ ys) = (PyData.leavesShortAll 40 xs && PyData.leavesShortAll 40 ys)
  | [], ys => by simp [PyData.leavesShortAll]
  | x :: xs, ys => by simp only [List.cons_append, PyData.leavesShortAll, lvA xs ys, Bool.and_assoc]
theorem wtA : ∀ xs ys : List PyData, PyData.weightAll (xs ++ ys) = PyData.weightAll xs + PyData.weightAll ys
  | [], ys => by simp [PyData.weightAll]
  | x :: xs, ys => by simp only [List.cons_append, PyData.weightAll, wtA xs ys]; omega
theorem dpA : ∀ xs ys : List PyData, PyData.depthAll (xs ++ ys) = max (PyData.depthAll xs) (PyData.depthAll ys)
  | [], ys => by simp [PyData.depthAll]
  | x :: xs, ys => by simp only [List.cons_append, PyData.depthAll, dpA xs ys]; omega
theorem shA : ∀ xs ys : List PyData, PyData.showableAll (xs ++ ys) = (PyData.showableAll xs && PyData.showableAll ys)
  | [], ys => by simp [PyData.showableAll]
  | x :: xs, ys => by simp only [List.cons_append, PyData.showableAll, shA xs ys, Bool.and_assoc]
section
variable {w v k : Nat} {d : PyData} {xs ys ds : List PyData}
theorem Szs.add (a : Szs w k xs) (b : Szs v k ys) : Szs (w + v) k (xs ++ ys) := ⟨by rw [lvA, a.lv, b.lv]; rfl, by rw [wtA]; exact Nat.add_le_add a.wt b.wt, by rw [dpA]; exact Nat.max_le.mpr ⟨a.dp, b.dp⟩, by rw [shA, a.sh, b.sh]; rfl⟩
theorem Szs.parts (a : Szs w k (xs ++ ys)) : Szs w k xs ∧ Szs w k ys := by
  obtain ⟨a1, a2, a3, a4⟩ := a
  rw [lvA, Bool.and_eq_true] at a1
  rw [wtA] at a2
  rw [dpA] at a3
  rw [shA, Bool.and_eq_true] at a4
  exact ⟨⟨a1.1, by omega, by omega, a4.1⟩, ⟨a1.2, by omega, by omega, a4.2⟩⟩
theorem Szs.more {w' k' : Nat} (a : Szs w k xs) (hw : w ≤ w') (hk : k ≤ k') : Szs w' k' xs := ⟨a.lv, Nat.le_trans a.wt hw, Nat.le_trans a.dp hk, a.sh⟩
theorem Szs.nil : Szs 0 0 [] := ⟨rfl, Nat.le_refl _, Nat.le_refl _, rfl⟩
theorem Szs.one (a : Sz w k d) : Szs (w + 1) k [d] := ⟨by simp [PyData.leavesShortAll, a.lv], by have := a.wt; simp only [PyData.weightAll]; omega, by have := a.dp; simp only [PyData.depthAll]; omega, by simp [PyData.showableAll, a.sh]⟩
theorem Szs.take (a : Szs w k xs) (n : Nat) : Szs w k (xs.take n) := by
  rw [← List.take_append_drop n xs] at a
  exact a.parts.1
theorem Szs.drop (a : Szs w k xs) (n : Nat) : Szs w k (xs.drop n) := by
  rw [← List.take_append_drop n xs] at a
  exact a.parts.2
theorem Szs.mem (a : Szs w k xs) (h : d ∈ xs) : Sz w k d := by
  obtain ⟨l, r, rfl⟩ := List.append_of_mem h
  have b := (Szs.parts (xs := l) (ys := d :: r) a).2
  have c := (Szs.parts (xs := [d]) (ys := r) b).1
  obtain ⟨c1, c2, c3, c4⟩ := c
  simp only [PyData.leavesShortAll, PyData.weightAll, PyData.depthAll, PyData.showableAll, Bool.and_true] at c1 c2 c3 c4
  exact ⟨c1, by omega, by omega, c4⟩
theorem wtR : ∀ xs : List PyData, PyData.weightAll xs.reverse = PyData.weightAll xs
  | [] => rfl
  | x :: xs => by
    rw [List.reverse_cons, wtA, wtR xs]
    simp only [PyData.weightAll]
    omega
theorem Szs.rev (a : Szs w k xs) : Szs w k xs.reverse := by
  have b : ∀ {ys : List PyData}, Szs w k ys → PyData.leavesShortAll 40 ys.reverse = true ∧ PyData.depthAll ys.reverse ≤ k ∧ PyData.showableAll ys.reverse = true := by
    intro ys
    induction ys with
    | nil => exact fun _ => ⟨rfl, Nat.zero_le _, rfl⟩
    | cons y ys ih =>
      intro s
      obtain ⟨s1, s2⟩ := Szs.parts (xs := [y]) (ys := ys) s
      obtain ⟨i1, i2, i3⟩ := ih s2
      rw [List.reverse_cons, lvA, dpA, shA, i1, i3, s1.lv, s1.sh]
      exact ⟨rfl, Nat.max_le.mpr ⟨i2, s1.dp⟩, rfl⟩
  obtain ⟨b1, b2, b3⟩ := b a
  exact ⟨b1, by rw [wtR]; exact a.wt, b2, b3⟩
theorem Szs.tup (a : Szs w k ds) : Sz w (k + 1) (.tuple ds) := ⟨by simpa only [PyData.leavesShort] using a.lv, by simpa only [PyData.weight] using a.wt, by have := a.dp; simp only [PyData.depth]; omega, by simpa only [PyData.showable] using a.sh⟩
theorem Szs.lst (a : Szs w k ds) : Sz w (k + 1) (.list ds) := ⟨by simpa only [PyData.leavesShort] using a.lv, by simpa only [PyData.weight] using a.wt, by have := a.dp; simp only [PyData.depth]; omega, by simpa only [PyData.showable] using a.sh⟩
theorem Sz.items (a : Sz w k (.tuple ds)) : ∃ j, k = j + 1 ∧ Szs w j ds := by
  obtain ⟨a1, a2, a3, a4⟩ := a
  simp only [PyData.leavesShort, PyData.weight, PyData.depth, PyData.showable] at a1 a2 a3 a4
  exact ⟨k - 1, by omega, a1, a2, by omega, a4⟩
theorem Sz.dictA (a : Sz w k d) : Sz (w + 3) (k + 1) (.dict [(.str "a", d)]) := by
  have l : (PyData.str "a").leavesShort 40 = true := by decide +kernel
  have z : (PyData.str "a").weight = 1 := by decide +kernel
  have dd : (PyData.str "a").depth = 0 := by decide +kernel
  have ss : (PyData.str "a").showable = true := by decide +kernel
  obtain ⟨a1, a2, a3, a4⟩ := a
  refine ⟨?_, ?_, ?_, ?_⟩
  · simp only [PyData.leavesShort, PyData.leavesShortKv] at l ⊢
    simp only [l, a1, Bool.and_self]
  · simp only [PyData.weight, PyData.weightKv] at z ⊢
    omega
  · simp only [PyData.depth, PyData.depthKv] at dd ⊢
    omega
  · simp only [PyData.showable, PyData.showableKv] at ss ⊢
    simp only [a4, Bool.and_self]
theorem Sz.short (a : Sz w k d) (hw : w ≤ 1000000) : Sh d := by
  rintro x rfl
  have := a.wt
  simp only [PyData.weight] at this
  have : x.length = x.cps.size := rfl
  omega
theorem Sz.short1 (a : Sz w k d) (hw : w ≤ 1000000) : Sh1 d := by
  rintro ds rfl e he
  obtain ⟨j, _, s⟩ := a.items
  exact (s.mem he).short hw
theorem Sz.short2 (a : Sz w k d) (hw : w ≤ 1000000) : Sh2 d := by
  rintro ds rfl e he
  obtain ⟨j, _, s⟩ := a.items
  exact (s.mem he).short1 hw
end
end Xby

set_option Elab.async false
set_option linter.all false
set_option maxRecDepth 100000
set_option maxHeartbeats 4000000
/-! # t == (), parts of tuples of any items, what a table's making says of two values -/
namespace Xby
open PySem PySem.Spec PyProof.Rows L2
section
variable {X : Cx}
def rNilT (K : PySem.W.Frag) : R2 := fun x y H Q => ∃ a b xs, x = .ref a ∧ y = .ref b ∧ SqT K H a xs ∧ SqT K H b [] ∧ Q (.bl xs.isEmpty) H
theorem op_nilT (K : PySem.W.Frag) (hK : X.K = K) (hu : X.A.units < cLine) : OpR X (compareOp .Eq) (rNilT K) := by
  subst hK
  rintro pins s σ H x y v u Q I rx ry ⟨a, b, xs, rfl, rfl, ha, hb, q⟩
  obtain rfl : v = Value.ref a := rx
  obtain rfl : u = Value.ref b := ry
  obtain ⟨its, rv, p, _⟩ := I.tuple ha
  obtain ⟨its2, rv2, p2, _⟩ := I.tuple hb
  cases rv2
  have l := rv.length
  have e : ((List.range (min its.toArray.size (#[] : Array Value).size)).all (fun _ => true) && its.toArray.size == (#[] : Array Value).size) = xs.isEmpty := by
    cases xs with
    | nil =>
      cases rv
      rfl
    | cons z zs =>
      have : its.length ≠ 0 := by rw [← l]; simp
      simp [this]
  unfold compareOp
  refine SeqAt.RcAt.tuples p p2 hu (e := fun _ => true) (fun j h1 h2 => absurd h2 (by simp)) _ _ _ _ ?_
  rw [e]
  exact ⟨.bl xs.isEmpty, H, I, rfl, q⟩
end
section
variable {K : PySem.W.Frag} {H : Hp} {a b p : Addr} {xs ys : List V} {Q : VK} {n : Nat}
theorem seqWo (h : SqT K H a xs) (pot : Pot H p n) : SqT K (wo p H) a xs := by
  obtain ⟨_, _, _, q, _⟩ := pot
  rcases h with (h | ⟨o, h⟩) | ⟨o, i, j, h⟩
  · exact .inl (.inl (wo_at (by rintro rfl; rw [h] at q; cases q) h))
  · exact .inl (.inr ⟨o, wo_at (by rintro rfl; rw [h] at q; cases q) h⟩)
  · exact .inr ⟨o, i, j, h⟩
/-- a part of a tuple: at some address -/
theorem partT {lo hi : Option Int} (ha : SqT K H a xs) (k : ∀ c H', Same H H' → SqT K H' c (cutV xs lo hi) → Q (.ref c) H') : rSlA K (.ref a) lo hi H Q := by
  refine ⟨a, xs, rfl, ha, fun h => ?_, fun _ p np => k p _ (Same.one np) (SqT.of upd_same)⟩
  refine k a H (Same.refl H) ?_
  rw [cut_all h]
  exact ha
/-- a + b, tuples -/
theorem catT (ha : SqT K H a xs) (hb : SqT K H b ys) (few : xs.length + ys.length ≤ 1000000) (k : ∀ c H', Same H H' → SqT K H' c (xs ++ ys) → Q (.ref c) H') : rCatA K (.ref a) (.ref b) H Q := by
  refine ⟨a, b, xs, ys, rfl, rfl, ha, hb, ?_, fun h => ?_, fun _ h => ?_, fun _ _ p np => k p _ (Same.one np) (SqT.of upd_same)⟩
  · have : sizeLine = 16777216 := sizeLine_eq
    omega
  · subst h
    exact k b H (Same.refl H) hb
  · subst h
    refine k a H (Same.refl H) ?_
    rw [List.append_nil]
    exact ha
theorem cut_last : cutV xs none (some (-1)) = xs.take (xs.length - 1) := by
  unfold cutV
  have : HT.sIx xs.length xs.length (some (-1)) = xs.length - 1 := by
    unfold HT.sIx
    simp only [show ((-1 : Int) < 0) = True by simp, if_true]
    omega
  rw [HT.sIx_none, this, List.drop_zero, Nat.sub_zero]
theorem DqAll.add {xs ys : List V} {ds es : List PyData} (h : DqAll K H xs ds) (k : DqAll K H ys es) : DqAll K H (xs ++ ys) (ds ++ es) := by
  induction xs generalizing ds with
  | nil => cases h; exact k
  | cons x xs ih =>
    cases h with
    | cons a t => exact .cons a (ih t)
theorem DqAll.part {xs : List V} {ds : List PyData} (h : DqAll K H xs ds) (n : Nat) : DqAll K H (xs.take n) (ds.take n) ∧ DqAll K H (xs.drop n) (ds.drop n) := by
  induction xs generalizing ds n with
  | nil =>
    cases h
    simpa using DqAll.nil
  | cons x xs ih =>
    cases h with
    | cons a t =>
      cases n with
      | zero => exact ⟨.nil, .cons a t⟩
      | succ n => exact ⟨.cons a (ih t n).1, (ih t n).2⟩
theorem DqAll.back {xs : List V} {ds : List PyData} (h : DqAll K H xs ds) : DqAll K H xs.reverse ds.reverse := by
  induction xs generalizing ds with
  | nil => cases h; exact .nil
  | cons x xs ih =>
    cases h with
    | cons a t =>
      rw [List.reverse_cons, List.reverse_cons]
      exact (ih t).add (.cons a .nil)
end
/-! ## what the making of a table says -/
inductive Fk where
  | columns | rows | row | many | none
  deriving DecidableEq
def Fk.name : Fk → Str
  | .columns => "columns"
  | .rows => "rows"
  | .row => "row"
  | .many => "many"
  | .none => "none"
def firstBad (n : Nat) : List V → List PyData → Option V
  | v :: vs, d :: ds => if rowD n d then firstBad n vs ds else some v
  | _, _ => none
def wid : PyData → Nat
  | .tuple ds => ds.length
  | _ => 0
def due (vh vr : V) (dh dr : PyData) (xs : List V) : Fk × V :=
  if colsD dh then
    match dr with
    | .tuple rs => if 6 < rs.length then (.many, .int 6) else match firstBad (wid dh) xs rs with
      | some v => (.row, v)
      | none => (.none, .non)
    | _ => (.rows, vr)
  else (.columns, vh)
/-- the two values, and the items of the second one where it is a tuple -/
structure Two (K : PySem.W.Frag) (H : Hp) (vh vr : V) (dh dr : PyData) (xs : List V) : Prop where
  h : Dq K H vh dh
  r : Dq K H vr dr
  x : ∀ rs, dr = .tuple rs → ∃ a, vr = .ref a ∧ SqT K H a xs ∧ DqAll K H xs rs
  s1 : Sh1 dh
  s2 : Sh2 dr
section
variable {K : PySem.W.Frag} {H H' : Hp} {vh vr : V} {dh dr : PyData} {xs : List V}
theorem Two.same (t : Two K H vh vr dh dr xs) (s : Same H H') : Two K H' vh vr dh dr xs := ⟨t.h.same s, t.r.same s, fun rs e => by
  obtain ⟨a, e1, e2, e3⟩ := t.x rs e
  exact ⟨a, e1, e2.ext s, e3.same s⟩, t.s1, t.s2⟩
theorem two_of (h : Dq K H vh dh) (r : Dq K H vr dr) (s1 : Sh1 dh) (s2 : Sh2 dr) : ∃ xs, Two K H vh vr dh dr xs := by
  rcases r.isTup with ⟨a, xs, ds, rfl, rfl, hs, ha⟩ | ⟨_, _, _, no⟩
  · refine ⟨xs, h, r, fun rs e => ?_, s1, s2⟩
    obtain rfl : ds = rs := by injection e
    exact ⟨a, rfl, hs, ha⟩
  · exact ⟨[], h, r, fun rs e => absurd e (no rs), s1, s2⟩
theorem due_cols (n : colsD dh = false) : due vh vr dh dr xs = (.columns, vh) := by
  unfold due
  rw [n]
  rfl
theorem due_rows (c : colsD dh = true) (n : ∀ rs, dr ≠ .tuple rs) : due vh vr dh dr xs = (.rows, vr) := by
  unfold due
  rw [if_pos c]
  cases dr with
  | tuple rs => exact absurd rfl (n rs)
  | _ => rfl
theorem due_many {rs : List PyData} (c : colsD dh = true) (n : 6 < rs.length) : due vh vr dh (.tuple rs) xs = (.many, .int 6) := by
  unfold due
  rw [if_pos c]
  exact if_pos n
theorem due_row {rs : List PyData} {v : V} (c : colsD dh = true) (n : ¬ 6 < rs.length) (b : firstBad (wid dh) xs rs = some v) : due vh vr dh (.tuple rs) xs = (.row, v) := by
  unfold due
  rw [if_pos c]
  show (if 6 < rs.length then _ else _) = _
  rw [if_neg n, b]
theorem due_none {rs : List PyData} (c : colsD dh = true) (n : ¬ 6 < rs.length) (b : firstBad (wid dh) xs rs = none) : due vh vr dh (.tuple rs) xs = (.none, .non) := by
  unfold due
  rw [if_pos c]
  show (if 6 < rs.length then _ else _) = _
  rw [if_neg n, b]
theorem bad_at {n : Nat} : ∀ {xs : List V} {rs : List PyData} {i : Nat} {v : V} {d : PyData}, xs[i]? = some v → rs[i]? = some d → (∀ j e, j < i → rs[j]? = some e → rowD n e = true) → rowD n d = false → firstBad n xs rs = some v
  | [], _, _, _, _, e, _, _, _ => by simp at e
  | _ :: _, [], _, _, _, _, e, _, _ => by simp at e
  | x :: xs, r :: rs, 0, v, d, e1, e2, _, b => by
    obtain rfl : x = v := by simpa using e1
    obtain rfl : r = d := by simpa using e2
    unfold firstBad
    rw [b]
    rfl
  | x :: xs, r :: rs, i + 1, v, d, e1, e2, ok, b => by
    unfold firstBad
    rw [ok 0 r (Nat.succ_pos _) rfl, if_pos rfl]
    exact bad_at (by simpa using e1) (by simpa using e2) (fun j e hj he => ok (j + 1) e (Nat.succ_lt_succ hj) (by simpa using he)) b
theorem bad_no {n : Nat} : ∀ {xs : List V} {rs : List PyData}, (∀ e ∈ rs, rowD n e = true) → firstBad n xs rs = none
  | [], _, _ => by unfold firstBad; rfl
  | _ :: _, [], _ => by unfold firstBad; rfl
  | x :: xs, r :: rs, ok => by
    unfold firstBad
    rw [ok r List.mem_cons_self, if_pos rfl]
    exact bad_no fun e he => ok e (List.mem_cons_of_mem _ he)
/-- what is told is data, no greater -/
theorem due_data {w k : Nat} (t : Two K H vh vr dh dr xs) (zh : Sz w k dh) (zr : Sz w k dr) (hw : 3 ≤ w) : ∃ d, Dq K H (due vh vr dh dr xs).2 d ∧ Sz w k d := by
  have six : Sz w k (.int 6) := (show Sz 3 0 (.int 6) by decide +kernel).more hw (Nat.zero_le _)
  by_cases c : colsD dh = true
  · rcases t.r.isTup with ⟨a, xs', ds, _, e, _, _⟩ | ⟨_, _, _, no⟩
    · subst e
      obtain ⟨a, rfl, hs, ha⟩ := t.x ds rfl
      by_cases m : 6 < ds.length
      · rw [due_many c m]
        exact ⟨_, .int 6, six⟩
      · cases b : firstBad (wid dh) xs ds with
        | none =>
          rw [due_none c m b]
          exact ⟨_, .non, (show Sz 0 0 .none by decide +kernel).more (by omega) (Nat.zero_le _)⟩
        | some v =>
          rw [due_row c m b]
          have mem : ∀ {xs : List V} {rs : List PyData}, DqAll K H xs rs → firstBad (wid dh) xs rs = some v → ∃ d ∈ rs, Dq K H v d := by
            intro xs
            induction xs with
            | nil => exact fun h b => by unfold firstBad at b; cases b
            | cons x xs ih =>
              intro rs h b
              cases h with
              | cons a1 a2 =>
                unfold firstBad at b
                split at b
                · obtain ⟨d, hd, q⟩ := ih a2 b
                  exact ⟨d, List.mem_cons_of_mem _ hd, q⟩
                · obtain rfl : x = v := Option.some.inj b
                  exact ⟨_, List.mem_cons_self, a1⟩
          obtain ⟨d, hd, q⟩ := mem ha b
          obtain ⟨j, rfl, s⟩ := zr.items
          exact ⟨d, q, (s.mem hd).more (Nat.le_refl _) (Nat.le_succ _)⟩
    · rw [due_rows c no]
      exact ⟨_, t.r, zr⟩
  · rw [due_cols (Bool.eq_false_iff.mpr c)]
    exact ⟨_, t.h, zh⟩
end
end Xby

set_option Elab.async false
set_option linter.all false
set_option maxRecDepth 100000
set_option maxHeartbeats 4000000
/-! # values that are data beside the drawer -/
namespace Xby
open PySem L2
def Okd (K : PySem.W.Frag) (p : Addr) (w k : Nat) (H : Hp) (x : V) : Prop := ∃ d, Dq K (wo p H) x d ∧ Sz w k d
section
variable {K : PySem.W.Frag} {p a : Addr} {w k n : Nat} {H H' : Hp} {x v : V} {l xs : List V} {ds : List PyData} {d : PyData}
theorem Okd.but (h : Okd K p w k H x) (b : But p H H') : Okd K p w k H' x := by
  obtain ⟨d, q, z⟩ := h
  exact ⟨d, q.same (wo_but b), z⟩
theorem all_but (h : ∀ x ∈ l, Okd K p w k H x) (b : But p H H') : ∀ x ∈ l, Okd K p w k H' x := fun x hx => (h x hx).but b
theorem all_add (h : ∀ x ∈ l, Okd K p w k H x) (a : Okd K p w k H v) : ∀ x ∈ v :: l, Okd K p w k H x := fun x hx => by
  rcases List.mem_cons.mp hx with rfl | hx
  · exact a
  · exact h x hx
theorem newTup (pot : Pot H p n) (na : H a = none) (h : DqAll K (wo p H) xs ds) : Dq K (wo p (upd H a (.tup xs))) (.ref a) (.tuple ds) :=
  .tup (SqT.of (wo_at (pot.ne na).symm upd_same)) (h.same (wo_but (But.of (Same.one na))))
theorem newLst (pot : Pot H p n) (na : H a = none) (sm : sysModules ≠ a) (h : DqAll K (wo p H) xs ds) : Dq K (wo p (upd H a (.lst xs))) (.ref a) (.list ds) :=
  .lst (wo_at (pot.ne na).symm upd_same) sm (h.same (wo_but (But.of (Same.one na))))
theorem newDct (pot : Pot H p n) (na : H a = none) : Dq K (wo p (upd H a (.dK []))) (.ref a) (.dict []) :=
  .dct (wo_at (pot.ne na).symm upd_same) .nil
theorem tupAt (pot : Pot H p n) (ha : SqT K H a xs) (h : DqAll K (wo p H) xs ds) : Dq K (wo p H) (.ref a) (.tuple ds) := .tup (seqWo ha pot) h
theorem DqAll.nil' {K : PySem.W.Frag} {H : Hp} : DqAll K H [] [] := .nil
end
end Xby
namespace Xby
open PySem L2
/-- the thing (a tuple), the list so far, what was made since -/
structure Bag (K : PySem.W.Frag) (p : Addr) (n w k : Nat) (H : Hp) (a : Addr) (xs : List V) (ds : List PyData) (L : Addr) (I : List V) (Hc : Hp) (items : List V) : Prop where
  pot : Pot Hc p n
  but : But p H Hc
  hs : SqT K (wo p Hc) a xs
  ha : DqAll K (wo p Hc) xs ds
  hl : Hc L = some (.lst I)
  g : ∀ x ∈ I, Okd K p w k Hc x
  gi : ∀ x ∈ items, Okd K p w k Hc x
section
variable {K : PySem.W.Frag} {p a L c : Addr} {n w k : Nat} {H Hc Hd : Hp} {xs I items ys : List V} {ds es : List PyData} {v : V}
theorem Bag.same (b : Bag K p n w k H a xs ds L I Hc items) (s : Same Hc Hd) : Bag K p n w k H a xs ds L I Hd items :=
  ⟨b.pot.same s, b.but.same s, b.hs.ext (wo_but (But.of s)), b.ha.same (wo_but (But.of s)), s _ _ b.hl, all_but b.g (But.of s), all_but b.gi (But.of s)⟩
theorem Bag.add (b : Bag K p n w k H a xs ds L I Hc items) (o : Okd K p w k Hc v) : Bag K p n w k H a xs ds L I Hc (v :: items) := ⟨b.pot, b.but, b.hs, b.ha, b.hl, b.g, all_add b.gi o⟩
/-- a tuple made of what the thing holds -/
theorem Bag.tup (b : Bag K p n w k H a xs ds L I Hc items) (s : Same Hc Hd) (hc : SqT K Hd c ys) (h : DqAll K (wo p Hc) ys es) (z : Sz w k (.tuple es)) : Bag K p n w k H a xs ds L I Hd (.ref c :: items) :=
  (b.same s).add ⟨_, tupAt (b.pot.same s) hc (h.same (wo_but (But.of s))), z⟩
theorem Bag.hsc (b : Bag K p n w k H a xs ds L I Hc items) : SqT K Hc a xs := b.hs.ext wo_same
end
theorem Szs.len {w k : Nat} : ∀ {ds : List PyData}, Szs w k ds → ds.length ≤ w
  | [], _ => Nat.zero_le _
  | d :: ds, s => by
    have a := s.wt
    simp only [PyData.weightAll] at a
    have b := Szs.len (w := w - 1) (k := k) (ds := ds) ⟨by have := s.lv; simp only [PyData.leavesShortAll, Bool.and_eq_true] at this; exact this.2, by omega, by have := s.dp; simp only [PyData.depthAll] at this; omega, by have := s.sh; simp only [PyData.showableAll, Bool.and_eq_true] at this; exact this.2⟩
    simp only [List.length_cons]
    omega
end Xby
namespace Xby
open PySem L2
/-- one item otherwise -/
theorem Szs.other {w j : Nat} {ds : List PyData} {i : Nat} {e d : PyData} (s : Szs w j ds) (hi : ds[i]? = some e) (z : Sz (2 * e.weight + 113) (j + 2) d) : Szs (2 * w + 113) (j + 2) (ds.take i ++ [d] ++ ds.drop (i + 1)) := by
  obtain ⟨hl, he⟩ := List.getElem?_eq_some_iff.mp hi
  have split : ds = ds.take i ++ ([e] ++ ds.drop (i + 1)) := by
    rw [← he]
    have := List.drop_eq_getElem_cons hl
    rw [List.singleton_append, ← this, List.take_append_drop]
  have wt := s.wt
  rw [split, wtA, wtA] at wt
  have w1 : PyData.weightAll [e] = e.weight + 1 := by simp [PyData.weightAll]
  have a := (s.take i).more (Nat.le_refl _) (show j ≤ j + 2 by omega)
  have b := (s.drop (i + 1)).more (Nat.le_refl _) (show j ≤ j + 2 by omega)
  have c := Szs.one z
  have all := (a.add c).add b
  refine ⟨all.lv, ?_, all.dp, all.sh⟩
  rw [wtA, wtA]
  have w2 : PyData.weightAll [d] = d.weight + 1 := by simp [PyData.weightAll]
  have := z.wt
  omega
theorem Sz.self {w j : Nat} {e : PyData} (z : Sz w j e) : Sz e.weight j e := ⟨z.lv, Nat.le_refl _, z.dp, z.sh⟩
end Xby

set_option linter.all false
/-! # plain facts about lists of ints -/
namespace Xby
theorem count_nodup {l ys : List Int} (nd : l.Nodup) (m : ∀ k, k ∈ l ↔ k ∈ ys) : l.length = ys.length ↔ ys.Nodup := by
  constructor
  · intro e
    rw [List.nodup_iff_count]
    intro a
    by_cases h : ys.count a ≤ 1
    · exact h
    · exfalso
      have ha : a ∈ ys := List.count_pos_iff.mp (by omega)
      have hb : a ∈ ys.erase a := List.count_pos_iff.mp (by rw [List.count_erase_self]; omega)
      have sub : l ⊆ ys.erase a := fun k hk => by
        by_cases c : k = a
        · rw [c]; exact hb
        · exact (List.mem_erase_of_ne c).mpr ((m k).mp hk)
      have := nd.length_le_of_subset sub
      rw [List.length_erase_of_mem ha] at this
      have : 0 < ys.length := List.length_pos_of_mem ha
      omega
  · intro n
    have a := nd.length_le_of_subset fun k hk => (m k).mp hk
    have b := n.length_le_of_subset fun k hk => (m k).mpr hk
    omega
theorem rise_iff : ∀ {l : List Int}, (∀ k (h : k + 1 < l.length), l[k] < l[k + 1]) ↔ l.Pairwise (· < ·)
  | [] => by simp
  | [x] => by simp
  | x :: y :: l => by
    have ih := rise_iff (l := y :: l)
    rw [List.pairwise_cons]
    constructor
    · intro h
      have p := ih.mp fun k hk => by
        have := h (k + 1) (by simpa using hk)
        simpa using this
      refine ⟨fun z hz => ?_, p⟩
      have xy : x < y := h 0 (by simp)
      rcases List.mem_cons.mp hz with rfl | hz
      · exact xy
      · exact Int.lt_trans xy (List.rel_of_pairwise_cons p hz)
    · rintro ⟨a, p⟩ k hk
      cases k with
      | zero => exact a y List.mem_cons_self
      | succ k =>
        have hk' : k + 1 < (y :: l).length := by simpa using hk
        exact ih.mpr p k hk'
theorem asc_unique {a b : List Int} (ha : a.Pairwise (· < ·)) (hb : b.Pairwise (· < ·)) (m : ∀ k, k ∈ a ↔ k ∈ b) : a = b := by
  have na : a.Nodup := ha.imp fun h => Int.ne_of_lt h
  have nb : b.Nodup := hb.imp fun h => Int.ne_of_lt h
  have p : a.Perm b := (List.perm_ext_iff_of_nodup na nb).mpr m
  exact p.eq_of_pairwise (le := (· < ·)) (fun x y _ _ h1 h2 => absurd (Int.lt_trans h1 h2) (Int.lt_irrefl _)) ha hb
/-- pairs of places: ascending, none twice -/
def okPs (ps : List (Int × Int)) : Bool := decide ((ps.map (·.1)).Pairwise (· < ·)) && decide (ps.map (·.2)).Nodup
end Xby

set_option Elab.async false
set_option linter.all false
set_option maxRecDepth 100000
set_option maxHeartbeats 4000000
/-! # set(l), l a list of ints; its length; t != (); targets that are tuples -/
namespace Xby
open PySem PySem.Spec PyProof.Rows L2
section
variable {prog : Program} {w : World} {A : Around} {E : Value → Shared → Prop} {s : Shared}
abbrev newSet (w : World) : Obj := { cls := .type "set", dict := none, data := .set #[] 0 (.fresh 0 0 (!w.params.followText "set-order")) }
set_option maxHeartbeats 3200000 in
theorem set_of_ints {l : Addr} {us : Array Value} {ys : List Int} {Q : Value → Shared → Prop} (hh : A.handled = none) (hl : s.heap.IsList l us) (hi : IntsAre us.toList ys) (few : ys.length + 1 < scanBound)
    (q : ∀ (h2 : Heap) (tk c : Nat), SetR w h2 s.heap.objs.size (fun j => decide (j ∈ ys)) c → c ≤ ys.length → (∀ b o, s.heap.get? b = some o → h2.get? b = some o) → Q (.ref s.heap.objs.size) { s with heap := h2, toks := tk }) :
    wpAny (model prog w) A (call (.type "set") [.ref l]) Q E s := by
  have lenU : us.size = ys.length := by
    have z := IntsAre.length hi
    rw [Array.length_toList] at z
    exact z
  obtain ⟨cc, tl, mro⟩ := PySem.F.called_set.mro
  have made := PySem.F.called_set.made
  have sub := PySem.F.called_set.sub
  have nt := PySem.F.called_set.notType
  have cr := PySem.F.called_set.canCreate
  have ct := PySem.F.typeCall_set_1 (.ref l)
  refine wpAny_call (codeAny_of_tree ?_)
  change wpAny _ _ (callAny (.type "set") _) _ _ _
  refine wpAny_pure ⟨Code.quiet_builtin _ (by decide +kernel), codeAny_builtin PySem.F.entry_type_call ?_⟩
  rw [Around.under_plain (weight_type_call_type "set" [.ref l] []) rfl]
  repeat (any_goals (first | assumption | wp_step))
  refine codeAny_mono (code_set_led1 (w := w) (.ref l) (E := E) (Q₁ := fun u s1 => u = .ref s.heap.objs.size ∧ s1 = { s with heap := s.heap.push (newSet w) }) ⟨rfl, rfl⟩) fun r s1 hr => ?_
  cases r with
  | error e => exact hr
  | ok fl =>
    cases fl with
    | ret u =>
      obtain ⟨rfl, rfl⟩ := hr
      have new : (s.heap.push (newSet w)).get? s.heap.objs.size = some (newSet w) := Heap.get?_push_size _ rfl
      have ty : Shared.TypeIs { s with heap := s.heap.push (newSet w) } (.ref s.heap.objs.size) "set" := ⟨_, new, rfl⟩
      have lk := PySem.F.called_set.init.lookup
      have bd := PySem.F.called_set.init.bind (.ref s.heap.objs.size)
      repeat (any_goals (first | assumption | wp_step))
      refine codeAny_mono (codeAny_call_builtin (R := wants (fun r s2 => r = .none ∧ ∃ h2 tk c, s2 = { s with heap := h2, toks := tk } ∧ SetR w h2 s.heap.objs.size (fun j => decide (j ∈ ys)) c ∧ c ≤ ys.length ∧
        (∀ b o, s.heap.get? b = some o → h2.get? b = some o)) E) PySem.F.called_set.init.plain PySem.F.entry_set_init (check_set_init_1 ty ?_)) fun r2 s2 hr2 => ?_
      · obtain ⟨⟨tc, td, tdata, tsl⟩, g, hc, nl, hd⟩ := hl
        simp only at hc hd
        subst hc hd
        have ls : l < s.heap.objs.size := Heap.lt_size g
        have g1 : (s.heap.push (newSet w)).get? l = some { cls := .type "list", dict := td, data := .seq us nl, slots := tsl } := Heap.get?_push_of_some _ g
        have st := PySem.F.sub_list_set
        have sf := PySem.F.sub_list_frozenset
        have nd : (Value.type "list" == Value.type "dict") = false := by decide
        have lst1 : (s.heap.push (newSet w)).IsList l us := ⟨_, g1, rfl, nl, rfl⟩
        unfold Builtin.«set.__init__» noKeywords Builtin.Frozenset.updateFrom
        generalize e : pyIter = it
        wp_walk
        subst e
        refine wpAny_pyIter_list lst1 (wpAny_bind (wpAny_runValue ?_))
        have h3 : A.in1.in1.in1.handled = none := by simp [hh]
        have ne : l ≠ (s.heap.push (newSet w)).objs.size := by
          rw [Heap.size_push]
          exact Nat.ne_of_lt (Nat.lt_succ_of_lt ls)
        have nf : s.heap.objs.size ∉ [(s.heap.push (newSet w)).objs.size, l] := by
          rw [Heap.size_push]
          simp only [List.mem_cons, List.not_mem_nil, or_false, not_or]
          exact ⟨Nat.ne_of_lt (Nat.lt_succ_self _), Nat.ne_of_gt ls⟩
        have val : ∀ (i : Nat) (v : Value), us[i]? = some v → ∃ k t, ys[i]? = some k ∧ v = .int k t := fun i v hv => by
          have hi' : i < ys.length := by rw [← lenU]; exact (Array.getElem?_eq_some_iff.mp hv).1
          obtain ⟨t, e⟩ := PyProof.Rows.IntsAre.int_at hi i v (by rw [Array.getElem?_toList]; exact hv)
          refine ⟨ys[i], t, List.getElem?_eq_getElem hi', ?_⟩
          rw [e, List.getD_eq_getElem?_getD, List.getElem?_eq_getElem hi'] <;> rfl
        refine set_update_ints ((Walks.list h3 _ l ne us).toS) s.heap.objs.size nf ys lenU few val (us.size - 0) 0 _ (by omega) (Nat.zero_le _) ⟨⟨_, Heap.get?_push_size _ rfl, rfl, rfl⟩, lst1.push _⟩ ?_ ?_
        · have g2 : ((s.heap.push (newSet w)).push { cls := .type "list_iterator", data := .fields #[.ref l, .int 0 0] }).get? s.heap.objs.size = some (newSet w) := Heap.get?_push_of_some _ new
          exact ⟨0, Nat.le_refl 0, setR_new_at g2⟩
        · rintro ⟨h2, g2, d2, t2, o2⟩ c2 mv c3 so
          obtain rfl : g2 = s.gens := mv.gens
          obtain rfl : d2 = s.drawn := mv.drawn
          obtain rfl : o2 = s.os := mv.os
          change wpAny _ _ _ _ _ _
          refine wpAny_pure ?_
          change wpAny _ _ (ret Value.none) _ _ _
          rw [lenU] at c3
          refine wpAny_pure ⟨rfl, h2, t2, c2, rfl, so, c3, fun b o e => ?_⟩
          have hb := Heap.lt_size e
          refine mv.heap b o ?_ (Heap.get?_push_of_some _ (Heap.get?_push_of_some _ e))
          rw [Heap.size_push]
          simp only [List.mem_cons, List.not_mem_nil, or_false, not_or]
          exact ⟨Nat.ne_of_lt hb, Nat.ne_of_lt (Nat.lt_succ_of_lt hb)⟩
      · cases r2 with
        | error e => exact hr2
        | ok fl2 =>
          cases fl2 with
          | ret r =>
            obtain ⟨rfl, h2, tk, c2, rfl, so, c3, k⟩ := hr2
            repeat (any_goals (first | assumption | wp_step))
            exact q _ _ _ so c3 k
          | _ => exact hr2.elim
    | _ => exact hr.elim
end
/-- how many different ones -/
theorem setR_count {w : World} {h : Heap} {a : Addr} {ys : List Int} {c : Nat} (R : SetR w h a (fun j => decide (j ∈ ys)) c) : c = ys.length ↔ ys.Nodup := by
  obtain ⟨o, es, ep, t, _, _, _, _, nd, mem, _, _, hc, _⟩ := R
  have m : ∀ k, k ∈ es.toList.map keyOf ↔ k ∈ ys := fun k => by
    rw [← mem k]
    simp
  have l1 : (es.toList.map keyOf).length = c := by rw [List.length_map, Array.length_toList, hc]
  rw [← l1]
  exact count_nodup nd m
theorem setR_within {w : World} {h : Heap} {a : Addr} {ys : List Int} {c : Nat} (R : SetR w h a (fun j => decide (j ∈ ys)) c) (zs : List Int) (sub : ys ⊆ zs) : c ≤ zs.length := by
  obtain ⟨o, es, ep, t, _, _, _, _, nd, mem, _, _, hc, _⟩ := R
  have l1 : (es.toList.map keyOf).length = c := by rw [List.length_map, Array.length_toList, hc]
  rw [← l1]
  refine nd.length_le_of_subset fun k hk => sub ?_
  have := (mem k).mpr hk
  simpa using this
section
variable {X : Cx}
def rSetL (K : PySem.W.Frag) (w : World) : List V → Hp → VK → Prop := fun xs H Q => ∃ (l : Addr) (ys : List Int), xs = [.ref l] ∧ SqL K H l (ys.map V.int) ∧ ys.length ≤ 1000 ∧
  ∀ p c, H p = none → c ≤ ys.length → (c = ys.length ↔ ys.Nodup) → (∀ zs : List Int, ys ⊆ zs → c ≤ zs.length) → Q (.ref p) (upd H p (SetO w p (fun j => decide (j ∈ ys)) c))
theorem call_setL (K : PySem.W.Frag) (w : World) (hK : X.K = K) (hw : X.w = w) (hc : X.calm = true) : CallR X (.type "set") (rSetL K w) := by
  subst hK hw
  rintro pins s σ H xs us Q I rv ⟨l, ys, rfl, hq, few, q⟩
  obtain ⟨u, rfl, r⟩ := vals1 rv
  cases r
  obtain ⟨its, rr, pl, _⟩ := I.list hq
  have hi := ints_of_vals rr
  have fits : ys.length + 1 < scanBound := by
    unfold scanBound
    omega
  refine set_of_ints (I.ok.hd hc) pl.isList (by simpa using hi) fits fun h2 tk c R c1 k => ?_
  have J : Inv X pins σ (upd H s.heap.objs.size (SetO X.w s.heap.objs.size (fun j => decide (j ∈ ys)) c)) { s with heap := h2, toks := tk } := I.laid (t' := tk) k (Nat.le_refl _) (setO_new (P := X.prog) (H := H) R)
  exact ⟨.ref _, _, J, rfl, q _ c (I.hok.fresh (Nat.le_refl _)) c1 (setR_count R) (setR_within R)⟩
def rLenS (w : World) : List V → Hp → VK → Prop := fun xs H Q => ∃ (a : Addr) (S : Int → Bool) (n : Nat), xs = [.ref a] ∧ H a = some (SetO w a S n) ∧ n < 1000000 ∧ Q (.int n) H
theorem call_lenS (w : World) (hw : X.w = w) : CallR X (.builtin "len") (rLenS w) := by
  subst hw
  rintro pins s σ H xs us Q I rv ⟨a, S, n, rfl, ha, few, q⟩
  obtain ⟨u, rfl, r⟩ := vals1 rv
  cases r
  obtain ⟨o, es, ep, t, ho, ex, hd, _, _, _, _, hf, hn, _⟩ := setO_get I ha
  refine call_len_set ho ex hd hf (by rw [hn]; omega) ⟨.int n, H, I.tok _, ⟨_, by rw [hn]⟩, q⟩
theorem cr_sortedSetK (w : World) (hw : X.w = w) (hc : X.calm = true) : CallR X (.builtin "sorted") (rSortedSet w) := by
  subst hw
  exact cr_sortedSet hc
/-- t != () -/
def rNeNilT (K : PySem.W.Frag) : R2 := fun x y H Q => ∃ a b xs, x = .ref a ∧ y = .ref b ∧ SqT K H a xs ∧ SqT K H b [] ∧ Q (.bl (!xs.isEmpty)) H
theorem op_neNilT (K : PySem.W.Frag) (hK : X.K = K) (hu : X.A.units + 64 < cLine) : OpR X (compareOp .NotEq) (rNeNilT K) := by
  subst hK
  rintro pins s σ H x y v u Q I rx ry ⟨a, b, xs, rfl, rfl, ha, hb, q⟩
  obtain rfl : v = Value.ref a := rx
  obtain rfl : u = Value.ref b := ry
  obtain ⟨its, rv, p, _⟩ := I.tuple ha
  obtain ⟨its2, rv2, p2, _⟩ := I.tuple hb
  cases rv2
  have l := rv.length
  have e : (!((List.range (min its.toArray.size (#[] : Array Value).size)).all (fun _ => true) && its.toArray.size == (#[] : Array Value).size)) = !xs.isEmpty := by
    cases xs with
    | nil =>
      cases rv
      rfl
    | cons z zs =>
      have : its.length ≠ 0 := by rw [← l]; simp
      simp [this]
  unfold compareOp
  refine SeqAt.RcNeAt.tuples p p2 (by omega) (e := fun _ => true) (fun j h1 h2 => absurd h2 (by simp)) _ _ _ _ ?_
  rw [e]
  exact ⟨.bl (!xs.isEmpty), H, I, rfl, q⟩
theorem pg_tupK (K : PySem.W.Frag) (hK : X.K = K) {es : List Expr} {k : Nat} {t : TGs} {n : Nat} {pos : Pos} (hc : X.calm = true) (h : PGs X es t)
    (hn : (assignEach es X.env).length = n := by rfl) (hst : (assignEach es X.env).findIdx? (·.1) = none := by rfl) : PG X (.Tuple es k pos) (gTup K n t) := by
  subst hK
  exact pg_tup hc h hn hst
end
end Xby

set_option Elab.async false
set_option linter.all false
set_option maxRecDepth 100000
set_option maxHeartbeats 4000000
namespace Xby
open PySem PySem.Spec PyProof.Rows L2
/-! ## comprehensions whose elements are told beforehand, in a heap that only grows -/
section
variable {J : It} {n : Nat} {G : Hp → Prop} {Y : Nat → Hp → V → Hp → Prop}
/-- what stands in the list behind the first m turns -/
def kept (f : Nat → V) (p : Nat → Bool) (m : Nat) : List V := ((List.range m).filter p).map f
theorem kept_len (f : Nat → V) (p : Nat → Bool) (m : Nat) : (kept f p m).length ≤ m := by
  unfold kept
  rw [List.length_map]
  exact Nat.le_trans (List.length_filter_le _ _) (by simp)
theorem kept_succ (f : Nat → V) (p : Nat → Bool) (m : Nat) : kept f p (m + 1) = kept f p m ++ (if p m then [f m] else []) := by
  unfold kept
  rw [List.range_succ, List.filter_append, List.map_append]
  congr 1
  cases h : p m <;> simp [h]
theorem lc_grow (w : Walk J n G Y) {g : TG} {tt : TT} {te : TE} {vs : List Nat} {σ : L2.St} {H1 : Hp} {D : Addr} {Qd : Hp → Prop} (nD : H1 D = none) (few : n < sizeLine) (f : Nat → V) (p : Nat → Bool)
    (hG : ∀ H', Same H1 H' → G H')
    (hs : ∀ i x H H' (Z : VK) (N : Hp → Prop), i < n → Same H1 H → Y i H x H' → (∀ H'', Same H H'' → p i = true → Z (f i) H'') → (∀ H'', Same H H'' → p i = false → N H'') →
      g x (wipe σ vs) H' fun σ2 H2 => wipe σ2 vs = wipe σ vs ∧ tt σ2 H2 fun b H3 => if b = true then te σ2 H3 Z else N H3)
    (hd : ∀ H, Same H1 H → H D = some (.lst (kept f p n)) → Qd H) :
    ∃ W : Nat → Nat → Hp → Prop, (∃ m, W 0 m (upd H1 D (.lst []))) ∧ ∀ i m H, W i m H →
      (J.stop i H ∧ Qd H) ∨ (J.go i H ∧ ∃ Nx : Hp → Prop, (∀ H', Nx H' → ∃ m', m' < m ∧ W (i + 1) m' H') ∧ ∀ x H', J.yld i H x H' → g x (wipe σ vs) H' fun σ2 H2 => wipe σ2 vs = wipe σ vs ∧ tt σ2 H2 fun b H3 =>
        if b = true then te σ2 H3 fun y H4 => ∃ acc, H4 D = some (.lst acc) ∧ acc.length < sizeLine ∧ Nx (upd H4 D (.lst (acc ++ [y]))) else Nx H3) := by
  refine lc_it w (fun i H => i ≤ n ∧ Same H1 H ∧ H D = some (.lst (kept f p i))) ⟨Nat.zero_le _, Same.one nD, upd_same⟩ (fun i H _ z => hG H z.2.1) ?_ (fun H z => hd H z.2.1 z.2.2)
  rintro i x H H' hi ⟨hi', s1, hD⟩ y
  refine hs i x H H' _ _ hi s1 y (fun H'' s2 pi => ⟨_, s2 _ _ hD, Nat.lt_of_le_of_lt (kept_len _ _ _) (by omega), hi, ?_, ?_⟩) (fun H'' s2 pi => ⟨hi, s1.trans s2, ?_⟩)
  · exact Same.updN (s1.trans s2) nD
  · rw [upd_same, kept_succ, pi]
    rfl
  · rw [s2 _ _ hD, kept_succ, pi]
    simp
end
/-! over a tuple, a list, a range -/
section
variable {K : PySem.W.Frag} {a : Addr} {xs : List V} {g : TG} {tt : TT} {te : TE} {vs : List Nat} {σ : L2.St} {H1 : Hp} {D : Addr} {Qd : Hp → Prop}
theorem lc_growT (hx : SqT K H1 a xs) (nD : H1 D = none) (few : xs.length < sizeLine) (f : Nat → V) (p : Nat → Bool)
    (hs : ∀ i x H (Z : VK) (N : Hp → Prop), xs[i]? = some x → Same H1 H → (∀ H'', Same H H'' → p i = true → Z (f i) H'') → (∀ H'', Same H H'' → p i = false → N H'') →
      g x (wipe σ vs) H fun σ2 H2 => wipe σ2 vs = wipe σ vs ∧ tt σ2 H2 fun b H3 => if b = true then te σ2 H3 Z else N H3)
    (hd : ∀ H, Same H1 H → H D = some (.lst (kept f p xs.length)) → Qd H) :
    ∃ W : Nat → Nat → Hp → Prop, (∃ m, W 0 m (upd H1 D (.lst []))) ∧ ∀ i m H, W i m H →
      ((Itt K a).stop i H ∧ Qd H) ∨ ((Itt K a).go i H ∧ ∃ Nx : Hp → Prop, (∀ H', Nx H' → ∃ m', m' < m ∧ W (i + 1) m' H') ∧ ∀ x H', (Itt K a).yld i H x H' → g x (wipe σ vs) H' fun σ2 H2 => wipe σ2 vs = wipe σ vs ∧ tt σ2 H2 fun b H3 =>
        if b = true then te σ2 H3 fun y H4 => ∃ acc, H4 D = some (.lst acc) ∧ acc.length < sizeLine ∧ Nx (upd H4 D (.lst (acc ++ [y]))) else Nx H3) := by
  refine lc_tup (K := K) (a := a) (xs := xs) (fun i H => i ≤ xs.length ∧ Same H1 H ∧ H D = some (.lst (kept f p i))) ⟨Nat.zero_le _, Same.one nD, upd_same⟩ (fun i H _ z => hx.ext z.2.1) ?_ (fun H z => hd H z.2.1 z.2.2)
  rintro i x H hi ⟨hi', s1, hD⟩
  have il := (List.getElem?_eq_some_iff.mp hi).1
  refine hs i x H _ _ hi s1 (fun H'' s2 pi => ⟨_, s2 _ _ hD, Nat.lt_of_le_of_lt (kept_len _ _ _) (by omega), il, ?_, ?_⟩) (fun H'' s2 pi => ⟨il, s1.trans s2, ?_⟩)
  · exact Same.updN (s1.trans s2) nD
  · rw [upd_same, kept_succ, pi]
    rfl
  · rw [s2 _ _ hD, kept_succ, pi]
    simp
theorem lc_growL (hx : SqL K H1 a xs) (nD : H1 D = none) (few : xs.length < sizeLine) (f : Nat → V) (p : Nat → Bool)
    (hs : ∀ i x H (Z : VK) (N : Hp → Prop), xs[i]? = some x → Same H1 H → (∀ H'', Same H H'' → p i = true → Z (f i) H'') → (∀ H'', Same H H'' → p i = false → N H'') →
      g x (wipe σ vs) H fun σ2 H2 => wipe σ2 vs = wipe σ vs ∧ tt σ2 H2 fun b H3 => if b = true then te σ2 H3 Z else N H3)
    (hd : ∀ H, Same H1 H → H D = some (.lst (kept f p xs.length)) → Qd H) :
    ∃ W : Nat → Nat → Hp → Prop, (∃ m, W 0 m (upd H1 D (.lst []))) ∧ ∀ i m H, W i m H →
      ((Itl K a).stop i H ∧ Qd H) ∨ ((Itl K a).go i H ∧ ∃ Nx : Hp → Prop, (∀ H', Nx H' → ∃ m', m' < m ∧ W (i + 1) m' H') ∧ ∀ x H', (Itl K a).yld i H x H' → g x (wipe σ vs) H' fun σ2 H2 => wipe σ2 vs = wipe σ vs ∧ tt σ2 H2 fun b H3 =>
        if b = true then te σ2 H3 fun y H4 => ∃ acc, H4 D = some (.lst acc) ∧ acc.length < sizeLine ∧ Nx (upd H4 D (.lst (acc ++ [y]))) else Nx H3) := by
  refine lc_list (K := K) (a := a) (xs := xs) (fun i H => i ≤ xs.length ∧ Same H1 H ∧ H D = some (.lst (kept f p i))) ⟨Nat.zero_le _, Same.one nD, upd_same⟩ (fun i H _ z => hx.ext z.2.1) ?_ (fun H z => hd H z.2.1 z.2.2)
  rintro i x H hi ⟨hi', s1, hD⟩
  have il := (List.getElem?_eq_some_iff.mp hi).1
  refine hs i x H _ _ hi s1 (fun H'' s2 pi => ⟨_, s2 _ _ hD, Nat.lt_of_le_of_lt (kept_len _ _ _) (by omega), il, ?_, ?_⟩) (fun H'' s2 pi => ⟨il, s1.trans s2, ?_⟩)
  · exact Same.updN (s1.trans s2) nD
  · rw [upd_same, kept_succ, pi]
    rfl
  · rw [s2 _ _ hD, kept_succ, pi]
    simp
theorem lc_growR {lo : Int} {n : Nat} (nD : H1 D = none) (few : n < sizeLine) (f : Nat → V) (p : Nat → Bool)
    (hs : ∀ i H (Z : VK) (N : Hp → Prop), i < n → Same H1 H → (∀ H'', Same H H'' → p i = true → Z (f i) H'') → (∀ H'', Same H H'' → p i = false → N H'') →
      g (.int (lo + i)) (wipe σ vs) H fun σ2 H2 => wipe σ2 vs = wipe σ vs ∧ tt σ2 H2 fun b H3 => if b = true then te σ2 H3 Z else N H3)
    (hd : ∀ H, Same H1 H → H D = some (.lst (kept f p n)) → Qd H) :
    ∃ W : Nat → Nat → Hp → Prop, (∃ m, W 0 m (upd H1 D (.lst []))) ∧ ∀ i m H, W i m H →
      ((Itr lo n).stop i H ∧ Qd H) ∨ ((Itr lo n).go i H ∧ ∃ Nx : Hp → Prop, (∀ H', Nx H' → ∃ m', m' < m ∧ W (i + 1) m' H') ∧ ∀ x H', (Itr lo n).yld i H x H' → g x (wipe σ vs) H' fun σ2 H2 => wipe σ2 vs = wipe σ vs ∧ tt σ2 H2 fun b H3 =>
        if b = true then te σ2 H3 fun y H4 => ∃ acc, H4 D = some (.lst acc) ∧ acc.length < sizeLine ∧ Nx (upd H4 D (.lst (acc ++ [y]))) else Nx H3) := by
  refine lc_range (lo := lo) (n := n) (fun i H => i ≤ n ∧ Same H1 H ∧ H D = some (.lst (kept f p i))) ⟨Nat.zero_le _, Same.one nD, upd_same⟩ ?_ (fun H z => hd H z.2.1 z.2.2)
  rintro i H hi ⟨hi', s1, hD⟩
  refine hs i H _ _ hi s1 (fun H'' s2 pi => ⟨_, s2 _ _ hD, Nat.lt_of_le_of_lt (kept_len _ _ _) (by omega), hi, ?_, ?_⟩) (fun H'' s2 pi => ⟨hi, s1.trans s2, ?_⟩)
  · exact Same.updN (s1.trans s2) nD
  · rw [upd_same, kept_succ, pi]
    rfl
  · rw [s2 _ _ hD, kept_succ, pi]
    simp
end
theorem kept_all (f : Nat → V) (m : Nat) : kept f (fun _ => true) m = (List.range m).map f := by
  unfold kept
  rw [List.filter_eq_self.mpr fun _ _ => rfl]
theorem kept_map {α : Type} (xs : List α) (d : α) (f : α → V) : kept (fun i => f (xs.getD i d)) (fun _ => true) xs.length = xs.map f := by
  rw [kept_all]
  apply List.ext_getElem
  · simp
  · intro i h1 h2
    have : i < xs.length := by simpa using h1
    simp [this]
theorem kept_filter {α : Type} (d : α) (f : α → V) (p : α → Bool) : ∀ (xs : List α), kept (fun i => f (xs.getD i d)) (fun i => p (xs.getD i d)) xs.length = (xs.filter p).map f := by
  intro xs
  unfold kept
  have e : xs = (List.range xs.length).map fun i => xs.getD i d := by
    apply List.ext_getElem
    · simp
    · intro i h1 h2
      simp [h1]
  conv => rhs; rw [e]
  rw [List.filter_map, List.map_map]
  rfl
end Xby

set_option Elab.async false
set_option linter.all false
set_option maxRecDepth 100000
set_option maxHeartbeats 4000000
/-! # tables, pairs and alignments as they lie in the heap; what a program's top has -/
namespace Xby
open PySem L2
/-! ## the top -/
structure Txt (K : PySem.W.Frag) (mg : Str → Option Value) where
  C : Addr
  EK : Addr
  ER : Addr
  EW : Addr
  EM : Addr
  iK : Addr
  iR : Addr
  iW : Addr
  iM : Addr
  t1 : Tok
  t2 : Tok
  t3 : Tok
  t4 : Tok
  eK : PySem.LowV.LowTxt K mg "BadColumns" "BadColumns.__init__" EK iK
  eR : PySem.LowV.LowTxt K mg "BadRows" "BadRows.__init__" ER iR
  eW : PySem.LowV.LowTxt K mg "BadRow" "BadRow.__init__" EW iW
  eM : PySem.LowL.LowTxt K mg "TooMany" "TooMany.__init__" EM iM
  cl : Cls K C
  n_columns : NoAttr K C "columns"
  n_rows : NoAttr K C "rows"
  g_Table : mg "Table" = some (.ref C)
  c_LONGEST_WORD : mg "LONGEST_WORD" = some (.int 8 t1)
  c_GREATEST_NUMBER : mg "GREATEST_NUMBER" = some (.int 999 t2)
  c_MOST_COLUMNS : mg "MOST_COLUMNS" = some (.int 3 t3)
  c_MOST_ROWS : mg "MOST_ROWS" = some (.int 6 t4)
  b_abs : mg "abs" = none
  b_all : mg "all" = none
  b_any : mg "any" = none
  b_bool : mg "bool" = none
  b_dict : mg "dict" = none
  b_enumerate : mg "enumerate" = none
  b_int : mg "int" = none
  b_isinstance : mg "isinstance" = none
  b_len : mg "len" = none
  b_list : mg "list" = none
  b_max : mg "max" = none
  b_min : mg "min" = none
  b_range : mg "range" = none
  b_repr : mg "repr" = none
  b_reversed : mg "reversed" = none
  b_set : mg "set" = none
  b_sorted : mg "sorted" = none
  b_str : mg "str" = none
  b_sum : mg "sum" = none
  b_tuple : mg "tuple" = none
  b_zip : mg "zip" = none
/-! ## cells, rows, tables -/
def cellV (v : V) : Bool := flatC v && cellD (datC v)
inductive RowsK (K : PySem.W.Frag) (H : Hp) (wd : Nat) : List V → List (List V) → Prop
  | nil : RowsK K H wd [] []
  | cons {a : Addr} {r : List V} {vs : List V} {rs : List (List V)} : SqT K H a r → r.length = wd → (∀ v ∈ r, cellV v = true) → RowsK K H wd vs rs → RowsK K H wd (.ref a :: vs) (r :: rs)
section
variable {K : PySem.W.Frag} {H H' : Hp} {wd n : Nat} {p a : Addr} {xs : List V} {rs : List (List V)}
theorem RowsK.len (h : RowsK K H wd xs rs) : xs.length = rs.length := by
  induction h with
  | nil => rfl
  | cons _ _ _ _ ih => simp [ih]
theorem RowsK.same (h : RowsK K H wd xs rs) (s : Same H H') : RowsK K H' wd xs rs := by
  induction h with
  | nil => exact .nil
  | cons e l m _ ih => exact .cons (e.ext s) l m ih
theorem RowsK.get (h : RowsK K H wd xs rs) : ∀ {i : Nat} {x : V}, xs[i]? = some x → ∃ b r, x = .ref b ∧ rs[i]? = some r ∧ SqT K H b r ∧ r.length = wd ∧ ∀ v ∈ r, cellV v = true := by
  induction h with
  | nil => exact fun e => by simp at e
  | @cons b r _ _ e l m _ ih =>
    intro i x hx
    cases i with
    | zero =>
      obtain rfl : V.ref b = x := by simpa using hx
      exact ⟨b, r, rfl, rfl, e, l, m⟩
    | succ i => exact ih (by simpa using hx)
theorem RowsK.snoc {r : List V} (h : RowsK K H wd xs rs) (e : SqT K H a r) (l : r.length = wd) (m : ∀ v ∈ r, cellV v = true) : RowsK K H wd (xs ++ [.ref a]) (rs ++ [r]) := by
  induction h with
  | nil => exact .cons e l m .nil
  | cons e' l' m' _ ih => exact .cons e' l' m' ih
theorem cellV_flat {v : V} (h : cellV v = true) : flatC v = true := by
  unfold cellV at h
  rw [Bool.and_eq_true] at h
  exact h.1
theorem cellV_cell {v : V} (h : cellV v = true) : cellD (datC v) = true := by
  unfold cellV at h
  rw [Bool.and_eq_true] at h
  exact h.2
theorem RowsK.dq (h : RowsK K H wd xs rs) : DqAll K H xs (rs.map fun r => .tuple (r.map datC)) := by
  induction h with
  | nil => exact .nil
  | cons e l m _ ih => exact .cons (.tup e (DqAll.flat fun v hv => cellV_flat (m v hv))) ih
theorem seqBut {a : Addr} {xs : List V} (h : SqT K H a xs) (pot : Pot H p n) (b : But p H H') : SqT K H' a xs := ((seqWo h pot).ext (wo_but b)).ext wo_same
theorem RowsK.but (h : RowsK K H wd xs rs) (pot : Pot H p n) (b : But p H H') : RowsK K H' wd xs rs := by
  induction h with
  | nil => exact .nil
  | cons e l m _ ih => exact .cons (seqBut e pot b) l m ih
end
def intV : V → Bool
  | .int _ => true
  | _ => false
theorem intV_not {v : V} (h : ∀ lo hi, okV lo hi v = false) : intV v = false := by
  cases v with
  | int i => exact absurd (h i i) (by simp [okV])
  | _ => rfl
theorem intV_is {v : V} (h : intV v = true) : ∃ i, v = .int i := by
  cases v with
  | int i => exact ⟨i, rfl⟩
  | _ => cases h
def flds (c r : V) : List (Str × V) := putF "rows" r (putF "columns" c [])
theorem l_columns (c r : V) : (flds c r).lookup ("columns" : Str) = some c := by
  unfold flds
  rw [lookup_putF, if_neg (by decide +kernel), lookup_putF, if_pos rfl]
theorem l_rows (c r : V) : (flds c r).lookup ("rows" : Str) = some r := by
  unfold flds
  rw [lookup_putF, if_pos rfl]
/-- a table at a: its names, its rows -/
structure Tab (K : PySem.W.Frag) (C : Addr) (H : Hp) (a : Addr) (hs : List Str) (rs : List (List V)) (dx ac ar : Addr) (xs : List V) : Prop where
  at_ : H a = some (.ins C dx (flds (.ref ac) (.ref ar)))
  c : SqT K H ac (hs.map V.str)
  r : SqT K H ar xs
  rows : RowsK K H hs.length xs rs
  w1 : 1 ≤ hs.length
  w3 : hs.length ≤ 3
  hw : ∀ h ∈ hs, wordS h = true
  nd : hs.Nodup
  r6 : rs.length ≤ 6
def IsTab (K : PySem.W.Frag) (C : Addr) (H : Hp) (a : Addr) (hs : List Str) (rs : List (List V)) : Prop := ∃ dx ac ar xs, Tab K C H a hs rs dx ac ar xs
section
variable {K : PySem.W.Frag} {C : Addr} {H H' : Hp} {a p : Addr} {hs : List Str} {rs : List (List V)} {n : Nat}
theorem IsTab.same (t : IsTab K C H a hs rs) (s : Same H H') : IsTab K C H' a hs rs := by
  obtain ⟨dx, ac, ar, xs, t⟩ := t
  exact ⟨dx, ac, ar, xs, s _ _ t.at_, t.c.ext s, t.r.ext s, t.rows.same s, t.w1, t.w3, t.hw, t.nd, t.r6⟩
theorem IsTab.but (t : IsTab K C H a hs rs) (pot : Pot H p n) (b : But p H H') : IsTab K C H' a hs rs := by
  obtain ⟨dx, ac, ar, xs, t⟩ := t
  have ne : a ≠ p := by
    rintro rfl
    obtain ⟨_, _, _, q, _⟩ := pot
    rw [t.at_] at q
    cases q
  exact ⟨dx, ac, ar, xs, b _ _ ne t.at_, seqBut t.c pot b, seqBut t.r pot b, t.rows.but pot b, t.w1, t.w3, t.hw, t.nd, t.r6⟩
theorem Tab.len (t : IsTab K C H a hs rs) : 1 ≤ hs.length ∧ hs.length ≤ 3 ∧ rs.length ≤ 6 := by
  obtain ⟨dx, ac, ar, xs, t⟩ := t
  exact ⟨t.w1, t.w3, t.r6⟩
end
theorem dq_strs {K : PySem.W.Frag} {H : Hp} : ∀ hs : List Str, DqAll K H (hs.map V.str) (hs.map PyData.str)
  | [] => .nil
  | h :: hs => .cons (.str h) (dq_strs hs)
/-! ## pairs -/
def pairD (m o : Nat) : PyData → Bool
  | .tuple [.int i, .int j] => decide (0 ≤ i ∧ i < m) && decide (0 ≤ j ∧ j < o)
  | _ => false
def prD : PyData → Int × Int
  | .tuple [.int i, .int j] => (i, j)
  | _ => (0, 0)
def pairsD (m o : Nat) : PyData → Bool
  | .tuple ds => ds.all (pairD m o) && okPs (ds.map prD)
  | _ => false
def nilD : PyData → Bool
  | .tuple [] => true
  | _ => false
def laidD (m o r q : Nat) : PyData → Bool
  | .tuple [a, b] => pairsD m o a && pairsD r q b && (!nilD a || nilD b)
  | _ => false
def datP (p : Int × Int) : PyData := .tuple [.int p.1, .int p.2]
/-- pairs of ints, as items -/
inductive Prs (K : PySem.W.Frag) (H : Hp) : List V → List (Int × Int) → Prop
  | nil : Prs K H [] []
  | cons {a : Addr} {i j : Int} {vs : List V} {ps : List (Int × Int)} : SqT K H a [.int i, .int j] → Prs K H vs ps → Prs K H (.ref a :: vs) ((i, j) :: ps)
section
variable {K : PySem.W.Frag} {H H' : Hp} {n : Nat} {p a : Addr} {xs : List V} {ps : List (Int × Int)}
theorem Prs.len (h : Prs K H xs ps) : xs.length = ps.length := by
  induction h with
  | nil => rfl
  | cons _ _ ih => simp [ih]
theorem Prs.same (h : Prs K H xs ps) (s : Same H H') : Prs K H' xs ps := by
  induction h with
  | nil => exact .nil
  | cons e _ ih => exact .cons (e.ext s) ih
theorem Prs.but (h : Prs K H xs ps) (pot : Pot H p n) (b : But p H H') : Prs K H' xs ps := by
  induction h with
  | nil => exact .nil
  | cons e _ ih => exact .cons (seqBut e pot b) ih
theorem Prs.get (h : Prs K H xs ps) : ∀ {i : Nat} {x : V}, xs[i]? = some x → ∃ b, x = .ref b ∧ ps[i]? = some (ps.getD i (0, 0)) ∧ SqT K H b [.int (ps.getD i (0, 0)).1, .int (ps.getD i (0, 0)).2] := by
  induction h with
  | nil => exact fun e => by simp at e
  | @cons b i j _ _ e _ ih =>
    intro k x hx
    cases k with
    | zero =>
      obtain rfl : V.ref b = x := by simpa using hx
      exact ⟨b, rfl, rfl, e⟩
    | succ k =>
      obtain ⟨b, h1, h2, h3⟩ := ih (i := k) (by simpa using hx)
      exact ⟨b, h1, by simpa using h2, by simpa using h3⟩
theorem Prs.snoc {i j : Int} (h : Prs K H xs ps) (e : SqT K H a [.int i, .int j]) : Prs K H (xs ++ [.ref a]) (ps ++ [(i, j)]) := by
  induction h with
  | nil => exact .cons e .nil
  | cons e' _ ih => exact .cons e' ih
theorem Prs.dq (h : Prs K H xs ps) : DqAll K H xs (ps.map datP) := by
  induction h with
  | nil => exact .nil
  | cons e _ ih => exact .cons (.tup e (.cons (.int _) (.cons (.int _) .nil))) ih
theorem Prs.of {ds : List PyData} {m o : Nat} (h : DqAll K H xs ds) (all : ds.all (pairD m o) = true) : Prs K H xs (ds.map prD) ∧ ds = (ds.map prD).map datP ∧ ∀ q ∈ ds.map prD, (0 ≤ q.1 ∧ q.1 < m) ∧ 0 ≤ q.2 ∧ q.2 < o := by
  induction xs generalizing ds with
  | nil =>
    cases h
    exact ⟨.nil, rfl, by simp⟩
  | cons x xs ih =>
    cases h with
    | @cons _ _ d ds h1 h2 =>
      rw [List.all_cons, Bool.and_eq_true] at all
      obtain ⟨a1, a2, a3⟩ := ih h2 all.2
      have one := all.1
      unfold pairD at one
      split at one
      · rename_i i j
        rw [Bool.and_eq_true] at one
        cases h1 with
        | tup hs hd =>
          cases hd with
          | cons i1 r1 =>
            cases r1 with
            | cons i2 r2 =>
              cases r2
              cases i1
              cases i2
              refine ⟨.cons hs a1, ?_, fun q hq => ?_⟩
              · rw [List.map_cons, List.map_cons, ← a2]
                rfl
              · rw [List.map_cons] at hq
                rcases List.mem_cons.mp hq with rfl | hq
                · exact ⟨of_decide_eq_true one.1, of_decide_eq_true one.2⟩
                · exact a3 q hq
      · cases one
end
theorem pairsD_map {m o : Nat} {ps : List (Int × Int)} (hb : ∀ q ∈ ps, (0 ≤ q.1 ∧ q.1 < m) ∧ 0 ≤ q.2 ∧ q.2 < o) : pairsD m o (.tuple (ps.map datP)) = okPs ps := by
  have e1 : (ps.map datP).all (pairD m o) = true := by
    rw [List.all_map, List.all_eq_true]
    intro q hq
    obtain ⟨h1, h2⟩ := hb q hq
    show (decide _ && decide _) = true
    rw [decide_eq_true h1, decide_eq_true h2]
    rfl
  have e2 : (ps.map datP).map prD = ps := by
    rw [List.map_map]
    exact List.map_id'' (fun q => rfl) ps
  show ((ps.map datP).all (pairD m o) && okPs ((ps.map datP).map prD)) = okPs ps
  rw [e1, e2, Bool.true_and]
end Xby
namespace Xby
open PySem L2
theorem sh_word {d : PyData} (h : wordD d = true) : Sh d := by
  rintro x rfl
  have h : wordS x = true := h
  unfold wordS at h
  rw [Bool.and_eq_true] at h
  have := (of_decide_eq_true h.1).2
  omega
theorem sh_cell {d : PyData} (h : cellD d = true) : Sh d := by
  rintro x rfl
  have h : (false || false || wordD (.str x)) = true := h
  exact sh_word (d := .str x) (by simpa using h) x rfl
theorem tab_two {K : PySem.W.Frag} {H : Hp} {ac ar : Addr} {hs : List Str} {xs : List V} {rs : List (List V)} (hc : SqT K H ac (hs.map V.str)) (hr : SqT K H ar xs) (rows : RowsK K H hs.length xs rs) (w1 : 1 ≤ hs.length) (w3 : hs.length ≤ 3)
    (hw : ∀ h ∈ hs, wordS h = true) (nd : hs.Nodup) (r6 : rs.length ≤ 6) :
    ∃ xs', Two K H (.ref ac) (.ref ar) (.tuple (hs.map PyData.str)) (.tuple (rs.map fun r => .tuple (r.map datC))) xs' ∧ (due (.ref ac) (.ref ar) (.tuple (hs.map PyData.str)) (.tuple (rs.map fun r => .tuple (r.map datC))) xs').1 = .none := by
  have all : ∀ {rs : List (List V)} {xs : List V}, RowsK K H hs.length xs rs → ∀ r ∈ rs, r.length = hs.length ∧ ∀ v ∈ r, cellV v = true := by
    intro rs xs h
    induction h with
    | nil => exact fun r hr => by simp at hr
    | cons _ l m _ ih =>
      intro r hr
      rcases List.mem_cons.mp hr with rfl | hr
      · exact ⟨l, m⟩
      · exact ih r hr
  have all := all rows
  have s1 : Sh1 (.tuple (hs.map PyData.str)) := by
    rintro ds e d hd
    injection e with e
    subst e
    obtain ⟨h, hh, rfl⟩ := List.mem_map.mp hd
    exact sh_word (d := .str h) (hw h hh)
  have s2 : Sh2 (.tuple (rs.map fun r => .tuple (r.map datC))) := by
    rintro ds e d hd
    injection e with e
    subst e
    obtain ⟨r, hr, rfl⟩ := List.mem_map.mp hd
    rintro ds e d hd
    injection e with e
    subst e
    obtain ⟨v, hv, rfl⟩ := List.mem_map.mp hd
    exact sh_cell (cellV_cell ((all r hr).2 v hv))
  obtain ⟨xs', two⟩ := two_of (.tup hc (dq_strs hs)) (.tup hr rows.dq) s1 s2
  refine ⟨xs', two, ?_⟩
  have c : colsD (.tuple (hs.map PyData.str)) = true := by
    show (decide _ && _ && decide _) = true
    have e1 : (hs.map PyData.str).all wordD = true := by
      rw [List.all_map, List.all_eq_true]
      exact hw
    have e2 : (hs.map PyData.str).map strD = hs := by
      rw [List.map_map]
      exact List.map_id'' (fun q => rfl) hs
    rw [e1, e2, decide_eq_true nd, decide_eq_true (by rw [List.length_map]; exact ⟨w1, w3⟩)]
    rfl
  refine congrArg Prod.fst (due_none c (by rw [List.length_map]; omega) (bad_no fun e he => ?_))
  obtain ⟨r, hr, rfl⟩ := List.mem_map.mp he
  obtain ⟨l, m⟩ := all r hr
  show (decide ((r.map datC).length = (hs.map PyData.str).length) && (r.map datC).all cellD) = true
  rw [List.length_map, List.length_map, decide_eq_true l, Bool.true_and, List.all_map, List.all_eq_true]
  exact fun v hv => cellV_cell (m v hv)
end Xby
namespace Xby
open PySem L2
theorem pairD_two (m o : Nat) (d e : PyData) : pairD m o (.tuple [d, e]) = (intD 0 ((m : Int) - 1) d && intD 0 ((o : Int) - 1) e) := by
  have l : ∀ (x : Int) (n : Nat), decide (0 ≤ x ∧ x < (n : Int)) = decide (0 ≤ x ∧ x ≤ (n : Int) - 1) := fun x n => by
    congr 1
    exact propext ⟨fun z => ⟨z.1, by omega⟩, fun z => ⟨z.1, by omega⟩⟩
  cases d <;> cases e <;> first
    | (show (decide _ && decide _) = (decide _ && decide _); rw [l, l]; done)
    | simp [pairD, intD]
theorem pairD_len {m o : Nat} {ds : List PyData} (h : ds.length ≠ 2) : pairD m o (.tuple ds) = false := by
  match ds, h with
  | [], _ => rfl
  | [d], _ => cases d <;> rfl
  | [d, e], h => exact absurd rfl h
  | d :: e :: f :: r, _ => cases d <;> cases e <;> rfl
theorem pairD_not {m o : Nat} {d : PyData} (h : ∀ ds, d ≠ .tuple ds) : pairD m o d = false := by
  cases d with
  | tuple ds => exact absurd rfl (h ds)
  | _ => rfl
theorem laidD_len {m o r q : Nat} {ds : List PyData} (h : ds.length ≠ 2) : laidD m o r q (.tuple ds) = false := by
  match ds, h with
  | [], _ => rfl
  | [d], _ => rfl
  | [d, e], h => exact absurd rfl h
  | d :: e :: f :: r, _ => rfl
/-- no great tuple -/
def Few (d : PyData) : Prop := ∀ ds, d = .tuple ds → ds.length ≤ 1000
def Few1 (d : PyData) : Prop := ∀ ds, d = .tuple ds → ∀ e ∈ ds, Few e
theorem rise_all (ps : List (Int × Int)) : ((List.range (ps.length - 1)).map fun i => decide ((ps.getD i (0, 0)).1 < (ps.getD (i + 1) (0, 0)).1)).all id = decide ((ps.map (·.1)).Pairwise (· < ·)) := by
  rw [Bool.eq_iff_iff, decide_eq_true_iff, ← rise_iff, List.all_map, List.all_eq_true]
  constructor
  · intro h k hk
    rw [List.length_map] at hk
    have := h k (List.mem_range.mpr (by omega))
    have := of_decide_eq_true this
    simpa [List.getD_eq_getElem?_getD, hk, Nat.lt_of_succ_lt hk] using this
  · intro h k hk
    have hk := List.mem_range.mp hk
    have h1 : k + 1 < ps.length := by omega
    have := h k (by rw [List.length_map]; exact h1)
    show decide _ = true
    refine decide_eq_true ?_
    simpa [List.getD_eq_getElem?_getD, h1, Nat.lt_of_succ_lt h1] using this
section
variable {K : PySem.W.Frag} {H : Hp} {v : V} {d : PyData} {m o : Nat}
theorem pairs_tup (h : Dq K H v d) (p : pairsD m o d = true) : ∃ a xs ds, v = .ref a ∧ d = .tuple ds ∧ SqT K H a xs ∧ DqAll K H xs ds := by
  cases d with
  | tuple ds =>
    obtain ⟨a, xs, e, h1, h2⟩ := h.ofTup
    exact ⟨a, xs, ds, e, rfl, h1, h2⟩
  | _ => cases p
theorem nilD_of {xs : List V} {ds : List PyData} (h : DqAll K H xs ds) : xs.isEmpty = nilD (.tuple ds) := by
  cases h <;> rfl
end
end Xby
namespace Xby
open PySem L2
def InB (m o : Nat) (ps : List (Int × Int)) : Prop := ∀ q ∈ ps, (0 ≤ q.1 ∧ q.1 < m) ∧ 0 ≤ q.2 ∧ q.2 < o
/-- an alignment at a -/
def Laid (K : PySem.W.Frag) (H : Hp) (a : Addr) (cs ps : List (Int × Int)) : Prop := ∃ a1 a2 x1 x2, SqT K H a [.ref a1, .ref a2] ∧ SqT K H a1 x1 ∧ Prs K H x1 cs ∧ SqT K H a2 x2 ∧ Prs K H x2 ps
section
variable {K : PySem.W.Frag} {H H' : Hp} {a p b : Addr} {cs ps : List (Int × Int)} {n : Nat} {xs l l' : List V}
theorem Laid.same (h : Laid K H a cs ps) (s : Same H H') : Laid K H' a cs ps := by
  obtain ⟨a1, a2, x1, x2, h1, h2, h3, h4, h5⟩ := h
  exact ⟨a1, a2, x1, x2, h1.ext s, h2.ext s, h3.same s, h4.ext s, h5.same s⟩
theorem Laid.but (h : Laid K H a cs ps) (pot : Pot H p n) (s : But p H H') : Laid K H' a cs ps := by
  obtain ⟨a1, a2, x1, x2, h1, h2, h3, h4, h5⟩ := h
  exact ⟨a1, a2, x1, x2, seqBut h1 pot s, seqBut h2 pot s, h3.but pot s, seqBut h4 pot s, h5.but pot s⟩
theorem Laid.dq (h : Laid K H a cs ps) : Dq K H (.ref a) (.tuple [.tuple (cs.map datP), .tuple (ps.map datP)]) := by
  obtain ⟨a1, a2, x1, x2, h1, h2, h3, h4, h5⟩ := h
  exact .tup h1 (.cons (.tup h2 h3.dq) (.cons (.tup h4 h5.dq) .nil))
theorem seqUpd (h : SqT K H a xs) (hb : H b = some (.lst l)) : SqT K (upd H b (.lst l')) a xs := by
  rcases h with (h | ⟨o, h⟩) | ⟨o, i, j, h⟩
  · exact .inl (.inl (by rw [upd_ne (by rintro rfl; rw [h] at hb; cases hb)]; exact h))
  · exact .inl (.inr ⟨o, by rw [upd_ne (by rintro rfl; rw [h] at hb; cases hb)]; exact h⟩)
  · exact .inr ⟨o, i, j, h⟩
theorem Prs.updL (h : Prs K H xs ps) (hb : H b = some (.lst l)) : Prs K (upd H b (.lst l')) xs ps := by
  induction h with
  | nil => exact .nil
  | cons e _ ih => exact .cons (seqUpd e hb) ih
end
theorem erase_perm {α : Type} : ∀ (l : List α) (i : Nat) (h : i < l.length), (l[i] :: l.eraseIdx i).Perm l
  | x :: xs, 0, _ => List.Perm.refl _
  | x :: xs, i + 1, h => by
    have h' : i < xs.length := by simpa using h
    exact (List.Perm.swap x xs[i] (xs.eraseIdx i)).trans ((erase_perm xs i h').cons x)
end Xby

set_option Elab.async false
set_option linter.all false
set_option maxRecDepth 100000
set_option maxHeartbeats 4000000
namespace Xby
open PySem L2
def spPairs6 (K : PySem.W.Frag) : Sp := fun vs H Q _ => ∃ (v : V) (d : PyData) (m o : Nat), vs = [v, .int m, .int o] ∧ m ≤ 6 ∧ Dq K H v d ∧ Few d ∧ ∀ H', Same H H' → Q (.bl (pairsD m o d)) H'
theorem dp_ints {K : PySem.W.Frag} {H : Hp} {a : Addr} {ns : List Int} (h : H a = some (.lst (ns.map V.int))) : Dp K H (.ref a) (.list (ns.map PyData.int)) := by
  refine .lst (SqL.of h) ?_
  clear h
  induction ns with
  | nil => exact .nil
  | cons n ns ih => exact .cons (.int n) ih
theorem shaped_ints (ns : List Int) : SeqAt.shaped (.list (ns.map PyData.int)) = true := by
  have h : ∀ ns : List Int, PyData.canLayAll0 (ns.map PyData.int) = true ∧ PyData.depthAll (ns.map PyData.int) = 0 := by
    intro ns
    induction ns with
    | nil => exact ⟨rfl, rfl⟩
    | cons n ns ih => exact ⟨by simp only [List.map_cons, PyData.canLayAll0, PyData.canLay0, ih.1, Bool.and_self], by simp only [List.map_cons, PyData.depthAll, PyData.depth, ih.2]; rfl⟩
  obtain ⟨a, b⟩ := h ns
  exact Shp.shaped (k := 1) ⟨by simpa only [PyData.canLay0] using a, by simp only [PyData.depth, b]; omega⟩ (by decide)
theorem eqv_ints (xs ys : List Int) : PyData.eqv (.list (xs.map PyData.int)) (.list (ys.map PyData.int)) = decide (xs = ys) := by
  simp only [PyData.eqv]
  induction xs generalizing ys with
  | nil => cases ys <;> simp [PyData.eqvAll]
  | cons x xs ih =>
    cases ys with
    | nil => simp [PyData.eqvAll]
    | cons y ys =>
      simp only [List.map_cons, PyData.eqvAll, PyData.eqv, ih]
      rw [Bool.eq_iff_iff]
      simp
end Xby

set_option Elab.async false
set_option linter.all false
set_option maxRecDepth 100000
set_option maxHeartbeats 4000000
namespace Xby
open PySem L2
section
variable {K : PySem.W.Frag} {H H' : Hp} {p L a : Addr} {o u : HO} {xs l I : List V} {w k n : Nat} {cs ps : List (Int × Int)}
theorem wo_upd : wo L (upd H L o) = wo L H := by
  funext b
  unfold wo
  split
  · rfl
  · rename_i h
    exact upd_ne h
theorem wo_wo : Same (wo p (wo L H)) (wo p H) := wo_but (But.of wo_same)
theorem wo_but2 (b : But p H H') (hp : ∀ {o}, H L = some o → H' L = some o ∨ True) : But p (wo L H) (wo L H') := fun c o n e => by
  have nl : c ≠ L := fun z => by rw [z, wo_p] at e; cases e
  exact wo_at nl (b c o n (wo_same c o e))
theorem wo_butL (b : But p H H') : But p (wo L H) (wo L H') := wo_but2 b fun _ => .inr trivial
theorem wo_potL (pot : Pot H p n) (ne : p ≠ L) : Pot (wo L H) p n := by
  obtain ⟨x, y, z, e, r⟩ := pot
  exact ⟨x, y, z, wo_at ne e, r⟩
theorem seqOff (h : SqT K H a xs) (hb : H L = some (.lst l)) : SqT K (wo L H) a xs := by
  rcases h with (h | ⟨o, h⟩) | ⟨o, i, j, h⟩
  · exact .inl (.inl (wo_at (by rintro rfl; rw [h] at hb; cases hb) h))
  · exact .inl (.inr ⟨o, wo_at (by rintro rfl; rw [h] at hb; cases hb) h⟩)
  · exact .inr ⟨o, i, j, h⟩
theorem Prs.off (h : Prs K H xs ps) (hb : H L = some (.lst l)) : Prs K (wo L H) xs ps := by
  induction h with
  | nil => exact .nil
  | cons e _ ih => exact .cons (seqOff e hb) ih
theorem Laid.off (h : Laid K H a cs ps) (hb : H L = some (.lst l)) : Laid K (wo L H) a cs ps := by
  obtain ⟨a1, a2, x1, x2, h1, h2, h3, h4, h5⟩ := h
  exact ⟨a1, a2, x1, x2, seqOff h1 hb, seqOff h2 hb, h3.off hb, seqOff h4 hb, h5.off hb⟩
theorem Laid.dqp (h : Laid K H a cs ps) (pot : Pot H p n) : Dq K (wo p H) (.ref a) (.tuple [.tuple (cs.map datP), .tuple (ps.map datP)]) := by
  obtain ⟨_, _, _, q, _⟩ := pot
  exact (h.off q).dq
/-- what is data where a list is shut away does not hold that list -/
theorem seqShut {od : Obj} (h : SqT K H a xs) (hb : H L = some (.frz od (.lst I))) : SqT K (wo L H) a xs := by
  rcases h with (h | ⟨o, h⟩) | ⟨o, i, j, h⟩
  · exact .inl (.inl (wo_at (by rintro rfl; rw [h] at hb; cases hb) h))
  · exact .inl (.inr ⟨o, wo_at (by rintro rfl; rw [h] at hb; cases hb) h⟩)
  · exact .inr ⟨o, i, j, h⟩
mutual
theorem Dq.shut {od : Obj} (hb : H L = some (.frz od (.lst I))) : ∀ {v : V} {d : PyData}, Dq K H v d → Dq K (wo L H) v d
  | _, _, .non => .non
  | _, _, .bl b => .bl b
  | _, _, .int i => .int i
  | _, _, .str x => .str x
  | _, _, .lst h n a => .lst (wo_at (by rintro rfl; rw [h] at hb; cases hb) h) n (DqAll.shut hb a)
  | _, _, .tup h a => .tup (seqShut h hb) (DqAll.shut hb a)
  | _, _, .dct h a => .dct (wo_at (by rintro rfl; rw [h] at hb; cases hb) h) (DqKv.shut hb a)
theorem DqAll.shut {od : Obj} (hb : H L = some (.frz od (.lst I))) : ∀ {vs : List V} {ds : List PyData}, DqAll K H vs ds → DqAll K (wo L H) vs ds
  | _, _, .nil => .nil
  | _, _, .cons h a => .cons (Dq.shut hb h) (DqAll.shut hb a)
theorem DqKv.shut {od : Obj} (hb : H L = some (.frz od (.lst I))) : ∀ {kvs : List (Key × V)} {ds : List (PyData × PyData)}, DqKv K H kvs ds → DqKv K (wo L H) kvs ds
  | _, _, .nil => .nil
  | _, _, .cons h a => .cons (Dq.shut hb h) (DqKv.shut hb a)
end
theorem wo_shut {od : Obj} (hb : H L = some (.lst I)) : Same (wo p (wo L H)) (wo p (upd H L (.frz od (.lst I)))) := wo_but (But.of fun b o e => by
  have n : b ≠ L := fun z => by rw [z, wo_p] at e; cases e
  rw [upd_ne n]
  exact wo_same b o e)
theorem wo_comm : wo p (wo L H) = wo L (wo p H) := by
  funext b
  unfold wo
  by_cases h1 : b = p <;> by_cases h2 : b = L <;> simp [h1, h2]
/-- a list is shut away, something is done, the list is there again -/
structure Lock (p L : Addr) (I : List V) (od : Obj) (H H' : Hp) : Prop where
  at_ : H' L = some (.frz od (.lst I))
  but : But p H (upd H' L (.lst I))
  off : But p (wo L H) (wo L (upd H' L (.lst I)))
theorem lock_of {od : Obj} (hL : H L = some (.lst I)) (ne : L ≠ p) (b : But p (upd H L (.frz od (.lst I))) H') : Lock p L I od H H' := by
  refine ⟨b L _ ne upd_same, fun c o n e => ?_, ?_⟩
  · by_cases h : c = L
    · subst h
      rw [hL] at e
      rw [upd_same]
      exact e
    · rw [upd_ne h]
      exact b c o n (by rw [upd_ne h]; exact e)
  · have z := wo_butL (L := L) b
    rw [wo_upd] at z
    rw [wo_upd]
    exact z
/-- data made while the list was shut away -/
theorem Okd.shut {od : Obj} {x : V} (h : Okd K p w k H' x) (hb : H' L = some (.frz od (.lst I))) (ne : L ≠ p) : Okd K p w k (wo L (upd H' L (.lst I))) x := by
  obtain ⟨d, q, z⟩ := h
  refine ⟨d, ?_, z⟩
  rw [wo_upd, wo_comm]
  exact q.shut (wo_at ne hb)
end
theorem sz_pair : ∀ i j : Nat, i < 6 → j < 6 → Sz 10 1 (datP ((i : Int), (j : Int))) := by
  have : ∀ i : Fin 6, ∀ j : Fin 6, Sz 10 1 (datP ((i.val : Int), (j.val : Int))) := by decide +kernel
  exact fun i j hi hj => this ⟨i, hi⟩ ⟨j, hj⟩
theorem okPs_len {ps : List (Int × Int)} {m o : Nat} (ok : okPs ps = true) (inb : InB m o ps) : ps.length ≤ m := by
  unfold okPs at ok
  rw [Bool.and_eq_true] at ok
  have nd : (ps.map (·.1)).Nodup := (of_decide_eq_true ok.1).imp fun h => Int.ne_of_lt h
  have := nd.length_le_of_subset (l₂ := (List.range m).map fun i : Nat => (i : Int)) fun x hx => by
    obtain ⟨q, hq, rfl⟩ := List.mem_map.mp hx
    have := (inb q hq).1
    exact List.mem_map.mpr ⟨q.1.toNat, List.mem_range.mpr (by omega), by omega⟩
  rw [List.length_map, List.length_map, List.length_range] at this
  exact this
theorem sz_pairs {ps : List (Int × Int)} {m o : Nat} (hm : m ≤ 6) (ho : o ≤ 6) (ok : okPs ps = true) (inb : InB m o ps) : Sz 66 2 (.tuple (ps.map datP)) := by
  have l := okPs_len ok inb
  refine (Sz.tup (w := 10) (k := 1) fun d hd => ?_).more ?_ (by decide)
  · obtain ⟨q, hq, rfl⟩ := List.mem_map.mp hd
    obtain ⟨⟨h0, h1⟩, h2, h3⟩ := inb q hq
    have := sz_pair q.1.toNat q.2.toNat (by omega) (by omega)
    rw [Int.toNat_of_nonneg h0, Int.toNat_of_nonneg h2] at this
    exact this
  · rw [List.length_map]
    omega
theorem sz_laid {cs ps : List (Int × Int)} {m o r q : Nat} (hm : m ≤ 6) (ho : o ≤ 6) (hr : r ≤ 6) (hq : q ≤ 6) (oc : okPs cs = true) (ic : InB m o cs) (op : okPs ps = true) (ip : InB r q ps) : Sz 134 3 (.tuple [.tuple (cs.map datP), .tuple (ps.map datP)]) := by
  refine (Sz.tup (w := 66) (k := 2) fun d hd => ?_).more (by show 67 * 2 ≤ 134; decide) (by decide)
  simp only [List.mem_cons, List.not_mem_nil, or_false] at hd
  rcases hd with rfl | rfl
  · exact sz_pairs hm ho oc ic
  · exact sz_pairs hr hq op ip
theorem Sz.few {w k : Nat} {d : PyData} (z : Sz w k d) (h : w ≤ 1000) : Few d := by
  rintro ds rfl
  obtain ⟨j, _, s⟩ := z.items
  have := s.len
  omega
theorem Sz.few1 {w k : Nat} {d : PyData} (z : Sz w k d) (h : w ≤ 1000) : Few1 d := by
  rintro ds rfl e he
  obtain ⟨j, _, s⟩ := z.items
  exact (s.mem he).few h
theorem fine_bool (b : Bool) : Fine (.bool b) := by
  have : ∀ b : Bool, Sz 10 1 (.bool b) := by decide +kernel
  exact (this b).fine (by decide) (by decide)
theorem laidD_of {cs ps : List (Int × Int)} {m o r q : Nat} (ic : InB m o cs) (ip : InB r q ps) (oc : okPs cs = true) (op : okPs ps = true) (z : cs = [] → ps = []) : laidD m o r q (.tuple [.tuple (cs.map datP), .tuple (ps.map datP)]) = true := by
  show (pairsD m o _ && pairsD r q _ && (!nilD _ || nilD _)) = true
  rw [pairsD_map ic, pairsD_map ip, oc, op]
  cases cs with
  | nil =>
    rw [z rfl]
    rfl
  | cons c cs => rfl
end Xby
namespace Xby
open PySem L2
section
variable {K : PySem.W.Frag} {C : Addr} {H H' H0 : Hp} {p L a b one other : Addr} {o u : HO} {xs l I : List V} {w k n m : Nat} {cs ps : List (Int × Int)} {hs ks : List Str} {rs qs : List (List V)} {wd : Nat} {x : V}
theorem Okd.more {w' k' : Nat} (h : Okd K p w k H x) (hw : w ≤ w') (hk : k ≤ k') : Okd K p w' k' H x := by
  obtain ⟨d, q, z⟩ := h
  exact ⟨d, q, z.more hw hk⟩
theorem seqButL (h : SqT K H a xs) (hb : H b = some (.lst l)) (s : But b H H') : SqT K H' a xs := by
  rcases h with (h | ⟨o, h⟩) | ⟨o, i, j, h⟩
  · exact .inl (.inl (s a _ (by rintro rfl; rw [h] at hb; cases hb) h))
  · exact .inl (.inr ⟨o, s a _ (by rintro rfl; rw [h] at hb; cases hb) h⟩)
  · exact .inr ⟨o, i, j, h⟩
theorem RowsK.butL (h : RowsK K H wd xs rs) (hb : H b = some (.lst l)) (s : But b H H') : RowsK K H' wd xs rs := by
  induction h with
  | nil => exact .nil
  | cons e l m _ ih => exact .cons (seqButL e hb s) l m ih
theorem IsTab.butL (t : IsTab K C H a hs rs) (hb : H b = some (.lst l)) (s : But b H H') : IsTab K C H' a hs rs := by
  obtain ⟨dx, ac, ar, xs, t⟩ := t
  have ne : a ≠ b := by
    rintro rfl
    rw [t.at_] at hb
    cases hb
  exact ⟨dx, ac, ar, xs, s _ _ ne t.at_, seqButL t.c hb s, seqButL t.r hb s, t.rows.butL hb s, t.w1, t.w3, t.hw, t.nd, t.r6⟩
theorem But.upd1 : But b H (L2.upd H b o) := fun c u n e => by
  rw [upd_ne n]
  exact e
/-- a drawer, a list of data that grows, two tables -/
structure Bk (K : PySem.W.Frag) (C p L one other : Addr) (H0 : Hp) (hs ks : List Str) (rs qs : List (List V)) (w k : Nat) (m : Nat) (I : List V) (H : Hp) : Prop where
  hL : H L = some (.lst I)
  g : ∀ x ∈ I, Okd K p w k (wo L H) x
  t1 : IsTab K C H one hs rs
  t2 : IsTab K C H other ks qs
  pot : Pot H p m
  but : But p H0 H
  ne : L ≠ p
  nw : H0 L = none
  few : I.length ≤ 100000
theorem Bk.next (s : Bk K C p L one other H0 hs ks rs qs w k m I H) (b : But p H H') (pot : Pot H' p n) : Bk K C p L one other H0 hs ks rs qs w k n I H' :=
  ⟨b _ _ s.ne s.hL, all_but s.g (wo_butL b), s.t1.but s.pot b, s.t2.but s.pot b, pot, s.but.trans b, s.ne, s.nw, s.few⟩
theorem Bk.same (s : Bk K C p L one other H0 hs ks rs qs w k m I H) (b : Same H H') : Bk K C p L one other H0 hs ks rs qs w k m I H' := s.next (But.of b) (s.pot.same b)
theorem Bk.more (s : Bk K C p L one other H0 hs ks rs qs w k m I H) (h : m ≤ n) : Bk K C p L one other H0 hs ks rs qs w k n I H := ⟨s.hL, s.g, s.t1, s.t2, s.pot.more h, s.but, s.ne, s.nw, s.few⟩
theorem Bk.add (s : Bk K C p L one other H0 hs ks rs qs w k m I H) (o : Okd K p w k (wo L H) x) (few : I.length < 100000) : Bk K C p L one other H0 hs ks rs qs w k m (I ++ [x]) (upd H L (.lst (I ++ [x]))) := by
  refine ⟨upd_same, fun y hy => ?_, s.t1.butL s.hL But.upd1, s.t2.butL s.hL But.upd1, s.pot.upd s.ne.symm, s.but.updN s.nw, s.ne, s.nw, by rw [List.length_append]; exact few⟩
  rw [wo_upd]
  rcases List.mem_append.mp hy with hy | hy
  · exact s.g y hy
  · obtain rfl : y = x := by simpa using hy
    exact o
/-- behind what was done while the list was shut away -/
theorem Bk.lock {od : Obj} (s : Bk K C p L one other H0 hs ks rs qs w k m I H) (b : But p (upd H L (.frz od (.lst I))) H') (pot : Pot H' p n) : Lock p L I od H H' ∧ Bk K C p L one other H0 hs ks rs qs w k n I (upd H' L (.lst I)) := by
  have lk := lock_of s.hL s.ne b
  exact ⟨lk, s.next lk.but (pot.upd s.ne.symm)⟩
theorem Bk.line (s : Bk K C p L one other H0 hs ks rs qs w k m I H) : I.length < sizeLine := by
  have := s.few
  have : sizeLine = 16777216 := sizeLine_eq
  omega
end
end Xby

set_option Elab.async false
set_option linter.all false
set_option maxRecDepth 100000
set_option maxHeartbeats 4000000
namespace K02
open PySem L2 Xby
def top (i : Nat) : Stmt := PySem.Challenge.pw_tableheld_k02_tables_that_are_equal.main.body.getD i (.Pass ⟨0, 0, 0, 0⟩)
def spInteger (K : PySem.W.Frag) : Sp := fun vs H Q _ => ∃ (v : V) (d : PyData), vs = [v] ∧ Dq K H v d ∧ Q (.bl (intV v)) H
def spWithin (K : PySem.W.Frag) : Sp := fun vs H Q _ => ∃ (v : V) (d : PyData) (lo hi : Int), vs = [v, .int lo, .int hi] ∧ Dq K H v d ∧ Q (.bl (okV lo hi v)) H
def spWord (K : PySem.W.Frag) : Sp := fun vs H Q _ => ∃ (v : V) (d : PyData), vs = [v] ∧ Dq K H v d ∧ Sh d ∧ ∀ H', Same H H' → Q (.bl (wordD d)) H'
def spCell (K : PySem.W.Frag) : Sp := fun vs H Q _ => ∃ (v : V) (d : PyData), vs = [v] ∧ Dq K H v d ∧ Sh d ∧ ∀ H', Same H H' → Q (.bl (cellD d)) H'
def spCols (K : PySem.W.Frag) : Sp := fun vs H Q _ => ∃ (v : V) (d : PyData), vs = [v] ∧ Dq K H v d ∧ Sh1 d ∧ ∀ H', Same H H' → Q (.bl (colsD d)) H'
def spRow (K : PySem.W.Frag) : Sp := fun vs H Q _ => ∃ (v : V) (d : PyData) (n : Nat), vs = [v, .int n] ∧ Dq K H v d ∧ Sh1 d ∧ n < 1000 ∧ ∀ H', Same H H' → Q (.bl (rowD n d)) H'
structure Txt (K : PySem.W.Frag) (mg : Str → Option Value) (C : Addr) (t1 t2 t3 t4 : Tok) : Prop where
  cl : Cls K C
  n_columns : NoAttr K C "columns"
  n_rows : NoAttr K C "rows"
  g_Table : mg "Table" = some (.ref C)
  c_LONGEST_WORD : mg "LONGEST_WORD" = some (.int 8 t1)
  c_GREATEST_NUMBER : mg "GREATEST_NUMBER" = some (.int 999 t2)
  c_MOST_COLUMNS : mg "MOST_COLUMNS" = some (.int 3 t3)
  c_MOST_ROWS : mg "MOST_ROWS" = some (.int 6 t4)
  b_abs : mg "abs" = none
  b_all : mg "all" = none
  b_any : mg "any" = none
  b_bool : mg "bool" = none
  b_int : mg "int" = none
  b_isinstance : mg "isinstance" = none
  b_len : mg "len" = none
  b_list : mg "list" = none
  b_max : mg "max" = none
  b_min : mg "min" = none
  b_range : mg "range" = none
  b_repr : mg "repr" = none
  b_set : mg "set" = none
  b_str : mg "str" = none
  b_tuple : mg "tuple" = none
  kcc : PySem.W.kitOne K (.ref C) (.ref C) = some true
  kT : ∀ T : String, T ∈ ["NoneType", "tuple", "int", "list", "str"] → PySem.W.kitOne K (.type T) (.ref C) = some false ∧ PySem.W.notFirst K C (.type T) = true
  ca : PySem.W.findIn K (.ref C) "__class__" = some (some (.builtin "object.__class__"))
  cn : PySem.W.specialIn K (.builtin "object.__class__") "__get__" = some (some (.builtin "getset_descriptor.__get__"))
  ct : PySem.W.takesIn K (.builtin "object.__class__") = some true
  cm : PySem.W.mroIn K C (.type "object") = some true
  ne : PySem.W.findIn K (.ref C) "__ne__" = some (some (.builtin "object.__ne__"))
section
variable {P : Program} {w : World} {K : PySem.W.Frag} {mg : Str → Option Value} {base : Heap} {C : Addr} {t1 t2 t3 t4 : Tok}
abbrev s_is_integer : Stmt := top 7
theorem sc_is_integer : FnScope ["value"] ["value"] (defScope s_is_integer) := ⟨rfl, rfl, rfl, by decide +kernel, rfl, by decide +kernel, by decide +kernel⟩
theorem ok_integer {f : Addr} {fd : FuncData} (F : Fun K "is_integer" "is_integer" s_is_integer f fd) (T : Txt K mg C t1 t2 t3 t4) : FnOk P w K mg base CX0 1 f fd ["value"] (spInteger K) := by
  refine F.ok sc_is_integer (fun vs H Q E h => ?_) (fun cdv A outer s H vs Q E hr h => ⟨_, (pss_one (ps_ret (pe_and (pe_callB (call_isiK K rfl) (by rfl) T.b_isinstance (by decide +kernel) (pa_cons (pv 0) (pa_cons (pe_bltn (v := .ty "int") (by rfl) T.b_int (by decide +kernel) rfl) pa_nil))) (pe_one (pe_not (pe_callB (call_isiK K rfl) (by rfl) T.b_isinstance (by decide +kernel) (pa_cons (pv 0) (pa_cons (pe_bltn (v := .ty "bool") (by rfl) T.b_bool (by decide +kernel) rfl) pa_nil)))))))), ?_⟩)
  · obtain ⟨_, _, rfl, _⟩ := h
    rfl
  obtain ⟨v, d, rfl, hd, k⟩ := h
  rcases hd.kind with ⟨b, rfl⟩ | ⟨i, rfl⟩ | ⟨T', ty, ⟨kb, ki⟩, no⟩
  · exact ⟨_, rfl, _, _, _, _, _, rfl, .ty _, .base (.bl b), kit_ty kit_bi, _, rfl, _, rfl, _, _, _, _, _, rfl, .ty _, .base (.bl b), kit_ty kit_bb, _, rfl, k⟩
  · exact ⟨_, rfl, _, _, _, _, _, rfl, .ty _, .base (.int i), kit_ty kit_ii, _, rfl, _, rfl, _, _, _, _, _, rfl, .ty _, .base (.int i), kit_ty kit_ib, _, rfl, k⟩
  · rw [intV_not no] at k
    exact ⟨_, rfl, _, _, _, _, _, rfl, .ty _, ty, kit_ty ki, _, rfl, k⟩
abbrev s_is_integer_within : Stmt := top 8
theorem sc_is_integer_within : FnScope ["value", "least", "most"] ["value", "least", "most"] (defScope s_is_integer_within) := ⟨rfl, rfl, rfl, by decide +kernel, rfl, by decide +kernel, by decide +kernel⟩
theorem ok_within {f fI : Addr} {fd fdI : FuncData} (F : Fun K "is_integer_within" "is_integer_within" s_is_integer_within f fd) (T : Txt K mg C t1 t2 t3 t4)
    (c_is_integer : ∀ base, Ca P w K mg base CX0 "is_integer" 1 ["value"] (spInteger K) fI fdI) : FnOk P w K mg base CX0 2 f fd ["value", "least", "most"] (spWithin K) := by
  have c_is_integer := c_is_integer base
  refine F.ok sc_is_integer_within (fun vs H Q E h => ?_) (fun cdv A outer s H vs Q E hr h => ⟨_, (pss_one (ps_ret (pe_and (pe_call c_is_integer.G (hr.mono (by first | decide | omega)) (by rfl) c_is_integer.g c_is_integer.k c_is_integer.B .nil pass0 (pa_cons (pv 0) pa_nil)) (pe_one (pe_chain op_le op_le (pv 1) (pv 0) (pv 2)))))), ?_⟩)
  · obtain ⟨_, _, _, _, rfl, _⟩ := h
    rfl
  obtain ⟨v, d, lo, hi, rfl, hd, k⟩ := h
  refine ⟨_, rfl, v, d, rfl, hd, _, rfl, ite2 (fun hint => ?_) (fun hn => ?_)⟩
  · obtain ⟨i, rfl⟩ := intV_is hint
    refine ⟨_, rfl, _, rfl, _, _, rfl, rfl, _, rfl, ite2 (fun h1 => ?_) (fun h1 => ?_)⟩
    · refine ⟨_, rfl, _, _, rfl, rfl, ?_⟩
      have e : decide (i ≤ hi) = okV lo hi (.int i) := by
        have := of_decide_eq_true h1
        show _ = decide (lo ≤ i ∧ i ≤ hi)
        congr 1
        exact propext ⟨fun z => ⟨this, z⟩, fun z => z.2⟩
      show Q (.bl (decide (i ≤ hi))) H
      rw [e]
      exact k
    · have e : okV lo hi (.int i) = false := decide_eq_false fun z => h1 (decide_eq_true z.1)
      rw [e] at k
      exact k
  · have e : okV lo hi v = false := by
      cases v with
      | int i => exact absurd rfl hn
      | _ => rfl
    rw [e] at k
    exact k
abbrev s_is_word : Stmt := top 14
theorem sc_is_word : FnScope ["value", "letter"] ["value"] (defScope s_is_word) := ⟨rfl, rfl, rfl, by decide +kernel, rfl, by decide +kernel, by decide +kernel⟩
theorem ok_word {f : Addr} {fd : FuncData} (F : Fun K "is_word" "is_word" s_is_word f fd) (T : Txt K mg C t1 t2 t3 t4) : FnOk P w K mg base CX0 1 f fd ["value"] (spWord K) := by
  refine F.ok sc_is_word (fun vs H Q E h => ?_) (fun cdv A outer s H vs Q E hr h => ⟨_, (pss_cons (ps_if (PW.pt (pw_or (pt_not (pt_val (pe_callB (call_isiK K rfl) (by rfl) T.b_isinstance (by decide +kernel) (pa_cons (pv 0) (pa_cons (pe_bltn (v := .ty "str") (by rfl) T.b_str (by decide +kernel) rfl) pa_nil))))) (pw_or1 (pt_not (pt_chain op_le op_le pe_int (pe_callB (call_lenK K rfl) (by rfl) T.b_len (by decide +kernel) (pa_cons (pv 0) pa_nil)) (pe_glob (v := .int 8) rfl T.c_LONGEST_WORD ⟨_, rfl⟩)))))) (pss_one (ps_ret pe_bl)) pss_nil)
    (pss_one (ps_ret (pe_callB (cr_allK K rfl rfl) (by rfl) T.b_all (by decide +kernel) (pa_cons (pe_lc (own := [("letter", 1)]) (g := gName 1) (tt := tYes) rfl sc_is_word.nd (pi_str (pv 0)) (blkOk_by (N := ["value", "letter"]) (sc := defScope s_is_word) (by decide +kernel)) (fun _ _ _ _ _ => (pg_name (i := 1) sc_is_word.nd rfl (Or.inl rfl))) (fun _ _ _ _ _ => pts_nil) (fun _ _ _ _ _ => (pe_chain op_le_str op_le_str pe_str (pv 1) pe_str))) pa_nil))))), ?_⟩)
  · obtain ⟨_, _, rfl, _⟩ := h
    rfl
  obtain ⟨v, d, rfl, hd, sh, k⟩ := h
  rcases hd.isStr with ⟨x, rfl, rfl⟩ | ⟨T', ty, kt, no⟩
  · refine ⟨_, rfl, _, _, _, _, _, rfl, .ty _, .base (.str x), kit_ty kit_ss, _, rfl, ?_⟩
    have hx : x.length ≤ 1000000 := sh x rfl
    have ew : wordD (.str x) = (decide (1 ≤ x.length ∧ x.length ≤ 8) && x.cps.toList.all lowC) := rfl
    rw [ew] at k
    have rest : decide (1 ≤ x.length ∧ x.length ≤ 8) = false → Q (.bl false) H := fun n => by
      have := k H (Same.refl H)
      rw [n, Bool.false_and] at this
      exact this
    refine ⟨_, rfl, _, _, rfl, ⟨Nat.le_trans hx (by decide), rfl⟩, _, _, rfl, rfl, _, rfl, ite2 (fun h1 => ?_) (fun h1 => ?_)⟩
    · have h1' := of_decide_eq_true h1
      refine ⟨_, _, rfl, rfl, _, rfl, ite2 (fun h8 => ?_) (fun h8 => ?_)⟩
      · have h8' : ¬ ((x.length : Int) ≤ 8) := by simpa using h8
        refine rest (decide_eq_false fun z => h8' ?_)
        omega
      · have h8' : (x.length : Int) ≤ 8 := by simpa using h8
        have ok : decide (1 ≤ x.length ∧ x.length ≤ 8) = true := decide_eq_true (by omega)
        rw [ok, Bool.true_and] at k
        refine ⟨_, rfl, x, rfl, fun D nD => lc_it walk_str (fun i H' => H' = upd H D (.lst (((x.cps.toList.take i).map lowC).map V.bl))) rfl (fun i H' _ _ => trivial) ?_ ?_⟩
        · rintro i v H1 H2 hi rfl ⟨rfl, c, hc, rfl⟩
          have hl : x.cps.toList[i]? = some c := by rw [Array.getElem?_toList]; exact hc
          have few : (((x.cps.toList.take i).map lowC).map V.bl).length < sizeLine := by
            rw [List.length_map, List.length_map, List.length_take]
            have : x.cps.toList.length = x.length := Array.length_toList
            exact Nat.lt_of_le_of_lt (Nat.min_le_right _ _) (by rw [this]; exact Nat.lt_of_le_of_lt hx (by decide))
          have fin : ∀ b : Bool, b = lowC c → upd (upd H D (.lst (((x.cps.toList.take i).map lowC).map V.bl))) D (.lst ((((x.cps.toList.take i).map lowC).map V.bl) ++ [.bl b])) = upd H D (.lst (((x.cps.toList.take (i + 1)).map lowC).map V.bl)) := fun b hb => by
            rw [upd_upd, List.take_succ, hl, hb, List.map_append, List.map_append]
            rfl
          refine ⟨rfl, _, rfl, _, _, rfl, rfl, _, rfl, ite2 (fun ha => ?_) (fun ha => ?_)⟩
          · rw [le_a] at ha
            refine ⟨_, _, rfl, rfl, _, upd_same, few, fin _ ?_⟩
            rw [le_z]
            have := of_decide_eq_true ha
            by_cases h : c ≤ 122
            · rw [decide_eq_true h]
              exact (decide_eq_true ⟨this, h⟩).symm
            · rw [decide_eq_false h]
              exact (decide_eq_false fun z => h z.2).symm
          · rw [le_a] at ha
            refine ⟨_, upd_same, few, fin _ ?_⟩
            exact (decide_eq_false fun z => ha (decide_eq_true z.1)).symm
        · rintro H1 rfl
          refine ⟨D, x.cps.toList.map lowC, rfl, ?_, ?_⟩
          · refine SqL.of ?_
            have : x.cps.toList.take x.cps.size = x.cps.toList := List.take_of_length_le (by rw [Array.length_toList]; exact Nat.le_refl _)
            rw [this]
            exact upd_same
          · have : (x.cps.toList.map lowC).all id = x.cps.toList.all lowC := by rw [List.all_map]; rfl
            rw [this]
            exact k _ (Same.one nD)
    · refine ⟨_, rfl, rest (decide_eq_false fun z => h1 (decide_eq_true ?_))⟩
      omega
  · rw [no] at k
    refine ⟨_, rfl, _, _, _, _, _, rfl, .ty _, ty, kit_ty kt, _, rfl, ?_⟩
    exact k H (Same.refl H)
abbrev s_is_cell : Stmt := top 15
theorem sc_is_cell : FnScope ["value"] ["value"] (defScope s_is_cell) := ⟨rfl, rfl, rfl, by decide +kernel, rfl, by decide +kernel, by decide +kernel⟩
theorem ok_cell {f fW fI : Addr} {fd fdW fdI : FuncData} (F : Fun K "is_cell" "is_cell" s_is_cell f fd) (T : Txt K mg C t1 t2 t3 t4)
    (c_is_integer_within : ∀ base, Ca P w K mg base CX0 "is_integer_within" 2 ["value", "least", "most"] (spWithin K) fI fdI) (c_is_word : ∀ base, Ca P w K mg base CX0 "is_word" 1 ["value"] (spWord K) fW fdW) : FnOk P w K mg base CX0 3 f fd ["value"] (spCell K) := by
  have c_is_integer_within := c_is_integer_within base
  have c_is_word := c_is_word base
  refine F.ok sc_is_cell (fun vs H Q E h => ?_) (fun cdv A outer s H vs Q E hr h => ⟨_, (pss_one (ps_ret (pe_or (pe_cmpR op_isN (pv 0) pe_non (nomark _)) (pe_or (pe_call c_is_integer_within.G (hr.mono (by first | decide | omega)) (by rfl) c_is_integer_within.g c_is_integer_within.k c_is_integer_within.B .nil pass0 (pa_cons (pv 0) (pa_cons (pe_un un_neg (pe_glob (v := .int 999) rfl T.c_GREATEST_NUMBER ⟨_, rfl⟩)) (pa_cons (pe_glob (v := .int 999) rfl T.c_GREATEST_NUMBER ⟨_, rfl⟩) pa_nil)))) (pe_one (pe_call c_is_word.G (hr.mono (by first | decide | omega)) (by rfl) c_is_word.g c_is_word.k c_is_word.B .nil pass0 (pa_cons (pv 0) pa_nil))))))), ?_⟩)
  · obtain ⟨_, _, rfl, _⟩ := h
    rfl
  obtain ⟨v, d, rfl, hd, sh, k⟩ := h
  refine ⟨_, rfl, rfl, _, rfl, ite2 (fun hn => ?_) (fun hn => ?_)⟩
  · obtain rfl := of_decide_eq_true hn
    cases hd
    exact k H (Same.refl H)
  · have nn : nonD d = false := by
      cases hd with
      | non => exact absurd (decide_eq_true rfl) hn
      | _ => rfl
    have ec : cellD d = (intD (-999) 999 d || wordD d) := by
      unfold cellD
      rw [nn, Bool.false_or]
    rw [ec, ← hd.okV] at k
    refine ⟨_, rfl, _, rfl, v, d, -999, 999, rfl, hd, _, rfl, ite2 (fun h => ?_) (fun h => ?_)⟩
    · rw [h, Bool.true_or] at k
      exact k H (Same.refl H)
    · rw [Bool.eq_false_iff.mpr h, Bool.false_or] at k
      exact ⟨_, rfl, v, d, rfl, hd, sh, k⟩
abbrev s_are_columns : Stmt := top 16
theorem sc_are_columns : FnScope ["value", "name"] ["value"] (defScope s_are_columns) := ⟨rfl, rfl, rfl, by decide +kernel, rfl, by decide +kernel, by decide +kernel⟩
theorem ok_cols {f fW : Addr} {fd fdW : FuncData} (F : Fun K "are_columns" "are_columns" s_are_columns f fd) (T : Txt K mg C t1 t2 t3 t4)
    (c_is_word : ∀ base, Ca P w K mg base CX0 "is_word" 1 ["value"] (spWord K) fW fdW) : FnOk P w K mg base CX0 2 f fd ["value"] (spCols K) := by
  have c_is_word := c_is_word base
  refine F.ok sc_are_columns (fun vs H Q E h => ?_) (fun cdv A outer s H vs Q E hr h => ⟨_, (pss_cons (ps_if (PW.pt (pw_or (pt_not (pt_val (pe_callB (call_isiK K rfl) (by rfl) T.b_isinstance (by decide +kernel) (pa_cons (pv 0) (pa_cons (pe_bltn (v := .ty "tuple") (by rfl) T.b_tuple (by decide +kernel) rfl) pa_nil))))) (pw_or1 (pt_not (pt_chain op_le op_le pe_int (pe_callB (call_lenK K rfl) (by rfl) T.b_len (by decide +kernel) (pa_cons (pv 0) pa_nil)) (pe_glob (v := .int 3) rfl T.c_MOST_COLUMNS ⟨_, rfl⟩)))))) (pss_one (ps_ret pe_bl)) pss_nil)
    (pss_one (ps_ret (pe_and (pe_callB (cr_allK K rfl rfl) (by rfl) T.b_all (by decide +kernel) (pa_cons (pe_lc (own := [("name", 1)]) (g := gName 1) (tt := tYes) rfl sc_are_columns.nd (pi_tupK K rfl (pv 0)) (blkOk_by (N := ["value", "name"]) (sc := defScope s_are_columns) (by decide +kernel)) (fun _ _ _ _ _ => (pg_name (i := 1) sc_are_columns.nd rfl (Or.inl rfl))) (fun _ _ _ _ _ => pts_nil) (fun _ _ _ _ _ => (pe_call c_is_word.G (hr.mono (by first | decide | omega)) (by rfl) c_is_word.g c_is_word.k c_is_word.B .nil pass0 (pa_cons (pv 1) pa_nil)))) pa_nil)) (pe_one (pe_cmpR op_eq (pe_lenSetTK K rfl rfl (by rfl) T.b_len (by rfl) T.b_set (pv 0)) (pe_callB (call_lenK K rfl) (by rfl) T.b_len (by decide +kernel) (pa_cons (pv 0) pa_nil)) (nomark _))))))), ?_⟩)
  · obtain ⟨_, _, rfl, _⟩ := h
    rfl
  obtain ⟨v, d, rfl, hd, sh, k⟩ := h
  rcases hd.isTup with ⟨a, xs, ds, rfl, rfl, hs, ha⟩ | ⟨T', ty, kt, no⟩
  · have len := ha.len
    have ec : colsD (.tuple ds) = (decide (1 ≤ ds.length ∧ ds.length ≤ 3) && ds.all wordD && decide (ds.map strD).Nodup) := rfl
    rw [ec] at k
    have rest : decide (1 ≤ ds.length ∧ ds.length ≤ 3) = false → Q (.bl false) H := fun n => by
      have := k H (Same.refl H)
      rw [n, Bool.false_and, Bool.false_and] at this
      exact this
    refine ⟨_, rfl, _, _, _, _, _, rfl, .ty _, tyTup hs, kit_ty kit_tt, _, rfl, ?_⟩
    refine ⟨_, rfl, _, _, rfl, .inr ⟨xs, hs, rfl⟩, _, _, rfl, rfl, _, rfl, ite2 (fun h1 => ?_) (fun h1 => ?_)⟩
    · have h1' := of_decide_eq_true h1
      refine ⟨_, _, rfl, rfl, _, rfl, ite2 (fun h8 => ?_) (fun h8 => ?_)⟩
      · have h8' : ¬ ((xs.length : Int) ≤ 3) := by simpa using h8
        refine rest (decide_eq_false fun z => h8' ?_)
        omega
      · have h8' : (xs.length : Int) ≤ 3 := by simpa using h8
        have ok : decide (1 ≤ ds.length ∧ ds.length ≤ 3) = true := decide_eq_true (by omega)
        rw [ok, Bool.true_and] at k
        refine ⟨_, rfl, a, rfl, ⟨_, hs⟩, fun D nD => lc_tup (K := K) (a := a) (xs := xs) (fun i H' => H' D = some (.lst (((ds.take i).map wordD).map V.bl)) ∧ Same H H') ⟨upd_same, Same.one nD⟩ (fun i H' _ z => hs.ext z.2) ?_ ?_⟩
        · rintro i v H1 hi ⟨hD, s1⟩
          obtain ⟨e, he, hq⟩ := ha.get hi
          refine ⟨rfl, _, rfl, v, e, rfl, hq.same s1, sh _ rfl e (List.mem_of_getElem? he), fun H2 s2 => ⟨_, s2 _ _ hD, ?_, ?_, Same.updN (s1.trans s2) nD⟩⟩
          · rw [List.length_map, List.length_map, List.length_take]
            exact Nat.lt_of_le_of_lt (Nat.min_le_right _ _) (show ds.length < sizeLine by have : sizeLine = 16777216 := sizeLine_eq; omega)
          · rw [upd_same, List.take_succ, he, List.map_append, List.map_append]
            rfl
        · rintro H1 ⟨hD, s1⟩
          rw [len, List.take_length] at hD
          refine ⟨D, ds.map wordD, rfl, SqL.of hD, ?_⟩
          have e1 : (ds.map wordD).all id = ds.all wordD := by rw [List.all_map]; rfl
          rw [e1]
          refine ⟨_, rfl, ite2 (fun hw => ?_) (fun hw => ?_)⟩
          · rw [hw, Bool.true_and] at k
            have ex : xs = (ds.map strD).map V.str := ha.words hw
            refine ⟨_, rfl, a, ds.map strD, rfl, ?_, by rw [List.length_map]; omega, _, rfl, _, _, rfl, .inr ⟨xs, hs.ext s1, rfl⟩, rfl, ?_⟩
            · rw [← ex]
              exact hs.ext s1
            · have : decide (V.int ((news (ds.map strD) (ds.map strD).length : Nat) : Int) = V.int ((xs.length : Nat) : Int)) = decide (ds.map strD).Nodup := by
                have := news_all (ys := ds.map strD) (Nat.le_refl _)
                rw [List.take_length] at this
                have l2 : xs.length = (ds.map strD).length := by rw [List.length_map, len]
                rw [l2]
                congr 1
                refine propext ⟨fun z => this.mp ?_, fun z => by rw [this.mpr z]⟩
                have := V.int.inj z
                omega
              rw [this]
              exact k _ s1
          · rw [Bool.eq_false_iff.mpr hw, Bool.false_and] at k
            exact k _ s1
    · refine ⟨_, rfl, rest (decide_eq_false fun z => h1 (decide_eq_true ?_))⟩
      omega
  · refine ⟨_, rfl, _, _, _, _, _, rfl, .ty _, ty, kit_ty kt, _, rfl, ?_⟩
    have : colsD d = false := by
      cases d with
      | tuple ds => exact absurd rfl (no ds)
      | _ => rfl
    rw [this] at k
    exact k H (Same.refl H)
abbrev s_is_row : Stmt := top 17
theorem sc_is_row : FnScope ["value", "width", "cell"] ["value", "width"] (defScope s_is_row) := ⟨rfl, rfl, rfl, by decide +kernel, rfl, by decide +kernel, by decide +kernel⟩
theorem ok_row {f fW : Addr} {fd fdW : FuncData} (F : Fun K "is_row" "is_row" s_is_row f fd) (T : Txt K mg C t1 t2 t3 t4)
    (c_is_cell : ∀ base, Ca P w K mg base CX0 "is_cell" 3 ["value"] (spCell K) fW fdW) : FnOk P w K mg base CX0 4 f fd ["value", "width"] (spRow K) := by
  have c_is_cell := c_is_cell base
  refine F.ok sc_is_row (fun vs H Q E h => ?_) (fun cdv A outer s H vs Q E hr h => ⟨_, (pss_cons (ps_if (PW.pt (pw_or (pt_not (pt_val (pe_callB (call_isiK K rfl) (by rfl) T.b_isinstance (by decide +kernel) (pa_cons (pv 0) (pa_cons (pe_bltn (v := .ty "tuple") (by rfl) T.b_tuple (by decide +kernel) rfl) pa_nil))))) (pw_or1 (pt_cmpR op_ne (pe_callB (call_lenK K rfl) (by rfl) T.b_len (by decide +kernel) (pa_cons (pv 0) pa_nil)) (pv 1) (nomark _))))) (pss_one (ps_ret pe_bl)) pss_nil)
    (pss_one (ps_ret (pe_callB (cr_allK K rfl rfl) (by rfl) T.b_all (by decide +kernel) (pa_cons (pe_lc (own := [("cell", 2)]) (g := gName 2) (tt := tYes) rfl sc_is_row.nd (pi_tupK K rfl (pv 0)) (blkOk_by (N := ["value", "width", "cell"]) (sc := defScope s_is_row) (by decide +kernel)) (fun _ _ _ _ _ => (pg_name (i := 2) sc_is_row.nd rfl (Or.inl rfl))) (fun _ _ _ _ _ => pts_nil) (fun _ _ _ _ _ => (pe_call c_is_cell.G (hr.mono (by first | decide | omega)) (by rfl) c_is_cell.g c_is_cell.k c_is_cell.B .nil pass0 (pa_cons (pv 2) pa_nil)))) pa_nil))))), ?_⟩)
  · obtain ⟨_, _, _, rfl, _⟩ := h
    rfl
  obtain ⟨v, d, n, rfl, hd, sh, few, k⟩ := h
  rcases hd.isTup with ⟨a, xs, ds, rfl, rfl, hs, ha⟩ | ⟨T', ty, kt, no⟩
  · have len := ha.len
    have ec : rowD n (.tuple ds) = (decide (ds.length = n) && ds.all cellD) := rfl
    rw [ec] at k
    refine ⟨_, rfl, _, _, _, _, _, rfl, .ty _, tyTup hs, kit_ty kit_tt, _, rfl, ?_⟩
    refine ⟨_, rfl, _, _, rfl, .inr ⟨xs, hs, rfl⟩, _, rfl, rfl, _, rfl, ite2 (fun h1 => ?_) (fun h1 => ?_)⟩
    · have ne : ds.length ≠ n := fun z => by
        rw [len, z] at h1
        simp at h1
      rw [decide_eq_false ne, Bool.false_and] at k
      exact k H (Same.refl H)
    · have eq : ds.length = n := by
        have : V.int ((xs.length : Nat) : Int) = V.int (n : Int) := by simpa using h1
        have := V.int.inj this
        omega
      rw [decide_eq_true eq, Bool.true_and] at k
      refine ⟨_, rfl, a, rfl, ⟨_, hs⟩, fun D nD => lc_tup (K := K) (a := a) (xs := xs) (fun i H' => H' D = some (.lst (((ds.take i).map cellD).map V.bl)) ∧ Same H H') ⟨upd_same, Same.one nD⟩ (fun i H' _ z => hs.ext z.2) ?_ ?_⟩
      · rintro i v H1 hi ⟨hD, s1⟩
        obtain ⟨e, he, hq⟩ := ha.get hi
        refine ⟨rfl, _, rfl, v, e, rfl, hq.same s1, sh _ rfl e (List.mem_of_getElem? he), fun H2 s2 => ⟨_, s2 _ _ hD, ?_, ?_, Same.updN (s1.trans s2) nD⟩⟩
        · rw [List.length_map, List.length_map, List.length_take]
          exact Nat.lt_of_le_of_lt (Nat.min_le_right _ _) (show ds.length < sizeLine by have : sizeLine = 16777216 := sizeLine_eq; omega)
        · rw [upd_same, List.take_succ, he, List.map_append, List.map_append]
          rfl
      · rintro H1 ⟨hD, s1⟩
        rw [len, List.take_length] at hD
        refine ⟨D, ds.map cellD, rfl, SqL.of hD, ?_⟩
        have e1 : (ds.map cellD).all id = ds.all cellD := by rw [List.all_map]; rfl
        rw [e1]
        exact k _ s1
  · refine ⟨_, rfl, _, _, _, _, _, rfl, .ty _, ty, kit_ty kt, _, rfl, ?_⟩
    have : rowD n d = false := by
      cases d with
      | tuple ds => exact absurd rfl (no ds)
      | _ => rfl
    rw [this] at k
    exact k H (Same.refl H)
def flds (c r : V) : List (Str × V) := putF "rows" r (putF "columns" c [])
theorem l_columns (c r : V) : (flds c r).lookup ("columns" : Str) = some c := by
  unfold flds
  rw [lookup_putF, if_neg (by decide +kernel), lookup_putF, if_pos rfl]
theorem l_rows (c r : V) : (flds c r).lookup ("rows" : Str) = some r := by
  unfold flds
  rw [lookup_putF, if_pos rfl]
/-- the making of what is a table -/
def spInit (K : PySem.W.Frag) (C : Addr) : Sp := fun vs H Q _ => ∃ (x dx : Addr) (c r : V) (cs rs : List PyData), vs = [.ref x, c, r] ∧ H x = some (.ins C dx []) ∧ Dq K H c (.tuple cs) ∧ Dq K H r (.tuple rs) ∧ Sh1 (.tuple cs) ∧ Sh2 (.tuple rs) ∧
  colsD (.tuple cs) = true ∧ rs.length ≤ 6 ∧ (∀ e ∈ rs, rowD cs.length e = true) ∧ ∀ H', But x H H' → H' x = some (.ins C dx (flds c r)) → Q .non H'
abbrev s_Table___init__ : Stmt := inClass (top 18) 0
theorem sc_Table___init__ : FnScope ["self", "columns", "rows", "row"] ["self", "columns", "rows"] (defScope s_Table___init__) := ⟨rfl, rfl, rfl, by decide +kernel, rfl, by decide +kernel, by decide +kernel⟩
theorem ok_init {f fK fR : Addr} {fd fdK fdR : FuncData} (F : Fun K "__init__" "Table.__init__" s_Table___init__ f fd) (T : Txt K mg C t1 t2 t3 t4)
    (c_are_columns : ∀ base, Ca P w K mg base CX0 "are_columns" 2 ["value"] (spCols K) fK fdK) (c_is_row : ∀ base, Ca P w K mg base CX0 "is_row" 4 ["value", "width"] (spRow K) fR fdR) : FnOk P w K mg base CX0 5 f fd ["self", "columns", "rows"] (spInit K C) := by
  have c_are_columns := c_are_columns base
  have c_is_row := c_is_row base
  refine F.ok sc_Table___init__ (fun vs H Q E h => ?_) (fun cdv A outer s H vs Q E hr h => ⟨_, (pss_cons (ps_if (pt_not (pt_val (pe_call c_are_columns.G (hr.mono (by first | decide | omega)) (by rfl) c_are_columns.g c_are_columns.k c_are_columns.B .nil pass0 (pa_cons (pv 1) pa_nil)))) (pss_one (ps_never)) pss_nil)
    (pss_cons (ps_if (pt_not (pt_val (pe_callB (call_isiK K rfl) (by rfl) T.b_isinstance (by decide +kernel) (pa_cons (pv 2) (pa_cons (pe_bltn (v := .ty "tuple") (by rfl) T.b_tuple (by decide +kernel) rfl) pa_nil))))) (pss_one (ps_never)) pss_nil)
    (pss_cons (ps_if (pt_cmpR op_gt (pe_callB (call_lenK K rfl) (by rfl) T.b_len (by decide +kernel) (pa_cons (pv 2) pa_nil)) (pe_glob (v := .int 6) rfl T.c_MOST_ROWS ⟨_, rfl⟩) (nomark _)) (pss_one (ps_never)) pss_nil)
    (pss_cons (ps_for PassesOwn.never rfl (pi_tupK K rfl (pv 2)) (pg_name (i := 3) sc_Table___init__.nd rfl (Or.inl rfl)) (pss_one (ps_if (pt_not (pt_val (pe_call c_is_row.G (hr.mono (by first | decide | omega)) (by rfl) c_is_row.g c_is_row.k c_is_row.B .nil pass0 (pa_cons (pv 3) (pa_cons (pe_callB (call_lenK K rfl) (by rfl) T.b_len (by decide +kernel) (pa_cons (pv 1) pa_nil)) pa_nil))))) (pss_one (ps_never)) pss_nil)))
    (pss_cons (ps_fld (pv 0) (pv 1) rfl)
    (pss_one (ps_fld (pv 0) (pv 2) rfl))))))), ?_⟩)
  · obtain ⟨_, _, _, _, _, _, rfl, _⟩ := h
    rfl
  obtain ⟨x, dx, c, r, cs, rs, rfl, hx, hc, hr', sc, sr, okc, few, okr, k⟩ := h
  have ec : colsD (.tuple cs) = (decide (1 ≤ cs.length ∧ cs.length ≤ 3) && cs.all wordD && decide (cs.map strD).Nodup) := rfl
  have wide : cs.length ≤ 3 := by
    rw [ec, Bool.and_eq_true, Bool.and_eq_true] at okc
    exact (of_decide_eq_true okc.1.1).2
  refine ⟨_, rfl, c, .tuple cs, rfl, hc, sc, fun H1 s1 => ?_⟩
  rw [okc]
  refine ⟨_, rfl, ?_⟩
  obtain ⟨a, xs, rfl, hs, ha⟩ := hr'.ofTup
  obtain ⟨ac, xc, rfl, hsc, hac⟩ := hc.ofTup
  have len := ha.len
  have lenc := hac.len
  refine ⟨_, rfl, _, _, _, _, _, rfl, .ty _, tyTup (hs.ext s1), kit_ty kit_tt, _, rfl, ?_⟩
  refine ⟨_, rfl, _, _, rfl, .inr ⟨xs, hs.ext s1, rfl⟩, _, _, rfl, rfl, _, rfl, ite2 (fun h => absurd (of_decide_eq_true h) (by omega)) (fun _ => ?_)⟩
  refine ⟨_, rfl, a, rfl, ⟨_, hs.ext s1⟩, for_tup (K := K) (a := a) (xs := xs) (fun i σ H' => ∃ o, σ = [some (.ref x), some (.ref ac), some (.ref a), o] ∧ Same H H') ⟨none, rfl, s1⟩ (fun i σ H' _ ⟨_, _, z⟩ => hs.ext z) ?_ ?_⟩
  · rintro i v σ H2 hi ⟨o, rfl, s2⟩
    obtain ⟨e, he, hq⟩ := ha.get hi
    refine ⟨_, rfl, _, rfl, _, _, rfl, .inr ⟨xc, hsc.ext s2, rfl⟩, v, e, xc.length, rfl, hq.same s2, sr _ rfl e (List.mem_of_getElem? he), by omega, fun H3 s3 => ?_⟩
    rw [lenc, okr e (List.mem_of_getElem? he)]
    exact ⟨_, rfl, _, rfl, s2.trans s3⟩
  · rintro σ H2 ⟨o, rfl, s2⟩
    refine ⟨_, rfl, _, rfl, x, C, dx, _, rfl, s2 _ _ hx, T.cl, T.n_columns, by decide, ?_⟩
    refine ⟨_, rfl, _, rfl, x, C, dx, _, rfl, upd_same, T.cl, T.n_rows, by show 1 < 1000; decide, ?_⟩
    exact k _ (((But.of s2).upd).upd) upd_same
/-- == of tables: the other one is a table, or of a built-in type -/
def spEq (K : PySem.W.Frag) (C : Addr) : Sp := fun vs H Q _ => ∃ (x dx : Addr) (c r y : V) (dc dr : PyData), vs = [.ref x, y] ∧ H x = some (.ins C dx (flds c r)) ∧ Dp K H c dc ∧ Dp K H r dr ∧ SeqAt.shaped dc = true ∧ SeqAt.shaped dr = true ∧
  ((∃ (z dz : Addr) (c' r' : V) (dc' dr' : PyData), y = .ref z ∧ H z = some (.ins C dz (flds c' r')) ∧ Dp K H c' dc' ∧ Dp K H r' dr' ∧ SeqAt.shaped dc' = true ∧ SeqAt.shaped dr' = true ∧ Q (.bl (PyData.eqv dc dc' && PyData.eqv dr dr')) H) ∨
   (∃ T : String, TyX K H y (.type T) ∧ PySem.W.kitOne K (.type T) (.ref C) = some false ∧ Q (.bl false) H))
abbrev s_Table___eq__ : Stmt := inClass (top 18) 1
theorem sc_Table___eq__ : FnScope ["self", "other"] ["self", "other"] (defScope s_Table___eq__) := ⟨rfl, rfl, rfl, by decide +kernel, rfl, by decide +kernel, by decide +kernel⟩
theorem ok_eq {f : Addr} {fd : FuncData} (F : Fun K "__eq__" "Table.__eq__" s_Table___eq__ f fd) (T : Txt K mg C t1 t2 t3 t4) : FnOk P w K mg base CX0 1 f fd ["self", "other"] (spEq K C) := by
  refine F.ok sc_Table___eq__ (fun vs H Q E h => ?_) (fun cdv A outer s H vs Q E hr h => ⟨_, (pss_one (ps_ret (pe_and (pe_callB (call_isiK K rfl) (by rfl) T.b_isinstance (by decide +kernel) (pa_cons (pv 1) (pa_cons (pe_glob (v := .ref C) rfl T.g_Table rfl) pa_nil))) (pe_and (pe_cmpR (op_eqDK K rfl hr.units) (pe_fldK K rfl (pv 0) rfl) (pe_fldK K rfl (pv 1) rfl) (nomark _)) (pe_one (pe_cmpR (op_eqDK K rfl hr.units) (pe_fldK K rfl (pv 0) rfl) (pe_fldK K rfl (pv 1) rfl) (nomark _))))))), ?_⟩)
  · obtain ⟨_, _, _, _, _, _, _, rfl, _⟩ := h
    rfl
  obtain ⟨x, dx, c, r, y, dc, dr, rfl, hx, hc, hr', sc, sr, ⟨z, dz, c', r', dc', dr', rfl, hz, hc', hr'', sc', sr', k⟩ | ⟨T', ty, kit, k⟩⟩ := h
  · refine ⟨_, rfl, _, _, _, _, _, rfl, .own C, .base (.ins hz T.cl T.ca T.cn T.ct T.cm), T.kcc, _, rfl, ?_⟩
    refine ⟨_, rfl, x, C, dx, _, _, rfl, hx, T.cl, T.n_columns, l_columns .., _, rfl, z, C, dz, _, _, rfl, hz, T.cl, T.n_columns, l_columns .., dc, dc', hc, hc', sc, sc', _, rfl, ite2 (fun h => ?_) (fun h => ?_)⟩
    · rw [h, Bool.true_and] at k
      exact ⟨_, rfl, x, C, dx, _, _, rfl, hx, T.cl, T.n_rows, l_rows .., _, rfl, z, C, dz, _, _, rfl, hz, T.cl, T.n_rows, l_rows .., dr, dr', hr', hr'', sr, sr', k⟩
    · rw [Bool.eq_false_iff.mpr h, Bool.false_and] at k
      exact k
  · exact ⟨_, rfl, _, _, _, _, _, rfl, .own C, ty, kit, _, rfl, k⟩
end
end K02

set_option Elab.async false
set_option linter.all false
set_option maxRecDepth 100000
set_option maxHeartbeats 4000000
namespace K02
open PySem L2 Xby
section
variable {P : Program} {w : World} {K : PySem.W.Frag} {mg : Str → Option Value} {base : Heap} {C : Addr} {t1 t2 t3 t4 : Tok}
abbrev s_law_draw : Stmt := top 20
theorem sc_law_draw : FnScope ["_law_pot_here", "_law_many", "_law_digit", "_law_prime", "_law_made"] ["_law_pot_here", "_law_many"] (defScope s_law_draw) := ⟨rfl, rfl, rfl, by decide +kernel, rfl, by decide +kernel, by decide +kernel⟩
theorem ok_draw {f : Addr} {fd : FuncData} (F : Fun K "_law_draw" "_law_draw" s_law_draw f fd) (T : Txt K mg C t1 t2 t3 t4) : FnOk P w K mg base CX0 1 f fd ["_law_pot_here", "_law_many"] spDraw := by
  refine F.ok sc_law_draw (fun vs H Q E h => ?_) (fun cdv A outer s H vs Q E hr h => ⟨_, (pss_cons (ps_if (pt_cmpR op_gt (pe_ix (ix_listK K rfl) (pv 0) pe_int (fun _ _ => rfl)) pe_int (nomark _)) (pss_cons (ps_set (i := 2) sc_law_draw.nd rfl (Or.inl rfl) (pe_op op_mod (pe_callTy call_int1 (by rfl) T.b_int (by decide +kernel) (pa_cons (pe_ix (ix_listK K rfl) (pv 0) pe_int (fun _ _ => rfl)) pa_nil)) (pv 1)))
    (pss_cons (ps_asg (pe_op op_fdivW (pe_ix (ix_listK K rfl) (pv 0) pe_int (fun _ _ => rfl)) (pv 1)) (pg_sub (pv 0) pe_int set_list))
    (pss_one (ps_ret (pv 2))))) pss_nil)
    (pss_cons (ps_asg (pe_op op_add (pe_ix (ix_listK K rfl) (pv 0) pe_int (fun _ _ => rfl)) pe_int) (pg_sub (pv 0) pe_int set_list))
    (pss_cons (ps_set (i := 3) sc_law_draw.nd rfl (Or.inl rfl) (pe_ix (ix_listK K rfl) (pe_lst (pa_cons pe_int (pa_cons pe_int (pa_cons pe_int (pa_cons pe_int (pa_cons pe_int pa_nil)))))) (pe_op op_mod (pe_callTy call_int1 (by rfl) T.b_int (by decide +kernel) (pa_cons (pe_ix (ix_listK K rfl) (pv 0) pe_int (fun _ _ => rfl)) pa_nil)) pe_int) (fun _ _ => rfl)))
    (pss_cons (ps_set (i := 4) sc_law_draw.nd rfl (Or.inl rfl) (pe_op op_mod (pe_callTy call_int1 (by rfl) T.b_int (by decide +kernel) (pa_cons (pe_op op_pow (pe_op op_add (pe_op op_add (pe_ix (ix_listK K rfl) (pv 0) pe_int (fun _ _ => rfl)) (pe_op op_mul (pe_op op_mul pe_int (pe_ix (ix_listK K rfl) (pv 0) pe_int (fun _ _ => rfl))) (pe_ix (ix_listK K rfl) (pv 0) pe_int (fun _ _ => rfl)))) pe_int) pe_int) pa_nil)) (pv 3)))
    (pss_cons (ps_set (i := 4) sc_law_draw.nd rfl (Or.inl rfl) (pe_op op_mod (pe_callTy call_int1 (by rfl) T.b_int (by decide +kernel) (pa_cons (pe_op op_mul (pv 4) (pe_op op_add (pe_op op_mod (pe_callTy call_int1 (by rfl) T.b_int (by decide +kernel) (pa_cons (pv 4) pa_nil)) pe_int) (pe_op op_mul pe_int (pe_ix (ix_listK K rfl) (pv 0) pe_int (fun _ _ => rfl))))) pa_nil)) pe_int))
    (pss_one (ps_ret (pe_op op_mod (pe_callTy call_int1 (by rfl) T.b_int (by decide +kernel) (pa_cons (pe_op op_fdiv (pv 4) pe_int) pa_nil)) (pv 1))))))))), ?_⟩)
  · obtain ⟨p, many, n, rfl, _⟩ := h
    rfl
  obtain ⟨p, many, n, rfl, ⟨m0, m1⟩, hn, ⟨a, m, c, hp, ⟨a0, a1⟩, ⟨g0, g1⟩, ⟨c0, c1⟩⟩, k⟩ := h
  refine ⟨_, rfl, p, _, _, _, rfl, rfl, SqL.of hp, rfl, _, _, rfl, rfl, _, rfl, ite2 (fun ha => ?_) (fun ha => ?_)⟩
  · refine ⟨_, rfl, p, _, _, _, rfl, rfl, SqL.of hp, rfl, .inl ⟨_, rfl, _, rfl, _, _, rfl, rfl, m0, ?_⟩⟩
    refine ⟨_, rfl, p, _, _, _, rfl, rfl, SqL.of hp, rfl, _, rfl, _, _, rfl, rfl, wide_div (b := 10) m0 (by omega) (by decide) (by decide), _, rfl, p, _, _, _, rfl, rfl, hp, rfl, _, rfl, ?_⟩
    have d0 : 0 ≤ a / many := Int.ediv_nonneg a0 (by omega)
    have d1 : a / many ≤ a := Int.ediv_le_self _ a0
    exact k _ _ (Int.emod_nonneg _ (by omega)) (Int.emod_lt_of_pos _ m0) ⟨_, m, c, upd_same, ⟨d0, wide_le d0 d1 a1⟩, ⟨g0, g1⟩, c0, by omega⟩ (fun b o hb e => by rw [upd_ne hb]; exact e)
  · refine ⟨_, rfl, p, _, _, _, rfl, rfl, SqL.of hp, rfl, _, _, rfl, rfl, _, rfl, p, _, _, _, rfl, rfl, hp, rfl, ?_⟩
    refine ⟨by show 5 ≤ sizeLine; decide, fun l hl => ?_⟩
    have npl : p ≠ l := fun e => by rw [← e, upd_same] at hl; cases hl
    have hp2 : (upd (upd H p (.lst ([V.int a, V.int m, V.int c].set 2 (.int (c + 1))))) l (.lst [.int 2147483647, .int 2147483629, .int 2147483587, .int 2147483579, .int 2147483563])) p = some (.lst [.int a, .int m, .int (c + 1)]) := by
      rw [upd_ne npl, upd_same]; rfl
    obtain ⟨v, hv, v0, v1⟩ : ∃ v : Int, atI [V.int 2147483647, V.int 2147483629, V.int 2147483587, V.int 2147483579, V.int 2147483563] ((c + 1) % 5) = some (.int v) ∧ 2147483563 ≤ v ∧ v ≤ 2147483647 := by
      have h0 : (c + 1) % 5 = 0 ∨ (c + 1) % 5 = 1 ∨ (c + 1) % 5 = 2 ∨ (c + 1) % 5 = 3 ∨ (c + 1) % 5 = 4 := by omega
      rcases h0 with e | e | e | e | e <;> rw [e]
      · exact ⟨_, rfl, by decide, by decide⟩
      · exact ⟨_, rfl, by decide, by decide⟩
      · exact ⟨_, rfl, by decide, by decide⟩
      · exact ⟨_, rfl, by decide, by decide⟩
      · exact ⟨_, rfl, by decide, by decide⟩
    refine ⟨_, rfl, p, _, _, _, rfl, rfl, SqL.of hp2, rfl, .inl ⟨_, rfl, _, _, rfl, rfl, (show (0 : Int) < 5 by decide), l, _, _, _, rfl, rfl, SqL.of upd_same, hv, ?_⟩⟩
    have q0 : (c + 1) * (c + 1) ≤ 1000001 * 1000001 := Int.mul_le_mul (by omega) (by omega) (by omega) (by omega)
    have q1 : 0 ≤ (c + 1) * (c + 1) := Int.mul_nonneg (by omega) (by omega)
    have q2 : 99991 * (c + 1) * (c + 1) = 99991 * ((c + 1) * (c + 1)) := Int.mul_assoc _ _ _
    refine ⟨_, rfl, p, _, _, _, rfl, rfl, SqL.of hp2, rfl, _, rfl, p, _, _, _, rfl, rfl, SqL.of hp2, rfl, _, _, rfl, rfl, .inl ⟨by decide, by decide⟩, _, rfl, p, _, _, _, rfl, rfl, SqL.of hp2, rfl, _, _, rfl, rfl, .inl ⟨by omega, by omega⟩, _, _, rfl, rfl, _, _, rfl, rfl, ?_⟩
    refine ⟨_, _, rfl, rfl, ⟨by decide, by decide, by omega⟩, .inl ⟨_, rfl, _, rfl, _, _, rfl, rfl, by omega, ?_⟩⟩
    refine ⟨_, rfl, _, rfl, .inl ⟨_, rfl, _, _, rfl, rfl, (show (0 : Int) < 10007 by decide), _, rfl, p, _, _, _, rfl, rfl, SqL.of hp2, rfl, _, _, rfl, rfl, .inl ⟨by decide, by decide⟩, _, _, rfl, rfl, _, _, rfl, rfl, .inl ⟨?_, ?_⟩, .inl ⟨_, rfl, _, _, rfl, rfl, (show (0 : Int) < 2305843009213693907 by decide), ?_⟩⟩⟩
    · exact Int.lt_of_lt_of_le (show -2 ^ 64 < (0 : Int) by decide) (Int.emod_nonneg _ (by omega))
    · exact Int.lt_trans (Int.emod_lt_of_pos _ (by omega)) (by omega)
    · refine ⟨_, rfl, _, _, rfl, rfl, ⟨by decide, by decide⟩, .inl ⟨_, rfl, _, rfl, _, _, rfl, rfl, m0, ?_⟩⟩
      exact k _ _ (Int.emod_nonneg _ (by omega)) (Int.emod_lt_of_pos _ m0) ⟨a, m, c + 1, hp2, ⟨a0, a1⟩, ⟨g0, g1⟩, by omega, by omega⟩ (fun b o hb e => by
        have e1 : (upd H p (.lst ([V.int a, V.int m, V.int c].set 2 (.int (c + 1))))) b = some o := by rw [upd_ne hb]; exact e
        rw [upd_ne (ne_of_none e1 hl)]; exact e1)
abbrev s_law_any : Stmt := top 21
theorem sc_law_any : FnScope ["_law_pot_here", "_law_items"] ["_law_pot_here", "_law_items"] (defScope s_law_any) := ⟨rfl, rfl, rfl, by decide +kernel, rfl, by decide +kernel, by decide +kernel⟩
theorem ok_any {f fD : Addr} {fd fdD : FuncData} (F : Fun K "_law_any" "_law_any" s_law_any f fd) (T : Txt K mg C t1 t2 t3 t4)
    (c_law_draw : ∀ base, Ca P w K mg base CX0 "_law_draw" 1 ["_law_pot_here", "_law_many"] spDraw fD fdD) : FnOk P w K mg base CX0 2 f fd ["_law_pot_here", "_law_items"] spAny := by
  have c_law_draw := c_law_draw base
  refine F.ok sc_law_any (fun vs H Q E h => ?_) (fun cdv A outer s H vs Q E hr h => ⟨_, (pss_one (ps_ret (pe_ix (ix_listK K rfl) (pv 1) (pe_call c_law_draw.G (hr.mono (by first | decide | omega)) (by rfl) c_law_draw.g c_law_draw.k c_law_draw.B .nil pass0 (pa_cons (pv 0) (pa_cons (pe_callB (call_lenK K rfl) (by rfl) T.b_len (by decide +kernel) (pa_cons (pv 1) pa_nil)) pa_nil))) (fun _ _ => rfl)))), ?_⟩)
  · obtain ⟨_, _, _, _, rfl, _⟩ := h
    rfl
  obtain ⟨p, l, xs, n, rfl, hl, npl, ⟨x0, x1⟩, hn, hp, k⟩ := h
  refine ⟨_, rfl, _, rfl, _, rfl, _, _, rfl, .inl ⟨_, SqL.of hl, rfl⟩, p, _, n, rfl, ⟨by omega, by omega⟩, hn, hp, fun r H' r0 r1 pot but => ?_⟩
  have hr : r.toNat < xs.length := by omega
  refine ⟨l, xs, r, xs[r.toNat], rfl, rfl, SqL.of (but _ _ npl hl), ?_, k _ _ (List.getElem_mem hr) pot but⟩
  have := atI_nat (xs := xs) (j := r.toNat) (v := xs[r.toNat]) (by simp [hr])
  rw [Int.toNat_of_nonneg r0] at this
  exact this
abbrev s_law_pot : Stmt := top 22
theorem sc_law_pot : FnScope ["_law_script", "_law_k", "_law_drawn", "_law_own"] ["_law_script", "_law_k"] (defScope s_law_pot) := ⟨rfl, rfl, rfl, by decide +kernel, rfl, by decide +kernel, by decide +kernel⟩
theorem ten300 : ((10 : Int) ^ (60 : Int).toNat) ^ (5 : Int).toNat < 2 ^ 1000 := by decide +kernel
theorem ten300p : 0 < ((10 : Int) ^ (60 : Int).toNat) ^ (5 : Int).toNat := by decide +kernel
theorem pot_bound (x : Int) (b : Bool) : 0 ≤ x % (((10 : Int) ^ (60 : Int).toNat) ^ (5 : Int).toNat) * (if b = true then 1 else 0) ∧ (x % (((10 : Int) ^ (60 : Int).toNat) ^ (5 : Int).toNat) * (if b = true then 1 else 0)).natAbs < 2 ^ 1000 := by
  have h0 := Int.emod_nonneg x (Int.ne_of_gt ten300p)
  have h1 := Int.lt_trans (Int.emod_lt_of_pos x ten300p) ten300
  cases b with
  | false =>
    rw [if_neg Bool.false_ne_true, Int.mul_zero]
    exact ⟨Int.le_refl _, by decide +kernel⟩
  | true =>
    rw [if_pos rfl, Int.mul_one]
    refine ⟨h0, ?_⟩
    have := Int.natAbs_of_nonneg h0
    generalize x % (((10 : Int) ^ (60 : Int).toNat) ^ (5 : Int).toNat) = y at *
    have h2 : ((y.natAbs : Nat) : Int) < ((2 ^ 1000 : Nat) : Int) := by rw [this]; exact h1
    exact Int.ofNat_lt.mp h2
theorem pot_small (x : Int) (b : Bool) : CMulW (x % (((10 : Int) ^ (60 : Int).toNat) ^ (5 : Int).toNat)) (if b = true then 1 else 0) := by
  have h := (pot_bound x true).2
  rw [if_pos rfl, Int.mul_one] at h
  refine wide_mul (a := 1000) (b := 1) h ?_ (by decide) (by decide) (by decide)
  cases b <;> decide
theorem ok_pot {f : Addr} {fd : FuncData} (F : Fun K "_law_pot" "_law_pot" s_law_pot f fd) (T : Txt K mg C t1 t2 t3 t4) : FnOk P w K mg base CX0 1 f fd ["_law_script", "_law_k"] (spPot K) := by
  refine F.ok sc_law_pot (fun vs H Q E h => ?_) (fun cdv A outer s H vs Q E hr h => ⟨_, (pss_cons (ps_set (i := 2) sc_law_pot.nd rfl (Or.inl rfl) (pe_ifExp (pt_cmpR op_lt (pv 1) (pe_callB (call_lenK K rfl) (by rfl) T.b_len (by decide +kernel) (pa_cons (pv 0) pa_nil)) (nomark _)) (pe_ix (ix_listK K rfl) (pv 0) (pv 1) (fun _ _ => rfl)) (pe_op op_add (pe_op op_mul pe_int (pv 1)) pe_int)))
    (pss_cons (ps_set (i := 3) sc_law_pot.nd rfl (Or.inl rfl) (pe_op op_mulW (pe_op op_mod (pe_callTy call_int1 (by rfl) T.b_int (by decide +kernel) (pa_cons (pe_callB call_abs (by rfl) T.b_abs (by decide +kernel) (pa_cons (pv 2) pa_nil)) pa_nil)) (pe_op op_powW (pe_op op_pow pe_int pe_int) pe_int)) (pe_callTy call_int1 (by rfl) T.b_int (by decide +kernel) (pa_cons (pe_cmpR op_ge (pe_callB call_abs (by rfl) T.b_abs (by decide +kernel) (pa_cons (pv 2) pa_nil)) (pe_op op_pow pe_int pe_int) (nomark _)) pa_nil))))
    (pss_one (ps_ret (pe_lst (pa_cons (pv 3) (pa_cons (pe_op op_mod (pe_callTy call_int1 (by rfl) T.b_int (by decide +kernel) (pa_cons (pe_op op_add (pe_op op_add (pe_op op_mul (pe_op op_mod (pe_callTy call_int1 (by rfl) T.b_int (by decide +kernel) (pa_cons (pv 2) pa_nil)) pe_int) pe_int) (pe_op op_mul (pe_op op_mul pe_int (pv 1)) (pv 1))) pe_int) pa_nil)) pe_int) (pa_cons pe_int pa_nil)))))))), ?_⟩)
  · obtain ⟨_, _, _, rfl, _⟩ := h
    rfl
  obtain ⟨a, ns, k, rfl, hS, few, ⟨k0, k3⟩, kk⟩ := h
  have kk9 : k * k ≤ 9 := Int.mul_le_mul (show k ≤ 3 by omega) (show k ≤ 3 by omega) k0 (by decide)
  have kk0 : 0 ≤ k * k := Int.mul_nonneg k0 k0
  have kk1 : 9049 * k * k = 9049 * (k * k) := Int.mul_assoc _ _ _
  refine ⟨_, rfl, _, rfl, _, _, rfl, .inl ⟨_, hS, rfl⟩, _, _, rfl, rfl, _, rfl, ite2 (fun h1 => ?_) (fun h1 => ?_)⟩
  · have hk : k.toNat < ns.length := by
      have := of_decide_eq_true h1
      rw [List.length_map] at this
      omega
    have ea : atI (ns.map V.int) k = some (.int ns[k.toNat]) := by
      have := atI_nat (xs := ns.map V.int) (j := k.toNat) (v := .int ns[k.toNat]) (by simp [hk])
      rw [Int.toNat_of_nonneg k0] at this
      exact this
    refine ⟨_, rfl, _, rfl, a, _, k, _, rfl, rfl, hS, ea, ?_⟩
    generalize ns[k.toNat] = d
    refine ⟨_, rfl, _, rfl, .inl ⟨_, rfl, _, _, rfl, rfl, ⟨by decide, by decide, by decide⟩, _, _, rfl, rfl, ⟨by decide, by decide +kernel⟩, _, _, rfl, rfl, ten300p, _, rfl, _, rfl, _, _, rfl, rfl, ⟨by decide, by decide, by decide⟩, _, _, rfl, rfl, .inr ⟨_, rfl, _, _, rfl, rfl, pot_small _ _, ?_⟩⟩⟩
    refine ⟨_, rfl, _, rfl, .inl ⟨_, rfl, _, _, rfl, rfl, (show (0 : Int) < 2305843009213693951 by decide), _, _, rfl, rfl, .inr ⟨by decide, by decide⟩, _, rfl, _, _, rfl, rfl, .inl ⟨by decide, by decide⟩, _, rfl, _, _, rfl, rfl, .inl ⟨by omega, by omega⟩, _, _, rfl, rfl, _, _, rfl, rfl, .inl ⟨_, rfl, _, _, rfl, rfl, (show (0 : Int) < 2305843009213693921 by decide), by show 3 ≤ sizeLine; decide, fun p hp => ?_⟩⟩⟩
    exact kk p _ hp (Same.upd (Same.refl H) hp) ⟨_, _, _, upd_same, pot_bound _ _, ⟨Int.emod_nonneg _ (by decide), Int.emod_lt_of_pos _ (by decide)⟩, by decide, by decide⟩
  · refine ⟨_, rfl, _, _, rfl, rfl, .inl ⟨by decide, by decide⟩, _, _, rfl, rfl, ?_⟩
    generalize 19 * k + 5 = d
    refine ⟨_, rfl, _, rfl, .inl ⟨_, rfl, _, _, rfl, rfl, ⟨by decide, by decide, by decide⟩, _, _, rfl, rfl, ⟨by decide, by decide +kernel⟩, _, _, rfl, rfl, ten300p, _, rfl, _, rfl, _, _, rfl, rfl, ⟨by decide, by decide, by decide⟩, _, _, rfl, rfl, .inr ⟨_, rfl, _, _, rfl, rfl, pot_small _ _, ?_⟩⟩⟩
    refine ⟨_, rfl, _, rfl, .inl ⟨_, rfl, _, _, rfl, rfl, (show (0 : Int) < 2305843009213693951 by decide), _, _, rfl, rfl, .inr ⟨by decide, by decide⟩, _, rfl, _, _, rfl, rfl, .inl ⟨by decide, by decide⟩, _, rfl, _, _, rfl, rfl, .inl ⟨by omega, by omega⟩, _, _, rfl, rfl, _, _, rfl, rfl, .inl ⟨_, rfl, _, _, rfl, rfl, (show (0 : Int) < 2305843009213693921 by decide), by show 3 ≤ sizeLine; decide, fun p hp => ?_⟩⟩⟩
    exact kk p _ hp (Same.upd (Same.refl H) hp) ⟨_, _, _, upd_same, pot_bound _ _, ⟨Int.emod_nonneg _ (by decide), Int.emod_lt_of_pos _ (by decide)⟩, by decide, by decide⟩
end
end K02

set_option Elab.async false
set_option linter.all false
set_option maxRecDepth 100000
set_option maxHeartbeats 4000000
namespace K02
open PySem L2 Xby
def words8 : List Str := ["a", "b", "c", "ab", "abcdefgh", "x", "row", "z"]
def cells12 : List V := [.int 1, .int 2, .non, .int 1, .str "x", .int 2, .str "a", .int (-3), .int 0, .int 999, .int (-999), .str "abcdefgh"]
/-- words: some of the eight, each once -/
def spWords : Sp := fun vs H Q _ => ∃ (p : Addr) (many n : Nat), vs = [.ref p, .int many] ∧ many ≤ 8 ∧ n + many ≤ 1000000 ∧ Pot H p n ∧
  ∀ a H' (hs : List Str), hs.length = many → hs.Nodup → (∀ h ∈ hs, h ∈ words8) → H' a = some (.tup (hs.map V.str)) → Pot H' p (n + many) → But p H H' → Q (.ref a) H'
def spACell : Sp := fun vs H Q _ => ∃ (p : Addr) (n : Nat), vs = [.ref p] ∧ n + 1 ≤ 1000000 ∧ Pot H p n ∧ ∀ v H', v ∈ cells12 → Pot H' p (n + 1) → But p H H' → Q v H'
/-- rows: tuples of cells, of one length -/
inductive Rows (H : Hp) (wd : Nat) : List V → List (List V) → Prop
  | nil : Rows H wd [] []
  | cons {a : Addr} {r : List V} {vs : List V} {rs : List (List V)} : H a = some (.tup r) → r.length = wd → (∀ v ∈ r, v ∈ cells12) → Rows H wd vs rs → Rows H wd (.ref a :: vs) (r :: rs)
def spRows : Sp := fun vs H Q _ => ∃ (p : Addr) (wd many n : Nat), vs = [.ref p, .int wd, .int many] ∧ wd ≤ 3 ∧ many ≤ 7 ∧ n + 21 ≤ 1000000 ∧ Pot H p n ∧
  ∀ a H' (xs : List V) (rs : List (List V)), rs.length = many → H' a = some (.tup xs) → Rows H' wd xs rs → Pot H' p (n + 21) → But p H H' → Q (.ref a) H'
theorem Rows.len {H : Hp} {wd : Nat} {xs : List V} {rs : List (List V)} (h : Rows H wd xs rs) : xs.length = rs.length := by
  induction h with
  | nil => rfl
  | cons _ _ _ _ ih => simp [ih]
theorem Rows.butL {H H' : Hp} {wd : Nat} {p : Addr} {xs ys : List V} {rs : List (List V)} (h : Rows H wd xs rs) (hp : H p = some (.lst ys)) (b : But p H H') : Rows H' wd xs rs := by
  induction h with
  | nil => exact .nil
  | cons e l m _ ih =>
    refine .cons (b _ _ ?_ e) l m ih
    rintro rfl
    rw [e] at hp
    cases hp
theorem Rows.but {H H' : Hp} {wd n : Nat} {p : Addr} {xs : List V} {rs : List (List V)} (h : Rows H wd xs rs) (pot : Pot H p n) (b : But p H H') : Rows H' wd xs rs := by
  obtain ⟨_, _, _, q, _⟩ := pot
  exact h.butL q b
theorem erase_map {α β : Type} (f : α → β) : ∀ (l : List α) (i : Nat), (l.map f).eraseIdx i = (l.eraseIdx i).map f
  | [], _ => rfl
  | _ :: _, 0 => rfl
  | x :: xs, i + 1 => by
    show f x :: (xs.map f).eraseIdx i = f x :: (xs.eraseIdx i).map f
    rw [erase_map f xs i]
theorem erase_perm {α : Type} : ∀ (l : List α) (i : Nat) (h : i < l.length), (l[i] :: l.eraseIdx i).Perm l
  | x :: xs, 0, _ => List.Perm.refl _
  | x :: xs, i + 1, h => by
    have h' : i < xs.length := by simpa using h
    exact (List.Perm.swap x xs[i] (xs.eraseIdx i)).trans ((erase_perm xs i h').cons x)
theorem Rows.same {H H' : Hp} {wd : Nat} {xs : List V} {rs : List (List V)} (h : Rows H wd xs rs) (s : Same H H') : Rows H' wd xs rs := by
  induction h with
  | nil => exact .nil
  | cons e l m _ ih => exact .cons (s _ _ e) l m ih
theorem Rows.snoc {H : Hp} {wd : Nat} {a : Addr} {r xs : List V} {rs : List (List V)} (h : Rows H wd xs rs) (e : H a = some (.tup r)) (l : r.length = wd) (m : ∀ v ∈ r, v ∈ cells12) : Rows H wd (xs ++ [.ref a]) (rs ++ [r]) := by
  induction h with
  | nil => exact .cons e l m .nil
  | cons e' l' m' _ ih => exact .cons e' l' m' ih
theorem tupBut {H H' : Hp} {n : Nat} {p a : Addr} {xs : List V} (e : H a = some (.tup xs)) (pot : Pot H p n) (b : But p H H') : H' a = some (.tup xs) := by
  refine b _ _ ?_ e
  rintro rfl
  obtain ⟨_, _, _, q, _⟩ := pot
  rw [e] at q
  cases q
section
variable {P : Program} {w : World} {K : PySem.W.Frag} {mg : Str → Option Value} {base : Heap} {C : Addr} {t1 t2 t3 t4 : Tok}
abbrev s_law_words : Stmt := top 23
theorem sc_law_words : FnScope ["_law_pot_here", "_law_many", "_law_some", "_law_found", "_law_turn", "_law_place"] ["_law_pot_here", "_law_many"] (defScope s_law_words) := ⟨rfl, rfl, rfl, by decide +kernel, rfl, by decide +kernel, by decide +kernel⟩
theorem ok_words {f fD : Addr} {fd fdD : FuncData} (F : Fun K "_law_words" "_law_words" s_law_words f fd) (T : Txt K mg C t1 t2 t3 t4)
    (c_law_draw : ∀ base, Ca P w K mg base CX0 "_law_draw" 1 ["_law_pot_here", "_law_many"] spDraw fD fdD) : FnOk P w K mg base CX0 2 f fd ["_law_pot_here", "_law_many"] spWords := by
  have c_law_draw := c_law_draw base
  refine F.ok sc_law_words (fun vs H Q E h => ?_) (fun cdv A outer s H vs Q E hr h => ⟨_, (pss_cons (ps_par (i := 2) (j := 3) (by rfl) sc_law_words.nd rfl rfl (by decide) rfl rfl (pa_cons (pe_lst (pa_cons pe_str (pa_cons pe_str (pa_cons pe_str (pa_cons pe_str (pa_cons pe_str (pa_cons pe_str (pa_cons pe_str (pa_cons pe_str pa_nil))))))))) (pa_cons (pe_lst pa_nil) pa_nil)) (by rfl))
    (pss_cons (ps_for PassesOwn.never rfl (pi_range1 (by rfl) T.b_range (pa_cons (pv 1) pa_nil)) (pg_name (i := 4) sc_law_words.nd rfl (Or.inl rfl)) (pss_cons (ps_set (i := 5) sc_law_words.nd rfl (Or.inl rfl) (pe_call c_law_draw.G (hr.mono (by first | decide | omega)) (by rfl) c_law_draw.g c_law_draw.k c_law_draw.B .nil pass0 (pa_cons (pv 0) (pa_cons (pe_callB (call_lenK K rfl) (by rfl) T.b_len (by decide +kernel) (pa_cons (pv 2) pa_nil)) pa_nil))))
    (pss_one (ps_expr (pe_bm PySem.F.plainAttrs_list PySem.F.slot_list_append PySem.F.type_list_append mt_append (pv 3) (pa_cons (pe_bm PySem.F.plainAttrs_list PySem.F.slot_list_pop PySem.F.type_list_pop mt_popAt (pv 2) (pa_cons (pv 5) pa_nil)) pa_nil))))))
    (pss_one (ps_ret (pe_callTy (call_tupleK K rfl) (by rfl) T.b_tuple (by decide +kernel) (pa_cons (pv 3) pa_nil)))))), ?_⟩)
  · obtain ⟨_, _, _, rfl, _⟩ := h
    rfl
  obtain ⟨p, many, n, rfl, hm, hn, pot, k⟩ := h
  refine ⟨by show 8 ≤ sizeLine; decide, fun A0 nA => ⟨by show 0 ≤ sizeLine; decide, fun B0 nB => ⟨_, _, rfl, ?_⟩⟩⟩
  have AB : A0 ≠ B0 := fun e => by rw [← e, upd_same] at nB; cases nB
  have nB0 : H B0 = none := by rw [upd_ne AB.symm] at nB; exact nB
  have Ap : A0 ≠ p := (pot.ne nA).symm
  have Bp : B0 ≠ p := (pot.ne nB0).symm
  refine ⟨_, rfl, _, rfl, by omega, by omega, for_range (lo := 0) (n := (many : Int).toNat) (fun i σ H' => ∃ (o1 o2 : Option V) (ws fs : List Str), σ = [some (.ref p), some (.int many), some (.ref A0), some (.ref B0), o1, o2] ∧
    H' A0 = some (.lst (ws.map V.str)) ∧ H' B0 = some (.lst (fs.map V.str)) ∧ fs.length = i ∧ (fs ++ ws).Perm words8 ∧ Pot H' p (n + i) ∧ But p H H') ?_ ?_ ?_⟩
  · refine ⟨none, none, words8, [], rfl, ?_, upd_same, rfl, List.Perm.refl _, (pot.new nA).new nB, ((But.of (Same.one nA)).new nB)⟩
    rw [upd_ne AB]
    exact upd_same
  · rintro i σ H1 hi ⟨o1, o2, ws, fs, rfl, hA, hB, lf, pm, pot1, but1⟩
    have lw : fs.length + ws.length = 8 := by
      have := pm.length_eq
      rw [List.length_append] at this
      exact this
    refine ⟨_, rfl, _, rfl, _, _, rfl, .inl ⟨_, SqL.of hA, rfl⟩, p, _, n + i, rfl, ⟨by rw [List.length_map]; omega, by rw [List.length_map]; omega⟩, by omega, pot1, fun r H2 r0 r1 pot2 but2 => ?_⟩
    rw [List.length_map] at r1
    have hA2 := but2 A0 _ Ap hA
    have hB2 := but2 B0 _ Bp hB
    have hr : r.toNat < ws.length := by omega
    have gy : (ws.map V.str)[r.toNat]? = some (.str ws[r.toNat]) := by simp [hr]
    have gi : seqIndex? r (ws.map V.str).length = some r.toNat := by
      unfold seqIndex?
      rw [List.length_map]
      simp only [Int.not_lt.mpr r0, if_false]
      rw [if_pos (by simp; omega)]
    have B2 : (upd H2 A0 (.lst ((ws.map V.str).eraseIdx r.toNat))) B0 = some (.lst (fs.map V.str)) := by rw [upd_ne AB.symm]; exact hB2
    refine ⟨_, rfl, .inl ⟨rfl, _, SqL.of hB2⟩, _, rfl, .inl ⟨rfl, _, SqL.of hA2⟩, _, rfl, A0, _, r, r.toNat, _, rfl, rfl, hA2, by omega, by omega, gi, gy, B0, _, _, rfl, rfl, B2, ?_, ?_⟩
    · rw [List.length_map]
      exact Nat.lt_of_le_of_lt (show fs.length ≤ 8 by omega) (by decide)
    · refine ⟨_, _, ws.eraseIdx r.toNat, fs ++ [ws[r.toNat]], rfl, ?_, ?_, by simp [lf], ?_, ?_, ?_⟩
      · rw [upd_ne AB, upd_same]
        have : (ws.map V.str).eraseIdx r.toNat = (ws.eraseIdx r.toNat).map V.str := erase_map _ _ _
        rw [this]
      · rw [upd_same, List.map_append]
        rfl
      · refine List.Perm.trans ?_ pm
        rw [List.append_assoc]
        exact List.Perm.append_left fs (erase_perm ws r.toNat hr)
      · exact ((pot2.upd Ap.symm).upd Bp.symm).more (by omega)
      · intro c u ne e
        have e2 := but2 c u ne (but1 c u ne e)
        rw [upd_ne (ne_of_none e nB0), upd_ne (ne_of_none e nA)]
        exact e2
  · rintro σ H1 ⟨o1, o2, ws, fs, rfl, hA, hB, lf, pm, pot1, but1⟩
    have nd : (fs ++ ws).Nodup := pm.nodup_iff.mpr (by decide +kernel)
    refine ⟨_, rfl, B0, _, rfl, .inl ⟨SqL.of hB, fun l nl => k l _ fs (by simpa using lf) (List.nodup_append.mp nd).1 (fun h hh => pm.subset (List.mem_append_left _ hh)) upd_same ((pot1.new nl).more (by omega)) (but1.new nl)⟩⟩
abbrev s_law_cell : Stmt := top 24
theorem sc_law_cell : FnScope ["_law_pot_here"] ["_law_pot_here"] (defScope s_law_cell) := ⟨rfl, rfl, rfl, by decide +kernel, rfl, by decide +kernel, by decide +kernel⟩
theorem ok_acell {f fA : Addr} {fd fdA : FuncData} (F : Fun K "_law_cell" "_law_cell" s_law_cell f fd) (T : Txt K mg C t1 t2 t3 t4)
    (c_law_any : ∀ base, Ca P w K mg base CX0 "_law_any" 2 ["_law_pot_here", "_law_items"] spAny fA fdA) : FnOk P w K mg base CX0 3 f fd ["_law_pot_here"] spACell := by
  have c_law_any := c_law_any base
  refine F.ok sc_law_cell (fun vs H Q E h => ?_) (fun cdv A outer s H vs Q E hr h => ⟨_, (pss_one (ps_ret (pe_call c_law_any.G (hr.mono (by first | decide | omega)) (by rfl) c_law_any.g c_law_any.k c_law_any.B .nil pass0 (pa_cons (pv 0) (pa_cons (pe_lst (pa_cons pe_int (pa_cons pe_int (pa_cons pe_non (pa_cons pe_int (pa_cons pe_str (pa_cons pe_int (pa_cons pe_str (pa_cons (pe_un un_neg pe_int) (pa_cons pe_int (pa_cons pe_int (pa_cons (pe_un un_neg pe_int) (pa_cons pe_str pa_nil))))))))))))) pa_nil))))), ?_⟩)
  · obtain ⟨_, _, rfl, _⟩ := h
    rfl
  obtain ⟨p, n, rfl, hn, pot, k⟩ := h
  refine ⟨_, rfl, _, rfl, _, rfl, by show 12 ≤ sizeLine; decide, fun l nl => ⟨p, l, _, n, rfl, upd_same, (pot.ne nl).symm, ⟨by decide, by decide⟩, by omega, pot.new nl, fun x H' hx pot' but' => ?_⟩⟩
  exact k x H' hx pot' ((But.of (Same.one nl)).trans but')
abbrev s_law_rows : Stmt := top 25
theorem sc_law_rows : FnScope ["_law_pot_here", "_law_wide", "_law_many", "_law_found", "_law_line", "_law_turn"] ["_law_pot_here", "_law_wide", "_law_many"] (defScope s_law_rows) := ⟨rfl, rfl, rfl, by decide +kernel, rfl, by decide +kernel, by decide +kernel⟩
theorem ok_rows {f fC : Addr} {fd fdC : FuncData} (F : Fun K "_law_rows" "_law_rows" s_law_rows f fd) (T : Txt K mg C t1 t2 t3 t4)
    (c_law_cell : ∀ base, Ca P w K mg base CX0 "_law_cell" 3 ["_law_pot_here"] spACell fC fdC) : FnOk P w K mg base CX0 4 f fd ["_law_pot_here", "_law_wide", "_law_many"] spRows := by
  have c_law_cell := c_law_cell base
  refine F.ok sc_law_rows (fun vs H Q E h => ?_) (fun cdv A outer s H vs Q E hr h => ⟨_, (pss_cons (ps_set (i := 3) sc_law_rows.nd rfl (Or.inl rfl) (pe_lst pa_nil))
    (pss_cons (ps_for PassesOwn.never rfl (pi_range1 (by rfl) T.b_range (pa_cons (pv 2) pa_nil)) (pg_name (i := 4) sc_law_rows.nd rfl (Or.inl rfl)) (pss_one (ps_expr (pe_bm PySem.F.plainAttrs_list PySem.F.slot_list_append PySem.F.type_list_append mt_append (pv 3) (pa_cons (pe_callTy (call_tupleK K rfl) (by rfl) T.b_tuple (by decide +kernel) (pa_cons (pe_lc (own := [("_law_turn", 5)]) (g := gName 5) (tt := tYes) rfl sc_law_rows.nd (pi_range1 (by rfl) T.b_range (pa_cons (pv 1) pa_nil)) (blkOk_by (N := ["_law_pot_here", "_law_wide", "_law_many", "_law_found", "_law_line", "_law_turn"]) (sc := defScope s_law_rows) (by decide +kernel)) (fun _ _ _ _ _ => (pg_name (i := 5) sc_law_rows.nd rfl (Or.inl rfl))) (fun _ _ _ _ _ => pts_nil) (fun _ _ _ _ _ => (pe_call c_law_cell.G (hr.mono (by first | decide | omega)) (by rfl) c_law_cell.g c_law_cell.k c_law_cell.B .nil pass0 (pa_cons (pv 0) pa_nil)))) pa_nil)) pa_nil)))))
    (pss_one (ps_ret (pe_callTy (call_tupleK K rfl) (by rfl) T.b_tuple (by decide +kernel) (pa_cons (pv 3) pa_nil)))))), ?_⟩)
  · obtain ⟨_, _, _, _, rfl, _⟩ := h
    rfl
  obtain ⟨p, wd, many, n, rfl, hw, hm, hn, pot, k⟩ := h
  refine ⟨by show 0 ≤ sizeLine; decide, fun B0 nB => ?_⟩
  have Bp : B0 ≠ p := (pot.ne nB).symm
  refine ⟨_, rfl, _, rfl, by omega, by omega, for_range (lo := 0) (n := (many : Int).toNat) (fun i σ H' => ∃ (o1 o2 : Option V) (xs : List V) (rs : List (List V)), σ = [some (.ref p), some (.int wd), some (.int many), some (.ref B0), o1, o2] ∧
    H' B0 = some (.lst xs) ∧ Rows H' wd xs rs ∧ rs.length = i ∧ Pot H' p (n + 3 * i) ∧ But p H H') ?_ ?_ ?_⟩
  · exact ⟨none, none, [], [], rfl, upd_same, .nil, rfl, pot.new nB, But.of (Same.one nB)⟩
  · rintro i σ H1 hi ⟨o1, o2, xs, rs, rfl, hB, hR, lr, pot1, but1⟩
    refine ⟨_, rfl, .inl ⟨rfl, _, SqL.of hB⟩, ?_⟩
    refine ⟨_, rfl, _, rfl, by omega, by omega, fun D nD => lc_range (lo := 0) (n := (wd : Int).toNat) (fun j H' => ∃ acc : List V, H' D = some (.lst acc) ∧ acc.length = j ∧ (∀ v ∈ acc, v ∈ cells12) ∧ Pot H' p (n + 3 * i + j) ∧ But p H1 H') ?_ ?_ ?_⟩
    · exact ⟨[], upd_same, rfl, by simp, pot1.new nD, But.of (Same.one nD)⟩
    · rintro j H2 hj ⟨acc, hD, la, hc, pot2, but2⟩
      have Dp : D ≠ p := (pot1.ne nD).symm
      refine ⟨rfl, _, rfl, p, n + 3 * i + j, rfl, by omega, pot2, fun v H3 hv pot3 but3 => ⟨acc, but3 D _ Dp hD, ?_, acc ++ [v], ?_, by simp [la], ?_, ?_, ?_⟩⟩
      · rw [la]
        exact Nat.lt_of_lt_of_le hj (show (wd : Int).toNat ≤ sizeLine by have : sizeLine = 16777216 := sizeLine_eq; omega)
      · rw [upd_same]
      · intro u hu
        rcases List.mem_append.mp hu with hu | hu
        · exact hc u hu
        · obtain rfl : u = v := by simpa using hu
          exact hv
      · exact (pot3.more (by omega)).upd Dp.symm
      · exact (but2.trans but3).updN nD
    · rintro H2 ⟨acc, hD, la, hc, pot2, but2⟩
      refine ⟨D, acc, rfl, .inl ⟨SqL.of hD, fun l nl => ?_⟩⟩
      have hB2 : (upd H2 l (.tup acc)) B0 = some (.lst xs) := Same.one nl _ _ (but2 B0 _ Bp hB)
      have hR2 : Rows (upd H2 l (.tup acc)) wd xs rs := (hR.but pot1 but2).same (Same.one nl)
      have lB : B0 ≠ l := ne_of_none (but2 B0 _ Bp hB) nl
      refine ⟨B0, _, _, rfl, rfl, hB2, ?_, _, _, xs ++ [.ref l], rs ++ [acc], rfl, upd_same, ?_, by simp [lr], ?_, ?_⟩
      · rw [hR.len, lr]
        exact Nat.lt_of_lt_of_le hi (show (many : Int).toNat ≤ sizeLine by have : sizeLine = 16777216 := sizeLine_eq; omega)
      · refine Rows.snoc (hR2.butL hB2 (But.upd (But.refl _ _))) ?_ (by omega) hc
        rw [upd_ne lB.symm]
        exact upd_same
      · exact ((pot2.new nl).upd Bp.symm).more (by omega)
      · exact ((but1.trans but2).new nl).updN nB
  · rintro σ H1 ⟨o1, o2, xs, rs, rfl, hB, hR, lr, pot1, but1⟩
    refine ⟨_, rfl, B0, _, rfl, .inl ⟨SqL.of hB, fun l nl => k l _ xs rs (by omega) upd_same (hR.same (Same.one nl)) ((pot1.new nl).more (by omega)) (but1.new nl)⟩⟩
end
end K02

set_option Elab.async false
set_option linter.all false
set_option maxRecDepth 100000
set_option maxHeartbeats 4000000
namespace K02
open PySem L2 Xby
def dR (r : List V) : PyData := .tuple (r.map datC)
def dT (rs : List (List V)) : PyData := .tuple (rs.map dR)
def dH (hs : List Str) : PyData := .tuple (hs.map PyData.str)
theorem cells_are : ∀ v ∈ cells12, flatC v = true ∧ Shp 0 (datC v) ∧ Sz 40 0 (datC v) ∧ cellD (datC v) = true ∧ Plain (datC v) = true := by decide +kernel
theorem words_are : ∀ h ∈ words8, wordS h = true ∧ Shp 0 (.str h) ∧ Sz 40 0 (.str h) ∧ h.length ≤ 8 := by decide +kernel
theorem cells_part : ∀ v ∈ cells12, ∀ u ∈ cells12, v = u ∨ ((datC v).shown.cps.toList.isPrefixOf (datC u).shown.cps.toList = false ∧ (datC u).shown.cps.toList.isPrefixOf (datC v).shown.cps.toList = false) := by decide +kernel
theorem words_part : ∀ v ∈ words8, ∀ u ∈ words8, v = u ∨ ((PyData.str v).shown.cps.toList.isPrefixOf (PyData.str u).shown.cps.toList = false ∧ (PyData.str u).shown.cps.toList.isPrefixOf (PyData.str v).shown.cps.toList = false) := by decide +kernel
theorem Rows.get {H : Hp} {wd : Nat} {xs : List V} {rs : List (List V)} (h : Rows H wd xs rs) : ∀ {i : Nat} {r : List V}, rs[i]? = some r → ∃ a, xs[i]? = some (.ref a) ∧ H a = some (.tup r) ∧ r.length = wd ∧ ∀ v ∈ r, v ∈ cells12 := by
  induction h with
  | nil =>
    intro i r e
    simp at e
  | @cons a r0 _ _ e l m _ ih =>
    intro i r e2
    cases i with
    | zero =>
      obtain rfl : r0 = r := by simpa using e2
      exact ⟨a, rfl, e, l, m⟩
    | succ i => exact ih (by simpa using e2)
theorem Rows.cat {H : Hp} {wd : Nat} {xs ys : List V} {rs qs : List (List V)} (h : Rows H wd xs rs) (k : Rows H wd ys qs) : Rows H wd (xs ++ ys) (rs ++ qs) := by
  induction h with
  | nil => exact k
  | cons e l m _ ih => exact .cons e l m ih
theorem Rows.part {H : Hp} {wd : Nat} {xs : List V} {rs : List (List V)} (h : Rows H wd xs rs) : ∀ n, Rows H wd (xs.take n) (rs.take n) ∧ Rows H wd (xs.drop n) (rs.drop n) := by
  induction h with
  | nil => exact fun n => by simpa using Rows.nil
  | cons e l m t ih =>
    intro n
    cases n with
    | zero => exact ⟨.nil, .cons e l m t⟩
    | succ n => exact ⟨.cons e l m (ih n).1, (ih n).2⟩
theorem Rows.back {H : Hp} {wd : Nat} {xs : List V} {rs : List (List V)} (h : Rows H wd xs rs) : Rows H wd xs.reverse rs.reverse := by
  induction h with
  | nil => exact .nil
  | cons e l m _ ih =>
    rw [List.reverse_cons, List.reverse_cons]
    exact ih.snoc e l m
theorem Rows.mem {H : Hp} {wd : Nat} {xs : List V} {rs : List (List V)} (h : Rows H wd xs rs) : ∀ r ∈ rs, r.length = wd ∧ ∀ v ∈ r, v ∈ cells12 := by
  induction h with
  | nil => exact fun r hr => by simp at hr
  | cons e l m _ ih =>
    intro r hr
    rcases List.mem_cons.mp hr with rfl | hr
    · exact ⟨l, m⟩
    · exact ih r hr
theorem Rows.dp {K : PySem.W.Frag} {H : Hp} {wd : Nat} {xs : List V} {rs : List (List V)} (h : Rows H wd xs rs) : DpAll K H xs (rs.map dR) := by
  induction h with
  | nil => exact .nil
  | cons e l m _ ih => exact .cons (.tup (SqT.of e) (DpAll.flat fun v hv => (cells_are v (m v hv)).1)) ih
theorem Rows.dq {K : PySem.W.Frag} {H : Hp} {wd : Nat} {xs : List V} {rs : List (List V)} (h : Rows H wd xs rs) : DqAll K H xs (rs.map dR) := by
  induction h with
  | nil => exact .nil
  | cons e l m _ ih => exact .cons (.tup (SqT.of e) (DqAll.flat fun v hv => (cells_are v (m v hv)).1)) ih
theorem dp_strs {K : PySem.W.Frag} {H : Hp} : ∀ hs : List Str, DpAll K H (hs.map V.str) (hs.map PyData.str)
  | [] => .nil
  | h :: hs => .cons (.str h) (dp_strs hs)
theorem dq_strs {K : PySem.W.Frag} {H : Hp} : ∀ hs : List Str, DqAll K H (hs.map V.str) (hs.map PyData.str)
  | [] => .nil
  | h :: hs => .cons (.str h) (dq_strs hs)
/-- columns and rows of a table -/
structure Tab (H : Hp) (n : Nat) (ah ar : Addr) (hs : List Str) (rs : List (List V)) : Prop where
  h : H ah = some (.tup (hs.map V.str))
  l : hs.length = n
  nd : hs.Nodup
  sub : ∀ h ∈ hs, h ∈ words8
  r : ∃ xs, H ar = some (.tup xs) ∧ Rows H n xs rs
theorem Tab.same {H H' : Hp} {n : Nat} {ah ar : Addr} {hs : List Str} {rs : List (List V)} (t : Tab H n ah ar hs rs) (s : Same H H') : Tab H' n ah ar hs rs := by
  obtain ⟨xs, e, q⟩ := t.r
  exact ⟨s _ _ t.h, t.l, t.nd, t.sub, xs, s _ _ e, q.same s⟩
theorem Tab.but {H H' : Hp} {n m : Nat} {p ah ar : Addr} {hs : List Str} {rs : List (List V)} (t : Tab H n ah ar hs rs) (pot : Pot H p m) (b : But p H H') : Tab H' n ah ar hs rs := by
  obtain ⟨xs, e, q⟩ := t.r
  exact ⟨tupBut t.h pot b, t.l, t.nd, t.sub, xs, tupBut e pot b, q.but pot b⟩
section
variable {K : PySem.W.Frag} {H : Hp} {n : Nat} {ah ar : Addr} {hs : List Str} {rs : List (List V)}
theorem Tab.dpH (t : Tab H n ah ar hs rs) : Dp K H (.ref ah) (dH hs) := .tup (SqT.of t.h) (dp_strs hs)
theorem Tab.dqH (t : Tab H n ah ar hs rs) : Dq K H (.ref ah) (dH hs) := .tup (SqT.of t.h) (dq_strs hs)
theorem Tab.dpR (t : Tab H n ah ar hs rs) : Dp K H (.ref ar) (dT rs) := by
  obtain ⟨xs, e, q⟩ := t.r
  exact .tup (SqT.of e) q.dp
theorem Tab.dqR (t : Tab H n ah ar hs rs) : Dq K H (.ref ar) (dT rs) := by
  obtain ⟨xs, e, q⟩ := t.r
  exact .tup (SqT.of e) q.dq
theorem Tab.shH (t : Tab H n ah ar hs rs) : Shp 1 (dH hs) := Shp.tup fun d hd => by
  obtain ⟨h, hh, rfl⟩ := List.mem_map.mp hd
  exact (words_are h (t.sub h hh)).2.1
theorem Tab.shR (t : Tab H n ah ar hs rs) : Shp 2 (dT rs) := Shp.tup fun d hd => by
  obtain ⟨r, hr, rfl⟩ := List.mem_map.mp hd
  obtain ⟨xs, e, q⟩ := t.r
  refine Shp.tup fun d hd => ?_
  obtain ⟨v, hv, rfl⟩ := List.mem_map.mp hd
  exact (cells_are v ((q.mem r hr).2 v hv)).2.1
theorem Tab.szH (t : Tab H n ah ar hs rs) (h3 : n ≤ 3) : Sz 123 1 (dH hs) := by
  refine (Sz.tup (w := 40) (k := 0) fun d hd => ?_).more ?_ (by decide)
  · obtain ⟨h, hh, rfl⟩ := List.mem_map.mp hd
    exact (words_are h (t.sub h hh)).2.2.1
  · rw [List.length_map, t.l]
    omega
theorem Tab.szR (t : Tab H n ah ar hs rs) (h3 : n ≤ 3) (h7 : rs.length ≤ 7) : Sz 1000 2 (dT rs) := by
  obtain ⟨xs, e, q⟩ := t.r
  refine (Sz.tup (w := 123) (k := 1) fun d hd => ?_).more ?_ (by decide)
  · obtain ⟨r, hr, rfl⟩ := List.mem_map.mp hd
    refine (Sz.tup (w := 40) (k := 0) fun d hd => ?_).more ?_ (by decide)
    · obtain ⟨v, hv, rfl⟩ := List.mem_map.mp hd
      exact (cells_are v ((q.mem r hr).2 v hv)).2.2.1
    · rw [List.length_map, (q.mem r hr).1]
      omega
  · rw [List.length_map]
    omega
end
theorem fr_heads {hs hs' : List Str} (l : hs.length = hs'.length) (s : ∀ h ∈ hs, h ∈ words8) (s' : ∀ h ∈ hs', h ∈ words8) : FrP (dH hs) (dH hs') := (FrPs.map l fun x hx y hy => by
  rcases words_part x (s x hx) y (s' y hy) with rfl | ⟨a, b⟩
  · exact FrP.refl _
  · exact FrP.of_not a b).tup
theorem eq_heads {hs hs' : List Str} (l : hs.length = hs'.length) : EqP (dH hs) (dH hs') := (EqPs.map l fun x hx y hy => EqP.plain rfl rfl).tup
theorem fr_rows {n : Nat} {rs rs' : List (List V)} (l : rs.length = rs'.length) (s : ∀ r ∈ rs, r.length = n ∧ ∀ v ∈ r, v ∈ cells12) (s' : ∀ r ∈ rs', r.length = n ∧ ∀ v ∈ r, v ∈ cells12) : FrP (dT rs) (dT rs') := (FrPs.map l fun x hx y hy =>
  (FrPs.map (by rw [(s x hx).1, (s' y hy).1]) fun v hv u hu => by
    rcases cells_part v ((s x hx).2 v hv) u ((s' y hy).2 u hu) with rfl | ⟨a, b⟩
    · exact FrP.refl _
    · exact FrP.of_not a b).tup).tup
theorem eq_rows {n : Nat} {rs rs' : List (List V)} (l : rs.length = rs'.length) (s : ∀ r ∈ rs, r.length = n ∧ ∀ v ∈ r, v ∈ cells12) (s' : ∀ r ∈ rs', r.length = n ∧ ∀ v ∈ r, v ∈ cells12) : EqP (dT rs) (dT rs') := (EqPs.map l fun x hx y hy =>
  (EqPs.map (by rw [(s x hx).1, (s' y hy).1]) fun v hv u hu => EqP.plain (cells_are v ((s x hx).2 v hv)).2.2.2.2 (cells_are u ((s' y hy).2 u hu)).2.2.2.2).tup).tup
/-- the text of both is the same exactly if both are -/
theorem shown_both {a b c d : PyData} (f1 : FrP a c) (f2 : FrP b d) (e1 : EqP a c) (e2 : EqP b d) : decide (V.str (PyData.tuple [a, b]).shown = V.str (PyData.tuple [c, d]).shown) = (PyData.eqv a c && PyData.eqv b d) := by
  have h := (FrPs.tup (.cons f1 (.cons f2 .nil))).shown
  have e1' : PyData.eqv a c = true ↔ a = c := e1
  have e2' : PyData.eqv b d = true ↔ b = d := e2
  rw [Bool.eq_iff_iff, decide_eq_true_eq, Bool.and_eq_true, e1', e2']
  refine ⟨fun z => ?_, fun ⟨x, y⟩ => by rw [x, y]⟩
  have := h.mp (V.str.inj z)
  simpa using this
def spNear : Sp := fun vs H Q _ => ∃ (p ah ar : Addr) (hs : List Str) (rs : List (List V)) (n m : Nat), vs = [.ref p, .ref ah, .ref ar] ∧ Tab H m ah ar hs rs ∧ (1 ≤ m ∧ m ≤ 3) ∧ rs.length ≤ 7 ∧ n + 10 ≤ 1000000 ∧ Pot H p n ∧
  ∀ t ah' ar' H' hs' rs', H' t = some (.tup [.ref ah', .ref ar']) → Tab H' m ah' ar' hs' rs' → rs'.length = rs.length → Pot H' p (n + 10) → But p H H' → Q (.ref t) H'
section
variable {P : Program} {w : World} {K : PySem.W.Frag} {mg : Str → Option Value} {base : Heap} {C : Addr} {t1 t2 t3 t4 : Tok}
abbrev s_law_near : Stmt := top 26
theorem sc_law_near : FnScope ["_law_pot_here", "_law_heads", "_law_rows_here", "_law_way", "_law_at", "_law_spot", "_law_row"] ["_law_pot_here", "_law_heads", "_law_rows_here"] (defScope s_law_near) := ⟨rfl, rfl, rfl, by decide +kernel, rfl, by decide +kernel, by decide +kernel⟩
theorem ok_near {f fD fC fW : Addr} {fd fdD fdC fdW : FuncData} (F : Fun K "_law_near" "_law_near" s_law_near f fd) (T : Txt K mg C t1 t2 t3 t4)
    (c_law_draw : ∀ base, Ca P w K mg base CX0 "_law_draw" 1 ["_law_pot_here", "_law_many"] spDraw fD fdD) (c_law_cell : ∀ base, Ca P w K mg base CX0 "_law_cell" 3 ["_law_pot_here"] spACell fC fdC)
    (c_law_words : ∀ base, Ca P w K mg base CX0 "_law_words" 2 ["_law_pot_here", "_law_many"] spWords fW fdW) : FnOk P w K mg base CX0 4 f fd ["_law_pot_here", "_law_heads", "_law_rows_here"] spNear := by
  have c_law_draw := c_law_draw base
  have c_law_cell := c_law_cell base
  have c_law_words := c_law_words base
  refine F.ok sc_law_near (fun vs H Q E h => ?_) (fun cdv A outer s H vs Q E hr h => ⟨_, (pss_cons (ps_set (i := 3) sc_law_near.nd rfl (Or.inl rfl) (pe_call c_law_draw.G (hr.mono (by first | decide | omega)) (by rfl) c_law_draw.g c_law_draw.k c_law_draw.B .nil pass0 (pa_cons (pv 0) (pa_cons pe_int pa_nil))))
    (pss_cons (ps_if (PW.pt (pw_and (pt_cmpR op_eq (pv 3) pe_int (nomark _)) (pw_and1 (pt_cmpR (op_neDK K rfl hr.units) (pv 2) (pe_tup pa_nil) (nomark _))))) (pss_cons (ps_set (i := 4) sc_law_near.nd rfl (Or.inl rfl) (pe_call c_law_draw.G (hr.mono (by first | decide | omega)) (by rfl) c_law_draw.g c_law_draw.k c_law_draw.B .nil pass0 (pa_cons (pv 0) (pa_cons (pe_callB (call_lenK K rfl) (by rfl) T.b_len (by decide +kernel) (pa_cons (pv 2) pa_nil)) pa_nil))))
    (pss_cons (ps_set (i := 5) sc_law_near.nd rfl (Or.inl rfl) (pe_call c_law_draw.G (hr.mono (by first | decide | omega)) (by rfl) c_law_draw.g c_law_draw.k c_law_draw.B .nil pass0 (pa_cons (pv 0) (pa_cons (pe_callB (call_lenK K rfl) (by rfl) T.b_len (by decide +kernel) (pa_cons (pv 1) pa_nil)) pa_nil))))
    (pss_cons (ps_set (i := 6) sc_law_near.nd rfl (Or.inl rfl) (pe_op (op_catAK K rfl) (pe_op (op_catAK K rfl) (pe_slice (sl_tupAK K rfl) (pe_ix (ix_tupK K rfl) (pv 2) (pv 4) (fun _ _ => rfl)) po_none (po_some (pv 5))) (pe_tup (pa_cons (pe_call c_law_cell.G (hr.mono (by first | decide | omega)) (by rfl) c_law_cell.g c_law_cell.k c_law_cell.B .nil pass0 (pa_cons (pv 0) pa_nil)) pa_nil))) (pe_slice (sl_tupAK K rfl) (pe_ix (ix_tupK K rfl) (pv 2) (pv 4) (fun _ _ => rfl)) (po_some (pe_op op_add (pv 5) pe_int)) po_none)))
    (pss_one (ps_ret (pe_tup (pa_cons (pv 1) (pa_cons (pe_op (op_catAK K rfl) (pe_op (op_catAK K rfl) (pe_slice (sl_tupAK K rfl) (pv 2) po_none (po_some (pv 4))) (pe_tup (pa_cons (pv 6) pa_nil))) (pe_slice (sl_tupAK K rfl) (pv 2) (po_some (pe_op op_add (pv 4) pe_int)) po_none)) pa_nil)))))))) pss_nil)
    (pss_cons (ps_if (pt_cmpR op_eq (pv 3) pe_int (nomark _)) (pss_one (ps_ret (pe_tup (pa_cons (pe_backT K rfl (pv 1)) (pa_cons (pv 2) pa_nil))))) pss_nil)
    (pss_cons (ps_if (pt_cmpR op_eq (pv 3) pe_int (nomark _)) (pss_one (ps_ret (pe_tup (pa_cons (pv 1) (pa_cons (pe_backT K rfl (pv 2)) pa_nil))))) pss_nil)
    (pss_cons (ps_if (pt_cmpR op_eq (pv 3) pe_int (nomark _)) (pss_one (ps_ret (pe_tup (pa_cons (pe_call c_law_words.G (hr.mono (by first | decide | omega)) (by rfl) c_law_words.g c_law_words.k c_law_words.B .nil pass0 (pa_cons (pv 0) (pa_cons (pe_callB (call_lenK K rfl) (by rfl) T.b_len (by decide +kernel) (pa_cons (pv 1) pa_nil)) pa_nil))) (pa_cons (pv 2) pa_nil))))) pss_nil)
    (pss_one (ps_ret (pe_tup (pa_cons (pe_callTy (call_tupleK K rfl) (by rfl) T.b_tuple (by decide +kernel) (pa_cons (pe_callTy (call_listK K rfl) (by rfl) T.b_list (by decide +kernel) (pa_cons (pv 1) pa_nil)) pa_nil)) (pa_cons (pe_callTy (call_tupleK K rfl) (by rfl) T.b_tuple (by decide +kernel) (pa_cons (pe_lc (own := [("_law_row", 6)]) (g := gName 6) (tt := tYes) rfl sc_law_near.nd (pi_tupK K rfl (pv 2)) (blkOk_by (N := ["_law_pot_here", "_law_heads", "_law_rows_here", "_law_way", "_law_at", "_law_spot", "_law_row"]) (sc := defScope s_law_near) (by decide +kernel)) (fun _ _ _ _ _ => (pg_name (i := 6) sc_law_near.nd rfl (Or.inl rfl))) (fun _ _ _ _ _ => pts_nil) (fun _ _ _ _ _ => (pe_callTy (call_tupleK K rfl) (by rfl) T.b_tuple (by decide +kernel) (pa_cons (pe_callTy (call_listK K rfl) (by rfl) T.b_list (by decide +kernel) (pa_cons (pv 6) pa_nil)) pa_nil)))) pa_nil)) pa_nil)))))))))), ?_⟩)
  · obtain ⟨_, _, _, _, _, _, _, rfl, _⟩ := h
    rfl
  obtain ⟨p, ah, ar, hs, rs, n, m, rfl, tab, hm, h7, hn, pot, k⟩ := h
  refine ⟨_, rfl, p, 5, n, rfl, ⟨by decide, by decide⟩, by omega, pot, fun way H1 w0 w5 pot1 but1 => ?_⟩
  have tab1 := tab.but pot but1
  have w4 : way = 0 ∨ way = 1 ∨ way = 2 ∨ way = 3 ∨ way = 4 := by omega
  rcases w4 with rfl | rfl | rfl | rfl | rfl
  · -- one cell otherwise
    refine ⟨_, rfl, rfl, _, rfl, ite2 (fun _ => ?_) (fun h => absurd rfl h)⟩
    refine ⟨_, rfl, by show 0 ≤ sizeLine; decide, fun e0 ne0 => ⟨dT rs, .tuple [], (tab1.same (Same.one ne0)).dpR, .tup (SqT.of upd_same) .nil, tab1.shR.shaped (by decide), by decide, _, rfl, ite2 (fun hne => ?_) (fun he => ?_)⟩⟩
    · have ne : rs ≠ [] := by
        rintro rfl
        simp [dT, PyData.eqv, PyData.eqvAll] at hne
      have s0 := Same.one (o := .tup []) ne0
      have tab2 := tab1.same s0
      have pot2 := pot1.same s0
      have but2 := but1.same s0
      generalize upd H1 e0 (.tup []) = H2 at tab2 pot2 but2 ⊢
      obtain ⟨xs, hx2, rows2⟩ := tab2.r
      have lx := rows2.len
      have r0 : 0 < rs.length := List.length_pos_iff.mpr ne
      refine ⟨_, rfl, _, rfl, _, _, rfl, .inr ⟨xs, SqT.of hx2, rfl⟩, p, _, n + 1, rfl, ⟨by omega, by omega⟩, by omega, pot2, fun i H3 i0 i1 pot3 but3 => ?_⟩
      have tab3 := tab2.but pot2 but3
      have hx3 := tupBut hx2 pot2 but3
      have rows3 := rows2.but pot2 but3
      have lm : (hs.map V.str).length = m := by rw [List.length_map]; exact tab3.l
      refine ⟨_, rfl, _, rfl, _, _, rfl, .inr ⟨_, SqT.of tab3.h, rfl⟩, p, _, n + 2, rfl, ⟨by omega, by omega⟩, by omega, pot3, fun j H4 j0 j1 pot4 but4 => ?_⟩
      rw [lm] at j1
      have tab4 := tab3.but pot3 but4
      have hx4 := tupBut hx3 pot3 but4
      have rows4 := rows3.but pot3 but4
      have il : i.toNat < rs.length := by omega
      obtain ⟨a, ea, hr4, lr, cr⟩ := rows4.get (List.getElem?_eq_getElem il)
      have gi : atI xs i = some (.ref a) := by
        have := atI_nat ea
        rw [Int.toNat_of_nonneg i0] at this
        exact this
      have r3 : rs[i.toNat].length ≤ 3 := by omega
      refine ⟨_, rfl, _, rfl, ar, xs, i, .ref a, rfl, rfl, SqT.of hx4, gi, _, rfl, j, rfl, part_of hr4 fun c1 H5 s5 hc1 => ?_⟩
      rw [cut_to j0] at hc1
      have pot5 := pot4.same s5
      refine ⟨_, rfl, p, n + 3, rfl, by omega, pot5, fun v H6 hv pot6 but6 => ⟨by show 1 ≤ sizeLine; decide, fun b1 nb1 => cat_of (Same.one nb1 _ _ (tupBut hc1 pot5 but6)) upd_same ?_ fun c2 H7 s7 hc2 => ?_⟩⟩
      · rw [List.length_take]
        exact Nat.le_trans (Nat.add_le_add_right (Nat.min_le_right _ _) _) (by show rs[i.toNat].length + 1 ≤ 1000; omega)
      have sB := (Same.one (o := .tup [v]) nb1).trans s7
      have hr7 := sB _ _ (tupBut (s5 _ _ hr4) pot5 but6)
      have hx7 := sB _ _ (tupBut (s5 _ _ hx4) pot5 but6)
      have tab7 := ((tab4.same s5).but pot5 but6).same sB
      have rows7 := ((rows4.same s5).but pot5 but6).same sB
      have pot7 := pot6.same sB
      have but7 : But p H H7 := ((((but2.trans but3).trans but4).same s5).trans but6).same sB
      refine ⟨_, rfl, _, rfl, ar, xs, i, .ref a, rfl, rfl, SqT.of hx7, gi, _, rfl, _, _, rfl, rfl, ?_⟩
      dsimp only [tNoPart]
      refine ⟨_, rfl, part_of hr7 fun c3 H8 s8 hc3 => cat_of (s8 _ _ hc2) hc3 ?_ fun c4 H9 s9 hc4 => ?_⟩
      · rw [cut_from (by omega), List.length_append, List.length_take, List.length_drop]
        have := Nat.min_le_right j.toNat rs[i.toNat].length
        show min j.toNat rs[i.toNat].length + 1 + _ ≤ 1000
        omega
      rw [cut_from (by omega)] at hc4
      have s79 := s8.trans s9
      have hx9 := s79 _ _ hx7
      refine ⟨_, rfl, _, rfl, _, rfl, i, rfl, part_of hx9 fun c5 H10 s10 hc5 => ?_⟩
      rw [cut_to i0] at hc5
      refine ⟨_, rfl, by show 1 ≤ sizeLine; decide, fun b2 nb2 => cat_of (Same.one nb2 _ _ hc5) upd_same ?_ fun c6 H11 s11 hc6 => ?_⟩
      · rw [List.length_take]
        have := Nat.min_le_right i.toNat xs.length
        show min i.toNat xs.length + 1 ≤ 1000
        omega
      have sC := (s10.trans (Same.one (o := .tup [.ref c4]) nb2)).trans s11
      have hx11 := sC _ _ hx9
      refine ⟨_, rfl, _, rfl, _, _, rfl, rfl, ?_⟩
      dsimp only [tNoPart]
      refine ⟨_, rfl, part_of hx11 fun c7 H12 s12 hc7 => cat_of (s12 _ _ hc6) hc7 ?_ fun c8 H13 s13 hc8 => ⟨by show 2 ≤ sizeLine; decide, fun t nt => ?_⟩⟩
      · rw [cut_from (by omega), List.length_append, List.length_take, List.length_drop]
        have := Nat.min_le_right i.toNat xs.length
        show min i.toNat xs.length + 1 + _ ≤ 1000
        omega
      rw [cut_from (by omega)] at hc8
      have sD := ((sC.trans s12).trans s13).trans (Same.one (o := .tup [.ref ah, .ref c8]) nt)
      have sE := s79.trans sD
      have rowsE := rows7.same sE
      refine k t ah c8 _ hs (rs.take i.toNat ++ [rs[i.toNat].take j.toNat ++ [v] ++ rs[i.toNat].drop (j + 1).toNat] ++ rs.drop (i + 1).toNat) upd_same ⟨(tab7.same sE).h, tab7.l, tab7.nd, tab7.sub, _, Same.one nt _ _ hc8, ?_⟩ ?_ ((pot7.same sE).more (by omega)) (but7.same sE)
      · refine ((rowsE.part i.toNat).1.snoc (sD _ _ hc4) ?_ ?_).cat (rowsE.part (i + 1).toNat).2
        · rw [List.length_append, List.length_append, List.length_take, List.length_drop, List.length_singleton]
          have : (j + 1).toNat = j.toNat + 1 := by omega
          have : j.toNat < m := by omega
          omega
        · intro u hu
          rw [List.mem_append, List.mem_append] at hu
          rcases hu with (hu | hu) | hu
          · exact cr u (List.mem_of_mem_take hu)
          · obtain rfl : u = v := by simpa using hu
            exact hv
          · exact cr u (List.mem_of_mem_drop hu)
      · rw [List.length_append, List.length_append, List.length_take, List.length_drop, List.length_singleton]
        omega
    · have s0 := Same.one (o := .tup []) ne0
      have tab2 := tab1.same s0
      have pot2 := pot1.same s0
      have but2 := but1.same s0
      generalize upd H1 e0 (.tup []) = H2 at tab2 pot2 but2 ⊢
      refine ⟨_, rfl, rfl, _, rfl, ite2 (fun h => absurd (of_decide_eq_true h) (by decide)) (fun _ => ?_)⟩
      refine ⟨_, rfl, rfl, _, rfl, ite2 (fun h => absurd (of_decide_eq_true h) (by decide)) (fun _ => ?_)⟩
      refine ⟨_, rfl, rfl, _, rfl, ite2 (fun h => absurd (of_decide_eq_true h) (by decide)) (fun _ => ?_)⟩
      obtain ⟨xs, hx, rows⟩ := tab2.r
      refine ⟨_, rfl, ah, _, rfl, .inr (SqT.of tab2.h), fun l1 nl1 => ⟨l1, _, rfl, .inl ⟨SqL.of upd_same, fun c1 nc1 => ?_⟩⟩⟩
      have sA : Same H2 (upd (upd H2 l1 (.lst (hs.map V.str))) c1 (.tup (hs.map V.str))) := Same.upd (Same.one nl1) nc1
      have hc1 : (upd (upd H2 l1 (.lst (hs.map V.str))) c1 (.tup (hs.map V.str))) c1 = some (.tup (hs.map V.str)) := upd_same
      generalize upd (upd H2 l1 (.lst (hs.map V.str))) c1 (.tup (hs.map V.str)) = H3 at sA hc1 ⊢
      have rows3 := rows.same sA
      refine ⟨_, rfl, ar, rfl, ⟨_, SqT.of (sA _ _ hx)⟩, fun D nD => lc_tup (K := K) (a := ar) (xs := xs) (fun i H' => ∃ ys, H' D = some (.lst ys) ∧ Rows H' m ys (rs.take i) ∧ Same H3 H') ⟨[], upd_same, .nil, Same.one nD⟩ (fun i H' _ ⟨_, _, _, z⟩ => SqT.of (z _ _ (sA _ _ hx))) ?_ ?_⟩
      · rintro i v H4 hi ⟨ys, hD, ry, s4⟩
        have il : i < rs.length := by
          have := (List.getElem?_eq_some_iff.mp hi).1
          rw [rows.len] at this
          exact this
        have gi : rs[i]? = some rs[i] := List.getElem?_eq_getElem il
        obtain ⟨a, ea, hr, lr, cr⟩ := (rows3.same s4).get gi
        obtain rfl : v = .ref a := by
          rw [hi] at ea
          exact Option.some.inj ea
        refine ⟨rfl, _, rfl, a, _, rfl, .inr (SqT.of hr), fun l2 nl2 => ⟨l2, _, rfl, .inl ⟨SqL.of upd_same, fun c2 nc2 => ?_⟩⟩⟩
        have s5 : Same H4 (upd (upd H4 l2 (.lst rs[i])) c2 (.tup rs[i])) := Same.upd (Same.one nl2) nc2
        refine ⟨ys, s5 _ _ hD, ?_, ys ++ [.ref c2], upd_same, ?_, ?_⟩
        · rw [ry.len, List.length_take]
          exact Nat.lt_of_le_of_lt (Nat.min_le_right _ _) (Nat.lt_of_le_of_lt h7 (by decide))
        · rw [List.take_succ, gi]
          refine ((ry.same s5).snoc upd_same lr cr).butL (s5 _ _ hD) (But.upd (But.refl _ _))
        · exact Same.updN (s4.trans s5) nD
      · rintro H4 ⟨ys, hD, ry, s4⟩
        have e : rs.take xs.length = rs := by rw [rows.len, List.take_length]
        rw [e] at ry
        refine ⟨D, ys, rfl, .inl ⟨SqL.of hD, fun c2 nc2 => ⟨by show 2 ≤ sizeLine; decide, fun t nt => ?_⟩⟩⟩
        have s5 : Same H4 (upd (upd H4 c2 (.tup ys)) t (.tup [.ref c1, .ref c2])) := Same.upd (Same.one nc2) nt
        have s6 : Same H2 (upd (upd H4 c2 (.tup ys)) t (.tup [.ref c1, .ref c2])) := (sA.trans s4).trans s5
        refine k t c1 c2 _ hs rs upd_same ⟨s5 _ _ (s4 _ _ hc1), tab2.l, tab2.nd, tab2.sub, ys, Same.one nt _ _ upd_same, ry.same s5⟩ rfl ((pot2.same s6).more (by omega)) (but2.same s6)
  · -- columns the other way about
    refine ⟨_, rfl, rfl, _, rfl, ite2 (fun h => absurd (of_decide_eq_true h) (by decide)) (fun _ => ?_)⟩
    refine ⟨_, rfl, rfl, _, rfl, ite2 (fun _ => ?_) (fun h => absurd rfl h)⟩
    refine ⟨_, rfl, ah, _, rfl, SqT.of tab1.h, fun c nc => ⟨_, rfl, by show 2 ≤ sizeLine; decide, fun t nt => ?_⟩⟩
    have s2 : Same H1 (upd (upd H1 c (.tup (hs.map V.str).reverse)) t (.tup [.ref c, .ref ar])) := Same.upd (Same.one nc) nt
    obtain ⟨xs, hx, rows⟩ := (tab1.same s2).r
    refine k t c ar _ hs.reverse rs upd_same ⟨?_, by rw [List.length_reverse]; exact tab1.l, (List.reverse_perm hs).nodup_iff.mpr tab1.nd, fun h hh => tab1.sub h (List.mem_reverse.mp hh), xs, hx, rows⟩ rfl ((pot1.same s2).more (by omega)) (but1.same s2)
    rw [List.map_reverse]
    exact Same.one nt _ _ upd_same
  · -- rows the other way about
    refine ⟨_, rfl, rfl, _, rfl, ite2 (fun h => absurd (of_decide_eq_true h) (by decide)) (fun _ => ?_)⟩
    refine ⟨_, rfl, rfl, _, rfl, ite2 (fun h => absurd (of_decide_eq_true h) (by decide)) (fun _ => ?_)⟩
    refine ⟨_, rfl, rfl, _, rfl, ite2 (fun _ => ?_) (fun h => absurd rfl h)⟩
    obtain ⟨xs, hx, rows⟩ := tab1.r
    refine ⟨_, rfl, _, rfl, ar, _, rfl, SqT.of hx, fun c nc => ⟨by show 2 ≤ sizeLine; decide, fun t nt => ?_⟩⟩
    have s2 : Same H1 (upd (upd H1 c (.tup xs.reverse)) t (.tup [.ref ah, .ref c])) := Same.upd (Same.one nc) nt
    exact k t ah c _ hs rs.reverse upd_same ⟨s2 _ _ tab1.h, tab1.l, tab1.nd, tab1.sub, xs.reverse, Same.one nt _ _ upd_same, (rows.same s2).back⟩ (by simp) ((pot1.same s2).more (by omega)) (but1.same s2)
  · -- other names
    refine ⟨_, rfl, rfl, _, rfl, ite2 (fun h => absurd (of_decide_eq_true h) (by decide)) (fun _ => ?_)⟩
    refine ⟨_, rfl, rfl, _, rfl, ite2 (fun h => absurd (of_decide_eq_true h) (by decide)) (fun _ => ?_)⟩
    refine ⟨_, rfl, rfl, _, rfl, ite2 (fun h => absurd (of_decide_eq_true h) (by decide)) (fun _ => ?_)⟩
    refine ⟨_, rfl, rfl, _, rfl, ite2 (fun _ => ?_) (fun h => absurd rfl h)⟩
    have lm : (hs.map V.str).length = m := by rw [List.length_map]; exact tab1.l
    refine ⟨_, rfl, _, rfl, _, _, rfl, .inr ⟨_, SqT.of tab1.h, rfl⟩, p, (hs.map V.str).length, n + 1, rfl, by omega, by omega, pot1, fun c H2 hs' l' nd' sub' hc pot2 but2 => ⟨_, rfl, by show 2 ≤ sizeLine; decide, fun t nt => ?_⟩⟩
    obtain ⟨xs, hx, rows⟩ := (tab1.but pot1 but2).r
    have s3 := Same.one (o := .tup [.ref c, .ref ar]) nt
    exact k t c ar _ hs' rs upd_same ⟨s3 _ _ hc, by omega, nd', sub', xs, s3 _ _ hx, rows.same s3⟩ rfl ((pot2.same s3).more (by omega)) ((but1.trans but2).same s3)
  · -- the same again
    refine ⟨_, rfl, rfl, _, rfl, ite2 (fun h => absurd (of_decide_eq_true h) (by decide)) (fun _ => ?_)⟩
    refine ⟨_, rfl, rfl, _, rfl, ite2 (fun h => absurd (of_decide_eq_true h) (by decide)) (fun _ => ?_)⟩
    refine ⟨_, rfl, rfl, _, rfl, ite2 (fun h => absurd (of_decide_eq_true h) (by decide)) (fun _ => ?_)⟩
    refine ⟨_, rfl, rfl, _, rfl, ite2 (fun h => absurd (of_decide_eq_true h) (by decide)) (fun _ => ?_)⟩
    obtain ⟨xs, hx, rows⟩ := tab1.r
    refine ⟨_, rfl, ah, _, rfl, .inr (SqT.of tab1.h), fun l1 nl1 => ⟨l1, _, rfl, .inl ⟨SqL.of upd_same, fun c1 nc1 => ?_⟩⟩⟩
    have sA : Same H1 (upd (upd H1 l1 (.lst (hs.map V.str))) c1 (.tup (hs.map V.str))) := Same.upd (Same.one nl1) nc1
    have hc1 : (upd (upd H1 l1 (.lst (hs.map V.str))) c1 (.tup (hs.map V.str))) c1 = some (.tup (hs.map V.str)) := upd_same
    generalize upd (upd H1 l1 (.lst (hs.map V.str))) c1 (.tup (hs.map V.str)) = H3 at sA hc1 ⊢
    have rows3 := rows.same sA
    refine ⟨_, rfl, ar, rfl, ⟨_, SqT.of (sA _ _ hx)⟩, fun D nD => lc_tup (K := K) (a := ar) (xs := xs) (fun i H' => ∃ ys, H' D = some (.lst ys) ∧ Rows H' m ys (rs.take i) ∧ Same H3 H') ⟨[], upd_same, .nil, Same.one nD⟩ (fun i H' _ ⟨_, _, _, z⟩ => SqT.of (z _ _ (sA _ _ hx))) ?_ ?_⟩
    · rintro i v H4 hi ⟨ys, hD, ry, s4⟩
      have il : i < rs.length := by
        have := (List.getElem?_eq_some_iff.mp hi).1
        rw [rows.len] at this
        exact this
      have gi : rs[i]? = some rs[i] := List.getElem?_eq_getElem il
      obtain ⟨a, ea, hr, lr, cr⟩ := (rows3.same s4).get gi
      obtain rfl : v = .ref a := by
        rw [hi] at ea
        exact Option.some.inj ea
      refine ⟨rfl, _, rfl, a, _, rfl, .inr (SqT.of hr), fun l2 nl2 => ⟨l2, _, rfl, .inl ⟨SqL.of upd_same, fun c2 nc2 => ?_⟩⟩⟩
      have s5 : Same H4 (upd (upd H4 l2 (.lst rs[i])) c2 (.tup rs[i])) := Same.upd (Same.one nl2) nc2
      refine ⟨ys, s5 _ _ hD, ?_, ys ++ [.ref c2], upd_same, ?_, ?_⟩
      · rw [ry.len, List.length_take]
        exact Nat.lt_of_le_of_lt (Nat.min_le_right _ _) (Nat.lt_of_le_of_lt h7 (by decide))
      · rw [List.take_succ, gi]
        refine ((ry.same s5).snoc upd_same lr cr).butL (s5 _ _ hD) (But.upd (But.refl _ _))
      · exact Same.updN (s4.trans s5) nD
    · rintro H4 ⟨ys, hD, ry, s4⟩
      have e : rs.take xs.length = rs := by rw [rows.len, List.take_length]
      rw [e] at ry
      refine ⟨D, ys, rfl, .inl ⟨SqL.of hD, fun c2 nc2 => ⟨by show 2 ≤ sizeLine; decide, fun t nt => ?_⟩⟩⟩
      have s5 : Same H4 (upd (upd H4 c2 (.tup ys)) t (.tup [.ref c1, .ref c2])) := Same.upd (Same.one nc2) nt
      have s6 : Same H1 (upd (upd H4 c2 (.tup ys)) t (.tup [.ref c1, .ref c2])) := (sA.trans s4).trans s5
      refine k t c1 c2 _ hs rs upd_same ⟨s5 _ _ (s4 _ _ hc1), tab1.l, tab1.nd, tab1.sub, ys, Same.one nt _ _ upd_same, ry.same s5⟩ rfl ((pot1.same s6).more (by omega)) (but1.same s6)
end
end K02

set_option Elab.async false
set_option linter.all false
set_option maxRecDepth 100000
set_option maxHeartbeats 8000000
namespace K02
open PySem L2 Xby
/-- == by the class: its def, bound -/
structure CaE (P : Program) (w : World) (K : PySem.W.Frag) (mg : Str → Option Value) (base : Heap) (C : Addr) (f : Addr) (fd : FuncData) : Prop where
  G : FnOk P w K mg base CX0 1 f fd ["self", "other"] (spEq K C)
  B : Binds K fd ["self", "other"] []
  e : PySem.W.findIn K (.ref C) "__eq__" = some (some (.ref f))
  i : PySem.W.isFn K (.ref f) = true
structure CaG (P : Program) (w : World) (K : PySem.W.Frag) (mg : Str → Option Value) (base : Heap) (x : Str) (k : Nat) (ps : List Str) (sp : Sp) (f : Addr) (fd : FuncData) : Prop where
  G : FnG P w K mg base CX0 k f fd ps sp
  g : mg x = some (.ref f)
  k : PySem.W.keepIn K (.ref f) = true
  B : Binds K fd ps []
theorem map_strD (hs : List Str) : (hs.map PyData.str).map strD = hs := by
  rw [List.map_map]
  exact List.map_id' hs
section
variable {K : PySem.W.Frag} {C : Addr} {H : Hp} {m : Nat} {ah ar : Addr} {hs : List Str} {rs : List (List V)}
theorem Tab.cols (t : Tab H m ah ar hs rs) (hm : 1 ≤ m ∧ m ≤ 3) : colsD (dH hs) = true := by
  show (decide (1 ≤ (hs.map PyData.str).length ∧ (hs.map PyData.str).length ≤ 3) && (hs.map PyData.str).all wordD && decide ((hs.map PyData.str).map strD).Nodup) = true
  rw [map_strD, List.length_map, t.l, decide_eq_true hm, decide_eq_true t.nd, Bool.true_and, Bool.and_true, List.all_map]
  exact List.all_eq_true.mpr fun h hh => (words_are h (t.sub h hh)).1
theorem Tab.rowsOk (t : Tab H m ah ar hs rs) : ∀ e ∈ rs.map dR, rowD (hs.map PyData.str).length e = true := by
  intro e he
  obtain ⟨r, hr, rfl⟩ := List.mem_map.mp he
  obtain ⟨xs, _, q⟩ := t.r
  obtain ⟨l, c⟩ := q.mem r hr
  show (decide ((r.map datC).length = (hs.map PyData.str).length) && (r.map datC).all cellD) = true
  rw [List.length_map, List.length_map, t.l, l, decide_eq_true rfl, Bool.true_and, List.all_map]
  exact List.all_eq_true.mpr fun v hv => (cells_are v (c v hv)).2.2.2.1
theorem sh_flat {v : V} (h : v ∈ cells12) : Sh (datC v) := by
  intro x e
  have := (cells_are v h).2.2.1
  rw [e] at this
  have w := this.wt
  simp only [PyData.weight] at w
  have : x.length = x.cps.size := rfl
  omega
theorem Tab.sh1 (t : Tab H m ah ar hs rs) : Sh1 (dH hs) := by
  intro ds e d hd x ex
  obtain rfl : hs.map PyData.str = ds := by injection e
  obtain ⟨h, hh, rfl⟩ := List.mem_map.mp hd
  obtain rfl : h = x := by injection ex
  have := (words_are h (t.sub h hh)).2.2.2
  omega
theorem Tab.sh2 (t : Tab H m ah ar hs rs) : Sh2 (dT rs) := by
  intro ds e d hd
  obtain rfl : rs.map dR = ds := by injection e
  obtain ⟨r, hr, rfl⟩ := List.mem_map.mp hd
  obtain ⟨xs, _, q⟩ := t.r
  intro ds' e' d' hd'
  obtain rfl : r.map datC = ds' := by injection e'
  obtain ⟨v, hv, rfl⟩ := List.mem_map.mp hd'
  exact sh_flat ((q.mem r hr).2 v hv)
/-- a table is made of them -/
theorem make_of {x dx : Addr} {R : Hp → Prop} {E : XK} (t : Tab H m ah ar hs rs) (hm : 1 ≤ m ∧ m ≤ 3) (h6 : rs.length ≤ 6) (nx : H x = none) (ndx : H dx = none) (ne : dx ≠ x)
    (k : ∀ H', Same H H' → H' x = some (.ins C dx (flds (.ref ah) (.ref ar))) → R H') :
    spInit K C (.ref x :: ([.ref ah, .ref ar] ++ [])) (upd (upd H dx (.own x)) x (.ins C dx [])) (fun v H2 => v = .non ∧ R H2) E := by
  have s1 : Same H (upd (upd H dx (.own x)) x (.ins C dx [])) := Same.upd (Same.one ndx) (by rw [upd_ne ne.symm]; exact nx)
  have t1 := t.same s1
  refine ⟨x, dx, .ref ah, .ref ar, hs.map PyData.str, rs.map dR, rfl, upd_same, t1.dqH, t1.dqR, t1.sh1, t1.sh2, t1.cols hm, by rw [List.length_map]; exact h6, t1.rowsOk, fun H' bt hx => ⟨rfl, k H' (fun b o e => bt b o (ne_of_none e nx) (s1 b o e)) hx⟩⟩
theorem Tab.shB (t : Tab H m ah ar hs rs) : Shp 3 (.tuple [dH hs, dT rs]) := Shp.tup fun d hd => by
  simp only [List.mem_cons, List.not_mem_nil, or_false] at hd
  rcases hd with rfl | rfl
  · exact ⟨t.shH.1, Nat.le_trans t.shH.2 (by decide)⟩
  · exact t.shR
theorem Tab.fine (t : Tab H m ah ar hs rs) (h3 : m ≤ 3) (h7 : rs.length ≤ 7) : Fine (.tuple [dH hs, dT rs]) := (Sz.tup (w := 1000) (k := 2) fun d hd => by
  simp only [List.mem_cons, List.not_mem_nil, or_false] at hd
  rcases hd with rfl | rfl
  · exact (t.szH h3).more (by decide) (by decide)
  · exact t.szR h3 h7).fine (show (1000 + 1) * 2 ≤ 200000 by decide) (by decide)
end
theorem Tab.dpB {K : PySem.W.Frag} {H : Hp} {m : Nat} {ah ar b : Addr} {hs : List Str} {rs : List (List V)} (t : Tab H m ah ar hs rs) (hb : H b = some (.tup [.ref ah, .ref ar])) : Dp K H (.ref b) (.tuple [dH hs, dT rs]) :=
  .tup (SqT.of hb) (.cons t.dpH (.cons t.dpR .nil))
theorem eqv_swap {a c : PyData} (e1 : EqP a c) (e2 : EqP c a) : PyData.eqv c a = PyData.eqv a c := by
  have e1' : PyData.eqv a c = true ↔ a = c := e1
  have e2' : PyData.eqv c a = true ↔ c = a := e2
  rw [Bool.eq_iff_iff, e1', e2']
  exact ⟨fun h => h.symm, fun h => h.symm⟩
theorem Tab.mem {H : Hp} {m : Nat} {ah ar : Addr} {hs : List Str} {rs : List (List V)} (t : Tab H m ah ar hs rs) : ∀ r ∈ rs, r.length = m ∧ ∀ v ∈ r, v ∈ cells12 := by
  obtain ⟨xs, _, q⟩ := t.r
  exact q.mem
def spRight : Sp := fun vs H Q _ => ∃ (p : Addr) (n : Nat), vs = [.ref p] ∧ n + 100 ≤ 1000000 ∧ Pot H p n ∧ ∀ H', Pot H' p (n + 100) → But p H H' → Q (.bl true) H'
section
variable {P : Program} {w : World} {K : PySem.W.Frag} {mg : Str → Option Value} {base : Heap} {C : Addr} {t1 t2 t3 t4 : Tok}
abbrev s_law_right : Stmt := top 27
theorem sc_law_right : FnScope ["_law_pot_here", "_law_heads", "_law_rows_here", "_law_table", "_law_others", "_law_lines", "_law_second", "_law_are_like", "_law_odd"] ["_law_pot_here"] (defScope s_law_right) := ⟨rfl, rfl, rfl, by decide +kernel, rfl, by decide +kernel, by decide +kernel⟩
theorem ok_right {f fD fW fR fN fI fE : Addr} {fd fdD fdW fdR fdN fdI fdE : FuncData} (F : Fun K "_law_right" "_law_right" s_law_right f fd) (T : Txt K mg C t1 t2 t3 t4) (M : Mk K C fI)
    (c_law_draw : ∀ base, Ca P w K mg base CX0 "_law_draw" 1 ["_law_pot_here", "_law_many"] spDraw fD fdD) (c_law_words : ∀ base, Ca P w K mg base CX0 "_law_words" 2 ["_law_pot_here", "_law_many"] spWords fW fdW)
    (c_law_rows : ∀ base, Ca P w K mg base CX0 "_law_rows" 4 ["_law_pot_here", "_law_wide", "_law_many"] spRows fR fdR) (c_law_near : ∀ base, Ca P w K mg base CX0 "_law_near" 4 ["_law_pot_here", "_law_heads", "_law_rows_here"] spNear fN fdN)
    (G : ∀ base, FnOk P w K mg base CX0 5 fI fdI ["self", "columns", "rows"] (spInit K C)) (hb : Binds K fdI ["self", "columns", "rows"] []) (c_eq : ∀ base, CaE P w K mg base C fE fdE) : FnG P w K mg base CX0 7 f fd ["_law_pot_here"] spRight := by
  have c_law_draw := c_law_draw base
  have c_law_words := c_law_words base
  have c_law_rows := c_law_rows base
  have c_law_near := c_law_near base
  have G := G base
  have c_eq := c_eq base
  refine okG F sc_law_right (fun vs H Q E h => ?_) (fun cdv A outer s H vs Q E hg hr h => ⟨_, (pss_cons (ps_set (i := 1) sc_law_right.nd rfl (Or.inl rfl) (pe_call c_law_words.G (hr.mono (by first | decide | omega)) (by rfl) c_law_words.g c_law_words.k c_law_words.B .nil pass0 (pa_cons (pv 0) (pa_cons (pe_op op_add pe_int (pe_call c_law_draw.G (hr.mono (by first | decide | omega)) (by rfl) c_law_draw.g c_law_draw.k c_law_draw.B .nil pass0 (pa_cons (pv 0) (pa_cons pe_int pa_nil)))) pa_nil))))
    (pss_cons (ps_set (i := 2) sc_law_right.nd rfl (Or.inl rfl) (pe_call c_law_rows.G (hr.mono (by first | decide | omega)) (by rfl) c_law_rows.g c_law_rows.k c_law_rows.B .nil pass0 (pa_cons (pv 0) (pa_cons (pe_callB (call_lenK K rfl) (by rfl) T.b_len (by decide +kernel) (pa_cons (pv 1) pa_nil)) (pa_cons (pe_call c_law_draw.G (hr.mono (by first | decide | omega)) (by rfl) c_law_draw.g c_law_draw.k c_law_draw.B .nil pass0 (pa_cons (pv 0) (pa_cons pe_int pa_nil))) pa_nil)))))
    (pss_cons (ps_asg (pe_tup (pa_cons (pe_make M G (hr.mono (by decide)) (by rfl) T.g_Table hb .nil pass0 (pa_cons (pv 1) (pa_cons (pv 2) pa_nil))) (pa_cons (pe_call c_law_near.G (hr.mono (by first | decide | omega)) (by rfl) c_law_near.g c_law_near.k c_law_near.B .nil pass0 (pa_cons (pv 0) (pa_cons (pv 1) (pa_cons (pv 2) pa_nil)))) pa_nil))) (pg_tupK K rfl rfl (pgs_cons (pg_name (i := 3) sc_law_right.nd rfl (Or.inr rfl)) (pgs_cons (pg_tupK K rfl rfl (pgs_cons (pg_name (i := 4) sc_law_right.nd rfl (Or.inl rfl)) (pgs_cons (pg_name (i := 5) sc_law_right.nd rfl (Or.inl rfl)) pgs_nil))) pgs_nil))))
    (pss_cons (ps_set (i := 6) sc_law_right.nd rfl (Or.inl rfl) (pe_make M G (hr.mono (by decide)) (by rfl) T.g_Table hb .nil pass0 (pa_cons (pv 4) (pa_cons (pv 5) pa_nil))))
    (pss_cons (ps_set (i := 7) sc_law_right.nd rfl (Or.inl rfl) (pe_cmpR op_eq (pe_callB (call_reprPK K rfl hg hr.units) (by rfl) T.b_repr (by decide +kernel) (pa_cons (pe_tup (pa_cons (pv 1) (pa_cons (pv 2) pa_nil))) pa_nil)) (pe_callB (call_reprPK K rfl hg hr.units) (by rfl) T.b_repr (by decide +kernel) (pa_cons (pe_tup (pa_cons (pv 4) (pa_cons (pv 5) pa_nil))) pa_nil)) (nomark _)))
    (pss_cons (ps_if (PW.pt (pw_or (pt_cmpR op_ne (pe_cmpR (op_ownEqK K mg base P w rfl rfl rfl rfl rfl c_eq.G (hr.mono (by decide)) c_eq.B c_eq.e c_eq.i) (pv 3) (pv 6) (nomark _)) (pv 7) (nomark _)) (pw_or (pt_cmpR op_eq (pe_cmpR (op_ownNeK K mg base P w rfl rfl rfl rfl rfl c_eq.G (hr.mono (by decide)) c_eq.B c_eq.e c_eq.i T.ne T.cm) (pv 3) (pv 6) (nomark _)) (pv 7) (nomark _)) (pw_or1 (pt_cmpR op_ne (pe_cmpR (op_ownEqK K mg base P w rfl rfl rfl rfl rfl c_eq.G (hr.mono (by decide)) c_eq.B c_eq.e c_eq.i) (pv 6) (pv 3) (nomark _)) (pv 7) (nomark _)))))) (pss_one (ps_ret pe_bl)) pss_nil)
    (pss_cons (ps_if (pt_val (pe_callB (cr_anyK K rfl rfl) (by rfl) T.b_any (by decide +kernel) (pa_cons (pe_lc (own := [("_law_odd", 8)]) (g := gName 8) (tt := tYes) rfl sc_law_right.nd (pi_listK K rfl (pe_lst (pa_cons pe_non (pa_cons pe_int (pa_cons (pe_tup (pa_cons (pv 1) (pa_cons (pv 2) pa_nil))) (pa_cons (pv 1) (pa_cons (pv 2) (pa_cons (pe_lst pa_nil) (pa_cons pe_str pa_nil))))))))) (blkOk_by (N := ["_law_pot_here", "_law_heads", "_law_rows_here", "_law_table", "_law_others", "_law_lines", "_law_second", "_law_are_like", "_law_odd"]) (sc := defScope s_law_right) (by decide +kernel)) (fun _ _ _ _ _ => (pg_name (i := 8) sc_law_right.nd rfl (Or.inl rfl))) (fun _ _ _ _ _ => pts_nil) (fun _ _ _ _ _ => (pe_cmpR (op_ownEqK K mg base P w rfl rfl rfl rfl rfl c_eq.G (hr.mono (by decide)) c_eq.B c_eq.e c_eq.i) (pv 3) (pv 8) (nomark _)))) pa_nil))) (pss_one (ps_ret pe_bl)) pss_nil)
    (pss_one (ps_ret (pe_and (pe_cmpR op_eq (pe_callB (call_reprPK K rfl hg hr.units) (by rfl) T.b_repr (by decide +kernel) (pa_cons (pe_tup (pa_cons (pe_fldK K rfl (pv 3) rfl) (pa_cons (pe_fldK K rfl (pv 3) rfl) pa_nil))) pa_nil)) (pe_callB (call_reprPK K rfl hg hr.units) (by rfl) T.b_repr (by decide +kernel) (pa_cons (pe_tup (pa_cons (pv 1) (pa_cons (pv 2) pa_nil))) pa_nil)) (nomark _)) (pe_one (pe_cmpR (op_ownEqK K mg base P w rfl rfl rfl rfl rfl c_eq.G (hr.mono (by decide)) c_eq.B c_eq.e c_eq.i) (pv 3) (pv 3) (nomark _))))))))))))), ?_⟩)
  · obtain ⟨_, _, rfl, _⟩ := h
    rfl
  obtain ⟨p, n, rfl, hn, pot, k⟩ := h
  refine ⟨_, rfl, _, rfl, p, 3, n, rfl, ⟨by decide, by decide⟩, by omega, pot, fun d H1 d0 d3 pot1 but1 => ?_⟩
  obtain ⟨m', rfl⟩ := Int.eq_ofNat_of_zero_le d0
  refine ⟨_, _, rfl, rfl, p, 1 + m', n + 1, by simp, by omega, by omega, pot1, fun ah H2 hs lh nd sub hh pot2 but2 => ?_⟩
  have lm : (hs.map V.str).length = 1 + m' := by rw [List.length_map]; exact lh
  refine ⟨_, rfl, _, rfl, _, _, rfl, .inr ⟨_, SqT.of hh, rfl⟩, _, rfl, p, 7, _, rfl, ⟨by decide, by decide⟩, by omega, pot2, fun r H3 r0 r7 pot3 but3 => ?_⟩
  obtain ⟨r', rfl⟩ := Int.eq_ofNat_of_zero_le r0
  have hh3 := tupBut hh pot2 but3
  refine ⟨p, (hs.map V.str).length, r', _, rfl, by omega, by omega, by omega, pot3, fun ar H4 xs rs lr hx rows pot4 but4 => ?_⟩
  have hm : 1 ≤ 1 + m' ∧ 1 + m' ≤ 3 := by omega
  have tab4 : Tab H4 (1 + m') ah ar hs rs := ⟨tupBut hh3 pot3 but4, lh, nd, sub, xs, hx, by rw [← lm]; exact rows⟩
  have but04 := ((but1.trans but2).trans but3).trans but4
  refine ⟨_, rfl, _, rfl, fun x1 dx1 nx1 ndx1 ne1 => make_of tab4 hm (by omega) nx1 ndx1 ne1 fun H5 s5 hx1 => ?_⟩
  have tab5 := tab4.same s5
  have pot5 := pot4.same s5
  refine ⟨_, rfl, _, rfl, _, rfl, p, ah, ar, hs, rs, _, _, rfl, tab5, hm, by omega, by omega, pot5, fun tn ah' ar' H6 hs' rs' htn tab6' lr' pot6 but6 => ⟨by show 2 ≤ sizeLine; decide, fun t nt => ?_⟩⟩
  have npx : x1 ≠ p := by obtain ⟨_, _, _, z, _⟩ := pot5; exact ne_of hx1 z (by intro q; cases q)
  have s7 := Same.one (o := .tup [.ref x1, .ref tn]) nt
  have hx1 := s7 _ _ (but6 _ _ npx hx1)
  have htn7 := s7 _ _ htn
  have tab7 := (tab5.but pot5 but6).same s7
  have tab7' := tab6'.same s7
  have pot7 := pot6.same s7
  have but7 : But p H (upd H6 t (.tup [.ref x1, .ref tn])) := ((but04.same s5).trans but6).same s7
  have ht7 : (upd H6 t (.tup [.ref x1, .ref tn])) t = some (.tup [.ref x1, .ref tn]) := upd_same
  generalize upd H6 t (.tup [.ref x1, .ref tn]) = H7 at hx1 htn7 tab7 tab7' pot7 but7 ht7 ⊢
  refine ⟨t, _, rfl, SqT.of ht7, rfl, _, _, rfl, _, _, rfl, tn, _, rfl, SqT.of htn7, rfl, _, _, rfl, _, _, rfl, rfl, rfl, ?_⟩
  refine ⟨_, rfl, _, rfl, fun x2 dx2 nx2 ndx2 ne2 => make_of tab7' hm (by omega) nx2 ndx2 ne2 fun H8 s8 hx2 => ?_⟩
  have hx1 := s8 _ _ hx1
  have tab8 := tab7.same s8
  have tab8' := tab7'.same s8
  refine ⟨_, rfl, _, rfl, by show 2 ≤ sizeLine; decide, fun a1 na1 => ⟨.ref a1, .tuple [dH hs, dT rs], rfl, (tab8.same (Same.one na1)).dpB upd_same, PyData.hasDict_of_canLay _ tab8.shB.1, tab8.fine hm.2 (by omega), ?_⟩⟩
  have s9 := Same.one (o := .tup [.ref ah, .ref ar]) na1
  refine ⟨_, rfl, _, rfl, by show 2 ≤ sizeLine; decide, fun a2 na2 => ⟨.ref a2, .tuple [dH hs', dT rs'], rfl, ((tab8'.same s9).same (Same.one na2)).dpB upd_same, PyData.hasDict_of_canLay _ tab8'.shB.1, tab8'.fine hm.2 (by omega), rfl, ?_⟩⟩
  have s10 := s9.trans (Same.one (o := .tup [.ref ah', .ref ar']) na2)
  have lh' : hs.length = hs'.length := by rw [tab8.l, tab8'.l]
  rw [shown_both (fr_heads lh' tab8.sub tab8'.sub) (fr_rows lr'.symm tab8.mem tab8'.mem) (eq_heads lh') (eq_rows lr'.symm tab8.mem tab8'.mem)]
  have sw1 := eqv_swap (eq_heads lh') (eq_heads lh'.symm)
  have sw2 := eqv_swap (eq_rows lr'.symm tab8.mem tab8'.mem) (eq_rows lr' tab8'.mem tab8.mem)
  have r1 : PyData.eqv (dH hs) (dH hs) = true := (eq_heads rfl : PyData.eqv _ _ = true ↔ _).mpr rfl
  have r2 : PyData.eqv (dT rs) (dT rs) = true := (eq_rows rfl tab8.mem tab8.mem : PyData.eqv _ _ = true ↔ _).mpr rfl
  have hx1 := s10 _ _ hx1
  have hx2 := s10 _ _ hx2
  have tab9 := tab8.same s10
  have tab9' := tab8'.same s10
  have pot9 := (pot7.same s8).same s10
  have but9 := (but7.same s8).same s10
  generalize upd (upd H8 a1 (.tup [.ref ah, .ref ar])) a2 (.tup [.ref ah', .ref ar']) = H9 at hx1 hx2 tab9 tab9' pot9 but9 ⊢
  generalize he : (PyData.eqv (dH hs) (dH hs') && PyData.eqv (dT rs) (dT rs')) = e
  have he' : (PyData.eqv (dH hs') (dH hs) && PyData.eqv (dT rs') (dT rs)) = e := by rw [sw1, sw2]; exact he
  have nf : PySem.W.notFirst K C (.ref C) = true := by simp [PySem.W.notFirst]
  have cH := tab9.shH.shaped (by decide)
  have cR := tab9.shR.shaped (by decide)
  have cH' := tab9'.shH.shaped (by decide)
  have cR' := tab9'.shR.shaped (by decide)
  refine ⟨_, rfl, _, rfl, x1, dx1, _, .ref C, rfl, hx1, .base (.ins hx2 T.cl T.ca T.cn T.ct T.cm), nf, x1, dx1, _, _, .ref x2, dH hs, dT rs, rfl, hx1, tab9.dpH, tab9.dpR, cH, cR, .inl ⟨x2, dx2, _, _, dH hs', dT rs', rfl, hx2, tab9'.dpH, tab9'.dpR, cH', cR', ?_⟩⟩
  rw [he]
  refine ⟨_, rfl, by cases e <;> rfl, _, rfl, iteNS rfl ?_⟩
  refine ⟨_, rfl, _, rfl, x1, dx1, _, .ref C, rfl, hx1, .base (.ins hx2 T.cl T.ca T.cn T.ct T.cm), nf, x1, dx1, _, _, .ref x2, dH hs, dT rs, rfl, hx1, tab9.dpH, tab9.dpR, cH, cR, .inl ⟨x2, dx2, _, _, dH hs', dT rs', rfl, hx2, tab9'.dpH, tab9'.dpR, cH', cR', _, rfl, ?_⟩⟩
  rw [he]
  refine ⟨_, rfl, by cases e <;> rfl, _, rfl, ite2 (fun h => absurd h (by cases e <;> decide)) (fun _ => ?_)⟩
  refine ⟨_, rfl, _, rfl, x2, dx2, _, .ref C, rfl, hx2, .base (.ins hx1 T.cl T.ca T.cn T.ct T.cm), nf, x2, dx2, _, _, .ref x1, dH hs', dT rs', rfl, hx2, tab9'.dpH, tab9'.dpR, cH', cR', .inl ⟨x1, dx1, _, _, dH hs, dT rs, rfl, hx1, tab9.dpH, tab9.dpR, cH, cR, ?_⟩⟩
  rw [he']
  refine ⟨_, rfl, by cases e <;> rfl, _, rfl, iteNS rfl ?_⟩
  -- other values
  refine ⟨_, rfl, _, rfl, by show 2 ≤ sizeLine; decide, fun b1 nb1 => ⟨_, rfl, _, rfl, by show 0 ≤ sizeLine; decide, fun e1 ne1 => ⟨by show 7 ≤ sizeLine; decide, fun lo nlo => ?_⟩⟩⟩
  have s11 := Same.upd (o := .lst [.non, .int 0, .ref b1, .ref ah, .ref ar, .ref e1, .str "a"]) (Same.upd (o := .lst []) (Same.one (o := .tup [.ref ah, .ref ar]) nb1) ne1) nlo
  have hb1 := Same.one (o := .lst [.non, .int 0, .ref b1, .ref ah, .ref ar, .ref e1, .str "a"]) nlo _ _ (Same.one (o := .lst []) ne1 _ _ (upd_same (H := H9) (a := b1) (o := .tup [.ref ah, .ref ar])))
  have he1 := Same.one (o := .lst [.non, .int 0, .ref b1, .ref ah, .ref ar, .ref e1, .str "a"]) nlo _ _ (upd_same (H := upd H9 b1 (.tup [.ref ah, .ref ar])) (a := e1) (o := .lst []))
  have hlo : (upd (upd (upd H9 b1 (.tup [.ref ah, .ref ar])) e1 (.lst [])) lo (.lst [.non, .int 0, .ref b1, .ref ah, .ref ar, .ref e1, .str "a"])) lo = some (.lst [.non, .int 0, .ref b1, .ref ah, .ref ar, .ref e1, .str "a"]) := upd_same
  have hx1 := s11 _ _ hx1
  have tab10 := tab9.same s11
  have pot10 := pot9.same s11
  have but10 := but9.same s11
  generalize upd (upd (upd H9 b1 (.tup [.ref ah, .ref ar])) e1 (.lst [])) lo (.lst [.non, .int 0, .ref b1, .ref ah, .ref ar, .ref e1, .str "a"]) = H10 at hb1 he1 hlo hx1 tab10 pot10 but10 ⊢
  refine ⟨lo, rfl, ⟨_, SqL.of hlo⟩, fun R nR => lc_list (K := K) (a := lo) (xs := [.non, .int 0, .ref b1, .ref ah, .ref ar, .ref e1, .str "a"]) (fun i H' => H' = upd H10 R (.lst ((List.replicate i false).map V.bl))) rfl (fun i H' _ z => by rw [z]; exact SqL.of (Same.one nR _ _ hlo)) ?_ ?_⟩
  · rintro i v H' hi rfl
    have i7 : i < 7 := (List.getElem?_eq_some_iff.mp hi).1
    have sR : Same H10 (upd H10 R (.lst ((List.replicate i false).map V.bl))) := Same.one nR
    have tabR := tab10.same sR
    obtain ⟨xs', hxs', _⟩ := tabR.r
    obtain ⟨T', ty, mem⟩ : ∃ T' : String, TyX K (upd H10 R (.lst ((List.replicate i false).map V.bl))) v (.type T') ∧ T' ∈ ["NoneType", "tuple", "int", "list", "str"] := by
      have hv := List.mem_of_getElem? hi
      simp only [List.mem_cons, List.not_mem_nil, or_false] at hv
      rcases hv with rfl | rfl | rfl | rfl | rfl | rfl | rfl
      · exact ⟨_, .base .non, by simp⟩
      · exact ⟨_, .base (.int 0), by simp⟩
      · exact ⟨_, .base (.tup (sR _ _ hb1)), by simp⟩
      · exact ⟨_, .base (.tup tabR.h), by simp⟩
      · exact ⟨_, .base (.tup hxs'), by simp⟩
      · exact ⟨_, .base (.lst (sR _ _ he1)), by simp⟩
      · exact ⟨_, .base (.str _), by simp⟩
    obtain ⟨kt, nt⟩ := T.kT T' mem
    refine ⟨rfl, _, rfl, _, rfl, x1, dx1, _, .type T', rfl, sR _ _ hx1, ty, nt, x1, dx1, _, _, v, dH hs, dT rs, rfl, sR _ _ hx1, tabR.dpH, tabR.dpR, cH, cR, .inr ⟨T', ty, kt, _, upd_same, ?_, ?_⟩⟩
    · rw [List.length_map, List.length_replicate]
      exact Nat.lt_trans i7 (by decide)
    · show upd (upd H10 R _) R _ = upd H10 R _
      rw [upd_upd, List.replicate_succ', List.map_append]
      rfl
  rintro H11 hH
  have sR : Same H10 H11 := by rw [hH]; exact Same.one nR
  have hR : H11 R = some (.lst ((List.replicate 7 false).map V.bl)) := by rw [hH]; exact upd_same
  have hx1 := sR _ _ hx1
  have tab11 := tab10.same sR
  have pot11 := pot10.same sR
  have but11 := but10.same sR
  refine ⟨R, List.replicate 7 false, rfl, SqL.of hR, _, rfl, ?_⟩
  -- what is told
  refine ⟨_, rfl, x1, C, dx1, _, _, rfl, hx1, T.cl, T.n_columns, l_columns .., _, rfl, x1, C, dx1, _, _, rfl, hx1, T.cl, T.n_rows, l_rows .., by show 2 ≤ sizeLine; decide, fun c1 nc1 => ?_⟩
  have sA := Same.one (o := .tup [.ref ah, .ref ar]) nc1
  refine ⟨.ref c1, .tuple [dH hs, dT rs], rfl, (tab11.same sA).dpB upd_same, PyData.hasDict_of_canLay _ tab11.shB.1, tab11.fine hm.2 (by omega), _, rfl, _, rfl, by show 2 ≤ sizeLine; decide, fun c2 nc2 => ?_⟩
  have sB := sA.trans (Same.one (o := .tup [.ref ah, .ref ar]) nc2)
  have tab12 := tab11.same sB
  have hx1 := sB _ _ hx1
  refine ⟨.ref c2, .tuple [dH hs, dT rs], rfl, tab12.dpB upd_same, PyData.hasDict_of_canLay _ tab11.shB.1, tab11.fine hm.2 (by omega), rfl, _, rfl, ite2 (fun _ => ?_) (fun h => absurd (decide_eq_true rfl) h)⟩
  refine ⟨_, rfl, _, rfl, x1, dx1, _, .ref C, rfl, hx1, .base (.ins hx1 T.cl T.ca T.cn T.ct T.cm), nf, x1, dx1, _, _, .ref x1, dH hs, dT rs, rfl, hx1, tab12.dpH, tab12.dpR, cH, cR, .inl ⟨x1, dx1, _, _, dH hs, dT rs, rfl, hx1, tab12.dpH, tab12.dpR, cH, cR, ?_⟩⟩
  rw [r1, r2]
  exact k _ ((pot11.same sB).more (by omega)) (but11.same sB)
def spLaw (K : PySem.W.Frag) : Sp := fun vs H Q _ => ∃ (a : Addr) (ns : List Int), vs = [.ref a] ∧ SqL K H a (ns.map V.int) ∧ ns.length ≤ 63 ∧ ∀ H', Q (.bl true) H'
abbrev s_law : Stmt := top 28
theorem sc_law : FnScope ["_law_script", "_law_k", "_law_pot_here", "_law_turn"] ["_law_script"] (defScope s_law) := ⟨rfl, rfl, rfl, by decide +kernel, rfl, by decide +kernel, by decide +kernel⟩
theorem ok_law {f fP fR : Addr} {fd fdP fdR : FuncData} (F : Fun K "law" "law" s_law f fd) (T : Txt K mg C t1 t2 t3 t4)
    (c_law_pot : ∀ base, Ca P w K mg base CX0 "_law_pot" 1 ["_law_script", "_law_k"] (spPot K) fP fdP) (c_law_right : ∀ base, CaG P w K mg base "_law_right" 7 ["_law_pot_here"] spRight fR fdR) : FnG P w K mg base CX0 8 f fd ["_law_script"] (spLaw K) := by
  have c_law_pot := c_law_pot base
  have c_law_right := c_law_right base
  refine okG F sc_law (fun vs H Q E h => ?_) (fun cdv A outer s H vs Q E hg hr h => ⟨_, (pss_cons (ps_for PassesOwn.never rfl (pi_range1 (by rfl) T.b_range (pa_cons (pe_callB (call_max2 rfl) (by rfl) T.b_max (by decide +kernel) (pa_cons pe_int (pa_cons (pe_callB (call_min2 rfl) (by rfl) T.b_min (by decide +kernel) (pa_cons pe_int (pa_cons (pe_callB (call_lenK K rfl) (by rfl) T.b_len (by decide +kernel) (pa_cons (pv 0) pa_nil)) pa_nil))) pa_nil))) pa_nil)) (pg_name (i := 1) sc_law.nd rfl (Or.inl rfl)) (pss_cons (ps_set (i := 2) sc_law.nd rfl (Or.inr rfl) (pe_call c_law_pot.G (hr.mono (by first | decide | omega)) (by rfl) c_law_pot.g c_law_pot.k c_law_pot.B .nil pass0 (pa_cons (pv 0) (pa_cons (pv 1) pa_nil))))
    (pss_one (ps_if (pt_not (pt_val (pe_callB (cr_allK K rfl rfl) (by rfl) T.b_all (by decide +kernel) (pa_cons (pe_lc (own := [("_law_turn", 3)]) (g := gName 3) (tt := tYes) rfl sc_law.nd (pi_range1 (by rfl) T.b_range (pa_cons pe_int pa_nil)) (blkOk_by (N := ["_law_script", "_law_k", "_law_pot_here", "_law_turn"]) (sc := defScope s_law) (by decide +kernel)) (fun _ _ _ _ _ => (pg_name (i := 3) sc_law.nd rfl (Or.inl rfl))) (fun _ _ _ _ _ => pts_nil) (fun _ _ _ _ _ => (pe_callG c_law_right.G hg (hr.mono (by decide)) (by rfl) c_law_right.g c_law_right.k c_law_right.B (pa_cons (pv 2) pa_nil)))) pa_nil)))) (pss_one (ps_ret pe_bl)) pss_nil))))
    (pss_one (ps_ret pe_bl))), ?_⟩)
  · obtain ⟨_, _, rfl, _⟩ := h
    rfl
  obtain ⟨a, ns, rfl, hS, few, k⟩ := h
  have nb : 0 ≤ (if (if ((ns.map V.int).length : Int) < 3 then ((ns.map V.int).length : Int) else 3) > 1 then (if ((ns.map V.int).length : Int) < 3 then ((ns.map V.int).length : Int) else 3) else 1) ∧
      (if (if ((ns.map V.int).length : Int) < 3 then ((ns.map V.int).length : Int) else 3) > 1 then (if ((ns.map V.int).length : Int) < 3 then ((ns.map V.int).length : Int) else 3) else 1) ≤ 3 := by
    split <;> split <;> omega
  refine ⟨_, rfl, _, _, rfl, .inl ⟨_, hS, rfl⟩, _, _, rfl, _, _, rfl, _, rfl, Int.le_trans (by decide) nb.1, Int.lt_of_le_of_lt nb.2 (by decide), ?_⟩
  revert nb
  generalize (if (if ((ns.map V.int).length : Int) < 3 then ((ns.map V.int).length : Int) else 3) > 1 then (if ((ns.map V.int).length : Int) < 3 then ((ns.map V.int).length : Int) else 3) else 1) = N
  intro nb
  refine for_range (lo := 0) (n := N.toNat) (fun i σ H' => ∃ o1 o2 o3 : Option V, σ = [some (.ref a), o1, o2, o3] ∧ Same H H') ⟨none, none, none, rfl, Same.refl H⟩ ?_ ?_
  · rintro i σ H1 hi ⟨o1, o2, o3, rfl, s1⟩
    refine ⟨_, rfl, _, rfl, a, ns, 0 + (i : Int), rfl, s1.seq hS, few, ⟨by omega, by omega⟩, fun p H2 np s2 pot => ?_⟩
    refine ⟨6, rfl, by decide, by decide, fun D nD => lc_range (lo := 0) (n := 6) (fun j H' => H' D = some (.lst ((List.replicate j true).map V.bl)) ∧ Pot H' p (100 * j) ∧ But p H2 H') ?_ ?_ ?_⟩
    · exact ⟨upd_same, pot.new nD, But.of (Same.one nD)⟩
    · rintro j H' hj ⟨hD, pot', but'⟩
      have dp : D ≠ p := (pot.ne nD).symm
      refine ⟨rfl, _, rfl, p, 100 * j, rfl, by omega, pot', fun H3 pot3 but3 => ⟨_, but3 D _ dp hD, ?_, ?_, (pot3.more (by omega)).upd dp.symm, ((but'.trans but3).updN nD)⟩⟩
      · rw [List.length_map, List.length_replicate]
        exact Nat.lt_trans hj (by decide)
      · rw [upd_same, List.replicate_succ', List.map_append]
        rfl
    rintro H3 ⟨hD, pot3, but3⟩
    refine ⟨D, List.replicate 6 true, rfl, SqL.of hD, _, rfl, ?_⟩
    have np0 : H p = none := s1.free np
    exact ⟨_, _, _, rfl, fun b o e => but3 b o (ne_of_none e np0) (s2 b o (s1 b o e))⟩
  · rintro σ H1 ⟨o1, o2, o3, rfl, s1⟩
    exact k _
end
end K02

set_option Elab.async false
set_option linter.all false
set_option maxRecDepth 100000
set_option maxHeartbeats 8000000
namespace K02
open PySem L2 Xby
theorem all_mk {l : PySem.W.OpenLaw} {w : World} {K : PySem.W.Frag} {h : Heap} {mg : Str → Option Value} {fa : Addr} {C : Addr} {t1 t2 t3 t4 : Tok}
    {fQ0 : Addr} {ocQ0 dcQ0 pmQ0 cdQ0 ctQ0 : Value} {odQ0 anQ0 : Option Addr} {slQ0 : Array (Option Value)} {kVQ0 : Value}
    {fB : Addr} {ocB dcB pmB cdB ctB : Value} {odB anB : Option Addr} {slB : Array (Option Value)} {kVB : Value}
    {fW : Addr} {ocW dcW pmW cdW ctW : Value} {odW anW : Option Addr} {slW : Array (Option Value)} {kVW : Value}
    {fZ : Addr} {ocZ dcZ pmZ cdZ ctZ : Value} {odZ anZ : Option Addr} {slZ : Array (Option Value)} {kVZ : Value}
    {fJ : Addr} {ocJ dcJ pmJ cdJ ctJ : Value} {odJ anJ : Option Addr} {slJ : Array (Option Value)} {kVJ : Value}
    {fO : Addr} {ocO dcO pmO cdO ctO : Value} {odO anO : Option Addr} {slO : Array (Option Value)} {kVO : Value}
    {fD : Addr} {ocD dcD pmD cdD ctD : Value} {odD anD : Option Addr} {slD : Array (Option Value)} {kVD : Value}
    {fA : Addr} {ocA dcA pmA cdA ctA : Value} {odA anA : Option Addr} {slA : Array (Option Value)} {kVA : Value}
    {fP : Addr} {ocP dcP pmP cdP ctP : Value} {odP anP : Option Addr} {slP : Array (Option Value)} {kVP : Value}
    {fX : Addr} {ocX dcX pmX cdX ctX : Value} {odX anX : Option Addr} {slX : Array (Option Value)} {kVX : Value}
    {fY : Addr} {ocY dcY pmY cdY ctY : Value} {odY anY : Option Addr} {slY : Array (Option Value)} {kVY : Value}
    {fS : Addr} {ocS dcS pmS cdS ctS : Value} {odS anS : Option Addr} {slS : Array (Option Value)} {kVS : Value}
    {fN : Addr} {ocN dcN pmN cdN ctN : Value} {odN anN : Option Addr} {slN : Array (Option Value)} {kVN : Value}
    {fR : Addr} {ocR dcR pmR cdR ctR : Value} {odR anR : Option Addr} {slR : Array (Option Value)} {kVR : Value}
    {fL : Addr} {ocL dcL pmL cdL ctL : Value} {odL anL : Option Addr} {slL : Array (Option Value)} {kVL : Value}
    {fI : Addr} {ocI dcI pmI cdI ctI : Value} {odI anI : Option Addr} {slI : Array (Option Value)} {kVI : Value}
    {fE : Addr} {ocE dcE pmE cdE ctE : Value} {odE anE : Option Addr} {slE : Array (Option Value)} {kVE : Value}
    (X : K.In h) (G : h.Ns mainGlobals mg) (hfa : mg "law" = some (.ref fa))
    (aC : PySem.W.nsIn K mainGlobals "Table" = some (some (.ref C)))
    (aQ0 : PySem.W.nsIn K mainGlobals "is_integer" = some (some (.ref fQ0)))
    (lQ0 : K.lookup fQ0 = some ⟨ocQ0, odQ0, .func (PySem.W.fnOf "is_integer" "is_integer" (defArgs s_is_integer) (defBody s_is_integer) (defScope s_is_integer) .none kVQ0 dcQ0 pmQ0 anQ0 cdQ0 ctQ0), slQ0⟩)
    (cQ0 : PySem.W.codeIn K cdQ0 "is_integer" = true)
    (kQ0 : PySem.W.keepIn K (.ref fQ0) = true)
    (aB : PySem.W.nsIn K mainGlobals "is_integer_within" = some (some (.ref fB)))
    (lB : K.lookup fB = some ⟨ocB, odB, .func (PySem.W.fnOf "is_integer_within" "is_integer_within" (defArgs s_is_integer_within) (defBody s_is_integer_within) (defScope s_is_integer_within) .none kVB dcB pmB anB cdB ctB), slB⟩)
    (cB : PySem.W.codeIn K cdB "is_integer_within" = true)
    (kB : PySem.W.keepIn K (.ref fB) = true)
    (aW : PySem.W.nsIn K mainGlobals "is_word" = some (some (.ref fW)))
    (lW : K.lookup fW = some ⟨ocW, odW, .func (PySem.W.fnOf "is_word" "is_word" (defArgs s_is_word) (defBody s_is_word) (defScope s_is_word) .none kVW dcW pmW anW cdW ctW), slW⟩)
    (cW : PySem.W.codeIn K cdW "is_word" = true)
    (kW : PySem.W.keepIn K (.ref fW) = true)
    (aZ : PySem.W.nsIn K mainGlobals "is_cell" = some (some (.ref fZ)))
    (lZ : K.lookup fZ = some ⟨ocZ, odZ, .func (PySem.W.fnOf "is_cell" "is_cell" (defArgs s_is_cell) (defBody s_is_cell) (defScope s_is_cell) .none kVZ dcZ pmZ anZ cdZ ctZ), slZ⟩)
    (cZ : PySem.W.codeIn K cdZ "is_cell" = true)
    (kZ : PySem.W.keepIn K (.ref fZ) = true)
    (aJ : PySem.W.nsIn K mainGlobals "are_columns" = some (some (.ref fJ)))
    (lJ : K.lookup fJ = some ⟨ocJ, odJ, .func (PySem.W.fnOf "are_columns" "are_columns" (defArgs s_are_columns) (defBody s_are_columns) (defScope s_are_columns) .none kVJ dcJ pmJ anJ cdJ ctJ), slJ⟩)
    (cJ : PySem.W.codeIn K cdJ "are_columns" = true)
    (kJ : PySem.W.keepIn K (.ref fJ) = true)
    (aO : PySem.W.nsIn K mainGlobals "is_row" = some (some (.ref fO)))
    (lO : K.lookup fO = some ⟨ocO, odO, .func (PySem.W.fnOf "is_row" "is_row" (defArgs s_is_row) (defBody s_is_row) (defScope s_is_row) .none kVO dcO pmO anO cdO ctO), slO⟩)
    (cO : PySem.W.codeIn K cdO "is_row" = true)
    (kO : PySem.W.keepIn K (.ref fO) = true)
    (aD : PySem.W.nsIn K mainGlobals "_law_draw" = some (some (.ref fD)))
    (lD : K.lookup fD = some ⟨ocD, odD, .func (PySem.W.fnOf "_law_draw" "_law_draw" (defArgs s_law_draw) (defBody s_law_draw) (defScope s_law_draw) .none kVD dcD pmD anD cdD ctD), slD⟩)
    (cD : PySem.W.codeIn K cdD "_law_draw" = true)
    (kD : PySem.W.keepIn K (.ref fD) = true)
    (aA : PySem.W.nsIn K mainGlobals "_law_any" = some (some (.ref fA)))
    (lA : K.lookup fA = some ⟨ocA, odA, .func (PySem.W.fnOf "_law_any" "_law_any" (defArgs s_law_any) (defBody s_law_any) (defScope s_law_any) .none kVA dcA pmA anA cdA ctA), slA⟩)
    (cA : PySem.W.codeIn K cdA "_law_any" = true)
    (kA : PySem.W.keepIn K (.ref fA) = true)
    (aP : PySem.W.nsIn K mainGlobals "_law_pot" = some (some (.ref fP)))
    (lP : K.lookup fP = some ⟨ocP, odP, .func (PySem.W.fnOf "_law_pot" "_law_pot" (defArgs s_law_pot) (defBody s_law_pot) (defScope s_law_pot) .none kVP dcP pmP anP cdP ctP), slP⟩)
    (cP : PySem.W.codeIn K cdP "_law_pot" = true)
    (kP : PySem.W.keepIn K (.ref fP) = true)
    (aX : PySem.W.nsIn K mainGlobals "_law_words" = some (some (.ref fX)))
    (lX : K.lookup fX = some ⟨ocX, odX, .func (PySem.W.fnOf "_law_words" "_law_words" (defArgs s_law_words) (defBody s_law_words) (defScope s_law_words) .none kVX dcX pmX anX cdX ctX), slX⟩)
    (cX : PySem.W.codeIn K cdX "_law_words" = true)
    (kX : PySem.W.keepIn K (.ref fX) = true)
    (aY : PySem.W.nsIn K mainGlobals "_law_cell" = some (some (.ref fY)))
    (lY : K.lookup fY = some ⟨ocY, odY, .func (PySem.W.fnOf "_law_cell" "_law_cell" (defArgs s_law_cell) (defBody s_law_cell) (defScope s_law_cell) .none kVY dcY pmY anY cdY ctY), slY⟩)
    (cY : PySem.W.codeIn K cdY "_law_cell" = true)
    (kY : PySem.W.keepIn K (.ref fY) = true)
    (aS : PySem.W.nsIn K mainGlobals "_law_rows" = some (some (.ref fS)))
    (lS : K.lookup fS = some ⟨ocS, odS, .func (PySem.W.fnOf "_law_rows" "_law_rows" (defArgs s_law_rows) (defBody s_law_rows) (defScope s_law_rows) .none kVS dcS pmS anS cdS ctS), slS⟩)
    (cS : PySem.W.codeIn K cdS "_law_rows" = true)
    (kS : PySem.W.keepIn K (.ref fS) = true)
    (aN : PySem.W.nsIn K mainGlobals "_law_near" = some (some (.ref fN)))
    (lN : K.lookup fN = some ⟨ocN, odN, .func (PySem.W.fnOf "_law_near" "_law_near" (defArgs s_law_near) (defBody s_law_near) (defScope s_law_near) .none kVN dcN pmN anN cdN ctN), slN⟩)
    (cN : PySem.W.codeIn K cdN "_law_near" = true)
    (kN : PySem.W.keepIn K (.ref fN) = true)
    (aR : PySem.W.nsIn K mainGlobals "_law_right" = some (some (.ref fR)))
    (lR : K.lookup fR = some ⟨ocR, odR, .func (PySem.W.fnOf "_law_right" "_law_right" (defArgs s_law_right) (defBody s_law_right) (defScope s_law_right) .none kVR dcR pmR anR cdR ctR), slR⟩)
    (cR : PySem.W.codeIn K cdR "_law_right" = true)
    (kR : PySem.W.keepIn K (.ref fR) = true)
    (aL : PySem.W.nsIn K mainGlobals "law" = some (some (.ref fL)))
    (lL : K.lookup fL = some ⟨ocL, odL, .func (PySem.W.fnOf "law" "law" (defArgs s_law) (defBody s_law) (defScope s_law) .none kVL dcL pmL anL cdL ctL), slL⟩)
    (cL : PySem.W.codeIn K cdL "law" = true)
    (kL : PySem.W.keepIn K (.ref fL) = true)
    (aI : PySem.W.findIn K (.ref C) "__init__" = some (some (.ref fI)))
    (iI : PySem.W.isFn K (.ref fI) = true)
    (lI : K.lookup fI = some ⟨ocI, odI, .func (PySem.W.fnOf "__init__" "Table.__init__" (defArgs s_Table___init__) (defBody s_Table___init__) (defScope s_Table___init__) .none kVI dcI pmI anI cdI ctI), slI⟩)
    (cI : PySem.W.codeIn K cdI "Table.__init__" = true)
    (kI : PySem.W.keepIn K (.ref fI) = true)
    (aE : PySem.W.findIn K (.ref C) "__eq__" = some (some (.ref fE)))
    (iE : PySem.W.isFn K (.ref fE) = true)
    (lE : K.lookup fE = some ⟨ocE, odE, .func (PySem.W.fnOf "__eq__" "Table.__eq__" (defArgs s_Table___eq__) (defBody s_Table___eq__) (defScope s_Table___eq__) .none kVE dcE pmE anE cdE ctE), slE⟩)
    (cE : PySem.W.codeIn K cdE "Table.__eq__" = true)
    (kE : PySem.W.keepIn K (.ref fE) = true)
    (pg : PySem.W.plainGet K C Str.empty = true)
    (hd : PySem.W.hasDictIn K C = true)
    (po : PySem.W.plainOver K C = true)
    (sa : PySem.W.findIn K (.ref C) "__setattr__" = some (some (.builtin "object.__setattr__")))
    (mk : PySem.W.makesIn K C = true)
    (kc : PySem.W.keepIn K (.ref C) = true)
    (n_columns : PySem.W.findIn K (.ref C) "columns" = some none)
    (n_rows : PySem.W.findIn K (.ref C) "rows" = some none)
    (k1 : PySem.W.nsIn K mainGlobals "LONGEST_WORD" = some (some (.int 8 t1)))
    (k2 : PySem.W.nsIn K mainGlobals "GREATEST_NUMBER" = some (some (.int 999 t2)))
    (k3 : PySem.W.nsIn K mainGlobals "MOST_COLUMNS" = some (some (.int 3 t3)))
    (k4 : PySem.W.nsIn K mainGlobals "MOST_ROWS" = some (some (.int 6 t4)))
    (z_abs : PySem.W.nsIn K mainGlobals "abs" = some none)
    (z_all : PySem.W.nsIn K mainGlobals "all" = some none)
    (z_any : PySem.W.nsIn K mainGlobals "any" = some none)
    (z_bool : PySem.W.nsIn K mainGlobals "bool" = some none)
    (z_int : PySem.W.nsIn K mainGlobals "int" = some none)
    (z_isinstance : PySem.W.nsIn K mainGlobals "isinstance" = some none)
    (z_len : PySem.W.nsIn K mainGlobals "len" = some none)
    (z_list : PySem.W.nsIn K mainGlobals "list" = some none)
    (z_max : PySem.W.nsIn K mainGlobals "max" = some none)
    (z_min : PySem.W.nsIn K mainGlobals "min" = some none)
    (z_range : PySem.W.nsIn K mainGlobals "range" = some none)
    (z_repr : PySem.W.nsIn K mainGlobals "repr" = some none)
    (z_set : PySem.W.nsIn K mainGlobals "set" = some none)
    (z_str : PySem.W.nsIn K mainGlobals "str" = some none)
    (z_tuple : PySem.W.nsIn K mainGlobals "tuple" = some none)
    (isC : PySem.W.isClsIn K C = true)
    (tyC : PySem.W.typeIn K (.ref C) = some (.type "type"))
    (sb_NoneType : PySem.W.subIn K (.type "NoneType") (.ref C) = some false)
    (sb_tuple : PySem.W.subIn K (.type "tuple") (.ref C) = some false)
    (sb_int : PySem.W.subIn K (.type "int") (.ref C) = some false)
    (sb_list : PySem.W.subIn K (.type "list") (.ref C) = some false)
    (sb_str : PySem.W.subIn K (.type "str") (.ref C) = some false)
    (ca : PySem.W.findIn K (.ref C) "__class__" = some (some (.builtin "object.__class__")))
    (cn : PySem.W.specialIn K (.builtin "object.__class__") "__get__" = some (some (.builtin "getset_descriptor.__get__")))
    (ct : PySem.W.takesIn K (.builtin "object.__class__") = some true)
    (cm : PySem.W.mroIn K C (.type "object") = some true)
    (ne : PySem.W.findIn K (.ref C) "__ne__" = some (some (.builtin "object.__ne__"))) :
    ∃ fd : FuncData, (∀ (s : Shared) (v : Value), BindsTo s fd ⟨[v], []⟩ [("_law_script", v)]) ∧ ∀ base : Heap, K.In base → base.Ns mainGlobals mg → FnG l.prog w K mg base CX0 8 fa fd ["_law_script"] (spLaw K) := by
  have e := hfa.symm.trans (PySem.W.mg_of X G aL)
  cases e
  have kT : ∀ T : String, T ∈ ["NoneType", "tuple", "int", "list", "str"] → PySem.W.kitOne K (.type T) (.ref C) = some false ∧ PySem.W.notFirst K C (.type T) = true := by
    intro T' hT
    simp only [List.mem_cons, List.not_mem_nil, or_false] at hT
    rcases hT with rfl | rfl | rfl | rfl | rfl
    · exact ⟨kit_own isC tyC sb_NoneType, nf_own sb_NoneType⟩
    · exact ⟨kit_own isC tyC sb_tuple, nf_own sb_tuple⟩
    · exact ⟨kit_own isC tyC sb_int, nf_own sb_int⟩
    · exact ⟨kit_own isC tyC sb_list, nf_own sb_list⟩
    · exact ⟨kit_own isC tyC sb_str, nf_own sb_str⟩
  have kcc : PySem.W.kitOne K (.ref C) (.ref C) = some true := by
    unfold PySem.W.kitOne
    simp
  have T : Txt K mg C t1 t2 t3 t4 :=
    { cl := ⟨pg, hd, po, sa⟩
      n_columns := n_columns
      n_rows := n_rows
      g_Table := PySem.W.mg_of X G aC
      c_LONGEST_WORD := PySem.W.mg_of X G k1
      c_GREATEST_NUMBER := PySem.W.mg_of X G k2
      c_MOST_COLUMNS := PySem.W.mg_of X G k3
      c_MOST_ROWS := PySem.W.mg_of X G k4
      b_abs := PySem.W.mg_none_of X G z_abs
      b_all := PySem.W.mg_none_of X G z_all
      b_any := PySem.W.mg_none_of X G z_any
      b_bool := PySem.W.mg_none_of X G z_bool
      b_int := PySem.W.mg_none_of X G z_int
      b_isinstance := PySem.W.mg_none_of X G z_isinstance
      b_len := PySem.W.mg_none_of X G z_len
      b_list := PySem.W.mg_none_of X G z_list
      b_max := PySem.W.mg_none_of X G z_max
      b_min := PySem.W.mg_none_of X G z_min
      b_range := PySem.W.mg_none_of X G z_range
      b_repr := PySem.W.mg_none_of X G z_repr
      b_set := PySem.W.mg_none_of X G z_set
      b_str := PySem.W.mg_none_of X G z_str
      b_tuple := PySem.W.mg_none_of X G z_tuple
      kcc := kcc
      kT := kT
      ca := ca
      cn := cn
      ct := ct
      cm := cm
      ne := ne }
  have FQ0 := fun_mk (st := s_is_integer) lQ0 cQ0 kQ0
  have FB := fun_mk (st := s_is_integer_within) lB cB kB
  have FW := fun_mk (st := s_is_word) lW cW kW
  have FZ := fun_mk (st := s_is_cell) lZ cZ kZ
  have FJ := fun_mk (st := s_are_columns) lJ cJ kJ
  have FO := fun_mk (st := s_is_row) lO cO kO
  have FD := fun_mk (st := s_law_draw) lD cD kD
  have FA := fun_mk (st := s_law_any) lA cA kA
  have FP := fun_mk (st := s_law_pot) lP cP kP
  have FX := fun_mk (st := s_law_words) lX cX kX
  have FY := fun_mk (st := s_law_cell) lY cY kY
  have FS := fun_mk (st := s_law_rows) lS cS kS
  have FN := fun_mk (st := s_law_near) lN cN kN
  have FR := fun_mk (st := s_law_right) lR cR kR
  have FL := fun_mk (st := s_law) lL cL kL
  have FI := fun_mk (st := s_Table___init__) lI cI kI
  have FE := fun_mk (st := s_Table___eq__) lE cE kE
  have bQ0 := FQ0.binds (ps := ["value"]) fun _ _ _ _ _ _ us hl => match us, hl with | [_], _ => rfl
  have bB := FB.binds (ps := ["value", "least", "most"]) fun _ _ _ _ _ _ us hl => match us, hl with | [_, _, _], _ => rfl
  have bW := FW.binds (ps := ["value"]) fun _ _ _ _ _ _ us hl => match us, hl with | [_], _ => rfl
  have bZ := FZ.binds (ps := ["value"]) fun _ _ _ _ _ _ us hl => match us, hl with | [_], _ => rfl
  have bJ := FJ.binds (ps := ["value"]) fun _ _ _ _ _ _ us hl => match us, hl with | [_], _ => rfl
  have bO := FO.binds (ps := ["value", "width"]) fun _ _ _ _ _ _ us hl => match us, hl with | [_, _], _ => rfl
  have bI := FI.binds (ps := ["self", "columns", "rows"]) fun _ _ _ _ _ _ us hl => match us, hl with | [_, _, _], _ => rfl
  have bE := FE.binds (ps := ["self", "other"]) fun _ _ _ _ _ _ us hl => match us, hl with | [_, _], _ => rfl
  have bD := FD.binds (ps := ["_law_pot_here", "_law_many"]) fun _ _ _ _ _ _ us hl => match us, hl with | [_, _], _ => rfl
  have bA := FA.binds (ps := ["_law_pot_here", "_law_items"]) fun _ _ _ _ _ _ us hl => match us, hl with | [_, _], _ => rfl
  have bP := FP.binds (ps := ["_law_script", "_law_k"]) fun _ _ _ _ _ _ us hl => match us, hl with | [_, _], _ => rfl
  have bX := FX.binds (ps := ["_law_pot_here", "_law_many"]) fun _ _ _ _ _ _ us hl => match us, hl with | [_, _], _ => rfl
  have bY := FY.binds (ps := ["_law_pot_here"]) fun _ _ _ _ _ _ us hl => match us, hl with | [_], _ => rfl
  have bS := FS.binds (ps := ["_law_pot_here", "_law_wide", "_law_many"]) fun _ _ _ _ _ _ us hl => match us, hl with | [_, _, _], _ => rfl
  have bN := FN.binds (ps := ["_law_pot_here", "_law_heads", "_law_rows_here"]) fun _ _ _ _ _ _ us hl => match us, hl with | [_, _, _], _ => rfl
  have bR := FR.binds (ps := ["_law_pot_here"]) fun _ _ _ _ _ _ us hl => match us, hl with | [_], _ => rfl
  have bL := FL.binds (ps := ["_law_script"]) fun _ _ _ _ _ _ us hl => match us, hl with | [_], _ => rfl
  have mg_ : ∀ {n : Str} {v : Value}, PySem.W.nsIn K mainGlobals n = some (some v) → mg n = some v := fun e => PySem.W.mg_of X G e
  have cQ0 : ∀ base, Ca l.prog w K mg base CX0 "is_integer" 1 _ (spInteger K) fQ0 _ := fun base => ⟨ok_integer FQ0 T, mg_ aQ0, kQ0, bQ0⟩
  have cB : ∀ base, Ca l.prog w K mg base CX0 "is_integer_within" 2 _ (spWithin K) fB _ := fun base => ⟨ok_within FB T cQ0, mg_ aB, kB, bB⟩
  have cW : ∀ base, Ca l.prog w K mg base CX0 "is_word" 1 _ (spWord K) fW _ := fun base => ⟨ok_word FW T, mg_ aW, kW, bW⟩
  have cZ : ∀ base, Ca l.prog w K mg base CX0 "is_cell" 3 _ (spCell K) fZ _ := fun base => ⟨ok_cell FZ T cB cW, mg_ aZ, kZ, bZ⟩
  have cJ : ∀ base, Ca l.prog w K mg base CX0 "are_columns" 2 _ (spCols K) fJ _ := fun base => ⟨ok_cols FJ T cW, mg_ aJ, kJ, bJ⟩
  have cO : ∀ base, Ca l.prog w K mg base CX0 "is_row" 4 _ (spRow K) fO _ := fun base => ⟨ok_row FO T cZ, mg_ aO, kO, bO⟩
  have gI : ∀ base, FnOk l.prog w K mg base CX0 5 fI _ _ (spInit K C) := fun base => ok_init FI T cJ cO
  have cE : ∀ base, CaE l.prog w K mg base C fE _ := fun base => ⟨ok_eq FE T, bE, aE, iE⟩
  have cD : ∀ base, Ca l.prog w K mg base CX0 "_law_draw" 1 _ spDraw fD _ := fun base => ⟨ok_draw FD T, mg_ aD, kD, bD⟩
  have cA : ∀ base, Ca l.prog w K mg base CX0 "_law_any" 2 _ spAny fA _ := fun base => ⟨ok_any FA T cD, mg_ aA, kA, bA⟩
  have cP : ∀ base, Ca l.prog w K mg base CX0 "_law_pot" 1 _ (spPot K) fP _ := fun base => ⟨ok_pot FP T, mg_ aP, kP, bP⟩
  have cX : ∀ base, Ca l.prog w K mg base CX0 "_law_words" 2 _ spWords fX _ := fun base => ⟨ok_words FX T cD, mg_ aX, kX, bX⟩
  have cY : ∀ base, Ca l.prog w K mg base CX0 "_law_cell" 3 _ spACell fY _ := fun base => ⟨ok_acell FY T cA, mg_ aY, kY, bY⟩
  have cS : ∀ base, Ca l.prog w K mg base CX0 "_law_rows" 4 _ spRows fS _ := fun base => ⟨ok_rows FS T cY, mg_ aS, kS, bS⟩
  have cN : ∀ base, Ca l.prog w K mg base CX0 "_law_near" 4 _ spNear fN _ := fun base => ⟨ok_near FN T cD cY cX, mg_ aN, kN, bN⟩
  have cR : ∀ base, CaG l.prog w K mg base "_law_right" 7 _ spRight fR _ := fun base => ⟨ok_right FR T ⟨mk, aI, iI, kc⟩ cD cX cS cN gI bI cE, mg_ aR, kR, bR⟩
  exact ⟨_, fun s v => .of_eq rfl, fun base _ _ => ok_law FL T cP cR⟩

end K02
open PySem PySem.W PyProof.Rows in
set_option maxRecDepth 100000 in
set_option maxHeartbeats 0 in
theorem PySem.Challenge.cw_tableheld_k02_tables_that_are_equal_holds : PySem.Challenge.rw_tableheld_k02_tables_that_are_equal.Holds := by
  w_on; o_law; k_head; (case hw => w_witness2)
  k_fill
  refine Xby.walkG (l := PySem.Challenge.rw_tableheld_k02_tables_that_are_equal) (n := 63) (k := 8) (x := "_law_script") (sp := K02.spLaw) rfl (by decide) rfl ⟨rfl, by decide, by decide⟩ (fun w h Y => PySem.W.kIn_of Y) ?F (fun K H a ns hl hS ho => ⟨a, ns, rfl, hS, hl, fun _ => rfl⟩)
  case F =>
    intro w mg fa h KX G hmg
    refine' K02.all_mk KX G hmg ?aC ?aQ0 ?lQ0 ?cQ0 ?kQ0 ?aB ?lB ?cB ?kB ?aW ?lW ?cW ?kW ?aZ ?lZ ?cZ ?kZ ?aJ ?lJ ?cJ ?kJ ?aO ?lO ?cO ?kO ?aD ?lD ?cD ?kD ?aA ?lA ?cA ?kA ?aP ?lP ?cP ?kP ?aX ?lX ?cX ?kX ?aY ?lY ?cY ?kY ?aS ?lS ?cS ?kS ?aN ?lN ?cN ?kN ?aR ?lR ?cR ?kR ?aL ?lL ?cL ?kL ?aI ?iI ?lI ?cI ?kI ?aE ?iE ?lE ?cE ?kE ?pg ?hd ?po ?sa ?mk ?kc ?n_columns ?n_rows ?k1 ?k2 ?k3 ?k4 ?z_abs ?z_all ?z_any ?z_bool ?z_int ?z_isinstance ?z_len ?z_list ?z_max ?z_min ?z_range ?z_repr ?z_set ?z_str ?z_tuple ?isC ?tyC ?sb_NoneType ?sb_tuple ?sb_int ?sb_list ?sb_str ?ca ?cn ?ct ?cm ?ne
    (case aC => k_is)
    (case aQ0 => k_is)
    (case lQ0 => k_is)
    (case cQ0 => k_is)
    (case kQ0 => k_is)
    (case aB => k_is)
    (case lB => k_is)
    (case cB => k_is)
    (case kB => k_is)
    (case aW => k_is)
    (case lW => k_is)
    (case cW => k_is)
    (case kW => k_is)
    (case aZ => k_is)
    (case lZ => k_is)
    (case cZ => k_is)
    (case kZ => k_is)
    (case aJ => k_is)
    (case lJ => k_is)
    (case cJ => k_is)
    (case kJ => k_is)
    (case aO => k_is)
    (case lO => k_is)
    (case cO => k_is)
    (case kO => k_is)
    (case aD => k_is)
    (case lD => k_is)
    (case cD => k_is)
    (case kD => k_is)
    (case aA => k_is)
    (case lA => k_is)
    (case cA => k_is)
    (case kA => k_is)
    (case aP => k_is)
    (case lP => k_is)
    (case cP => k_is)
    (case kP => k_is)
    (case aX => k_is)
    (case lX => k_is)
    (case cX => k_is)
    (case kX => k_is)
    (case aY => k_is)
    (case lY => k_is)
    (case cY => k_is)
    (case kY => k_is)
    (case aS => k_is)
    (case lS => k_is)
    (case cS => k_is)
    (case kS => k_is)
    (case aN => k_is)
    (case lN => k_is)
    (case cN => k_is)
    (case kN => k_is)
    (case aR => k_is)
    (case lR => k_is)
    (case cR => k_is)
    (case kR => k_is)
    (case aL => k_is)
    (case lL => k_is)
    (case cL => k_is)
    (case kL => k_is)
    (case aI => k_is)
    (case iI => k_is)
    (case lI => k_is)
    (case cI => k_is)
    (case kI => k_is)
    (case aE => k_is)
    (case iE => k_is)
    (case lE => k_is)
    (case cE => k_is)
    (case kE => k_is)
    (case pg => k_is)
    (case hd => k_is)
    (case po => k_is)
    (case sa => k_is)
    (case mk => k_is)
    (case kc => k_is)
    (case n_columns => k_is)
    (case n_rows => k_is)
    (case k1 => k_is)
    (case k2 => k_is)
    (case k3 => k_is)
    (case k4 => k_is)
    (case z_abs => k_is)
    (case z_all => k_is)
    (case z_any => k_is)
    (case z_bool => k_is)
    (case z_int => k_is)
    (case z_isinstance => k_is)
    (case z_len => k_is)
    (case z_list => k_is)
    (case z_max => k_is)
    (case z_min => k_is)
    (case z_range => k_is)
    (case z_repr => k_is)
    (case z_set => k_is)
    (case z_str => k_is)
    (case z_tuple => k_is)
    (case isC => k_is)
    (case tyC => k_is)
    (case sb_NoneType => k_is)
    (case sb_tuple => k_is)
    (case sb_int => k_is)
    (case sb_list => k_is)
    (case sb_str => k_is)
    (case ca => k_is)
    (case cn => k_is)
    (case ct => k_is)
    (case cm => k_is)
    (case ne => k_is)
