import PyProof.Rows.All
import Wide.All
import OpenK.AllK
import Wide.FinOn
import HandS.ForMost
import HandS.Exc
import HandS.TryOnly
import HandS.ExcOwn
import HandS.WordsExc
import HandS.IsInst
import HandS.Wide
import HandS.Defaults
import HandS.MakeKwOnly
import HandS.OwnEq
import HandS.CallSlots
import HandS.NamedTupSort
import PyProof.ReprRoads
import PyProof.ReprReads
import PyProof.NeKinds
import KE.KExcStr
import PyProof.ReprLen
import HandS.TupSets
import HandS.Strs
import HandS.Style
import HandS.TupAny
import HandS.Text
import HandS.Walk
import HandS.TryMany
import HandS.SetFor
import HandS.Conv
import HandS.Evl
import HandS.SortKw
import KE.DataMinMax
import HandS.Deep
import HandS.ExcIs
import HandS.Replace
import HandS.Star
import PySem.Challenge.RW_tableheld_k49_versions_of_histories
set_option Elab.async false
set_option linter.all false
set_option maxRecDepth 100000
set_option maxHeartbeats 4000000
/-! # Xby: what the laws of this program want over the hand layer: repr of data, defs under no repr, == and != of an own class -/
namespace Xby
open PySem PySem.Spec PyProof.Rows L2

/-! ## defs that run under no repr -/
structure FnG (P : Program) (w : World) (K : PySem.W.Frag) (mg : Str → Option Value) (base : Heap) (CX : CXT) (k : Nat) (f : Addr) (fd : FuncData) (ps : List Str) (sp : Sp) : Prop where
  len : ∀ vs H Q E, sp vs H Q E → vs.length = ps.length
  run : ∀ (A : Around) (outer : List Env) (s : Shared) (H : Hp) (args : Args) (us : List Value) (vs : List V) (Q : VK) (E : XK),
    A.guards = some [] → Room k A → Env0 P w K mg base A outer s H → BindsTo s fd args (ps.zip us) → Vals vs us → sp vs H Q E →
      codeAny (model P w) A (.call (.ref f) args) (CR CX outer P w H s Q E) s
section
variable {P : Program} {w : World} {K : PySem.W.Frag} {mg : Str → Option Value} {base : Heap}
/-- a def by its body, under no repr -/
theorem okG {x qual : Str} {st : Stmt} {f : Addr} {fd : FuncData} {N ps : List Str} {k : Nat} {sp : Sp}
    (F : Fun K x qual st f fd) (S : FnScope N ps (defScope st)) (len : ∀ vs H Q E, sp vs H Q E → vs.length = ps.length)
    (body : ∀ (cdv : Value) (A : Around) (outer : List Env) (s : Shared) (H : Hp) (vs : List V) (Q : VK) (E : XK),
      A.guards = some [] → Room k (A.deeper (envOfC qual (defScope st) s.heap.objs.size f cdv)) → sp vs H Q E →
        ∃ t, PSs (cxOf CX0 P w K mg base N qual (defScope st) f cdv A outer s H E).nox (defBody st) t ∧
          t { nx := fun _ H' => Q .non H', rt := Q } (start N vs) H) :
    FnG P w K mg base CX0 (k + 1) f fd ps sp := by
  constructor
  · exact len
  intro A outer s H args us vs Q E hg room e0 bnd rv hsp
  obtain ⟨oc, od, kV, doc, pm, an, cdv, ct, osl, rfl, lk, code⟩ := F.ex
  have inK : K.In s.heap := e0.mod.kin.keeps fun b o e => (e0.bs b o e).1
  have lim : s.heap.NoLimit := e0.mod.nolimit.keeps fun b o e => (e0.bs b o e).1
  have kinds : ∀ y ∈ ps.zip us, (defScope st).names.lookup y.1 = some .local ∨
      ((defScope st).names.lookup y.1 = some .cell ∧ ((cellsFrom (s.heap.objs.size + 1) (defScope st).names []).lookup y.1).isSome = true) := by
    rintro ⟨n, v⟩ hy
    rcases S.par n (List.of_mem_zip hy).1 with q | q
    · exact Or.inl q
    · exact Or.inr ⟨q, PySem.W.cellsFrom_some _ _ _ (Or.inl q)⟩
  refine codeAny_call_function room.depth (inK _ _ lk) rfl S.co S.gen rfl (PySem.W.codeRec_of inK code) (bnd _ _ _ _ ?_)
  refine wpAny_newFunctionEnv_cells S.kind kinds fun env he s1 ic => ?_
  subst he
  refine ⟨lim.keeps ic.toInCall.keep, codeAny_func ?_⟩
  obtain ⟨t, ht, q0⟩ := body cdv A outer s H vs Q E hg (room.deeper _) hsp
  have I0 := inv_start (CX := CX0) (E := E) (cd := cdv) S room.hd e0 (len _ _ _ _ hsp) rv ic
  refine wpAny_mono (ht.nox.run [] s1 (start N vs) H _ I0 q0) (fun fl s' end_ => ?_) fun e s' z => z
  cases fl with
  | next =>
    obtain ⟨σ', H', J, q⟩ := end_
    exact ⟨V.non, H', J.os, J.bare, J.base, J.hok, rfl, q⟩
  | ret u =>
    obtain ⟨v, σ', H', J, rr, q⟩ := end_
    exact ⟨v, H', J.os, J.bare, J.base, J.hok, rr, q⟩
  | brk =>
    obtain ⟨_, _, _, q⟩ := end_
    exact (show False from q).elim
  | cont =>
    obtain ⟨_, _, _, q⟩ := end_
    exact (show False from q).elim
end
section
variable {X : Cx} {k : Nat} {f : Addr} {fd : FuncData} {ps : List Str} {sp : Sp} {x : Str} {p pos : Pos} {e : Expr} {es : List Expr} {t : TA}
/-- such a def called by its name -/
theorem pe_callG (F : FnG X.prog X.w X.K X.mg X.base CX0 k f fd ps sp) (hgd : X.A.guards = some []) (hr : Room k X.A) (hg : Gl X x) (hm : X.mg x = some (.ref f)) (hk : PySem.W.keepIn X.K (.ref f) = true)
    (hb : Binds X.K fd ps []) (ha : PA X (e :: es) t) (hdb : (x == ("__debug__" : Str)) = false := by decide)
    (he : starEach (e :: es) X.env = (false, eval e X.env) :: starEach es X.env := by rfl) (hpl : (backTo pos (starEach es X.env)).any (·.1) = false := by rfl) :
    PE X (.Call (.Name x p) (e :: es) [] pos) (tCall sp [] E0 t) := by
  constructor
  intro pins s σ H Q I h
  refine wpAny_Call_Name_kw (ld_glob I hg hm ?_ hdb)
  refine PySem.W.callWith_K (h₀ := X.base) I.ok.mod.kin hk (thn (ha.run pos pins s σ H _ I h) ?_) he hpl
  rintro us s1 ⟨vs, H1, I1, r, q⟩
  refine ⟨I1.kIn, ?_⟩
  have q' : sp vs H1 Q E0 := by have z := q; rw [List.append_nil] at z; exact z
  have hl : us.length = ps.length := by rw [← r.length]; exact F.len _ _ _ _ q'
  have bn := hb s1 us I1.kIn (by rw [List.append_nil]; exact hl)
  rw [List.append_nil] at bn
  refine wpAny_call (codeAny_mono (F.run X.A X.stack s1 H1 ⟨us, []⟩ us vs Q E0 hgd hr I1.env0 bn r q') fun rr s' hq => ?_)
  cases rr with
  | error e => exact (show False from hq).elim
  | ok fl =>
    cases fl with
    | ret u => exact I1.after hq
    | next => exact (show False from hq).elim
    | brk => exact (show False from hq).elim
    | cont => exact (show False from hq).elim
end
/-! ## the law's end over such a def -/
/-- the script alone is tracked, as it stands; or nothing is -/
def scriptHp (a : Addr) (vs : List Value) (ns : List Int) (tracked : Bool) : Hp := fun b =>
  if tracked = true ∧ b = a then some (.frz { cls := .type "list", data := .seq vs.toArray } (.lst (ns.map V.int))) else none
theorem scriptHp_some {a b : Addr} {vs : List Value} {ns : List Int} {t : Bool} {u : HO} (h : scriptHp a vs ns t b = some u) :
    t = true ∧ b = a ∧ u = .frz { cls := .type "list", data := .seq vs.toArray } (.lst (ns.map V.int)) := by
  unfold scriptHp at h
  by_cases c : t = true ∧ b = a
  · rw [if_pos c] at h
    exact ⟨c.1, c.2, (Option.some.inj h).symm⟩
  · rw [if_neg c] at h
    cases h
theorem enterG {P : Program} {w : World} {K : PySem.W.Frag} {mg mb : Str → Option Value} {k : Nat} {fa a : Addr} {fd : FuncData} {x : Str} {sp : Sp} {S : Shared} {vs : List Value} {ns : List Int}
    (inK : K.In S.heap) (gl : S.heap.Ns mainGlobals mg) (bl : S.heap.Ns builtinsNs mb) (bb : ∀ y : Str, y ≠ "__name__" → mb y = bootBuiltins y) (lim : S.heap.NoLimit) (gens : S.gens = #[])
    (at_a : S.heap.get? a = some { cls := .type "list", data := .seq vs.toArray }) (hin : IntsAre vs ns) (few : ns.length ≤ sizeLine) (room : Room k callerA)
    (F : ∀ base : Heap, K.In base → base.Ns mainGlobals mg → FnG P w K mg base CX0 k fa fd [x] sp)
    (bnd : ∀ (s : Shared) (u : Value), BindsTo s fd ⟨[u], []⟩ [(x, u)])
    (promise : ∀ H : Hp, SqL K H a (ns.map V.int) → (∀ b o, H b = some o → ∃ ob xs, o = .frz ob (.lst xs)) → sp [.ref a] H (fun v _ => v = .bl true) E0) :
    codeAny (model P w) callerA (.call (.ref fa) ⟨[.ref a], []⟩) (fun r s' => r = .ok (.ret (.bool true)) ∧ OldK S.heap s'.heap ∧ s'.os = S.os ∧ AllBare s'.gens) S := by
  have rv : Vals (ns.map V.int) vs := vals_ints hin
  obtain ⟨t, sq, noK⟩ : ∃ t : Bool, SqL K (scriptHp a vs ns t) a (ns.map V.int) ∧ (t = true → K.lookup a = none) := by
    cases e : K.lookup a with
    | none => exact ⟨true, Or.inl (Or.inr ⟨_, if_pos ⟨rfl, rfl⟩⟩), fun _ => rfl⟩
    | some o =>
      have e' := inK a o e
      rw [at_a] at e'
      obtain rfl := (Option.some.inj e').symm
      refine ⟨false, Or.inr ⟨_, vs.toArray, _, e, rfl, rfl, rfl, ?_, by simpa using rv⟩, fun z => by cases z⟩
      have := rv.length
      rw [List.length_map] at this
      rw [List.size_toArray]
      omega
  have ok : HOk P w (scriptHp a vs ns t) S.heap := by
    intro b u hb
    obtain ⟨_, rfl, rfl⟩ := scriptHp_some hb
    exact ⟨at_a, by rw [List.length_map]; exact few, vs, _, rv, at_a⟩
  have untr : ∀ (b : Addr) (o : Obj), S.heap.get? b = some o → b ≠ a → (hidT S.heap (scriptHp a vs ns t)).get? b = some o := by
    intro b o e ne
    refine hidT_get e ?_
    cases q : scriptHp a vs ns t b with
    | none => rfl
    | some u => exact absurd (scriptHp_some q).2.1 ne
  have nsOk : ∀ {b : Addr} {m : Str → Option Value}, S.heap.Ns b m → (hidT S.heap (scriptHp a vs ns t)).Ns b m := by
    rintro b m ⟨o, es, ep, e, d, r⟩
    refine ⟨o, es, ep, untr b o e ?_, d, r⟩
    rintro rfl
    rw [at_a] at e
    obtain rfl := Option.some.inj e
    exact Data.noConfusion (show Data.seq vs.toArray _ = Data.dict es ep from d)
  have kIn : K.In (hidT S.heap (scriptHp a vs ns t)) := by
    intro b o e
    refine hidT_get (inK b o e) ?_
    cases q : scriptHp a vs ns t b with
    | none => rfl
    | some u =>
      obtain ⟨tt, rfl, _⟩ := scriptHp_some q
      rw [noK tt] at e
      cases e
  obtain ⟨mc, l1, l2⟩ := lim
  have e0 : Env0 P w K mg (hidT S.heap (scriptHp a vs ns t)) callerA [] S (scriptHp a vs ns t) :=
    { frames := rfl, mod := ⟨kIn, nsOk gl, ⟨mb, nsOk bl, bb⟩, ⟨mc, nsOk l1, l2⟩⟩, bs := fun b o e => of_hidT e, bsz := Nat.le_of_eq (hidT_size _ _), funs := trivial,
      frf := fun b hb => by simp [frs] at hb, hok := ok, bare := AllBare.of_eq gens }
  have onlyF : ∀ b o, scriptHp a vs ns t b = some o → ∃ ob xs, o = .frz ob (.lst xs) := fun b o e => ⟨_, _, (scriptHp_some e).2.2⟩
  refine codeAny_mono ((F _ kIn (nsOk gl)).run callerA [] S _ ⟨[.ref a], []⟩ [.ref a] [.ref a] _ _ rfl room e0 (bnd S (.ref a)) (.cons rfl .nil) (promise _ sq onlyF)) ?_
  intro r s' h
  cases r with
  | error e => exact (show False from h).elim
  | ok fl =>
    cases fl with
    | next => exact (show False from h).elim
    | brk => exact (show False from h).elim
    | cont => exact (show False from h).elim
    | ret u =>
      obtain ⟨v, H', os, bare, un, ok', rr, q⟩ := h
      obtain rfl : v = .bl true := q
      obtain rfl : u = Value.bool true := rr
      refine ⟨rfl, OldK.of_keep ?_, os, bare⟩
      intro b o e
      cases q : scriptHp a vs ns t b with
      | none => exact un.keep b o e q (by simp [frs]) (by simp)
      | some u =>
        obtain ⟨_, rfl, rfl⟩ := scriptHp_some q
        have z := (ok' b _ (un.frzs b _ _ q)).1
        rw [at_a] at e
        rw [← e]
        exact z
theorem walkG {l : PySem.W.OpenLaw} {n k : Nat} {q : Program} {loose : List Str} {XP : (Str → Option Value) → Heap → Prop} {YP : World → Heap → Prop} {d : DefRec} {K : Params → PySem.W.Frag} {sp : PySem.W.Frag → Sp} {x : Str}
    (most : l.most = some n) (few : n ≤ sizeLine) (plain : d.params.defaults = []) (room : Room k callerA) (hY : ∀ (w : World) (h : Heap), YP w h → (K w.params).In h)
    (F : ∀ (w : World) (mg : Str → Option Value) (fa : Addr) (h : Heap), (K w.params).In h → h.Ns mainGlobals mg → mg d.name = some (.ref fa) →
      ∃ fd : FuncData, (∀ (s : Shared) (u : Value), BindsTo s fd ⟨[u], []⟩ [(x, u)]) ∧
        ∀ base : Heap, (K w.params).In base → base.Ns mainGlobals mg → FnG l.prog w (K w.params) mg base CX0 k fa fd [x] (sp (K w.params)))
    (promise : ∀ (K : PySem.W.Frag) (H : Hp) (a : Addr) (ns : List Int), ns.length ≤ n → SqL K H a (ns.map V.int) → (∀ b o, H b = some o → ∃ ob xs, o = .frz ob (.lst xs)) → sp K [.ref a] H (fun v _ => v = .bl true) E0) :
    PySem.W.WalkO q loose XP YP l.row.toRowW d [] (fun f vs => PySem.call f vs) := by
  refine Att.attach_call most plain ?_
  intro w s₀ S mg mb fa o pm cd doc a vs ns G Y ho hd hcd hmg hobj hints hlen hg
  obtain ⟨fd, hb, hF⟩ := F w mg fa _ (hY w _ Y) G.T.g hmg
  exact enterG (hY w _ Y) G.T.g G.T.b G.T.builtins G.T.nolimit hg hobj hints (Nat.le_trans hlen few) room hF hb fun H h1 h2 => promise _ H a ns hlen h1 h2
end Xby

set_option Elab.async false
set_option linter.all false
set_option maxRecDepth 100000
set_option maxHeartbeats 4000000
/-! # repr of data; list != []; ** of great numbers; == and != of an own class -/
namespace Xby
open PySem PySem.Spec PyProof.Rows L2
/-! ## data, dicts among it -/
def keyD : Key → PyData
  | .inl i => .int i
  | .inr x => .str x
mutual
inductive Dq (K : PySem.W.Frag) (H : Hp) : V → PyData → Prop
  | non : Dq K H .non .none
  | bl (b : Bool) : Dq K H (.bl b) (.bool b)
  | int (i : Int) : Dq K H (.int i) (.int i)
  | str (x : Str) : Dq K H (.str x) (.str x)
  | lst {a : Addr} {xs : List V} {ds : List PyData} : H a = some (.lst xs) → sysModules ≠ a → DqAll K H xs ds → Dq K H (.ref a) (.list ds)
  | tup {a : Addr} {xs : List V} {ds : List PyData} : SqT K H a xs → DqAll K H xs ds → Dq K H (.ref a) (.tuple ds)
  | dct {a : Addr} {kvs : List (Key × V)} {ds : List (PyData × PyData)} : H a = some (.dK kvs) → DqKv K H kvs ds → Dq K H (.ref a) (.dict ds)
inductive DqAll (K : PySem.W.Frag) (H : Hp) : List V → List PyData → Prop
  | nil : DqAll K H [] []
  | cons {v : V} {vs : List V} {d : PyData} {ds : List PyData} : Dq K H v d → DqAll K H vs ds → DqAll K H (v :: vs) (d :: ds)
inductive DqKv (K : PySem.W.Frag) (H : Hp) : List (Key × V) → List (PyData × PyData) → Prop
  | nil : DqKv K H [] []
  | cons {k : Key} {v : V} {r : List (Key × V)} {d : PyData} {ds : List (PyData × PyData)} : Dq K H v d → DqKv K H r ds → DqKv K H ((k, v) :: r) ((keyD k, d) :: ds)
end
section
variable {X : Cx} {pins : List (Addr × Obj)} {σ : L2.St} {H : Hp} {s : Shared}
theorem readsKeys {K : PySem.W.Frag} {h : Heap} {es : List DictEntry} {vs : List (Key × Value)} (p : Pairs (mixKind X.prog X.w) es vs) :
    ∀ {kvs : List (Key × V)} {ds : List (PyData × PyData)}, KV kvs vs → DqKv K H kvs ds → ReadsAll h (es.map (·.key)) (ds.map (·.1)) [] := by
  induction p with
  | nil =>
    intro kvs ds kv q
    cases kv
    cases q
    exact .nil
  | @cons e kv0 es kvs0 h1 h2 h3 ih =>
    intro kvs ds kv q
    cases kv with
    | cons r t =>
      cases q with
      | @cons k v rr d dd q1 q2 =>
        have tl := ih t q2
        have r1 : k = kv0.1 := r.1
        have hd : Reads h e.key (keyD k) [] := by
          rcases keyIs_shape (show keyIs _ _ = true from h1) with ⟨i, tk, e1, e2⟩ | ⟨x, tk, e1, e2⟩
          · rw [r1, e1, e2]
            exact .int i tk
          · rw [r1, e1, e2]
            exact .str x tk
        exact .cons hd tl
mutual
theorem Dq.reads (I : Inv X pins σ H s) : ∀ (d : PyData) (v : V) (u : Value), Dq X.K H v d → RelV v u → ∃ as, Reads s.heap u d as ∧ sysModules ∉ as
  | .none, _, _, h, r => by
    cases h; cases r
    exact ⟨[], Reads.none, by simp⟩
  | .bool b, _, _, h, r => by
    cases h; cases r
    exact ⟨[], Reads.bool b, by simp⟩
  | .int i, _, _, h, r => by
    cases h
    obtain ⟨t, rfl⟩ := r
    exact ⟨[], Reads.int i t, by simp⟩
  | .str x, _, _, h, r => by
    cases h
    obtain ⟨t, rfl⟩ := r
    exact ⟨[], Reads.str x t, by simp⟩
  | .list ds, _, _, h, r => by
    cases h with
    | lst hs sm ha =>
      cases r
      obtain ⟨its, rv, ⟨o, n, ho, hc, _, hd⟩, _⟩ := I.list (SqL.of hs)
      obtain ⟨as, hr, ha⟩ := Dq.readsAll I ds _ its ha rv
      exact ⟨_, Reads.list ho hc hd hr, by rw [List.mem_cons, not_or]; exact ⟨sm, ha⟩⟩
  | .tuple ds, _, _, h, r => by
    cases h with
    | tup hs ha =>
      cases r
      obtain ⟨its, rv, ⟨o, ho, hc, n, hd⟩, _⟩ := I.tuple hs
      obtain ⟨as, hr, ha⟩ := Dq.readsAll I ds _ its ha rv
      exact ⟨_, Reads.tuple ho hc hd hr, ha⟩
  | .dict ds, _, _, h, r => by
    cases h with
    | dct hs ha =>
      cases r
      obtain ⟨_, sm, vs, kv, o, es, ep, ho, ex, hd, _, prs, _⟩ := I.hok _ _ hs
      obtain ⟨bs, hr, hb⟩ := Dq.readsKv I ds _ vs es.toList ha kv prs
      refine ⟨_, Reads.dict ho ex.1 hd (readsKeys prs kv ha) hr, ?_⟩
      rw [List.mem_append, List.mem_cons, not_or, not_or]
      exact ⟨⟨fun e => by rw [e] at sm; simp at sm, by simp⟩, hb⟩
theorem Dq.readsAll (I : Inv X pins σ H s) : ∀ (ds : List PyData) (vs : List V) (us : List Value), DqAll X.K H vs ds → Vals vs us → ∃ as, ReadsAll s.heap us ds as ∧ sysModules ∉ as
  | [], _, _, h, r => by
    cases h; cases r
    exact ⟨[], ReadsAll.nil, by simp⟩
  | d :: ds, _, _, h, r => by
    cases h with
    | cons h1 h2 =>
      cases r with
      | cons r1 r2 =>
        obtain ⟨as, q1, n1⟩ := Dq.reads I d _ _ h1 r1
        obtain ⟨bs, q2, n2⟩ := Dq.readsAll I ds _ _ h2 r2
        exact ⟨_, ReadsAll.cons q1 q2, by rw [List.mem_append, not_or]; exact ⟨n1, n2⟩⟩
theorem Dq.readsKv (I : Inv X pins σ H s) : ∀ (ds : List (PyData × PyData)) (kvs : List (Key × V)) (vs : List (Key × Value)) (es : List DictEntry), DqKv X.K H kvs ds → KV kvs vs → Pairs (mixKind X.prog X.w) es vs →
    ∃ as, ReadsAll s.heap (es.map (·.val)) (ds.map (·.2)) as ∧ sysModules ∉ as
  | [], _, _, _, h, r, p => by
    cases h; cases r; cases p
    exact ⟨[], ReadsAll.nil, by simp⟩
  | (_, d) :: ds, _, _, _, h, r, p => by
    cases h with
    | cons h1 h2 =>
      cases r with
      | cons r1 r2 =>
        cases p with
        | cons p1 p2 p3 =>
          obtain ⟨as, q1, n1⟩ := Dq.reads I d _ _ h1 (p2.symm ▸ r1.2)
          obtain ⟨bs, q2, n2⟩ := Dq.readsKv I ds _ _ _ h2 r2 p3
          exact ⟨_, ReadsAll.cons q1 q2, by rw [List.mem_append, not_or]; exact ⟨n1, n2⟩⟩
end
theorem mods_lt (I : Inv X pins σ H s) : sysModules < s.heap.objs.size := Nat.lt_of_le_of_lt (show sysModules ≤ mainGlobals by decide) (I.mod.glob.keeps I.bk).lt
/-- small enough to be shown -/
structure Fine (d : PyData) : Prop where
  sh : d.showable = true
  len : d.shown.length ≤ sizeLine
  dp : d.depth ≤ 60
def rRepr (K : PySem.W.Frag) : List V → Hp → VK → Prop := fun xs H Q => ∃ (x : V) (d : PyData), xs = [x] ∧ Dq K H x d ∧ Fine d ∧ Q (.str d.shown) H
theorem call_reprD (hg : X.A.guards = some []) (hu : X.A.units + 64 < cLine) : CallR X (.builtin "repr") (rRepr X.K) := by
  rintro pins s σ H xs us Q I rv ⟨x, d, rfl, hd, fine, q⟩
  obtain ⟨u, rfl, r⟩ := vals1 rv
  obtain ⟨as, rd, sm⟩ := Dq.reads I d x u hd r
  have dp := fine.dp
  cases rd with
  | none => exact PySem.P.repr_of_none ⟨.str _, H, I.tok _, ⟨_, rfl⟩, by simpa only [PyData.shown] using q⟩
  | bool b => exact PySem.P.repr_of_bool ⟨.str _, H, I.tok _, ⟨_, rfl⟩, by simpa only [PyData.shown] using q⟩
  | int i t => exact PySem.P.repr_of_int (by simpa [PyData.showable] using fine.sh) ⟨.str _, H, I.tok _, ⟨_, rfl⟩, by simpa only [PyData.shown] using q⟩
  | str y t => exact PySem.P.repr_of_str ⟨.str _, H, I.tok _, ⟨_, rfl⟩, by simpa only [PyData.shown] using q⟩ (by simpa only [PyData.shown] using fine.len)
  | list h1 h2 h3 h4 =>
    refine repr_of_reads' (Reads.list h1 h2 h3 h4) fine.sh (fun _ => sm) hg (by omega) (fun _ _ e => e) (fun h' u tk k => ?_) fine.len
    exact ⟨.str _, H, I.kept k, ⟨_, rfl⟩, q⟩
  | tuple h1 h2 h3 h4 =>
    refine repr_of_reads' (Reads.tuple h1 h2 h3 h4) fine.sh (fun _ => sm) hg (by omega) (fun _ _ e => e) (fun h' u tk k => ?_) fine.len
    exact ⟨.str _, H, I.kept k, ⟨_, rfl⟩, q⟩
  | dict h1 h2 h3 h4 h5 =>
    refine repr_of_reads' (Reads.dict h1 h2 h3 h4 h5) fine.sh (fun _ => sm) hg (by omega) (fun _ _ e => e) (fun h' u tk k => ?_) fine.len
    exact ⟨.str _, H, I.kept k, ⟨_, rfl⟩, q⟩
end
mutual
theorem Dq.same {K : PySem.W.Frag} {H H' : Hp} (e : Same H H') : ∀ {v : V} {d : PyData}, Dq K H v d → Dq K H' v d
  | _, _, .non => .non
  | _, _, .bl b => .bl b
  | _, _, .int i => .int i
  | _, _, .str x => .str x
  | _, _, .lst h n a => .lst (e _ _ h) n (DqAll.same e a)
  | _, _, .tup h a => .tup (SqT.ext h e) (DqAll.same e a)
  | _, _, .dct h a => .dct (e _ _ h) (DqKv.same e a)
theorem DqAll.same {K : PySem.W.Frag} {H H' : Hp} (e : Same H H') : ∀ {vs : List V} {ds : List PyData}, DqAll K H vs ds → DqAll K H' vs ds
  | _, _, .nil => .nil
  | _, _, .cons h a => .cons (Dq.same e h) (DqAll.same e a)
theorem DqKv.same {K : PySem.W.Frag} {H H' : Hp} (e : Same H H') : ∀ {kvs : List (Key × V)} {ds : List (PyData × PyData)}, DqKv K H kvs ds → DqKv K H' kvs ds
  | _, _, .nil => .nil
  | _, _, .cons h a => .cons (Dq.same e h) (DqKv.same e a)
end
section
variable {X : Cx}
/-- the same of data without dicts, wherever its lists lie -/
def rReprP (K : PySem.W.Frag) : List V → Hp → VK → Prop := fun xs H Q => ∃ (x : V) (d : PyData), xs = [x] ∧ Dp K H x d ∧ d.hasDict = false ∧ Fine d ∧ Q (.str d.shown) H
theorem call_reprP (hg : X.A.guards = some []) (hu : X.A.units + 64 < cLine) : CallR X (.builtin "repr") (rReprP X.K) := by
  rintro pins s σ H xs us Q I rv ⟨x, d, rfl, hd, nd, fine, q⟩
  obtain ⟨u, rfl, r⟩ := vals1 rv
  obtain ⟨as, rd⟩ := Dp.reads I d x u hd r
  have dp := fine.dp
  cases rd with
  | none => exact PySem.P.repr_of_none ⟨.str _, H, I.tok _, ⟨_, rfl⟩, by simpa only [PyData.shown] using q⟩
  | bool b => exact PySem.P.repr_of_bool ⟨.str _, H, I.tok _, ⟨_, rfl⟩, by simpa only [PyData.shown] using q⟩
  | int i t => exact PySem.P.repr_of_int (by simpa [PyData.showable] using fine.sh) ⟨.str _, H, I.tok _, ⟨_, rfl⟩, by simpa only [PyData.shown] using q⟩
  | str y t => exact PySem.P.repr_of_str ⟨.str _, H, I.tok _, ⟨_, rfl⟩, by simpa only [PyData.shown] using q⟩ (by simpa only [PyData.shown] using fine.len)
  | list h1 h2 h3 h4 =>
    refine repr_of_reads' (Reads.list h1 h2 h3 h4) fine.sh (PyData.noDict_hsm nd) hg (by omega) (fun _ _ e => e) (fun h' u tk k => ?_) fine.len
    exact ⟨.str _, H, I.kept k, ⟨_, rfl⟩, q⟩
  | tuple h1 h2 h3 h4 =>
    refine repr_of_reads' (Reads.tuple h1 h2 h3 h4) fine.sh (PyData.noDict_hsm nd) hg (by omega) (fun _ _ e => e) (fun h' u tk k => ?_) fine.len
    exact ⟨.str _, H, I.kept k, ⟨_, rfl⟩, q⟩
  | dict h1 h2 h3 h4 h5 =>
    simp only [PyData.hasDict] at nd
    cases nd
/-- a written list; it is not sys.modules -/
def tLstS (t : TA) : TE := fun σ H Q => t σ H fun xs H1 => xs.length ≤ sizeLine ∧ ∀ p, H1 p = none → sysModules ≠ p → Q (.ref p) (L2.upd H1 p (.lst xs))
theorem pe_lstS {es : List Expr} {t : TA} {pos : Pos} (h : PA X es t) : PE X (.List es pos) (tLstS t) := by
  constructor
  intro pins s σ H Q I hq
  refine wpAny_List_spliced (thn (h.run pos pins s σ H _ I hq) ?_)
  rintro us s1 ⟨xs, H1, I1, r, z, q⟩
  refine ⟨r.length ▸ z, ?_⟩
  have J := I1.laid (a := s1.heap.objs.size) (o := .lst xs) (h' := s1.heap.push { cls := .type "list", data := .seq us.toArray }) (t' := s1.toks) (fun b u e => Heap.get?_push_of_some _ e) (Nat.le_refl _) ⟨z, us, 0, r, Heap.get?_push_size _ rfl⟩
  exact ⟨.ref _, _, J, rfl, q _ (I1.hok.fresh (Nat.le_refl _)) (Nat.ne_of_lt (mods_lt I1))⟩
end
end Xby

set_option Elab.async false
set_option linter.all false
set_option maxRecDepth 100000
set_option maxHeartbeats 4000000
namespace Xby
open PySem PySem.Spec PyProof.Rows L2
section
variable {X : Cx}
/-- ** within 2^27 bits -/
def CPowW (i j : Int) : Prop := 0 ≤ j ∧ (Builtin.Int.intBits i : Int) * j ≤ 2 ^ 27
theorem op_powW : OpR X (binaryOp .Pow) (rI CPowW fun i j => .int (i ^ j.toNat)) := opI fun _ _ _ _ _ _ _ c q => pow_int c.1 c.2 q
/-- xs != [] -/
def rNeNil (K : PySem.W.Frag) : R2 := fun x y H Q => ∃ a b xs, x = .ref a ∧ y = .ref b ∧ SqL K H a xs ∧ SqL K H b [] ∧ Q (.bl (!xs.isEmpty)) H
theorem op_neNil (hu : X.A.units < cLine) : OpR X (compareOp .NotEq) (rNeNil X.K) := by
  rintro pins s σ H x y v u Q I rx ry ⟨a, b, xs, rfl, rfl, ha, hb, q⟩
  obtain rfl : v = Value.ref a := rx
  obtain rfl : u = Value.ref b := ry
  obtain ⟨its, rv, p, _⟩ := I.list ha
  obtain ⟨its2, rv2, p2, _⟩ := I.list hb
  cases rv2
  have l := rv.length
  unfold compareOp
  cases xs with
  | nil =>
    cases rv
    refine SeqAt.RcNeAt.lists p.isList p2.isList rfl hu (e := fun _ => true) (fun j h1 => absurd h1 (by simp)) _ _ _ _ ?_
    exact ⟨.bl false, H, I, rfl, q⟩
  | cons z zs =>
    refine SeqAt.RcNeAt.lists_lengths p.isList p2.isList ?_ hu _ _ _ _ ⟨.bl true, H, I, rfl, q⟩
    have : its.length ≠ 0 := by rw [← l]; simp
    simpa using this
end
section
open PySem.W
variable {prog : Program} {w : World} {A : Around} {E : Value → Shared → Prop} {s : Shared} {K : Frag} {x C f : Addr} {ox : Obj} {od : Option Obj} {b tb : Value}
theorem special_look {M : Model} {h : Heap} {nm : Str} {id : String} (X : K.In h) (I : InstAt h x ox C od) (hs : findIn K (.ref C) nm = some (some (.builtin id))) :
    Looks M h (specialOf (.ref x) nm) (some (.builtin id)) := I.type.andThen (looks_findIn X hs)
/-- x != b by the class's own ==, where object's != stands -/
theorem ne_own {Q : Value → Shared → Prop} (hu : A.units + 1 < cLine) (X : K.In s.heap) (I : InstAt s.heap x ox C od) (ne : findIn K (.ref C) "__ne__" = some (some (.builtin "object.__ne__")))
    (eq : findIn K (.ref C) "__eq__" = some (some (.ref f))) (hf : isFn K (.ref f) = true) (ob : mroIn K C (.type "object") = some true) (hb : Looks (model prog w) s.heap (typeOf b) tb) (hn : notFirst K C tb = true)
    (h : wpAny (model prog w) A.in1 (call (.ref f) [.ref x, b]) (fun v s' => ∃ c, v = .bool c ∧ Q (.bool (!c)) s') E s) :
    wpAny (model prog w) A (richCompare .NotEq (.ref x) b) Q E s := by
  have one : wpAny (model prog w) A (tryCompare (.ref x) "__ne__" b) (fun r s' => ∃ v, r = some v ∧ Q v s') E s := by
    unfold tryCompare
    refine wpAny_bind (NtL.csib (special_look X I ne) (F.slot_dict_itemiterator_ne.bind _) ?_)
    refine wpAny_call (codeAny_call_builtin F.slot_dict_itemiterator_ne.plain F.cmpEntry_ne (PySem.W.check_slot F.cmpKind_ne F.cmpSplit_ne (I.type.andThen (looks_mroIn X ob)) (F.cmpArgs_ne _ _) ?_))
    unfold Builtin.«object.__ne__»
    repeat (first
      | with_reducible refine wpAny_cRoomFor (show A.in1.units < cLine from hu) ?_
      | (refine wpAny_bind (m := callSpecialIfBound? (.ref x) (Str.ofString "__eq__") [b]) (ifBound_K X I eq hf (wpAny_mono h (fun v s' hv => ?_) fun _ _ z => z)); obtain ⟨c, rfl, q⟩ := hv)
      | exact ⟨_, rfl, q⟩
      | exact wpAny_pure ⟨_, rfl, q⟩
      | (refine wpAny_bind (m := truthy (.bool _)) (wpAny_truthy_bool ?_))
      | wp_step)
  unfold richCompare
  simp only [oneThing_ref]
  refine wpAny_holding (wpAny_bind (wpAny_cRoomFor (Nat.lt_of_succ_lt hu) ?_))
  refine wpAny_bind (I.type.here (wpAny_bind (hb.here ?_)))
  have e : tb ≠ .ref C → subIn K tb (.ref C) = some false := fun n => by
    unfold notFirst at hn
    rcases Bool.or_eq_true_iff.mp hn with z | z
    · exact absurd (beq_iff_eq.mp z) n
    · exact beq_iff_eq.mp z
  have fin : ∀ {α : Type} {k : Option Value → Sem α} {R : α → Shared → Prop}, (∀ v s', Q v s' → wpAny (model prog w) A (k (some v)) R E s') → wpAny (model prog w) A (tryCompare (.ref x) "__ne__" b >>= k) R E s := fun h2 =>
    wpAny_bind (wpAny_mono one (fun r s' z => by obtain ⟨v, rfl, q⟩ := z; exact h2 v s' q) fun _ _ z => z)
  by_cases c : tb = .ref C
  · rw [if_neg (by rw [c]; simp)]
    refine wpAny_bind (wpAny_pure ?_)
    rw [if_neg Bool.false_ne_true]
    exact fin fun v s' q => wpAny_pure q
  · rw [if_pos (by simpa using fun z => c z.symm)]
    refine wpAny_bind ((looks_subIn X (e c)).here ?_)
    rw [if_neg Bool.false_ne_true]
    exact fin fun v s' q => wpAny_pure q
end
section
variable {X : Cx} {C f : Addr} {fd : FuncData} {n : Nat} {sp : Sp} {ps : List Str} {CX : CXT} {E : XK}
theorem vback {Q : Value → Shared → Prop} {z : V} {v : Value} {s' : Shared} (r : RelV z v) (h : Q v s') : PySem.W.CmpBack Q v s' := by
  cases z with
  | non => cases r; exact h
  | bl _ => cases r; exact h
  | int _ => obtain ⟨t, rfl⟩ := r; exact h
  | str _ => obtain ⟨t, rfl⟩ := r; exact h
  | byt _ => obtain ⟨t, rfl⟩ := r; exact h
  | flt _ => obtain ⟨t, rfl⟩ := r; exact h
  | ref _ => cases r; exact h
  | ty _ => cases r; exact h
/-- x == y, x != y, x an instance of the class at C whose == is the def at f; y of type tb -/
def rOwn (K : PySem.W.Frag) (C : Addr) (sp : Sp) (E : XK) (g : VK → VK) : R2 := fun x y H Q => ∃ (a dx : Addr) (fs : List (Str × V)) (tb : Value), x = .ref a ∧ H a = some (.ins C dx fs) ∧ TyX K H y tb ∧ PySem.W.notFirst K C tb = true ∧ sp [x, y] H (g Q) E
theorem op_ownEq (F : FnOk X.prog X.w X.K X.mg X.base CX n f fd ps sp) (hr : Room n X.A) (bd : Binds X.K fd ps []) (hx : Passes CX X E)
    (eq : PySem.W.findIn X.K (.ref C) "__eq__" = some (some (.ref f))) (hf : PySem.W.isFn X.K (.ref f) = true) : OpR X (compareOp .Eq) (rOwn X.K C sp E fun Q => Q) := by
  rintro pins s σ H x y v u Q I rx ry ⟨a, dx, fs, tb, rfl, ha, ty, nf, q⟩
  obtain rfl : v = Value.ref a := rx
  obtain ⟨mA, J, _⟩ := ins_get I.hok ha
  obtain ⟨od, J, _⟩ := J.look
  obtain ⟨P, kx, hp, _⟩ := kit_of I ry ty
  obtain ⟨m, hF⟩ := I.fr
  refine PySem.W.cmp_K (op := .Eq) (tb := tb) hr.units0 hF I.ok.mod.kin J (kx.ty _ _ I.kIn hp) nf eq hf ?_
  refine wpAny_mono (run_fn (us := [.ref a, u]) (vs := [.ref a, y]) (dvs := []) F hr bd .nil hx I (.cons rfl (.cons ry .nil)) q) (fun w s' z => ?_) fun _ _ z => z
  obtain ⟨z', H', I', rz, qz⟩ := z
  exact vback rz ⟨z', H', I', rz, qz⟩
end
section
variable {X : Cx} {C f : Addr} {fd : FuncData} {n : Nat} {sp : Sp} {ps : List Str}
theorem op_ownNe (F : FnOk X.prog X.w X.K X.mg X.base CX0 n f fd ps sp) (hr : Room (n + 1) X.A) (bd : Binds X.K fd ps [])
    (eq : PySem.W.findIn X.K (.ref C) "__eq__" = some (some (.ref f))) (hf : PySem.W.isFn X.K (.ref f) = true) (ne : PySem.W.findIn X.K (.ref C) "__ne__" = some (some (.builtin "object.__ne__"))) (ob : PySem.W.mroIn X.K C (.type "object") = some true) :
    OpR X (compareOp .NotEq) (rOwn X.K C sp E0 fun Q v H => ∃ c, v = .bl c ∧ Q (.bl (!c)) H) := by
  rintro pins s σ H x y v u Q I rx ry ⟨a, dx, fs, tb, rfl, ha, ty, nf, q⟩
  obtain rfl : v = Value.ref a := rx
  obtain ⟨mA, J, _⟩ := ins_get I.hok ha
  obtain ⟨od, J, _⟩ := J.look
  obtain ⟨P, kx, hp, _⟩ := kit_of I ry ty
  have hun : X.A.units + 1 < cLine := by have := hr.un; omega
  unfold compareOp
  refine ne_own hun I.kIn J ne eq hf ob (kx.ty _ _ I.kIn hp) nf ?_
  have e0 : Env0 X.prog X.w X.K X.mg X.base X.A.in1 X.stack s H := I.env0.in1
  have hl := F.len _ _ _ _ q
  have rv : Vals [V.ref a, y] [Value.ref a, u] := .cons rfl (.cons ry .nil)
  have bn := bd s [.ref a, u] I.kIn (by rw [List.append_nil]; simpa using hl)
  rw [List.append_nil] at bn
  refine wpAny_call (codeAny_mono (F.run X.A.in1 X.stack s H ⟨[.ref a, u], []⟩ [.ref a, u] [.ref a, y] _ E0 hr.in1 e0 bn rv q) fun r s' hq => ?_)
  cases r with
  | error e => exact (show False from hq).elim
  | ok fl =>
    cases fl with
    | next => exact (show False from hq).elim
    | brk => exact (show False from hq).elim
    | cont => exact (show False from hq).elim
    | ret w =>
      obtain ⟨z, H', I', rz, c, rfl, qz⟩ := I.after hq
      obtain rfl : w = Value.bool c := rz
      exact ⟨c, rfl, .bl (!c), H', I', rfl, qz⟩
end
section
variable {X : Cx} {C f : Addr} {fd : FuncData} {n : Nat} {sp : Sp} {ps : List Str}
/-- the same, for a written part told -/
theorem op_ownEqK (K : PySem.W.Frag) (mg : Str → Option Value) (base : Heap) (P : Program) (w : World) (hK : X.K = K) (hm : X.mg = mg) (hB : X.base = base) (hP : X.prog = P) (hw : X.w = w) (F : FnOk P w K mg base CX0 n f fd ps sp) (hr : Room n X.A) (bd : Binds K fd ps [])
    (eq : PySem.W.findIn K (.ref C) "__eq__" = some (some (.ref f))) (hf : PySem.W.isFn K (.ref f) = true) : OpR X (compareOp .Eq) (rOwn K C sp E0 fun Q => Q) := by
  subst hK hm hB hP hw
  exact op_ownEq F hr bd pass0 eq hf
theorem op_ownNeK (K : PySem.W.Frag) (mg : Str → Option Value) (base : Heap) (P : Program) (w : World) (hK : X.K = K) (hm : X.mg = mg) (hB : X.base = base) (hP : X.prog = P) (hw : X.w = w) (F : FnOk P w K mg base CX0 n f fd ps sp) (hr : Room (n + 1) X.A) (bd : Binds K fd ps [])
    (eq : PySem.W.findIn K (.ref C) "__eq__" = some (some (.ref f))) (hf : PySem.W.isFn K (.ref f) = true) (ne : PySem.W.findIn K (.ref C) "__ne__" = some (some (.builtin "object.__ne__"))) (ob : PySem.W.mroIn K C (.type "object") = some true) :
    OpR X (compareOp .NotEq) (rOwn K C sp E0 fun Q v H => ∃ c, v = .bl c ∧ Q (.bl (!c)) H) := by
  subst hK hm hB hP hw
  exact op_ownNe F hr bd eq hf ne ob
end
section
variable {X : Cx}
theorem ix_listK (K : PySem.W.Frag) (hK : X.K = K) : IxR X (rIxL K) := by
  subst hK
  exact ix_list
theorem ix_tupK (K : PySem.W.Frag) (hK : X.K = K) : IxR X (rIxT K) := by
  subst hK
  exact ix_tup
theorem ix_seqK (K : PySem.W.Frag) (hK : X.K = K) : IxR X (rIx K) := by
  subst hK
  exact ix_seq
theorem op_inK (K : PySem.W.Frag) (hK : X.K = K) : OpR X (compareOp .In) (rIn K false) := by
  subst hK
  exact op_in_seq
theorem op_notInK (K : PySem.W.Frag) (hK : X.K = K) : OpR X (compareOp .NotIn) (rIn K true) := by
  subst hK
  exact op_notIn_seq
theorem call_lenK (K : PySem.W.Frag) (hK : X.K = K) : CallR X (.builtin "len") (fun xs H Q => ∃ x n, xs = [x] ∧ LenV K x H n ∧ Q (.int n) H) := by
  subst hK
  exact call_len
theorem call_isiK (K : PySem.W.Frag) (hK : X.K = K) : CallR X (.builtin "isinstance") (rIsi K) := by
  subst hK
  exact call_isi
theorem sl_listK (K : PySem.W.Frag) (hK : X.K = K) : SlR X (rSlL K) := by
  subst hK
  exact sl_list
theorem sl_tupK (K : PySem.W.Frag) (hK : X.K = K) : SlR X (rSlT K) := by
  subst hK
  exact sl_tup
theorem call_listK (K : PySem.W.Frag) (hK : X.K = K) : CallR X (.type "list") (fun xs H Q => ∃ p ys, xs = [.ref p] ∧ (SqL K H p ys ∨ SqT K H p ys) ∧ ∀ l, H l = none → Q (.ref l) (upd H l (.lst ys))) := by
  subst hK
  exact call_list_of
theorem cr_allK (K : PySem.W.Frag) (hK : X.K = K) (hc : X.calm = true) : CallR X (.builtin "all") (rAll K) := by
  subst hK
  exact cr_all hc
theorem cr_anyK (K : PySem.W.Frag) (hK : X.K = K) (hc : X.calm = true) : CallR X (.builtin "any") (rAny K) := by
  subst hK
  exact cr_any hc
theorem op_eqDK (K : PySem.W.Frag) (hK : X.K = K) (hu : X.A.units + 64 < cLine) : OpR X (compareOp .Eq) (rEqD K) := by
  subst hK
  exact op_eqD hu
theorem op_neDK (K : PySem.W.Frag) (hK : X.K = K) (hu : X.A.units + 64 < cLine) : OpR X (compareOp .NotEq) (rNeD K) := by
  subst hK
  exact op_neD hu
theorem op_neNilK (K : PySem.W.Frag) (hK : X.K = K) (hu : X.A.units < cLine) : OpR X (compareOp .NotEq) (rNeNil K) := by
  subst hK
  exact op_neNil hu
theorem call_reprK (K : PySem.W.Frag) (hK : X.K = K) (hg : X.A.guards = some []) (hu : X.A.units + 64 < cLine) : CallR X (.builtin "repr") (rRepr K) := by
  subst hK
  exact call_reprD hg hu
theorem call_reprPK (K : PySem.W.Frag) (hK : X.K = K) (hg : X.A.guards = some []) (hu : X.A.units + 64 < cLine) : CallR X (.builtin "repr") (rReprP K) := by
  subst hK
  exact call_reprP hg hu
theorem pe_fldK (K : PySem.W.Frag) (hK : X.K = K) {e : Expr} {f : Str} {pos : Pos} {ta : TE} (he : PE X e ta) (hb : attributeBase e f X.env (eval e X.env) = eval e X.env) : PE X (.Attribute e f pos) (tFld K ta f) := by
  subst hK
  exact pe_fld he hb
theorem pi_listK (K : PySem.W.Frag) (hK : X.K = K) {tg l : Expr} {tl : TE} (hl : PE X l tl) : PI X tg l (iList K tl) := by
  subst hK
  exact pi_list hl
theorem pi_tupK (K : PySem.W.Frag) (hK : X.K = K) {tg l : Expr} {tl : TE} (hl : PE X l tl) : PI X tg l (iTup K tl) := by
  subst hK
  exact pi_tup hl
end
end Xby

set_option Elab.async false
set_option linter.all false
set_option maxRecDepth 100000
set_option maxHeartbeats 4000000
namespace PySem
namespace LowV
open PySem.W PySem.Calls PyProof.Rows PySem.HandSPX
/-! ### the text of __init__ -/
def iA (p1 p2 : Pos) : Arguments := { posonlyargs := [], args := [{ arg := "self", annotation := none, pos := p1 }, { arg := "value", annotation := none, pos := p2 }], vararg := none, kwonlyargs := [], kw_defaults := [], kwarg := none, defaults := [] }
def iB (q1 q2 q3 q4 : Pos) : List Stmt := [.Assign [.Attribute (.Name "self" q1) "value" q2] (.Name "value" q3) q4]
def iS : Scope := { kind := .function, names := [(PySem.Str.ofString "self", .local), (PySem.Str.ofString "value", .local)], isGenerator := false, isCoroutine := false, more := [] }
/-- what the written part says of Low, at C, and of its __init__, at fI -/
structure LowTxt (K : Frag) (mg : Str → Option Value) (cn qn : Str) (C fI : Addr) : Prop where
  gC : mg cn = some (.ref C)
  cls : ∃ nm q N bs bm sn sub ab col dd k0 k1 k2 k3 k5, K.lookup C = some (excClassObj nm q C N bs bm true sn sub ab col dd k0 k1 k2 k3 k5 "ValueError.__new__") ∧ refsVE bm = true
  sa : findIn K (.ref C) "__setattr__" = some (some (.builtin "object.__setattr__"))
  ga : findIn K (.ref C) "__getattribute__" = some (some (.builtin "BaseException.__getattribute__"))
  gg : findIn K (.ref C) "__getattr__" = some none
  noN : findIn K (.ref C) "value" = some none
  iC : findIn K (.ref C) "__init__" = some (some (.ref fI))
  tC : typeIn K (.ref fI) = some (.type "function")
  kC : keepIn K (.ref C) = true
  exC : subIn K (.ref C) (.type "BaseException") = some true
  tyC : typeIn K (.ref C) = some (.type "type")
  hdC : hasDictIn K C = true
  te : exmOne K (.ref C) (.ref C) = some true
  fn : ∃ (oc : Value) (od : Option Addr) (doc pm : Value) (an : Option Addr) (cdv ct : Value) (osl : Array (Option Value)) (p1 p2 q1 q2 q3 q4 : Pos),
    K.lookup fI = some ⟨oc, od, .func (fnOf "__init__" qn (iA p1 p2) (iB q1 q2 q3 q4) iS .none .none doc pm an cdv ct), osl⟩ ∧ codeIn K cdv qn = true
theorem one_size (v : Value) : [v].length ≤ sizeLine := by
  rw [sizeLine_eq]
  exact (by decide : 1 ≤ 16777216)
theorem kept_but {K : Frag} {h h' : Heap} {x : Addr} (X : K.In h) (hx : K.lookup x = none) (k : ∀ b o, b ≠ x → h.get? b = some o → h'.get? b = some o) : K.In h' := fun a o e =>
  k a o (fun z => by rw [z, hx] at e; cases e) (X a o e)
theorem ldC {M : Model} {s : Shared} {name : Str} {scope : Scope} {L a : Addr} {cd : Value} {m : Str → Option Value} {x : Str} {pos : Pos} {v : Value} {Q : Value → Shared → Prop} {A : Around} {E : Value → Shared → Prop} (hn : s.heap.Ns L m) (hv : m x = some v) (h : Q v s)
    (hk : scope.kind = .function := by rfl) (hl : (envOfC name scope L a cd).kindOf x = some .local := by rfl) (hd : (x == ("__debug__" : Str)) = false := by decide) :
    wpAny M A (eval (.Name x pos) (envOfC name scope L a cd)) Q E s := wpAny_Name (wpAny_loadName_local hk hl hn hv h) hd
/-- what __init__ leaves of a fresh exception at x -/
structure InitEnd (h h' : Heap) (x C dx t1 : Addr) (v : Value) : Prop where
  keep : ∀ b o, b ≠ x → h.get? b = some o → h'.get? b = some o
  obj : h'.get? x = some { cls := .ref C, dict := some dx, data := .fields #[.ref t1, .none, .none, .none, .bool false, .none] }
  dbig : h.objs.size ≤ dx
  dne : dx ≠ x
  ns : h'.Ns1 dx (fun y => if y = "value" then some v else none)
/-- a made Low -/
structure OwnMade (h h' : Heap) (e C d : Addr) (v : Value) : Prop where
  keep : ∀ b o, h.get? b = some o → h'.get? b = some o
  new : h.objs.size ≤ e
  obj : ∃ oe vs, h'.get? e = some oe ∧ oe.cls = .ref C ∧ oe.dict = some d ∧ oe.data = .fields vs ∧ vs[1]? = some .none
  dbig : h.objs.size ≤ d
  dne : d ≠ e
  ns : h'.Ns1 d (fun y => if y = "value" then some v else none)
section
variable {cn qn : Str} {prog : Program} {w : World} {A : Around} {E : Value → Shared → Prop} {R : Result → Shared → Prop} {s : Shared} {K : Frag} {mg : Str → Option Value} {C fI : Addr}
theorem low_init (T : LowTxt K mg cn qn C fI) {x t0 : Addr} {v : Value} (X : K.In s.heap) (hlim : s.heap.NoLimit) (hx : s.heap.get? x = some (excO C t0)) (hnx : K.lookup x = none) (hroom : A.depth < recursionLimit)
    (hq : ∀ h' tk dx, InitEnd s.heap h' x C dx t0 v → R (.ok (.ret .none)) { s with heap := h', toks := tk }) :
    codeAny (model prog w) A (.call (.ref fI) ⟨[.ref x, v], []⟩) R s := by
  obtain ⟨oc, od, doc, pm, an, cdv, ct, osl, p1, p2, q1, q2, q3, q4, ho, hcd⟩ := T.fn
  obtain ⟨nm, q, N, bs, bm, sn, sub, ab, col, dd, k0, k1, k2, k3, k5, hC, hbm⟩ := T.cls
  have hcl : clsIn K C = some { name := nm, bases := bs, mro := .ref C :: bm, ns := N, qualname := q, hasDict := true, slotNames := sn, subclasses := sub, abstract := ab, collection := col, hasDel := false } := by unfold clsIn; rw [hC] <;> rfl
  refine Att.call_fn (binds := [("self", .ref x), ("value", v)]) X hlim ho hcd hroom (BindsTo.of_eq (by first | rfl | with_unfolding_all rfl)) (by first | rfl | decide | with_unfolding_all rfl) (fun s₁ IC => ?_) rfl rfl rfl
  obtain ⟨h₁, tk₁, rfl⟩ := IC.toInCall.same
  have k : ∀ b o, s.heap.get? b = some o → h₁.get? b = some o := IC.toInCall.keep
  have hn := IC.toInCall.ns
  have hxL : s.heap.objs.size ≠ x := Nat.ne_of_gt (Heap.lt_size hx)
  have X₁ : K.In h₁ := X.keeps k
  have hx₁ := k _ _ hx
  -- self.value = by
  show wpAny _ _ (execs _ _) _ _ _
  refine wpAny_execs_cons (plainObj_wpAny_Assign_Attribute ?_)
  refine ldC (v := v) hn (by first | rfl | with_unfolding_all rfl | kernel_rfl) (ldC (v := .ref x) hn (by first | rfl | with_unfolding_all rfl | kernel_rfl) ?_)
  refine set_plain X₁ (ox := excO C t0) (od := none) ⟨hx₁, rfl, rfl, trivial⟩ T.sa ?_
  refine exc_osa X₁ hx₁ hcl (show refsVE (.ref C :: bm) = true from hbm) rfl T.noN (fun h₃ tk₃ dx k₃ dn dne hx₃ hn₃ => ?_)
  show wpAny _ _ (execs _ _) _ _ _
  have z : s.heap.objs.size < h₁.objs.size := hn.lt
  exact wpAny_execs_nil (hq h₃ tk₃ dx ⟨fun b o hb e => k₃ b o hb (k b o e), hx₃, Nat.le_of_lt (Nat.lt_of_lt_of_le z dn), dne, hn₃⟩)
theorem low_made (T : LowTxt K mg cn qn C fI) {v : Value} (X : K.In s.heap) (hlim : s.heap.NoLimit) (hroom : A.depth + 1 < recursionLimit)
    (hq : ∀ h' tk e d, OwnMade s.heap h' e C d v → R (.ok (.ret (.ref e))) { s with heap := h', toks := tk }) :
    codeAny (model prog w) A (.call (.ref C) ⟨[v], []⟩) R s := by
  obtain ⟨nm, q, N, bs, bm, sn, sub, ab, col, dd, k0, k1, k2, k3, k5, hC, hbm⟩ := T.cls
  obtain ⟨hp, g, dr, tk, os⟩ := s
  have k : ∀ b o, hp.get? b = some o → ((hp.push (kdv_tup [v])).push (excO C hp.objs.size)).get? b = some o := fun b o e => Heap.get?_push_of_some _ (Heap.get?_push_of_some _ e)
  have hget : ((hp.push (kdv_tup [v])).push (excO C hp.objs.size)).get? (hp.objs.size + 1) = some (excO C hp.objs.size) := by heap_get
  have hnx : K.lookup (hp.objs.size + 1) = none := by
    cases e : K.lookup (hp.objs.size + 1) with
    | none => rfl
    | some o =>
      have z : hp.get? (hp.objs.size + 1) = some o := X _ _ e
      exact absurd (Nat.lt_of_succ_lt (Heap.lt_size z)) (Nat.lt_irrefl _)
  refine call_own F.excBase_ValueError (fun X => refsVE_contains X bm hbm) (X _ _ hC) (looks_findIn X T.iC) (fun self => bind_fn X self T.tC) (one_size v) ?_
  refine low_init (s := ⟨(hp.push (kdv_tup [v])).push (excO C hp.objs.size), g, dr, tk, os⟩) T (X.keeps k) (hlim.keeps k) hget hnx ?_ fun h' tk' dx ⟨k', hx, dn, dne, hns⟩ => ?_
  · show A.depth + 1 < recursionLimit
    exact hroom
  · have old : ∀ b o, hp.get? b = some o → h'.get? b = some o := fun b o e => k' b o (Nat.ne_of_lt (Nat.lt_succ_of_lt (Heap.lt_size e))) (k b o e)
    have z : hp.objs.size + 1 + 1 ≤ dx := by
      first
        | (simpa only [Heap.size_push] using dn)
        | exact dn
        | (have q := dn; rw [Heap.size_push, Heap.size_push] at q; exact q)
    exact ⟨rfl, hq h' tk' (hp.objs.size + 1) dx ⟨old, Nat.le_succ _, ⟨_, _, hx, rfl, rfl, rfl, rfl⟩, Nat.le_trans (Nat.le_trans (Nat.le_succ _) (Nat.le_succ _)) z, dne, hns⟩⟩
end
end LowV
end PySem
namespace L2
namespace LowV
open PySem PySem.Spec PyProof.Rows
theorem relO_low {v : V} {v' : Value} (r : RelV v v') (f : Str) : RelO (List.lookup f [(("value" : Str), v)]) (if f = "value" then some v' else none) := by
  by_cases hw : f = "value"
  · subst hw
    rw [if_pos rfl]
    have q : List.lookup ("value" : Str) [(("value" : Str), v)] = some v := by simp [List.lookup]
    rw [q]
    exact r
  · rw [if_neg hw]
    have qw : (f == ("value" : Str)) = false := by simpa using hw
    have q2 : List.lookup f [(("value" : Str), v)] = none := by simp [List.lookup, qw]
    rw [q2]
    trivial
section
variable {X : Cx} {C fI : Addr} {cn qn : Str}
/-- Low(e) -/
def tMkLow (C : Addr) (ta : TA) : St → Hp → XK → Prop := fun σ H Q => ta σ H fun vs H1 => ∃ v, vs = [v] ∧ ∀ d, H1 d = none → Q (.ref C) (some d) (upd H1 d (.xd [(("value" : Str), v)]))
theorem pmk_low {a : Expr} {ta : TA} {p pos : Pos} {k : Nat} (T : PySem.LowV.LowTxt X.K X.mg cn qn C fI) (hr : Room k X.A) (ha : PA X [a] ta) (hg : Gl X cn := by rfl) (hdb : (cn == ("__debug__" : Str)) = false := by decide)
    (he : starEach (a :: []) X.env = (false, eval a X.env) :: starEach [] X.env := by rfl) (hpl : (backTo pos (starEach [] X.env)).any (·.1) = false := by rfl) :
    PMk X (.Call (.Name cn p) [a] [] pos) (tMkLow C ta) := by
  intro pins s σ H Q I h
  refine wpAny_Call_Name_kw (ld_glob I hg T.gC ?_ hdb)
  refine PySem.W.callWith_K (h₀ := X.base) I.ok.mod.kin T.kC (thn (ha.run pos pins s σ H _ I h) fun us s1 hh => ?_) he hpl
  obtain ⟨vs, H1, I1, r1, v, ev, q1⟩ := hh
  subst ev
  refine ⟨I1.kIn, ?_⟩
  cases r1 with
  | cons rv rn =>
    rename_i v' us'
    cases rn
    show wpAny _ _ (call (.ref C) [v']) _ _ _
    have hlim := I1.nolimit
    obtain ⟨hp, g, dr, tk, os⟩ := s1
    refine wpAny_call (PySem.LowV.low_made T I1.kIn hlim (by have := hr.dp; omega) fun h' tk' e d M => ?_)
    show MkP X pins σ Q (.ref e) ⟨h', g, dr, tk', os⟩
    obtain ⟨oe, fv, hoe, hc, hd, hdat, h1⟩ := M.obj
    have hns := M.ns
    obtain ⟨G', g1, g2⟩ := restrict h' fun b => decide (b ≠ e)
    have gk : ∀ b, b ≠ e → G'.get? b = h'.get? b := fun b hb => g1 b (decide_eq_true hb)
    have ge : G'.get? e = none := g2 e (by simp)
    have old : ∀ b o, hp.get? b = some o → G'.get? b = some o := fun b o q => (gk b (Nat.ne_of_lt (Nat.lt_of_lt_of_le (Heap.lt_size q) M.new))).trans (M.keep b o q)
    have ob : ObjOk X.prog X.w (upd H1 d (.xd [(("value" : Str), v)])) G' d (.xd [(("value" : Str), v)]) :=
      ⟨_, hns.at (fun o q => (gk d M.dne).trans q), fun f => relO_low rv f⟩
    have J : Inv X pins σ (upd H1 d (.xd [(("value" : Str), v)])) ⟨G', g, dr, tk', os⟩ := I1.laid (t' := tk') old M.dbig ob
    refine ⟨e, oe, fv, ⟨G', g, dr, tk', os⟩, _, .ref C, some d, rfl, J, fun b o q => ?_, ge, hoe, ⟨hc, hd⟩, hdat, h1, ?_, rfl, I1.bare, raises_own T.exC T.tyC, q1 d (I1.hok.fresh M.dbig)⟩
    · by_cases hb : b = e
      · have q' : G'.get? b = some o := q
        rw [hb, ge] at q'; cases q'
      · exact (gk b hb).symm.trans q
    · rw [upd_ne (Ne.symm M.dne)]
      exact I1.hok.fresh M.new
/-- raise Low(e) -/
def tRaiseLow (C : Addr) (W : WX) (ta : TA) : TS := fun _ σ H => tMkLow C ta σ H fun cls d H' => W cls d σ H'
theorem ps_raiseLow {a : Expr} {ta : TA} {W : WX} {p pos pos2 : Pos} {k : Nat} (hc : X.calm = true) (T : PySem.LowV.LowTxt X.K X.mg cn qn C fI) (hr : Room k X.A) (tk : Takes X W) (ha : PA X [a] ta) (hg : Gl X cn := by rfl) (hdb : (cn == ("__debug__" : Str)) = false := by decide)
    (he : starEach (a :: []) X.env = (false, eval a X.env) :: starEach [] X.env := by rfl) (hpl : (backTo pos (starEach [] X.env)).any (·.1) = false := by rfl) :
    PS X (.Raise (some (.Call (.Name cn p) [a] [] pos)) none pos2) (tRaiseLow C W ta) := ps_raise hc tk (pmk_low T hr ha hg hdb he hpl)
/-- low.by, low the exception that the suite holds (at a; its class cls, its dict d) -/
def tByLow (C : Addr) (a : Addr) (cls : Value) (d : Option Addr) (te : TE) : TE := fun σ H Q => te σ H fun x H1 => x = .ref a ∧ cls = .ref C ∧ ∃ (dd : Addr) (v : V), d = some dd ∧ H1 dd = some (.xd [(("value" : Str), v)]) ∧ Q v H1
theorem pe_byLow {a : Addr} {oe : Obj} {cls : Value} {d : Option Addr} {pn : List (Addr × Obj)} {e : Expr} {te : TE} {pos : Pos} (T : PySem.LowV.LowTxt X.K X.mg cn qn C fI) (hz : Zc cls d oe) (hf : ∃ vs, oe.data = .fields vs) (he : PE (X.suite a ((a, oe) :: pn)) e te)
    (hb : attributeBase e "value" X.env (eval e X.env) = eval e X.env := by rfl) :
    PE (X.suite a ((a, oe) :: pn)) (.Attribute e "value" pos) (tByLow C a cls d te) := by
  refine ⟨fun pins s σ H Q I h => ?_⟩
  refine attr_of hb (thn (he.run pins s σ H _ I h) fun u s1 hh => ?_)
  obtain ⟨x, H1, I1, rx, ex, ec, dd, v, ed, ea, q⟩ := hh
  subst ex
  obtain rfl : u = Value.ref a := rx
  subst ec
  subst ed
  obtain ⟨ha, _⟩ := I1.pin (a, oe) (List.mem_append_left _ List.mem_cons_self)
  obtain ⟨vs, hd⟩ := hf
  have hx : ObjOk X.prog X.w H1 s1.heap dd (.xd [(("value" : Str), v)]) := I1.hok dd _ ea
  obtain ⟨mA, hns, hr⟩ := hx
  obtain ⟨od, ho, hl⟩ := lookIn_ns hns
  have l : List.lookup ("value" : Str) [(("value" : Str), v)] = some v := by simp [List.lookup]
  obtain ⟨u, hu, ru⟩ := RelO.some_of (v := v) (o := mA "value") (by rw [← l]; exact hr "value")
  have J : PySem.W.InstAt s1.heap a oe C (some od) := ⟨ha, hz.1, by unfold PySem.W.notCls; rw [hd] <;> rfl, by rw [hz.2]; exact ho⟩
  exact HandSPX.exc_get I1.kIn J T.ga T.gg T.exC (PySem.W.findObj_own T.hdC T.noN rfl (by rw [hl, hu])) (handed_of ru) ⟨v, H1, I1.tok _, ru, q⟩
end
end LowV
end L2
namespace PySem
namespace LowL
open PySem.W PySem.Calls PyProof.Rows PySem.HandSPX
/-! ### the text of __init__ -/
def iA (p1 p2 : Pos) : Arguments := { posonlyargs := [], args := [{ arg := "self", annotation := none, pos := p1 }, { arg := "limit", annotation := none, pos := p2 }], vararg := none, kwonlyargs := [], kw_defaults := [], kwarg := none, defaults := [] }
def iB (q1 q2 q3 q4 : Pos) : List Stmt := [.Assign [.Attribute (.Name "self" q1) "limit" q2] (.Name "limit" q3) q4]
def iS : Scope := { kind := .function, names := [(PySem.Str.ofString "self", .local), (PySem.Str.ofString "limit", .local)], isGenerator := false, isCoroutine := false, more := [] }
/-- what the written part says of Low, at C, and of its __init__, at fI -/
structure LowTxt (K : Frag) (mg : Str → Option Value) (cn qn : Str) (C fI : Addr) : Prop where
  gC : mg cn = some (.ref C)
  cls : ∃ nm q N bs bm sn sub ab col dd k0 k1 k2 k3 k5, K.lookup C = some (excClassObj nm q C N bs bm true sn sub ab col dd k0 k1 k2 k3 k5 "ValueError.__new__") ∧ refsVE bm = true
  sa : findIn K (.ref C) "__setattr__" = some (some (.builtin "object.__setattr__"))
  ga : findIn K (.ref C) "__getattribute__" = some (some (.builtin "BaseException.__getattribute__"))
  gg : findIn K (.ref C) "__getattr__" = some none
  noN : findIn K (.ref C) "limit" = some none
  iC : findIn K (.ref C) "__init__" = some (some (.ref fI))
  tC : typeIn K (.ref fI) = some (.type "function")
  kC : keepIn K (.ref C) = true
  exC : subIn K (.ref C) (.type "BaseException") = some true
  tyC : typeIn K (.ref C) = some (.type "type")
  hdC : hasDictIn K C = true
  te : exmOne K (.ref C) (.ref C) = some true
  fn : ∃ (oc : Value) (od : Option Addr) (doc pm : Value) (an : Option Addr) (cdv ct : Value) (osl : Array (Option Value)) (p1 p2 q1 q2 q3 q4 : Pos),
    K.lookup fI = some ⟨oc, od, .func (fnOf "__init__" qn (iA p1 p2) (iB q1 q2 q3 q4) iS .none .none doc pm an cdv ct), osl⟩ ∧ codeIn K cdv qn = true
theorem one_size (v : Value) : [v].length ≤ sizeLine := by
  rw [sizeLine_eq]
  exact (by decide : 1 ≤ 16777216)
theorem kept_but {K : Frag} {h h' : Heap} {x : Addr} (X : K.In h) (hx : K.lookup x = none) (k : ∀ b o, b ≠ x → h.get? b = some o → h'.get? b = some o) : K.In h' := fun a o e =>
  k a o (fun z => by rw [z, hx] at e; cases e) (X a o e)
theorem ldC {M : Model} {s : Shared} {name : Str} {scope : Scope} {L a : Addr} {cd : Value} {m : Str → Option Value} {x : Str} {pos : Pos} {v : Value} {Q : Value → Shared → Prop} {A : Around} {E : Value → Shared → Prop} (hn : s.heap.Ns L m) (hv : m x = some v) (h : Q v s)
    (hk : scope.kind = .function := by rfl) (hl : (envOfC name scope L a cd).kindOf x = some .local := by rfl) (hd : (x == ("__debug__" : Str)) = false := by decide) :
    wpAny M A (eval (.Name x pos) (envOfC name scope L a cd)) Q E s := wpAny_Name (wpAny_loadName_local hk hl hn hv h) hd
/-- what __init__ leaves of a fresh exception at x -/
structure InitEnd (h h' : Heap) (x C dx t1 : Addr) (v : Value) : Prop where
  keep : ∀ b o, b ≠ x → h.get? b = some o → h'.get? b = some o
  obj : h'.get? x = some { cls := .ref C, dict := some dx, data := .fields #[.ref t1, .none, .none, .none, .bool false, .none] }
  dbig : h.objs.size ≤ dx
  dne : dx ≠ x
  ns : h'.Ns1 dx (fun y => if y = "limit" then some v else none)
/-- a made Low -/
structure OwnMade (h h' : Heap) (e C d : Addr) (v : Value) : Prop where
  keep : ∀ b o, h.get? b = some o → h'.get? b = some o
  new : h.objs.size ≤ e
  obj : ∃ oe vs, h'.get? e = some oe ∧ oe.cls = .ref C ∧ oe.dict = some d ∧ oe.data = .fields vs ∧ vs[1]? = some .none
  dbig : h.objs.size ≤ d
  dne : d ≠ e
  ns : h'.Ns1 d (fun y => if y = "limit" then some v else none)
section
variable {cn qn : Str} {prog : Program} {w : World} {A : Around} {E : Value → Shared → Prop} {R : Result → Shared → Prop} {s : Shared} {K : Frag} {mg : Str → Option Value} {C fI : Addr}
theorem low_init (T : LowTxt K mg cn qn C fI) {x t0 : Addr} {v : Value} (X : K.In s.heap) (hlim : s.heap.NoLimit) (hx : s.heap.get? x = some (excO C t0)) (hnx : K.lookup x = none) (hroom : A.depth < recursionLimit)
    (hq : ∀ h' tk dx, InitEnd s.heap h' x C dx t0 v → R (.ok (.ret .none)) { s with heap := h', toks := tk }) :
    codeAny (model prog w) A (.call (.ref fI) ⟨[.ref x, v], []⟩) R s := by
  obtain ⟨oc, od, doc, pm, an, cdv, ct, osl, p1, p2, q1, q2, q3, q4, ho, hcd⟩ := T.fn
  obtain ⟨nm, q, N, bs, bm, sn, sub, ab, col, dd, k0, k1, k2, k3, k5, hC, hbm⟩ := T.cls
  have hcl : clsIn K C = some { name := nm, bases := bs, mro := .ref C :: bm, ns := N, qualname := q, hasDict := true, slotNames := sn, subclasses := sub, abstract := ab, collection := col, hasDel := false } := by unfold clsIn; rw [hC] <;> rfl
  refine Att.call_fn (binds := [("self", .ref x), ("limit", v)]) X hlim ho hcd hroom (BindsTo.of_eq (by first | rfl | with_unfolding_all rfl)) (by first | rfl | decide | with_unfolding_all rfl) (fun s₁ IC => ?_) rfl rfl rfl
  obtain ⟨h₁, tk₁, rfl⟩ := IC.toInCall.same
  have k : ∀ b o, s.heap.get? b = some o → h₁.get? b = some o := IC.toInCall.keep
  have hn := IC.toInCall.ns
  have hxL : s.heap.objs.size ≠ x := Nat.ne_of_gt (Heap.lt_size hx)
  have X₁ : K.In h₁ := X.keeps k
  have hx₁ := k _ _ hx
  -- self.limit = by
  show wpAny _ _ (execs _ _) _ _ _
  refine wpAny_execs_cons (plainObj_wpAny_Assign_Attribute ?_)
  refine ldC (v := v) hn (by first | rfl | with_unfolding_all rfl | kernel_rfl) (ldC (v := .ref x) hn (by first | rfl | with_unfolding_all rfl | kernel_rfl) ?_)
  refine set_plain X₁ (ox := excO C t0) (od := none) ⟨hx₁, rfl, rfl, trivial⟩ T.sa ?_
  refine exc_osa X₁ hx₁ hcl (show refsVE (.ref C :: bm) = true from hbm) rfl T.noN (fun h₃ tk₃ dx k₃ dn dne hx₃ hn₃ => ?_)
  show wpAny _ _ (execs _ _) _ _ _
  have z : s.heap.objs.size < h₁.objs.size := hn.lt
  exact wpAny_execs_nil (hq h₃ tk₃ dx ⟨fun b o hb e => k₃ b o hb (k b o e), hx₃, Nat.le_of_lt (Nat.lt_of_lt_of_le z dn), dne, hn₃⟩)
theorem low_made (T : LowTxt K mg cn qn C fI) {v : Value} (X : K.In s.heap) (hlim : s.heap.NoLimit) (hroom : A.depth + 1 < recursionLimit)
    (hq : ∀ h' tk e d, OwnMade s.heap h' e C d v → R (.ok (.ret (.ref e))) { s with heap := h', toks := tk }) :
    codeAny (model prog w) A (.call (.ref C) ⟨[v], []⟩) R s := by
  obtain ⟨nm, q, N, bs, bm, sn, sub, ab, col, dd, k0, k1, k2, k3, k5, hC, hbm⟩ := T.cls
  obtain ⟨hp, g, dr, tk, os⟩ := s
  have k : ∀ b o, hp.get? b = some o → ((hp.push (kdv_tup [v])).push (excO C hp.objs.size)).get? b = some o := fun b o e => Heap.get?_push_of_some _ (Heap.get?_push_of_some _ e)
  have hget : ((hp.push (kdv_tup [v])).push (excO C hp.objs.size)).get? (hp.objs.size + 1) = some (excO C hp.objs.size) := by heap_get
  have hnx : K.lookup (hp.objs.size + 1) = none := by
    cases e : K.lookup (hp.objs.size + 1) with
    | none => rfl
    | some o =>
      have z : hp.get? (hp.objs.size + 1) = some o := X _ _ e
      exact absurd (Nat.lt_of_succ_lt (Heap.lt_size z)) (Nat.lt_irrefl _)
  refine call_own F.excBase_ValueError (fun X => refsVE_contains X bm hbm) (X _ _ hC) (looks_findIn X T.iC) (fun self => bind_fn X self T.tC) (one_size v) ?_
  refine low_init (s := ⟨(hp.push (kdv_tup [v])).push (excO C hp.objs.size), g, dr, tk, os⟩) T (X.keeps k) (hlim.keeps k) hget hnx ?_ fun h' tk' dx ⟨k', hx, dn, dne, hns⟩ => ?_
  · show A.depth + 1 < recursionLimit
    exact hroom
  · have old : ∀ b o, hp.get? b = some o → h'.get? b = some o := fun b o e => k' b o (Nat.ne_of_lt (Nat.lt_succ_of_lt (Heap.lt_size e))) (k b o e)
    have z : hp.objs.size + 1 + 1 ≤ dx := by
      first
        | (simpa only [Heap.size_push] using dn)
        | exact dn
        | (have q := dn; rw [Heap.size_push, Heap.size_push] at q; exact q)
    exact ⟨rfl, hq h' tk' (hp.objs.size + 1) dx ⟨old, Nat.le_succ _, ⟨_, _, hx, rfl, rfl, rfl, rfl⟩, Nat.le_trans (Nat.le_trans (Nat.le_succ _) (Nat.le_succ _)) z, dne, hns⟩⟩
end
end LowL
end PySem
namespace L2
namespace LowL
open PySem PySem.Spec PyProof.Rows
theorem relO_low {v : V} {v' : Value} (r : RelV v v') (f : Str) : RelO (List.lookup f [(("limit" : Str), v)]) (if f = "limit" then some v' else none) := by
  by_cases hw : f = "limit"
  · subst hw
    rw [if_pos rfl]
    have q : List.lookup ("limit" : Str) [(("limit" : Str), v)] = some v := by simp [List.lookup]
    rw [q]
    exact r
  · rw [if_neg hw]
    have qw : (f == ("limit" : Str)) = false := by simpa using hw
    have q2 : List.lookup f [(("limit" : Str), v)] = none := by simp [List.lookup, qw]
    rw [q2]
    trivial
section
variable {X : Cx} {C fI : Addr} {cn qn : Str}
/-- Low(e) -/
def tMkLow (C : Addr) (ta : TA) : St → Hp → XK → Prop := fun σ H Q => ta σ H fun vs H1 => ∃ v, vs = [v] ∧ ∀ d, H1 d = none → Q (.ref C) (some d) (upd H1 d (.xd [(("limit" : Str), v)]))
theorem pmk_low {a : Expr} {ta : TA} {p pos : Pos} {k : Nat} (T : PySem.LowL.LowTxt X.K X.mg cn qn C fI) (hr : Room k X.A) (ha : PA X [a] ta) (hg : Gl X cn := by rfl) (hdb : (cn == ("__debug__" : Str)) = false := by decide)
    (he : starEach (a :: []) X.env = (false, eval a X.env) :: starEach [] X.env := by rfl) (hpl : (backTo pos (starEach [] X.env)).any (·.1) = false := by rfl) :
    PMk X (.Call (.Name cn p) [a] [] pos) (tMkLow C ta) := by
  intro pins s σ H Q I h
  refine wpAny_Call_Name_kw (ld_glob I hg T.gC ?_ hdb)
  refine PySem.W.callWith_K (h₀ := X.base) I.ok.mod.kin T.kC (thn (ha.run pos pins s σ H _ I h) fun us s1 hh => ?_) he hpl
  obtain ⟨vs, H1, I1, r1, v, ev, q1⟩ := hh
  subst ev
  refine ⟨I1.kIn, ?_⟩
  cases r1 with
  | cons rv rn =>
    rename_i v' us'
    cases rn
    show wpAny _ _ (call (.ref C) [v']) _ _ _
    have hlim := I1.nolimit
    obtain ⟨hp, g, dr, tk, os⟩ := s1
    refine wpAny_call (PySem.LowL.low_made T I1.kIn hlim (by have := hr.dp; omega) fun h' tk' e d M => ?_)
    show MkP X pins σ Q (.ref e) ⟨h', g, dr, tk', os⟩
    obtain ⟨oe, fv, hoe, hc, hd, hdat, h1⟩ := M.obj
    have hns := M.ns
    obtain ⟨G', g1, g2⟩ := restrict h' fun b => decide (b ≠ e)
    have gk : ∀ b, b ≠ e → G'.get? b = h'.get? b := fun b hb => g1 b (decide_eq_true hb)
    have ge : G'.get? e = none := g2 e (by simp)
    have old : ∀ b o, hp.get? b = some o → G'.get? b = some o := fun b o q => (gk b (Nat.ne_of_lt (Nat.lt_of_lt_of_le (Heap.lt_size q) M.new))).trans (M.keep b o q)
    have ob : ObjOk X.prog X.w (upd H1 d (.xd [(("limit" : Str), v)])) G' d (.xd [(("limit" : Str), v)]) :=
      ⟨_, hns.at (fun o q => (gk d M.dne).trans q), fun f => relO_low rv f⟩
    have J : Inv X pins σ (upd H1 d (.xd [(("limit" : Str), v)])) ⟨G', g, dr, tk', os⟩ := I1.laid (t' := tk') old M.dbig ob
    refine ⟨e, oe, fv, ⟨G', g, dr, tk', os⟩, _, .ref C, some d, rfl, J, fun b o q => ?_, ge, hoe, ⟨hc, hd⟩, hdat, h1, ?_, rfl, I1.bare, raises_own T.exC T.tyC, q1 d (I1.hok.fresh M.dbig)⟩
    · by_cases hb : b = e
      · have q' : G'.get? b = some o := q
        rw [hb, ge] at q'; cases q'
      · exact (gk b hb).symm.trans q
    · rw [upd_ne (Ne.symm M.dne)]
      exact I1.hok.fresh M.new
/-- raise Low(e) -/
def tRaiseLow (C : Addr) (W : WX) (ta : TA) : TS := fun _ σ H => tMkLow C ta σ H fun cls d H' => W cls d σ H'
theorem ps_raiseLow {a : Expr} {ta : TA} {W : WX} {p pos pos2 : Pos} {k : Nat} (hc : X.calm = true) (T : PySem.LowL.LowTxt X.K X.mg cn qn C fI) (hr : Room k X.A) (tk : Takes X W) (ha : PA X [a] ta) (hg : Gl X cn := by rfl) (hdb : (cn == ("__debug__" : Str)) = false := by decide)
    (he : starEach (a :: []) X.env = (false, eval a X.env) :: starEach [] X.env := by rfl) (hpl : (backTo pos (starEach [] X.env)).any (·.1) = false := by rfl) :
    PS X (.Raise (some (.Call (.Name cn p) [a] [] pos)) none pos2) (tRaiseLow C W ta) := ps_raise hc tk (pmk_low T hr ha hg hdb he hpl)
/-- low.by, low the exception that the suite holds (at a; its class cls, its dict d) -/
def tByLow (C : Addr) (a : Addr) (cls : Value) (d : Option Addr) (te : TE) : TE := fun σ H Q => te σ H fun x H1 => x = .ref a ∧ cls = .ref C ∧ ∃ (dd : Addr) (v : V), d = some dd ∧ H1 dd = some (.xd [(("limit" : Str), v)]) ∧ Q v H1
theorem pe_byLow {a : Addr} {oe : Obj} {cls : Value} {d : Option Addr} {pn : List (Addr × Obj)} {e : Expr} {te : TE} {pos : Pos} (T : PySem.LowL.LowTxt X.K X.mg cn qn C fI) (hz : Zc cls d oe) (hf : ∃ vs, oe.data = .fields vs) (he : PE (X.suite a ((a, oe) :: pn)) e te)
    (hb : attributeBase e "limit" X.env (eval e X.env) = eval e X.env := by rfl) :
    PE (X.suite a ((a, oe) :: pn)) (.Attribute e "limit" pos) (tByLow C a cls d te) := by
  refine ⟨fun pins s σ H Q I h => ?_⟩
  refine attr_of hb (thn (he.run pins s σ H _ I h) fun u s1 hh => ?_)
  obtain ⟨x, H1, I1, rx, ex, ec, dd, v, ed, ea, q⟩ := hh
  subst ex
  obtain rfl : u = Value.ref a := rx
  subst ec
  subst ed
  obtain ⟨ha, _⟩ := I1.pin (a, oe) (List.mem_append_left _ List.mem_cons_self)
  obtain ⟨vs, hd⟩ := hf
  have hx : ObjOk X.prog X.w H1 s1.heap dd (.xd [(("limit" : Str), v)]) := I1.hok dd _ ea
  obtain ⟨mA, hns, hr⟩ := hx
  obtain ⟨od, ho, hl⟩ := lookIn_ns hns
  have l : List.lookup ("limit" : Str) [(("limit" : Str), v)] = some v := by simp [List.lookup]
  obtain ⟨u, hu, ru⟩ := RelO.some_of (v := v) (o := mA "limit") (by rw [← l]; exact hr "limit")
  have J : PySem.W.InstAt s1.heap a oe C (some od) := ⟨ha, hz.1, by unfold PySem.W.notCls; rw [hd] <;> rfl, by rw [hz.2]; exact ho⟩
  exact HandSPX.exc_get I1.kIn J T.ga T.gg T.exC (PySem.W.findObj_own T.hdC T.noN rfl (by rw [hl, hu])) (handed_of ru) ⟨v, H1, I1.tok _, ru, q⟩
end
end LowL
end L2
set_option Elab.async false
set_option linter.all false
set_option maxRecDepth 100000
set_option maxHeartbeats 4000000
/-! # callees in one word; kinds of data; the drawer's words -/
namespace Xby
open PySem L2
structure Ca (P : Program) (w : World) (K : PySem.W.Frag) (mg : Str → Option Value) (base : Heap) (CX : CXT) (x : Str) (k : Nat) (ps : List Str) (sp : Sp) (f : Addr) (fd : FuncData) : Prop where
  G : FnOk P w K mg base CX k f fd ps sp
  g : mg x = some (.ref f)
  k : PySem.W.keepIn K (.ref f) = true
  B : Binds K fd ps []
/-- what a value is to is_integer_within and its like -/
def okV (lo hi : Int) : V → Bool
  | .int i => decide (lo ≤ i ∧ i ≤ hi)
  | _ => false
theorem Dq.kind {K : PySem.W.Frag} {H : Hp} {v : V} {d : PyData} (h : Dq K H v d) :
    (∃ b, v = .bl b) ∨ (∃ i, v = .int i) ∨ ∃ T : String, TyX K H v (.type T) ∧ (kitB T "bool" = some false ∧ kitB T "int" = some false) ∧ ∀ lo hi, okV lo hi v = false := by
  cases h with
  | non => exact .inr (.inr ⟨_, .base .non, ⟨by decide +kernel, by decide +kernel⟩, fun _ _ => rfl⟩)
  | bl b => exact .inl ⟨b, rfl⟩
  | int i => exact .inr (.inl ⟨i, rfl⟩)
  | str x => exact .inr (.inr ⟨_, .base (.str x), ⟨by decide +kernel, by decide +kernel⟩, fun _ _ => rfl⟩)
  | lst hs _ _ =>
    refine .inr (.inr ⟨"list", ?_, ⟨by decide +kernel, by decide +kernel⟩, fun _ _ => rfl⟩)
    exact .base (.lst hs)
  | tup hs _ =>
    refine .inr (.inr ⟨"tuple", ?_, ⟨by decide +kernel, by decide +kernel⟩, fun _ _ => rfl⟩)
    rcases hs with (hs | ⟨o, hs⟩) | ⟨o, _, _, hk, hc, _⟩
    · exact .base (.tup hs)
    · exact .fTuple hs
    · exact .kTuple hk hc
  | dct hs _ => exact .inr (.inr ⟨"dict", .base (.dK hs), ⟨by decide +kernel, by decide +kernel⟩, fun _ _ => rfl⟩)
theorem kit_bb : kitB "bool" "bool" = some true := by decide +kernel
theorem kit_ib : kitB "int" "bool" = some false := by decide +kernel
theorem kit_ii : kitB "int" "int" = some true := by decide +kernel
theorem kit_bi : kitB "bool" "int" = some true := by decide +kernel
/-! ## the drawer -/
def Pot (H : Hp) (p : Addr) (n : Nat) : Prop := ∃ a m c : Int, H p = some (.lst [.int a, .int m, .int c]) ∧ (0 ≤ a ∧ a.natAbs < 2 ^ 1000) ∧ (0 ≤ m ∧ m < 2305843009213693921) ∧ (0 ≤ c ∧ c ≤ n)
theorem Pot.more {H : Hp} {p : Addr} {n m : Nat} (h : Pot H p n) (l : n ≤ m) : Pot H p m := by
  obtain ⟨a, b, c, e, h1, h2, h3, h4⟩ := h
  exact ⟨a, b, c, e, h1, h2, h3, by omega⟩
/-- all but p is as it was -/
def But (p : Addr) (H H' : Hp) : Prop := ∀ b o, b ≠ p → H b = some o → H' b = some o
theorem But.refl (p : Addr) (H : Hp) : But p H H := fun _ _ _ e => e
theorem But.trans {p : Addr} {H H1 H2 : Hp} (a : But p H H1) (b : But p H1 H2) : But p H H2 := fun c o n e => b c o n (a c o n e)
theorem But.of {p : Addr} {H H' : Hp} (a : Same H H') : But p H H' := fun c o _ e => a c o e
theorem But.upd {p : Addr} {H H' : Hp} {o : HO} (a : But p H H') : But p H (upd H' p o) := fun c u n e => by rw [upd_ne n]; exact a c u n e
theorem Same.upd {H H' : Hp} {p : Addr} {o : HO} (a : Same H H') (n : H' p = none) : Same H (upd H' p o) := fun c u e => by
  have e' := a c u e
  rw [upd_ne (ne_of_none e' n)]
  exact e'
theorem But.new {q : Addr} {H H' : Hp} {p : Addr} {o : HO} (a : But q H H') (n : H' p = none) : But q H (L2.upd H' p o) := fun c u m e => by
  have e' := a c u m e
  rw [upd_ne (ne_of_none e' n)]
  exact e'
def spDraw : Sp := fun vs H Q _ => ∃ (p : Addr) (many : Int) (n : Nat), vs = [.ref p, .int many] ∧ (0 < many ∧ many < 1000) ∧ n ≤ 1000000 ∧ Pot H p n ∧
  ∀ r H', 0 ≤ r → r < many → Pot H' p (n + 1) → But p H H' → Q (.int r) H'
/-- an item of the list -/
def spAny : Sp := fun vs H Q _ => ∃ (p l : Addr) (xs : List V) (n : Nat), vs = [.ref p, .ref l] ∧ H l = some (.lst xs) ∧ l ≠ p ∧ (0 < xs.length ∧ xs.length < 1000) ∧ n ≤ 1000000 ∧ Pot H p n ∧
  ∀ x H', x ∈ xs → Pot H' p (n + 1) → But p H H' → Q x H'
/-- the drawer of a cell -/
def spPot (K : PySem.W.Frag) : Sp := fun vs H Q _ => ∃ (a : Addr) (ns : List Int) (k : Int), vs = [.ref a, .int k] ∧ SqL K H a (ns.map V.int) ∧ ns.length ≤ 63 ∧ (0 ≤ k ∧ k < 3) ∧
  ∀ p H', H p = none → Same H H' → Pot H' p 0 → Q (.ref p) H'
theorem Pot.ne {H : Hp} {p l : Addr} {n : Nat} (h : Pot H p n) (nl : H l = none) : p ≠ l := by
  obtain ⟨_, _, _, e, _⟩ := h
  exact ne_of_none e nl
theorem Pot.upd {H : Hp} {p l : Addr} {n : Nat} {o : HO} (h : Pot H p n) (ne : p ≠ l) : Pot (upd H l o) p n := by
  obtain ⟨a, m, c, e, r⟩ := h
  exact ⟨a, m, c, by rw [upd_ne ne]; exact e, r⟩
theorem Pot.new {H : Hp} {p l : Addr} {n : Nat} {o : HO} (h : Pot H p n) (nl : H l = none) : Pot (L2.upd H l o) p n := h.upd (h.ne nl)
theorem Pot.same {H H' : Hp} {p : Addr} {n : Nat} (h : Pot H p n) (s : Same H H') : Pot H' p n := by
  obtain ⟨a, m, c, e, r⟩ := h
  exact ⟨a, m, c, s _ _ e, r⟩
theorem But.updN {H H' : Hp} {p D : Addr} {o : HO} (b : But p H H') (n : H D = none) : But p H (L2.upd H' D o) := fun c u m e => by
  rw [upd_ne (ne_of_none e n)]
  exact b c u m e
theorem Same.updN {H H' : Hp} {D : Addr} {o : HO} (b : Same H H') (n : H D = none) : Same H (L2.upd H' D o) := fun c u e => by
  rw [upd_ne (ne_of_none e n)]
  exact b c u e
theorem Same.both {G H : Hp} {t : Addr} {o : HO} (s : Same G H) : Same (L2.upd G t o) (L2.upd H t o) := fun c u e => by
  by_cases h : c = t
  · subst h
    rw [upd_same] at e ⊢
    exact e
  · rw [upd_ne h] at e ⊢
    exact s c u e
theorem Same.but {G H H' : Hp} {p : Addr} (s : Same G H) (b : But p H H') (n : G p = none) : Same G H' := fun c u e => b c u (ne_of_none e n) (s c u e)
theorem But.same {p : Addr} {H H1 H2 : Hp} (a : But p H H1) (s : Same H1 H2) : But p H H2 := a.trans (But.of s)
theorem Same.one {H : Hp} {l : Addr} {o : HO} (n : H l = none) : Same H (L2.upd H l o) := Same.upd (Same.refl H) n
theorem Dq.list {K : PySem.W.Frag} {H : Hp} : ∀ {vs : List V}, (∀ v ∈ vs, ∃ d, Dq K H v d) → ∃ ds, DqAll K H vs ds
  | [], _ => ⟨[], .nil⟩
  | v :: vs, h => by
    obtain ⟨d, hd⟩ := h v (List.mem_cons_self ..)
    obtain ⟨ds, hds⟩ := Dq.list (vs := vs) fun u hu => h u (List.mem_cons_of_mem _ hu)
    exact ⟨d :: ds, .cons hd hds⟩
/-! ## small data -/
structure Sz (w k : Nat) (d : PyData) : Prop where
  lv : d.leavesShort 40 = true
  wt : d.weight ≤ w
  dp : d.depth ≤ k
  sh : d.showable = true
instance (w k : Nat) (d : PyData) : Decidable (Sz w k d) :=
  if h : d.leavesShort 40 = true ∧ d.weight ≤ w ∧ d.depth ≤ k ∧ d.showable = true then isTrue ⟨h.1, h.2.1, h.2.2.1, h.2.2.2⟩ else isFalse fun z => h ⟨z.lv, z.wt, z.dp, z.sh⟩
theorem Sz.more {w w' k k' : Nat} {d : PyData} (h : Sz w k d) (hw : w ≤ w') (hk : k ≤ k') : Sz w' k' d := ⟨h.lv, Nat.le_trans h.wt hw, Nat.le_trans h.dp hk, h.sh⟩
theorem Sz.fine {w k : Nat} {d : PyData} (h : Sz w k d) (hw : w ≤ 200000) (hk : k ≤ 60) : Fine d := by
  refine ⟨h.sh, ?_, Nat.le_trans h.dp hk⟩
  have a := PyData.shown_le 40 (by decide) d h.lv
  have b : (40 + 2) * d.weight ≤ (40 + 2) * 200000 := Nat.mul_le_mul_left _ (Nat.le_trans h.wt hw)
  rw [sizeLine_eq]
  omega
theorem Sz.all {w k : Nat} : ∀ {ds : List PyData}, (∀ d ∈ ds, Sz w k d) → PyData.leavesShortAll 40 ds = true ∧ PyData.weightAll ds ≤ (w + 1) * ds.length ∧ PyData.depthAll ds ≤ k ∧ PyData.showableAll ds = true
  | [], _ => ⟨rfl, Nat.zero_le _, Nat.zero_le _, rfl⟩
  | d :: ds, h => by
    have a := h d (List.mem_cons_self ..)
    obtain ⟨b1, b2, b3, b4⟩ := Sz.all (ds := ds) fun e he => h e (List.mem_cons_of_mem _ he)
    refine ⟨?_, ?_, ?_, ?_⟩
    · simp only [PyData.leavesShortAll, a.lv, b1, Bool.and_self]
    · simp only [PyData.weightAll, List.length_cons, Nat.mul_add, Nat.mul_one]
      have := a.wt
      omega
    · simp only [PyData.depthAll]
      exact Nat.max_le.mpr ⟨a.dp, b3⟩
    · simp only [PyData.showableAll, a.sh, b4, Bool.and_self]
theorem Sz.list {w k : Nat} {ds : List PyData} (h : ∀ d ∈ ds, Sz w k d) : Sz ((w + 1) * ds.length) (k + 1) (.list ds) := by
  obtain ⟨a, b, c, d⟩ := Sz.all h
  exact ⟨by simpa only [PyData.leavesShort] using a, by simpa only [PyData.weight] using b, by simp only [PyData.depth]; omega, by simpa only [PyData.showable] using d⟩
theorem Sz.tup {w k : Nat} {ds : List PyData} (h : ∀ d ∈ ds, Sz w k d) : Sz ((w + 1) * ds.length) (k + 1) (.tuple ds) := by
  obtain ⟨a, b, c, d⟩ := Sz.all h
  exact ⟨by simpa only [PyData.leavesShort] using a, by simpa only [PyData.weight] using b, by simp only [PyData.depth]; omega, by simpa only [PyData.showable] using d⟩
theorem small50 : ∀ m : Nat, m < 51 → Sz 40 0 (.int m) := by decide +kernel
theorem Sz.int50 {m : Int} (h0 : 0 ≤ m) (h1 : m ≤ 50) : Sz 40 0 (.int m) := by
  obtain ⟨n, rfl⟩ := Int.eq_ofNat_of_zero_le h0
  exact small50 n (by omega)
/-- values that stand in the fixed part G, with small data -/
def Gd (K : PySem.W.Frag) (w k : Nat) (G : Hp) (v : V) : Prop := ∃ d, Dq K G v d ∧ Sz w k d
theorem Gd.same {K : PySem.W.Frag} {w k : Nat} {G G' : Hp} {v : V} (s : Same G G') (h : Gd K w k G v) : Gd K w k G' v := by
  obtain ⟨d, a, b⟩ := h
  exact ⟨d, a.same s, b⟩
theorem Gd.list {K : PySem.W.Frag} {w k : Nat} {G : Hp} : ∀ {vs : List V}, (∀ v ∈ vs, Gd K w k G v) → ∃ ds, DqAll K G vs ds ∧ (∀ d ∈ ds, Sz w k d) ∧ ds.length = vs.length
  | [], _ => ⟨[], .nil, by simp, rfl⟩
  | v :: vs, h => by
    obtain ⟨d, hd, sd⟩ := h v (List.mem_cons_self ..)
    obtain ⟨ds, hds, sds, l⟩ := Gd.list (vs := vs) fun u hu => h u (List.mem_cons_of_mem _ hu)
    refine ⟨d :: ds, .cons hd hds, fun e he => ?_, by simp [l]⟩
    rcases List.mem_cons.mp he with rfl | he
    · exact sd
    · exact sds e he
/-! ## classes -/
theorem kit_own {K : PySem.W.Frag} {C : Addr} {T : String} {b : Bool} (ic : PySem.W.isClsIn K C = true) (ty : PySem.W.typeIn K (.ref C) = some (.type "type")) (sb : PySem.W.subIn K (.type T) (.ref C) = some b) : PySem.W.kitOne K (.type T) (.ref C) = some b := by
  have ic' : (PySem.W.clsIn K C).isSome = true := ic
  unfold PySem.W.kitOne PySem.W.kitCls
  rw [if_neg (by simp)]
  simp only [ic', ty]
  exact sb
theorem nf_own {K : PySem.W.Frag} {C : Addr} {T : String} (sb : PySem.W.subIn K (.type T) (.ref C) = some false) : PySem.W.notFirst K C (.type T) = true := by
  unfold PySem.W.notFirst
  rw [sb]
  simp
theorem exm_of {K : PySem.W.Frag} {A B : Addr} {b : Bool} (ex : PySem.W.subIn K (.ref B) (.type "BaseException") = some true) (ic : PySem.W.isClsIn K B = true) (ty : PySem.W.typeIn K (.ref B) = some (.type "type")) (sb : PySem.W.subIn K (.ref A) (.ref B) = some b) :
    PySem.W.exmOne K (.ref A) (.ref B) = some b := by
  have ic' : (PySem.W.clsIn K B).isSome = true := ic
  unfold PySem.W.exmOne PySem.W.kitCls
  rw [ex]
  simp only [ic', ty]
  exact sb
end Xby

set_option Elab.async false
set_option linter.all false
set_option maxRecDepth 100000
set_option maxHeartbeats 4000000
/-! # len(set(t)), t a tuple of any texts -/
namespace Xby
open PySem PySem.Spec PyProof.Rows
/-- how many different ones stand among the first i -/
def news (ys : List Str) : Nat → Nat
  | 0 => 0
  | i + 1 => if (ys.take i).any (· == ys.getD i Str.empty) then news ys i else news ys i + 1
theorem news_le (ys : List Str) : ∀ i, news ys i ≤ i
  | 0 => Nat.le_refl _
  | i + 1 => by
    have := news_le ys i
    unfold news
    split <;> omega
theorem news_all {ys : List Str} : ∀ {i : Nat}, i ≤ ys.length → (news ys i = i ↔ (ys.take i).Nodup)
  | 0, _ => by simp [news]
  | i + 1, h => by
    have hi : i < ys.length := h
    have ih := news_all (ys := ys) (i := i) (by omega)
    have le := news_le ys i
    have e1 : ys.getD i Str.empty = ys[i] := by simp [hi]
    have e2 : ys.take (i + 1) = ys.take i ++ [ys[i]] := by rw [List.take_succ, List.getElem?_eq_getElem hi]; rfl
    rw [e2, List.nodup_append]
    unfold news
    rw [e1]
    by_cases c : (ys.take i).any (· == ys[i]) = true
    · rw [if_pos c]
      obtain ⟨y, hy, he⟩ := List.any_eq_true.mp c
      obtain rfl : y = ys[i] := by simpa using he
      refine ⟨fun z => by omega, fun z => ?_⟩
      exact absurd rfl (z.2.2 _ hy _ (by simp))
    · rw [if_neg c]
      refine ⟨fun z => ⟨ih.mp (by omega), by simp, fun a ha b hb => ?_⟩, fun z => by rw [ih.mpr z.1]⟩
      obtain rfl : b = ys[i] := by simpa using hb
      intro q
      exact c (List.any_eq_true.mpr ⟨a, ha, by simpa using q⟩)
section
variable {prog : Program} {w : World} {A : Around} {R : Result → Shared → Prop} {it : Addr} {fp wr : List Addr} {G : Array GenState → Array GenState → Prop} {n : Nat} {P : Nat → Value → Prop} {St : Nat → Shared → Prop}
theorem fillTexts (W : WalksS prog w A.in1 it fp wr G n P St) (c : Addr) (nc : c ∉ fp) (ys : List Str) (len : ys.length = n) (few : n + 1 < scanBound) (its : ∀ i v, P i v → ∃ t, v = .str (ys.getD i Str.empty) t) :
    ∀ (m i : Nat) (s : Shared), n - i = m → i ≤ n → St i s → s.heap.SetOf (strKind prog w) c (fun y => (ys.take i).any (· == y)) (news ys i) →
      (∀ s1, Moved (c :: wr) G s s1 → s1.heap.SetOf (strKind prog w) c (fun y => (ys.take n).any (· == y)) (news ys n) → R (.ok (.ret .none)) s1) →
      codeAny (model prog w) A (.builtin "set.update.loop" ⟨[.ref c, .ref it], []⟩) R s := by
  have ncw : c ∉ wr := fun z => nc (W.sub _ z)
  have more : ∀ b ∈ wr, b ∈ c :: wr := fun b => List.mem_cons_of_mem _
  have kept : ∀ {s s1 : Shared} {T : Str → Bool} {k : Nat}, Moved wr G s s1 → s.heap.SetOf (strKind prog w) c T k → s1.heap.SetOf (strKind prog w) c T k := by
    rintro s s1 T k mv ⟨o, es, ep, t, g, rest⟩
    exact ⟨o, es, ep, t, mv.heap c _ ncw g, rest⟩
  intro m
  induction m with
  | zero =>
    intro i s hm hi st so fin
    obtain rfl : i = n := by omega
    refine codeAny_builtin F.entry_set_update_loop ?_
    rw [Around.under_plainId F.plain_set_update_loop _]
    change wpAny _ A.in1 (pyNext (.ref it) >>= _) _ _ s
    refine wpAny_bind (W.done s _ _ st fun s1 mv => ?_)
    change wpAny _ A.in1 (ret Value.none) _ _ s1
    exact wpAny_pure (fin s1 (mv.mono more) (kept mv so))
  | succ m ih =>
    intro i s hm hi st so fin
    have lt : i < n := by omega
    refine codeAny_builtin F.entry_set_update_loop ?_
    rw [Around.under_plainId F.plain_set_update_loop _]
    change wpAny _ A.in1 (pyNext (.ref it) >>= _) _ _ s
    refine wpAny_bind (W.item i s _ _ lt st fun v s1 pv st1 mv => ?_)
    obtain ⟨t, rfl⟩ := its i v pv
    have so1 := kept mv so
    change wpAny _ A.in1 (holding [Value.str (ys.getD i Str.empty) t] (setAdd c (.str (ys.getD i Str.empty) t)) >>= _) _ _ s1
    refine wpAny_bind (wpAny_holding ?_)
    unfold setAdd
    refine wpAny_holding ?_
    refine wpAny_bind ((strKind prog w).pyHash (k := ys.getD i Str.empty) (strKind_is _ _ _ _) ?_)
    have le := news_le ys i
    refine wpAny_setAddHashed_of (knd := strKind prog w) (s := { s1 with toks := s1.toks + 1 }) (strKind_is _ _ _ _) rfl so1 (by omega) fun h2 sb so2 => ?_
    have so3 : h2.SetOf (strKind prog w) c (fun y => (ys.take (i + 1)).any (· == y)) (news ys (i + 1)) := by
      refine SetOf_congr so2 (fun y => ?_) rfl
      have hi' : i < ys.length := by omega
      have e1 : ys.getD i Str.empty = ys[i] := by simp [hi']
      show ((ys.take i).any (· == y) || decide (y = ys.getD i Str.empty)) = _
      rw [List.take_succ, List.getElem?_eq_getElem hi', e1, List.any_append]
      congr 1
      by_cases e : y = ys[i]
      · subst e; simp
      · have e' : (ys[i] == y) = false := by simpa using fun z : ys[i] = y => e z.symm
        simp [e', e]
    refine wpAny_pure ⟨plainId_quiet F.plain_set_update_loop _, ih (i + 1) _ (by omega) lt (W.frame _ s1 _ _ st1 (Nat.le_succ _) fun b hb o e => ?_) so3 fun s3 mv3 so4 => ?_⟩
    · rw [sb.2 b fun z => nc (z ▸ hb)]
      exact e
    · refine fin s3 (Moved.trans W.gtrans ((mv.mono more).then_heap (Nat.le_succ _) fun b o hb e => ?_) mv3) so4
      rw [sb.2 b fun z => hb (z ▸ List.mem_cons_self)]
      exact e
end
section
variable {prog : Program} {w : World} {A : Around} {E : Value → Shared → Prop} {s : Shared}
/-- the new set -/
abbrev emptySet (led : Bool) : Obj := { cls := .type "set", dict := none, data := .set #[] 0 (.fresh 0 0 led) }
set_option maxHeartbeats 3200000 in
theorem set_of_texts {l : Addr} {us : Array Value} {ys : List Str} {Q : Value → Shared → Prop} (hh : A.handled = none) (hl : s.heap.IsTuple l us) (hi : StrsAre us.toList ys) (few : us.size + 1 < scanBound)
    (q : ∀ (h2 : Heap) (tk : Nat), h2.SetOf (strKind prog w) s.heap.objs.size (fun y => (ys.take us.size).any (· == y)) (news ys us.size) → (∀ b o, b < s.heap.objs.size → s.heap.get? b = some o → h2.get? b = some o) → Q (.ref s.heap.objs.size) { s with heap := h2, toks := tk }) :
    wpAny (model prog w) A (call (.type "set") [.ref l]) Q E s := by
  obtain ⟨cc, tl, mro⟩ := PySem.F.called_set.mro
  have made := PySem.F.called_set.made
  have sub := PySem.F.called_set.sub
  have nt := PySem.F.called_set.notType
  have cr := PySem.F.called_set.canCreate
  have ct := PySem.F.typeCall_set_1 (.ref l)
  refine wpAny_call (codeAny_of_tree ?_)
  change wpAny _ _ (callAny (.type "set") _) _ _ _
  refine wpAny_pure ⟨Code.quiet_builtin _ (by decide +kernel), codeAny_builtin PySem.F.entry_type_call ?_⟩
  rw [Around.under_plain (weight_type_call_type "set" [.ref l] []) rfl]
  repeat (any_goals (first | assumption | wp_step))
  refine codeAny_mono (code_set_new_1 (.ref l) (E := E) (Q₁ := fun u s1 => ∃ led : Bool, u = .ref s.heap.objs.size ∧ s1 = { s with heap := s.heap.push (emptySet led) }) fun led => ⟨led, rfl, rfl⟩) fun r s1 hr => ?_
  cases r with
  | error e => exact hr
  | ok fl =>
    cases fl with
    | ret u =>
      obtain ⟨led, rfl, rfl⟩ := hr
      have new : (s.heap.push (emptySet led)).get? s.heap.objs.size = some (emptySet led) := Heap.get?_push_size _ rfl
      have ty : Shared.TypeIs { s with heap := s.heap.push (emptySet led) } (.ref s.heap.objs.size) "set" := ⟨_, new, rfl⟩
      have lk := PySem.F.called_set.init.lookup
      have bd := PySem.F.called_set.init.bind (.ref s.heap.objs.size)
      repeat (any_goals (first | assumption | wp_step))
      refine codeAny_mono (codeAny_call_builtin (R := wants (fun r s2 => r = .none ∧ ∃ h2 tk, s2 = { s with heap := h2, toks := tk } ∧ h2.SetOf (strKind prog w) s.heap.objs.size (fun y => (ys.take us.size).any (· == y)) (news ys us.size) ∧
        (∀ b o, b < s.heap.objs.size → s.heap.get? b = some o → h2.get? b = some o)) E) PySem.F.called_set.init.plain PySem.F.entry_set_init (check_set_init_1 ty ?_)) fun r2 s2 hr2 => ?_
      · obtain ⟨⟨tc, td, tdata, tsl⟩, g, hc, nl, hd⟩ := hl
        simp only at hc hd
        subst hc hd
        have ls : l < s.heap.objs.size := Heap.lt_size g
        have g1 : (s.heap.push (emptySet led)).get? l = some { cls := .type "tuple", dict := td, data := .seq us nl, slots := tsl } := Heap.get?_push_of_some _ g
        have st := PySem.F.sub_tuple_set
        have sf := PySem.F.sub_tuple_frozenset
        have nd : (Value.type "tuple" == Value.type "dict") = false := by decide
        have tup1 : (s.heap.push (emptySet led)).IsTuple l us := ⟨_, g1, rfl, nl, rfl⟩
        unfold Builtin.«set.__init__» noKeywords Builtin.Frozenset.updateFrom
        generalize e : pyIter = it
        wp_walk
        subst e
        refine wpAny_pyIter_tuple tup1 (wpAny_bind (wpAny_runValue ?_))
        have h3 : A.in1.in1.in1.handled = none := by simp [hh]
        have ne : l ≠ (s.heap.push (emptySet led)).objs.size := by
          rw [Heap.size_push]
          exact Nat.ne_of_lt (Nat.lt_succ_of_lt ls)
        have nf : s.heap.objs.size ∉ [(s.heap.push (emptySet led)).objs.size, l] := by
          rw [Heap.size_push]
          simp only [List.mem_cons, List.not_mem_nil, or_false, not_or]
          exact ⟨Nat.ne_of_lt (Nat.lt_succ_self _), Nat.ne_of_gt ls⟩
        have len : ys.length = us.size := by rw [← StrsAre.len_eq hi, Array.length_toList]
        refine fillTexts ((Walks.tuple h3 _ l ne us).toS) s.heap.objs.size nf ys len few (fun i v hv => SS.strs_at hi i v (by rw [Array.getElem?_toList]; exact hv)) (us.size - 0) 0 _ (by omega) (Nat.zero_le _) ⟨⟨_, Heap.get?_push_size _ rfl, rfl, rfl⟩, tup1.push _⟩ ?_ ?_
        · have g2 : ((s.heap.push (emptySet led)).push { cls := .type "tuple_iterator", data := .fields #[.ref l, .int 0 0] }).get? s.heap.objs.size = some (emptySet led) := Heap.get?_push_of_some _ new
          exact SetOf_congr ((setObjOf_fresh (knd := strKind prog w) led).setOf g2 (by unfold scanBound; omega)) (fun _ => rfl) rfl
        · rintro ⟨h2, g2, d2, t2, o2⟩ mv so
          obtain rfl : g2 = s.gens := mv.gens
          obtain rfl : d2 = s.drawn := mv.drawn
          obtain rfl : o2 = s.os := mv.os
          change wpAny _ _ _ _ _ _
          refine wpAny_pure ?_
          change wpAny _ _ (ret Value.none) _ _ _
          refine wpAny_pure ⟨rfl, h2, t2, rfl, so, fun b o hb e => ?_⟩
          refine mv.heap b o ?_ (Heap.get?_push_of_some _ (Heap.get?_push_of_some _ e))
          rw [Heap.size_push]
          simp only [List.mem_cons, List.not_mem_nil, or_false, not_or]
          exact ⟨Nat.ne_of_lt hb, Nat.ne_of_lt (Nat.lt_succ_of_lt hb)⟩
      · cases r2 with
        | error e => exact hr2
        | ok fl2 =>
          cases fl2 with
          | ret r =>
            obtain ⟨rfl, h2, tk, rfl, so, k⟩ := hr2
            repeat (any_goals (first | assumption | wp_step))
            exact q _ _ so k
          | _ => exact hr2.elim
    | _ => exact hr.elim
end
end Xby
namespace Xby
open PySem PySem.Spec PyProof.Rows L2
section
variable {X : Cx}
/-- len(set(t)) -/
def tLenSetT (K : PySem.W.Frag) (ta : TE) : TE := fun σ H Q => ta σ H fun x H1 => ∃ (l : Addr) (ys : List Str), x = .ref l ∧ SqT K H1 l (ys.map V.str) ∧ ys.length ≤ 60 ∧ Q (.int (news ys ys.length)) H1
theorem pe_lenSetT {a : Expr} {ta : TE} {p p2 q pos : Pos} (hc : X.calm = true) (hg : Gl X "len") (hm : X.mg "len" = none) (hg2 : Gl X "set") (hm2 : X.mg "set" = none) (ha : PE X a ta)
    (na : starEach [a] X.env = (false, eval a X.env) :: starEach [] X.env := by rfl) : PE X (.Call (.Name "len" p) [.Call (.Name "set" p2) [a] [] q] [] pos) (tLenSetT X.K ta) := by
  constructor
  intro pins s σ H Q I h
  refine Call_ (ld_blt I hg hm boot_len (callWith_builtin1 (args_cons (Call_ (ld_blt I hg2 hm2 boot_set ?_)) rfl) rfl rfl))
  refine callWith_type1 (args_cons (thn (ha.run pins s σ H _ I h) fun v s1 ⟨x, H1, I1, r1, q1⟩ => args_nil ?_) na) na rfl
  obtain ⟨l, ys, rfl, hq, few, q1⟩ := q1
  cases r1
  obtain ⟨its, r, pl, _⟩ := I1.tuple hq
  have len : its.toArray.size = ys.length := by rw [List.size_toArray, ← r.length, List.length_map]
  have fits : its.toArray.size + 1 < scanBound := by
    rw [len]
    unfold scanBound
    omega
  refine set_of_texts (I1.ok.hd hc) pl (by simpa using strsAre_of r) fits fun h2 tk so k => ?_
  rw [len] at so
  refine args_nil ?_
  obtain ⟨o, es, ep, t, ho, ex, hd, _, _, _, hf, hn⟩ := so
  have I2 : Inv X pins σ H1 { s1 with heap := h2, toks := tk } := I1.kept fun b o e => k b o (Heap.lt_size e) e
  have le := news_le ys ys.length
  refine call_len_set ho ex hd hf (by rw [hn]; omega) ⟨.int (news ys ys.length), H1, I2.tok _, ⟨_, by rw [hn]⟩, q1⟩
theorem pe_lenSetTK (K : PySem.W.Frag) (hK : X.K = K) {a : Expr} {ta : TE} {p p2 q pos : Pos} (hc : X.calm = true) (hg : Gl X "len") (hm : X.mg "len" = none) (hg2 : Gl X "set") (hm2 : X.mg "set" = none) (ha : PE X a ta)
    (na : starEach [a] X.env = (false, eval a X.env) :: starEach [] X.env := by rfl) : PE X (.Call (.Name "len" p) [.Call (.Name "set" p2) [a] [] q] [] pos) (tLenSetT K ta) := by
  subst hK
  exact pe_lenSetT hc hg hm hg2 hm2 ha na
end
end Xby

set_option Elab.async false
set_option linter.all false
set_option maxRecDepth 100000
set_option maxHeartbeats 4000000
/-! # t[::-1], t a tuple -/
namespace Xby
open PySem PySem.Spec PyProof.Rows HT
section
variable {prog : Program} {w : World} {A : Around} {E : Value → Shared → Prop} {s : Shared}
theorem back_adjust (n : Nat) : Builtin.Slice.sliceAdjust none none (-1) (n : Int) = ((n : Int) - 1, -1) := by
  unfold Builtin.Slice.sliceAdjust
  simp
theorem back_places (n : Nat) : Builtin.Slice.slicePlaces ((n : Int) - 1) (-1) (-1) = n := by
  unfold Builtin.Slice.slicePlaces
  rw [if_neg (by decide)]
  by_cases h : (n : Int) - 1 > -1
  · rw [if_pos h]
    have : ((n : Int) - 1 - -1 - 1) / (- -1) = (n : Int) - 1 := by
      rw [show (- -1 : Int) = 1 by decide, Int.ediv_one]
      omega
    rw [this]
    omega
  · rw [if_neg h]
    omega
theorem back_applied {sl : Addr} {vl vu vs : Value} {n : Nat} {Q : Int × Int × Nat → Shared → Prop} (hs : s.heap.IsSliceOf sl vl vu vs) (pl : IsPart vl none) (pu : IsPart vu none) (ps : IsPart vs (some (-1)))
    (q : Q ((n : Int) - 1, -1, n) s) : wpAny (model prog w) A (Builtin.Slice.sliceApplied (.ref sl) (pure (n : Int))) Q E s := by
  obtain ⟨o, g, c, d⟩ := hs
  unfold Builtin.Slice.sliceApplied Builtin.Slice.sliceFields
  refine wpAny_bind (wpAny_bind (wpAny_field g d (x := vl) rfl (wpAny_bind (wpAny_field g d (x := vu) rfl (wpAny_bind (wpAny_field g d (x := vs) rfl (wpAny_pure ?_)))))))
  refine wpAny_bind (slicePart_ ps ?_)
  change wpAny _ _ (if ((-1 : Int) == 0) = true then _ else _) _ _ s
  rw [if_neg (by decide)]
  refine wpAny_bind (slicePart_ pl (wpAny_bind (slicePart_ pu (wpAny_bind (wpAny_pure ?_)))))
  change wpAny _ _ (match Builtin.Slice.sliceAdjust none none (-1) (n : Int) with | (lo, hi) => pure (lo, (-1 : Int), Builtin.Slice.slicePlaces lo hi (-1))) _ _ s
  rw [back_adjust]
  change wpAny _ _ (pure ((n : Int) - 1, (-1 : Int), Builtin.Slice.slicePlaces ((n : Int) - 1) (-1) (-1))) _ _ s
  rw [back_places]
  exact wpAny_pure q
theorem fm_congr {α β : Type} {f g : α → Option β} : ∀ {l : List α}, (∀ x ∈ l, f x = g x) → l.filterMap f = l.filterMap g
  | [], _ => rfl
  | x :: xs, h => by
    rw [List.filterMap_cons, List.filterMap_cons, h x List.mem_cons_self, fm_congr fun y hy => h y (List.mem_cons_of_mem _ hy)]
theorem back_items (us : Array Value) : ((List.range us.size).filterMap fun (k : Nat) => us[((us.size : Int) - 1 + (k : Int) * (-1)).toNat]?).toArray = us.toList.reverse.toArray := by
  have e : ((List.range us.size).filterMap fun (k : Nat) => us[((us.size : Int) - 1 + (k : Int) * (-1)).toNat]?) = (List.range us.size).filterMap ((us[·]?) ∘ fun k => us.size - 1 - k) := by
    refine fm_congr fun k hk => ?_
    have := List.mem_range.mp hk
    have : ((us.size : Int) - 1 + (k : Int) * (-1)).toNat = us.size - 1 - k := by omega
    show us[((us.size : Int) - 1 + (k : Int) * (-1)).toNat]? = us[us.size - 1 - k]?
    rw [this]
  rw [e, ← List.filterMap_map, PySem.W.krv_range, List.filterMap_reverse, PySem.W.krv_all]
theorem back_tuple {t sl : Addr} {us : Array Value} {vl vu vs : Value} {Q : Value → Shared → Prop} (ht : IsTup s.heap t us) (hs : s.heap.IsSliceOf sl vl vu vs) (pl : IsPart vl none) (pu : IsPart vu none) (ps : IsPart vs (some (-1))) (few : us.size ≤ sizeLine)
    (q : Q (.ref s.heap.objs.size) { s with heap := s.heap.push { cls := .type "tuple", data := .seq us.toList.reverse.toArray } }) : wpAny (model prog w) A (getItem (.ref t) (.ref sl)) Q E s := by
  have fits : sizeOk (.seq us.toList.reverse.toArray) := by
    show us.toList.reverse.toArray.size ≤ sizeLine
    rw [List.size_toArray, List.length_reverse, Array.length_toList]
    exact few
  have ty : s.TypeIs (.ref sl) "slice" := by
    obtain ⟨o, g, c, _⟩ := hs
    exact ⟨o, g, c⟩
  unfold getItem
  try with_reducible refine wpAny_holding ?_
  first | refine wpAny_bind (wpAny_pure ?_) | skip
  refine wpAny_bind (wpAny_sequenceKey ht.typeIs (by decide) (wpAny_bind (wpAny_callSpecial?_slot (name := Str.ofString "__getitem__") ht.typeIs slot_tuple_getitem (wpAny_call_entry slot_tuple_getitem ht.typeIs entry_tuple_getitem ?_ (args_tuple_getitem _ _)))))
  change wpAny _ _ (Builtin.Tuple.tupleItemsOf (.ref t) >>= _) _ _ s
  refine wpAny_bind (tupleItemsOf_ ht (wpAny_bind (wpAny_typeOf ty ?_)))
  rw [if_pos (by decide)]
  refine wpAny_bind (back_applied hs pl pu ps ?_)
  change wpAny _ _ (if ((us.size : Int) - 1 == 0 && (-1 : Int) == 1 && us.size == us.size) = true then _ else _) _ _ s
  rw [if_neg (by rw [show ((-1 : Int) == 1) = false by decide]; simp), back_items]
  first
    | exact wpAny_bind (m := Builtin.Tuple.tupleExact _) (wpAny_newObj_type (wpAny_pure ⟨_, rfl, wpAny_pure q⟩) fits)
    | exact wpAny_bind (wpAny_bind (m := Builtin.Tuple.tupleExact _) (wpAny_newObj_type (wpAny_pure (wpAny_pure ⟨_, rfl, wpAny_pure q⟩)) fits))
    | exact wpAny_bind (wpAny_bind (m := Builtin.Tuple.tupleExact _) (wpAny_newObj_type (wpAny_pure ⟨_, rfl, wpAny_pure q⟩) fits))
end
end Xby
namespace Xby
open PySem PySem.Spec PyProof.Rows L2
section
variable {X : Cx}
def tBackT (K : PySem.W.Frag) (te : TE) : TE := fun σ H Q => te σ H fun x H1 => ∃ a xs, x = .ref a ∧ SqT K H1 a xs ∧ ∀ p, H1 p = none → Q (.ref p) (upd H1 p (.tup xs.reverse))
theorem pe_backT {e : Expr} {te : TE} {k : Nat} {p1 p2 p3 pos : Pos} (K : PySem.W.Frag) (hK : X.K = K) (he : PE X e te) : PE X (.Subscript e (.Slice none none (some (.UnaryOp .USub (.Constant (.int 1) k p1) p2)) p3) pos) (tBackT K te) := by
  subst hK
  constructor
  intro pins s σ H Q I h
  refine Subscript_ (thn (he.run pins s σ H _ I h) fun v s1 ⟨x, H1, I1, r1, a, xs, ex, hx, q⟩ => ?_)
  subst ex
  cases r1
  have neg : PO X (some (.UnaryOp .USub (.Constant (.int 1) k p1) p2)) (tPart (tUn (rU fun i => .int (-i)) (tC (.int 1)))) := po_some (pe_un un_neg pe_int)
  refine wpAny_Slice (thn (po_none.run pins s1 σ H1 (fun o G => o = none ∧ G = H1) I1 ⟨rfl, rfl⟩) fun vl s2 ⟨l, H2, I2, pl, el, e2⟩ => ?_)
  refine thn (po_none.run pins s2 σ H2 (fun o G => o = none ∧ G = H2) I2 ⟨rfl, rfl⟩) fun vu s3 ⟨u, H3, I3, pu, eu, e3⟩ => ?_
  refine thn (neg.run pins s3 σ H3 (fun o G => o = some (-1) ∧ G = H3) I3 ⟨1, rfl, -1, rfl, rfl, rfl⟩) fun vs s4 ⟨o, H4, I4, ps, eo, e4⟩ => ?_
  subst el e2 eu e3 eo e4
  have J : Inv X pins σ H4 { s4 with heap := s4.heap.push { cls := .type "slice", data := .fields #[vl, vu, vs] } } := I4.kept (t' := s4.toks) fun b ob z => Heap.get?_push_of_some _ z
  obtain ⟨its, r, ht, hz⟩ := J.tuple hx
  have len := r.length
  change wpAny (model X.prog X.w) X.A (subscriptTail e (.Slice none none (some (.UnaryOp .USub (.Constant (.int 1) k p1) p2)) p3) (.ref a) (.ref s4.heap.objs.size)) (EP X pins σ Q) X.xe { s4 with heap := s4.heap.push { cls := .type "slice", data := .fields #[vl, vu, vs] } }
  refine tail_any (ops := [.ref a, .ref s4.heap.objs.size]) ht.typeIs slot_tuple_getitem.lookup ?_ (by with_unfolding_all rfl)
  refine back_tuple ht (Heap.IsSliceOf.new _ vl vu vs) pl pu ps (by rw [List.size_toArray]; omega) ?_
  refine ⟨.ref _, _, J.laid (t' := s4.toks) (o := .tup xs.reverse) (fun b ob z => Heap.get?_push_of_some _ z) (Nat.le_refl _) ?_, rfl, q _ (J.hok.fresh (Nat.le_refl _))⟩
  exact ⟨by rw [List.length_reverse]; exact hz, _, r.reverse, IsTup.new _ _⟩
theorem sl_tupAK (K : PySem.W.Frag) (hK : X.K = K) : SlR X (rSlA K) := by
  subst hK
  exact sl_tupA
theorem op_catAK (K : PySem.W.Frag) (hK : X.K = K) : OpR X (binaryOp .Add) (rCatA K) := by
  subst hK
  exact op_catA
theorem call_tupleK (K : PySem.W.Frag) (hK : X.K = K) : CallR X (.type "tuple") (fun xs H Q => ∃ p ys, xs = [.ref p] ∧ ((SqL K H p ys ∧ ∀ l, H l = none → Q (.ref l) (upd H l (.tup ys))) ∨ (SqT K H p ys ∧ Q (.ref p) H))) := by
  subst hK
  exact call_tuple_of
end
end Xby

set_option Elab.async false
set_option linter.all false
set_option maxRecDepth 100000
set_option maxHeartbeats 4000000
/-! # words, cells, columns, rows, as data -/
namespace Xby
open PySem L2
def lowC (c : Nat) : Bool := decide (97 ≤ c ∧ c ≤ 122)
def wordS (x : Str) : Bool := decide (1 ≤ x.length ∧ x.length ≤ 8) && x.cps.toList.all lowC
def wordD : PyData → Bool
  | .str x => wordS x
  | _ => false
def intD (lo hi : Int) : PyData → Bool
  | .int i => decide (lo ≤ i ∧ i ≤ hi)
  | _ => false
def nonD : PyData → Bool
  | .none => true
  | _ => false
def cellD (d : PyData) : Bool := nonD d || intD (-999) 999 d || wordD d
def strD : PyData → Str
  | .str x => x
  | _ => Str.empty
def colsD : PyData → Bool
  | .tuple ds => decide (1 ≤ ds.length ∧ ds.length ≤ 3) && ds.all wordD && decide (ds.map strD).Nodup
  | _ => false
def rowD (n : Nat) : PyData → Bool
  | .tuple ds => decide (ds.length = n) && ds.all cellD
  | _ => false
/-- a text among them is no great one -/
def Sh (d : PyData) : Prop := ∀ x, d = .str x → x.length ≤ 1000000
def Sh1 (d : PyData) : Prop := ∀ ds, d = .tuple ds → ∀ e ∈ ds, Sh e
def Sh2 (d : PyData) : Prop := ∀ ds, d = .tuple ds → ∀ e ∈ ds, Sh1 e
theorem le_a (c : Nat) : (!decide ((⟨#[c]⟩ : Str).cps.toList < ("a" : Str).cps.toList)) = decide (97 ≤ c) := by
  have : ("a" : Str).cps.toList = [97] := by decide +kernel
  rw [this]
  show (!decide ([c] < [97])) = _
  simp only [List.cons_lt_cons_iff, List.not_lt_nil, and_false, or_false]
  by_cases h : c < 97
  · simp [h, Nat.not_le.mpr h]
  · simp [h, Nat.not_lt.mp h]
theorem le_z (c : Nat) : (!decide (("z" : Str).cps.toList < (⟨#[c]⟩ : Str).cps.toList)) = decide (c ≤ 122) := by
  have : ("z" : Str).cps.toList = [122] := by decide +kernel
  rw [this]
  show (!decide ([122] < [c])) = _
  simp only [List.cons_lt_cons_iff, List.not_lt_nil, and_false, or_false]
  by_cases h : 122 < c
  · simp [h, Nat.not_le.mpr h]
  · simp [h, Nat.not_lt.mp h]
section
variable {K : PySem.W.Frag} {H : Hp} {v : V} {d : PyData}
theorem Dq.isStr (h : Dq K H v d) : (∃ x, v = .str x ∧ d = .str x) ∨ ∃ T : String, TyX K H v (.type T) ∧ kitB T "str" = some false ∧ wordD d = false := by
  cases h with
  | non => exact .inr ⟨_, .base .non, by decide +kernel, rfl⟩
  | bl b => exact .inr ⟨_, .base (.bl b), by decide +kernel, rfl⟩
  | int i => exact .inr ⟨_, .base (.int i), by decide +kernel, rfl⟩
  | str x => exact .inl ⟨x, rfl, rfl⟩
  | lst hs _ _ => exact .inr ⟨_, .base (.lst hs), by decide +kernel, rfl⟩
  | tup hs _ =>
    refine .inr ⟨"tuple", ?_, by decide +kernel, rfl⟩
    rcases hs with (hs | ⟨o, hs⟩) | ⟨o, _, _, hk, hc, _⟩
    · exact .base (.tup hs)
    · exact .fTuple hs
    · exact .kTuple hk hc
  | dct hs _ => exact .inr ⟨_, .base (.dK hs), by decide +kernel, rfl⟩
theorem tyTup {a : Addr} {xs : List V} (hs : SqT K H a xs) : TyX K H (.ref a) (.type "tuple") := by
  rcases hs with (hs | ⟨o, hs⟩) | ⟨o, _, _, hk, hc, _⟩
  · exact .base (.tup hs)
  · exact .fTuple hs
  · exact .kTuple hk hc
theorem Dq.isTup (h : Dq K H v d) : (∃ a xs ds, v = .ref a ∧ d = .tuple ds ∧ SqT K H a xs ∧ DqAll K H xs ds) ∨ ∃ T : String, TyX K H v (.type T) ∧ kitB T "tuple" = some false ∧ ∀ ds, d ≠ .tuple ds := by
  cases h with
  | non => exact .inr ⟨_, .base .non, by decide +kernel, by simp⟩
  | bl b => exact .inr ⟨_, .base (.bl b), by decide +kernel, by simp⟩
  | int i => exact .inr ⟨_, .base (.int i), by decide +kernel, by simp⟩
  | str x => exact .inr ⟨_, .base (.str x), by decide +kernel, by simp⟩
  | lst hs _ _ => exact .inr ⟨_, .base (.lst hs), by decide +kernel, by simp⟩
  | tup hs ha => exact .inl ⟨_, _, _, rfl, rfl, hs, ha⟩
  | dct hs _ => exact .inr ⟨_, .base (.dK hs), by decide +kernel, by simp⟩
theorem Dq.ofTup {ds : List PyData} (h : Dq K H v (.tuple ds)) : ∃ a xs, v = .ref a ∧ SqT K H a xs ∧ DqAll K H xs ds := by
  cases h with
  | tup hs ha => exact ⟨_, _, rfl, hs, ha⟩
theorem Dq.okV (h : Dq K H v d) (lo hi : Int) : okV lo hi v = intD lo hi d := by
  cases h <;> rfl
theorem DqAll.len {vs : List V} {ds : List PyData} (h : DqAll K H vs ds) : vs.length = ds.length := by
  induction vs generalizing ds with
  | nil => cases h; rfl
  | cons v vs ih =>
    cases h with
    | cons _ t => simp [ih t]
theorem DqAll.get {vs : List V} {ds : List PyData} (h : DqAll K H vs ds) : ∀ {i : Nat} {v : V}, vs[i]? = some v → ∃ d, ds[i]? = some d ∧ Dq K H v d := by
  induction vs generalizing ds with
  | nil =>
    intro i v e
    simp at e
  | cons u vs ih =>
    intro i v e
    cases h with
    | cons a t =>
      cases i with
      | zero =>
        obtain rfl : u = v := by simpa using e
        exact ⟨_, rfl, a⟩
      | succ i => exact ih t (by simpa using e)
theorem kit_ss : kitB "str" "str" = some true := by decide +kernel
theorem kit_tt : kitB "tuple" "tuple" = some true := by decide +kernel
theorem DqAll.words {vs : List V} {ds : List PyData} (h : DqAll K H vs ds) (w : ds.all wordD = true) : vs = (ds.map strD).map V.str := by
  induction vs generalizing ds with
  | nil => cases h; rfl
  | cons v vs ih =>
    cases h with
    | cons a t =>
      rw [List.all_cons, Bool.and_eq_true] at w
      rw [List.map_cons, List.map_cons, ← ih t w.2]
      congr 1
      cases a with
      | str x => rfl
      | _ => exact absurd w.1 (by simp [wordD])
end
end Xby

set_option Elab.async false
set_option linter.all false
set_option maxRecDepth 100000
set_option maxHeartbeats 4000000
/-! # parts of tuples, in one word -/
namespace Xby
open PySem L2
section
variable {K : PySem.W.Frag} {H : Hp} {a b : Addr} {xs ys : List V} {Q : VK}
theorem cut_to {i : Int} (h0 : 0 ≤ i) : cutV xs none (some i) = xs.take i.toNat := by
  obtain ⟨k, rfl⟩ := Int.eq_ofNat_of_zero_le h0
  unfold cutV
  rw [HT.sIx_none, HT.sIx_nat, List.drop_zero, Int.toNat_natCast, Nat.sub_zero]
  by_cases h : k ≤ xs.length
  · rw [Nat.min_eq_left h]
  · rw [Nat.min_eq_right (by omega), List.take_of_length_le (Nat.le_refl _), List.take_of_length_le (by omega)]
theorem cut_from {i : Int} (h0 : 0 ≤ i) : cutV xs (some i) none = xs.drop i.toNat := by
  obtain ⟨k, rfl⟩ := Int.eq_ofNat_of_zero_le h0
  unfold cutV
  rw [HT.sIx_none, HT.sIx_nat, Int.toNat_natCast]
  by_cases h : k ≤ xs.length
  · rw [Nat.min_eq_left h, List.take_of_length_le (by rw [List.length_drop]; omega)]
  · rw [Nat.min_eq_right (by omega), List.drop_of_length_le (Nat.le_refl _), List.drop_of_length_le (by omega)]
    simp
theorem cut_all {lo hi : Option Int} (h : HT.sIx xs.length 0 lo = 0 ∧ HT.sIx xs.length xs.length hi = xs.length) : cutV xs lo hi = xs := by
  unfold cutV
  rw [h.1, h.2]
  simp
/-- a part of a tuple: at some address -/
theorem part_of {lo hi : Option Int} (ha : H a = some (.tup xs)) (k : ∀ c H', Same H H' → H' c = some (.tup (cutV xs lo hi)) → Q (.ref c) H') : rSlA K (.ref a) lo hi H Q := by
  refine ⟨a, xs, rfl, SqT.of ha, fun h => ?_, fun _ p np => k p _ (Same.one np) upd_same⟩
  refine k a H (Same.refl H) ?_
  rw [cut_all h]
  exact ha
/-- a + b, tuples -/
theorem cat_of (ha : H a = some (.tup xs)) (hb : H b = some (.tup ys)) (few : xs.length + ys.length ≤ 1000) (k : ∀ c H', Same H H' → H' c = some (.tup (xs ++ ys)) → Q (.ref c) H') : rCatA K (.ref a) (.ref b) H Q := by
  refine ⟨a, b, xs, ys, rfl, rfl, SqT.of ha, SqT.of hb, ?_, fun h => ?_, fun _ h => ?_, fun _ _ p np => k p _ (Same.one np) upd_same⟩
  · have : sizeLine = 16777216 := sizeLine_eq
    omega
  · subst h
    exact k b H (Same.refl H) hb
  · subst h
    refine k a H (Same.refl H) ?_
    rw [List.append_nil]
    exact ha
end
/-! ## values without address, as data -/
def datC : V → PyData
  | .non => .none
  | .bl b => .bool b
  | .int i => .int i
  | .str x => .str x
  | _ => .none
def flatC : V → Bool
  | .non => true
  | .bl _ => true
  | .int _ => true
  | .str _ => true
  | _ => false
section
variable {K : PySem.W.Frag} {H : Hp}
theorem Dp.flat {v : V} (h : flatC v = true) : Dp K H v (datC v) := by
  cases v with
  | non => exact .non
  | bl b => exact .bl b
  | int i => exact .int i
  | str x => exact .str x
  | _ => cases h
theorem DpAll.flat {vs : List V} (h : ∀ v ∈ vs, flatC v = true) : DpAll K H vs (vs.map datC) := by
  induction vs with
  | nil => exact .nil
  | cons v vs ih => exact .cons (Dp.flat (h v List.mem_cons_self)) (ih fun u hu => h u (List.mem_cons_of_mem _ hu))
theorem Dq.flat {v : V} (h : flatC v = true) : Dq K H v (datC v) := by
  cases v with
  | non => exact .non
  | bl b => exact .bl b
  | int i => exact .int i
  | str x => exact .str x
  | _ => cases h
theorem DqAll.flat {vs : List V} (h : ∀ v ∈ vs, flatC v = true) : DqAll K H vs (vs.map datC) := by
  induction vs with
  | nil => exact .nil
  | cons v vs ih => exact .cons (Dq.flat (h v List.mem_cons_self)) (ih fun u hu => h u (List.mem_cons_of_mem _ hu))
end
/-! ## shapes -/
def Shp (k : Nat) (d : PyData) : Prop := d.canLay0 = true ∧ d.depth ≤ k
instance (k : Nat) (d : PyData) : Decidable (Shp k d) := inferInstanceAs (Decidable (_ ∧ _))
theorem Shp.shaped {k : Nat} {d : PyData} (h : Shp k d) (hk : k ≤ 64) : SeqAt.shaped d = true := by
  unfold SeqAt.shaped
  rw [h.1, Bool.true_and]
  exact decide_eq_true (Nat.le_trans h.2 hk)
theorem Shp.all {k : Nat} : ∀ {ds : List PyData}, (∀ d ∈ ds, Shp k d) → PyData.canLayAll0 ds = true ∧ PyData.depthAll ds ≤ k
  | [], _ => ⟨rfl, Nat.zero_le _⟩
  | d :: ds, h => by
    obtain ⟨a, b⟩ := h d List.mem_cons_self
    obtain ⟨c, e⟩ := Shp.all (ds := ds) fun x hx => h x (List.mem_cons_of_mem _ hx)
    refine ⟨?_, ?_⟩
    · simp only [PyData.canLayAll0, a, c, Bool.and_self]
    · simp only [PyData.depthAll]
      exact Nat.max_le.mpr ⟨b, e⟩
theorem Shp.tup {k : Nat} {ds : List PyData} (h : ∀ d ∈ ds, Shp k d) : Shp (k + 1) (.tuple ds) := by
  obtain ⟨a, b⟩ := Shp.all h
  refine ⟨by simpa only [PyData.canLay0] using a, ?_⟩
  simp only [PyData.depth]
  omega
/-! ## the text shown tells data apart; == of it is equality -/
theorem cps_app (a b : Str) : (a ++ b).cps = a.cps ++ b.cps := rfl
def FrP (d e : PyData) : Prop := ∀ r q : List Nat, d.shown.cps.toList ++ r = e.shown.cps.toList ++ q → d = e ∧ r = q
inductive FrPs : List PyData → List PyData → Prop
  | nil : FrPs [] []
  | cons {d e : PyData} {ds es : List PyData} : FrP d e → FrPs ds es → FrPs (d :: ds) (e :: es)
theorem join_cons2 (x y : Str) (r : List Str) : (Str.join ", " (x :: y :: r)).cps.toList = x.cps.toList ++ ((", " : Str).cps.toList ++ (Str.join ", " (y :: r)).cps.toList) := by
  show ((x ++ ", ") ++ Str.join ", " (y :: r) : Str).cps.toList = _
  rw [cps_app, cps_app, Array.toList_append, Array.toList_append, List.append_assoc]
theorem FrPs.join {ds es : List PyData} (h : FrPs ds es) : ∀ r q : List Nat, (Str.join ", " (PyData.shownAll ds)).cps.toList ++ r = (Str.join ", " (PyData.shownAll es)).cps.toList ++ q → ds = es ∧ r = q := by
  induction h with
  | nil => exact fun r q z => ⟨rfl, z⟩
  | @cons d e ds es h1 h2 ih =>
    cases h2 with
    | nil =>
      intro r q z
      obtain ⟨a, b⟩ := h1 r q z
      exact ⟨by rw [a], b⟩
    | @cons d2 e2 ds2 es2 h3 h4 =>
      intro r q z
      have e1 : (Str.join ", " (PyData.shownAll (d :: d2 :: ds2))).cps.toList = d.shown.cps.toList ++ ((", " : Str).cps.toList ++ (Str.join ", " (PyData.shownAll (d2 :: ds2))).cps.toList) := join_cons2 _ _ _
      have e2 : (Str.join ", " (PyData.shownAll (e :: e2 :: es2))).cps.toList = e.shown.cps.toList ++ ((", " : Str).cps.toList ++ (Str.join ", " (PyData.shownAll (e2 :: es2))).cps.toList) := join_cons2 _ _ _
      rw [e1, e2, List.append_assoc, List.append_assoc, List.append_assoc, List.append_assoc] at z
      obtain ⟨a, b⟩ := h1 _ _ z
      obtain ⟨a2, b2⟩ := ih _ _ (List.append_cancel_left b)
      exact ⟨by rw [a, a2], b2⟩
theorem FrPs.len {ds es : List PyData} (h : FrPs ds es) : (PyData.shownAll ds).length = (PyData.shownAll es).length := by
  induction h with
  | nil => rfl
  | cons _ _ ih => exact congrArg (· + 1) ih
theorem FrPs.tup {ds es : List PyData} (h : FrPs ds es) : FrP (.tuple ds) (.tuple es) := by
  intro r q z
  have t : ∀ ds : List PyData, (PyData.shown (.tuple ds)).cps.toList = ("(" : Str).cps.toList ++ ((Str.join ", " (PyData.shownAll ds)).cps.toList ++ (if (PyData.shownAll ds).length == 1 then ",)" else ")" : Str).cps.toList) := fun ds => by
    simp only [PyData.shown]
    unfold tupleText
    rw [cps_app, cps_app, Array.toList_append, Array.toList_append, List.append_assoc]
    split <;> rfl
  rw [t, t, h.len, List.append_assoc, List.append_assoc, List.append_assoc, List.append_assoc] at z
  obtain ⟨a, b⟩ := h.join _ _ (List.append_cancel_left z)
  exact ⟨by rw [a], List.append_cancel_left b⟩
theorem FrP.shown {d e : PyData} (h : FrP d e) : d.shown = e.shown ↔ d = e := by
  refine ⟨fun z => ?_, fun z => by rw [z]⟩
  exact (h [] [] (by rw [z])).1
theorem FrP.of_not {d e : PyData} (h1 : d.shown.cps.toList.isPrefixOf e.shown.cps.toList = false) (h2 : e.shown.cps.toList.isPrefixOf d.shown.cps.toList = false) : FrP d e := by
  intro r q z
  rcases List.append_eq_append_iff.mp z with ⟨a, ha, _⟩ | ⟨a, ha, _⟩
  · rw [ha, List.isPrefixOf_iff_prefix.mpr (List.prefix_append _ _)] at h1
    cases h1
  · rw [ha, List.isPrefixOf_iff_prefix.mpr (List.prefix_append _ _)] at h2
    cases h2
theorem FrP.refl (d : PyData) : FrP d d := fun _ _ z => ⟨rfl, List.append_cancel_left z⟩
def EqP (d e : PyData) : Prop := PyData.eqv d e = true ↔ d = e
inductive EqPs : List PyData → List PyData → Prop
  | nil : EqPs [] []
  | cons {d e : PyData} {ds es : List PyData} : EqP d e → EqPs ds es → EqPs (d :: ds) (e :: es)
theorem EqPs.all {ds es : List PyData} (h : EqPs ds es) : PyData.eqvAll ds es = true ↔ ds = es := by
  induction h with
  | nil => simp [PyData.eqvAll]
  | cons a _ ih =>
    simp only [PyData.eqvAll, Bool.and_eq_true, List.cons.injEq]
    rw [ih]
    exact and_congr_left' a
theorem EqPs.tup {ds es : List PyData} (h : EqPs ds es) : EqP (.tuple ds) (.tuple es) := by
  unfold EqP
  simp only [PyData.eqv, PyData.tuple.injEq]
  exact h.all
def Plain : PyData → Bool
  | .none => true
  | .int _ => true
  | .str _ => true
  | _ => false
theorem EqP.plain {d e : PyData} (hd : Plain d = true) (he : Plain e = true) : EqP d e := by
  unfold EqP
  cases d <;> cases e <;> first | cases hd; done | cases he; done | simp [PyData.eqv]
end Xby
namespace Xby
theorem FrPs.map {α : Type} {f : α → PySem.PyData} : ∀ {l k : List α}, l.length = k.length → (∀ x ∈ l, ∀ y ∈ k, FrP (f x) (f y)) → FrPs (l.map f) (k.map f)
  | [], [], _, _ => .nil
  | x :: l, y :: k, e, h => .cons (h x List.mem_cons_self y List.mem_cons_self) (FrPs.map (by simpa using e) fun a ha b hb => h a (List.mem_cons_of_mem _ ha) b (List.mem_cons_of_mem _ hb))
theorem EqPs.map {α : Type} {f : α → PySem.PyData} : ∀ {l k : List α}, l.length = k.length → (∀ x ∈ l, ∀ y ∈ k, EqP (f x) (f y)) → EqPs (l.map f) (k.map f)
  | [], [], _, _ => .nil
  | x :: l, y :: k, e, h => .cons (h x List.mem_cons_self y List.mem_cons_self) (EqPs.map (by simpa using e) fun a ha b hb => h a (List.mem_cons_of_mem _ ha) b (List.mem_cons_of_mem _ hb))
end Xby

set_option Elab.async false
set_option linter.all false
set_option maxRecDepth 100000
set_option maxHeartbeats 4000000
/-! # try: .. with several clauses, each 'except X as n' of one name n -/
namespace Xby
open PySem PySem.Spec PyProof.Rows L2
abbrev Suite := Addr → Value → Option Addr → TS
/-- behind a suite the name goes -/
def goes (i : Nat) (D : Ends) : Ends := { nx := fun σ H => D.nx (σ.set i none) H, rt := D.rt, bk := fun σ H => D.bk (σ.set i none) H, ct := fun σ H => D.ct (σ.set i none) H }
def wEach (K : PySem.W.Frag) (i : Nat) (out : WX) (D : Ends) : List (Value × Suite) → WX
  | [] => out
  | (c, ts) :: r => fun cls d σ H => ∃ b, PySem.W.exmOne K cls c = some b ∧ (b = true → ∀ a, H a = none → ts a cls d (goes i D) (σ.set i (some (.ref a))) H) ∧ (b = false → wEach K i out D r cls d σ H)
inductive Clauses (X : Cx) (n : Str) : List ExceptHandler → List (Value × Suite) → Prop
  | nil : Clauses X n [] []
  | cons {x : Str} {c : Value} {ts : Suite} {st : Stmt} {suite : List Stmt} {p q : Pos} {hds : List ExceptHandler} {l : List (Value × Suite)} (hc : Names X x c)
      (hsu : ∀ (a : Addr) (oe : Obj) (cls : Value) (d : Option Addr) (pn : List (Addr × Obj)), Zc cls d oe → (∃ vs, oe.data = .fields vs) → PSs (X.suite a ((a, oe) :: pn)) (st :: suite) (ts a cls d)) (r : Clauses X n hds l) :
      Clauses X n (.ExceptHandler (some (.Name x p)) (some n) (st :: suite) q :: hds) ((c, ts) :: l)
section
variable {X : Cx} {n : Str} {i : Nat} {body : List Stmt} {h₀ : ExceptHandler} {hds : List ExceptHandler} {l : List (Value × Suite)} {pos : Pos} {tb : WX → TS} {out : WX}
/-- what one asks of the clauses where an exception e stands -/
def Handled (X : Cx) (pins : List (Addr × Obj)) (D : Ends) (hds : List ExceptHandler) (e : Value) (s : Shared) : Prop :=
  wpAny (model X.prog X.w) X.A (handleBy e X.env hds) (SP X pins D) X.xe s
theorem ps_try_each (stk : X.stack = X.env :: X.outer) (frm : X.env.frame = some X.env.locals) (nd : X.N.Nodup) (at_i : X.N[i]? = some n) (loc : X.env.kindOf n = some .local) (tk : Takes X out)
    (bodyOk : ∀ (W : WX) (pn : List (Addr × Obj)) (xe : Value → Shared → Prop), Takes (X.tr pn xe) W → PassesOwn (model X.prog X.w) X.A X.env xe → PSs (X.tr pn xe) body (tb W))
    (cl : Clauses X n (h₀ :: hds) l) : PS X (.Try body (h₀ :: hds) [] [] pos) (fun D σ H => tb (wEach X.K i out D l) D σ H) := by
  constructor
  intro pins s σ H D I h
  have ok := I.ok
  have frs' : X.A.frames = some (X.env :: X.outer) := by rw [ok.frames, stk]
  have vis : Loc X.env.scope n := .inl loc
  refine wpAny_Try_except ?_
  have B := bodyOk (wEach X.K i out D l) (X.pn ++ pins) (fun e s1 => wpAny (model X.prog X.w) X.A (noteFrame e X.env) (fun _ s2 => wpAny (model X.prog X.w) X.A (setFlight e none) (fun _ s3 => Handled X pins D (h₀ :: hds) e s3) X.xe s2) X.xe s1)
    (fun u s1 xx => ?_) PassesOwn.looking
  · refine wpAny_mono (B.run [] s σ H D (I.toTry _) h) (fun f s1 z => ?_) fun _ _ z => z
    cases f with
    | next =>
      obtain ⟨σ1, H1, J, q⟩ := z
      exact wpAny_execs_nil ⟨σ1, H1, J.ofTry ok, q⟩
    | brk =>
      obtain ⟨σ1, H1, J, q⟩ := z
      exact ⟨σ1, H1, J.ofTry ok, q⟩
    | cont =>
      obtain ⟨σ1, H1, J, q⟩ := z
      exact ⟨σ1, H1, J.ofTry ok, q⟩
    | ret u =>
      obtain ⟨v, σ1, H1, J, r, q⟩ := z
      exact ⟨v, σ1, H1, J.ofTry ok, r, q⟩
  obtain ⟨a, F, sI, ps, σ1, H1, cls, d, rfl, J0, nb, up, sky, na, os, ag, wish⟩ := xx
  have J : Inv X pins σ1 H1 sI := J0.ofTry ok
  have sky2 : Sky F (X.env :: X.outer) a (Zc cls d) X.env.locals s1.heap := by
    rw [← stk]
    exact sky
  change wpAny (model X.prog X.w) X.A (noteFrame (.ref a) X.env) _ _ _
  refine Sky.land Zc.steady frs' frm sky2 fun h3 fl3 up3 => ?_
  have J3 : Inv X pins σ1 H1 { s1 with heap := h3 } := J.landed nb fl3.1 (up.trans up3) os ag
  obtain ⟨oe3, vs3, g3, z3, d3⟩ := fl3.there
  have nfr : a ∉ frs (X.env :: X.outer) := fun mem => by
    obtain ⟨_, o2, g2, isnt⟩ := fl3.2.2.1.mem mem
    rw [g3] at g2
    cases g2
    exact isnt _ d3
  have nL : a ≠ X.env.locals := fun z => nfr (List.mem_filterMap.mpr ⟨X.env, List.mem_cons_self, by rw [frm, z]⟩)
  have nF : a ∉ X.fs := fun mem => by
    obtain ⟨e, he, q⟩ := List.mem_filterMap.mp mem
    exact nfr (List.mem_filterMap.mpr ⟨e, List.mem_cons_of_mem _ he, q⟩)
  have S3 := J3.suite g3 d3 na nL nF
  have all : ∀ {hs : List ExceptHandler} {k : List (Value × Suite)}, Clauses X n hs k → wEach X.K i out D k cls d σ1 H1 → Handled X pins D hs (.ref a) { s1 with heap := h3 } := by
    intro hs k ck
    induction ck with
    | nil =>
      intro w
      refine wpAny_handleBy_nil ?_
      obtain ⟨_, _, _, oe, vs, T, oT, ts', he, hz, hd, h1, hr⟩ := id fl3
      unfold PySem.passOn
      refine wpAny_bind (wpAny_field he hd h1 ?_)
      rw [if_neg (by simp : ¬ ((Value.ref T == Value.none) = true))]
      have on : wpAny (model X.prog X.w) X.A (setFlight (.ref a) X.env.frame) (fun _ s4 => wpAny (model X.prog X.w) X.A (throw (.ref a) : Sem Flow) (SP X pins D) X.xe s4) X.xe { s1 with heap := h3 } := by
        rw [frm]
        refine HandSPX.setFlight_upZ fl3 fun h4 fl4 up4 => wpAny_throw (tk _ _ ⟨a, F, sI, pins, σ1, H1, cls, d, rfl, J, nb, (up.trans up3).trans up4, .inr (.inr ?_), na, os, ag, w⟩)
        rw [stk]
        exact fl4
      first
        | exact wpAny_bind (wpAny_pure (wpAny_bind on))
        | exact wpAny_bind on
    | @cons x c ts st suite p q hs2 k2 named suiteOk rest ih =>
      rintro ⟨b, exm, yes, no⟩
      refine wpAny_handleBy_cons (codeAny_handlers_test ?_) (by intro z; cases z)
      have looks : PySem.W.Looks (model X.prog X.w) h3 (typeOf (.ref a)) cls := fun A Q E s k z => wpAny_typeOf_ref (k _ _ g3) (by rw [z3.1]; exact z)
      have isOne := PySem.W.exm_one (M := model X.prog X.w) J3.kIn looks exm
      have name : ∀ {Q : Value → Shared → Prop} {E : Value → Shared → Prop}, Q c { s1 with heap := h3 } → wpAny (model X.prog X.w) (X.A.mark (some (.ref a))) (eval (.Name x p) X.env) Q E { s1 with heap := h3 } := fun {Q E} z => by
        obtain ⟨gl, db, m | ⟨m, bv, nn⟩⟩ := named
        · exact ld_glob (X := X.suite a ((a, oe3) :: (X.pn ++ pins))) S3 gl m z db
        · exact ld_blt (X := X.suite a ((a, oe3) :: (X.pn ++ pins))) S3 gl m bv z nn db
      refine name (isOne.here ?_)
      cases b with
      | false =>
        change wpAny _ X.A (handleBy (.ref a) X.env hs2) _ _ _
        exact ih (no rfl)
      | true =>
        refine codeAny_handlers_suite_as (HandSPX.lands_againZ fl3 fun h4 fl4 up4 => ?_)
        have J4 : Inv X pins σ1 H1 { s1 with heap := h4 } := J.landed nb fl4.1 ((up.trans up3).trans up4) os ag
        obtain ⟨oe4, vs4, g4, z4, d4⟩ := fl4.there
        refine store_ok (X := X.suite a ((a, oe4) :: (X.pn ++ pins))) (v := .ref a) (J4.suite g4 d4 na nL nF) nd at_i vis rfl (fun s5 S5 => ?_) (.inr loc)
        refine wpAny_mono ((suiteOk a oe4 cls d (X.pn ++ pins) z4 ⟨_, d4⟩).run [] s5 _ H1 _ S5 (yes rfl a na)) (fun f s6 z => ?_) fun _ _ z => z.elim
        have last : ∀ {σ6 : L2.St} {H6 : Hp} {Q : Shared → Prop}, Inv (X.suite a ((a, oe4) :: (X.pn ++ pins))) [] σ6 H6 s6 → (∀ s7, Inv X pins (σ6.set i none) H6 s7 → Q s7) →
            wpAny (model X.prog X.w) X.A (do bindName X.env n .none; unbindBehindTheSuite X.env n q) (fun _ s7 => Q s7) X.xe s6 := fun {σ6 H6 Q} S6 hq => gone_ok (S6.unsuite ok) nd at_i loc hq
        cases f with
        | next =>
          obtain ⟨σ6, H6, S6, z6⟩ := z
          exact last S6 fun s7 J7 => ⟨_, _, J7, z6⟩
        | brk =>
          obtain ⟨σ6, H6, S6, z6⟩ := z
          exact last S6 fun s7 J7 => ⟨_, _, J7, z6⟩
        | cont =>
          obtain ⟨σ6, H6, S6, z6⟩ := z
          exact last S6 fun s7 J7 => ⟨_, _, J7, z6⟩
        | ret u =>
          obtain ⟨v6, σ6, H6, S6, r6, z6⟩ := z
          exact last S6 fun s7 J7 => ⟨_, _, _, J7, r6, z6⟩
  exact all cl wish
end
end Xby

set_option Elab.async false
set_option linter.all false
set_option maxRecDepth 100000
set_option maxHeartbeats 4000000
/-! # for laws of any value: making under a try, list(..), the heap without the drawer, sizes -/
namespace Xby
open PySem PySem.Spec PyProof.Rows L2
section
variable {X : Cx} {CX : CXT} {k : Nat} {f C : Addr} {fd : FuncData} {ps : List Str} {sp : Sp} {x : Str} {p pos : Pos} {e : Expr} {es : List Expr} {t : TA}
theorem run_makeS {pins : List (Addr × Obj)} {σ : L2.St} {H : Hp} {s : Shared} {Q : VK} {E : XK} {us : List Value} {vs : List V} (M : Mk X.K C f) (F : FnOk X.prog X.w X.K X.mg X.base CX k f fd ps sp) (room : Room (k + 1) X.A) (bd : Binds X.K fd ps [])
    (out : PassesAt CX X σ E) (I : Inv X pins σ H s) (r : Vals vs us)
    (q : ∀ y dy, H y = none → H dy = none → dy ≠ y → sp (.ref y :: vs) (upd (upd H dy (.own y)) y (.ins C dy [])) (fun v H2 => v = .non ∧ Q (.ref y) H2) E) :
    wpAny (model X.prog X.w) X.A (call (.ref C) us) (EP X pins σ Q) X.xe s := by
  obtain ⟨y, ey⟩ : ∃ y, y = s.heap.objs.size + 1 := ⟨_, rfl⟩
  have q0 := q (s.heap.objs.size + 1) s.heap.objs.size (I.hok.fresh (Nat.le_succ _)) (I.hok.fresh (Nat.le_refl _)) (Nat.ne_of_lt (Nat.lt_succ_self _))
  have J := Inv.made (C := C) I
  have rv : Vals (V.ref (s.heap.objs.size + 1) :: vs) (Value.ref (s.heap.objs.size + 1) :: us) := .cons rfl r
  have len : (Value.ref (s.heap.objs.size + 1) :: us).length = ps.length := rv.length.symm.trans (F.len _ _ _ _ q0)
  have bn := bd _ (Value.ref (s.heap.objs.size + 1) :: us) J.kIn (by rw [List.append_nil]; exact len)
  rw [List.append_nil] at bn
  have go := F.run _ X.stack _ _ ⟨Value.ref (s.heap.objs.size + 1) :: us, []⟩ (Value.ref (s.heap.objs.size + 1) :: us) _ _ E (room.make C us []) (J.env0.make C us []) bn rv q0
  refine wpAny_call (make_map (f := f) I.kIn M.makes M.init (beq_iff_eq.mp M.fn) (codeAny_mono go fun r s1 z => ?_))
  cases r with
  | error e => exact out pins _ _ e s1 J z
  | ok fl =>
    cases fl with
    | ret u =>
      obtain ⟨v, H1, J1, rv1, rfl, q1⟩ := J.after z
      exact ⟨rv1, V.ref (s.heap.objs.size + 1), H1, J1, rfl, q1⟩
    | next => exact z.elim
    | brk => exact z.elim
    | cont => exact z.elim
def tMakeS (C : Addr) (sp : Sp) (E : L2.St → XK) (t : TA) : TE := fun σ H Q => t σ H fun vs H1 => ∀ y dy, H1 y = none → H1 dy = none → dy ≠ y → sp (.ref y :: vs) (upd (upd H1 dy (.own y)) y (.ins C dy [])) (fun v H2 => v = .non ∧ Q (.ref y) H2) (E σ)
theorem pe_makeS {E : L2.St → XK} (M : Mk X.K C f) (F : FnOk X.prog X.w X.K X.mg X.base CX k f fd ps sp) (room : Room (k + 1) X.A) (gl : Gl X x) (at_x : X.mg x = some (.ref C)) (bd : Binds X.K fd ps []) (out : ∀ σ, PassesAt CX X σ (E σ)) (args : PA X (e :: es) t)
    (db : (x == ("__debug__" : Str)) = false := by decide) (he : starEach (e :: es) X.env = (false, eval e X.env) :: starEach es X.env := by rfl) (hpl : (backTo pos (starEach es X.env)).any (·.1) = false := by rfl) :
    PE X (.Call (.Name x p) (e :: es) [] pos) (tMakeS C sp E t) := by
  constructor
  intro pins s σ H Q I h
  refine wpAny_Call_Name_kw (ld_glob I gl at_x ?_ db)
  exact PySem.W.callWith_K (h₀ := X.base) I.ok.mod.kin M.kp (thn (args.run pos pins s σ H _ I h) fun us s1 ⟨vs, H1, I1, r, q⟩ => ⟨I1.kIn, run_makeS M F room bd (out σ) I1 r q⟩) he hpl
/-- list(t), t a tuple; it is not sys.modules -/
theorem call_listT (K : PySem.W.Frag) (hK : X.K = K) : CallR X (.type "list") (fun xs H Q => ∃ p ys, xs = [.ref p] ∧ SqT K H p ys ∧ ∀ l, H l = none → sysModules ≠ l → Q (.ref l) (upd H l (.lst ys))) := by
  subst hK
  rintro pins s σ H xs us Q I r ⟨p, ys, rfl, hq, q⟩
  obtain ⟨u, rfl, rx⟩ := vals1 r
  cases rx
  obtain ⟨its, rv, pl, few⟩ := I.tuple hq
  have len := rv.length
  obtain ⟨o, g, c, n, d⟩ := pl
  refine call_list_seq p (.inr rfl) g c d (fun h2 c2 kp e => ?_) (by simp only [List.size_toArray] <;> omega)
  have J := I.laid (o := .lst ys) (t' := s.toks) kp (Nat.le_refl _) ⟨few, its, c2, rv, e⟩
  exact ⟨.ref s.heap.objs.size, _, J, rfl, q _ (I.hok.fresh (Nat.le_refl _)) (Nat.ne_of_lt (mods_lt I))⟩
end
/-! ## the heap without the drawer -/
def wo (p : Addr) (H : Hp) : Hp := fun b => if b = p then none else H b
section
variable {p a : Addr} {H H' : Hp} {o : HO}
theorem wo_same : Same (wo p H) H := fun b o e => by
  unfold wo at e
  split at e
  · cases e
  · exact e
theorem wo_at (n : a ≠ p) (e : H a = some o) : wo p H a = some o := by
  unfold wo
  rw [if_neg n]
  exact e
theorem wo_p : wo p H p = none := if_pos rfl
theorem wo_but (b : But p H H') : Same (wo p H) (wo p H') := fun c u e => by
  have n : c ≠ p := fun z => by rw [z, wo_p] at e; cases e
  exact wo_at n (b c u n (wo_same c u e))
end
/-! ## sizes, added up -/
structure Szs (w k : Nat) (ds : List PyData) : Prop where
  lv : PyData.leavesShortAll 40 ds = true
  wt : PyData.weightAll ds ≤ w
  dp : PyData.depthAll ds ≤ k
  sh : PyData.showableAll ds = true
theorem lvA : ∀ xs ys : List PyData, PyData.leavesShortAll 40 (xs ++ ys) = (PyData.leavesShortAll 40 xs && PyData.leavesShortAll 40 ys)
  | [], ys => by simp [PyData.leavesShortAll]
  | x :: xs, ys => by simp only [List.cons_append, PyData.leavesShortAll, lvA xs ys, Bool.and_assoc]
theorem wtA : ∀ xs ys : List PyData, PyData.weightAll (xs ++ ys) = PyData.weightAll xs + PyData.weightAll ys
  | [], ys => by simp [PyData.weightAll]
  | x :: xs, ys => by simp only [List.cons_append, PyData.weightAll, wtA xs ys]; omega
theorem dpA : ∀ xs ys : List PyData, PyData.depthAll (xs ++ ys) = max (PyData.depthAll xs) (PyData.depthAll ys)
  | [], ys => by simp [PyData.depthAll]
  | x :: xs, ys => by simp only [List.cons_append, PyData.depthAll, dpA xs ys]; omega
theorem shA : ∀ xs ys : List PyData, PyData.showableAll (xs ++ ys) = (PyData.showableAll xs && PyData.showableAll ys)
  | [], ys => by simp [PyData.showableAll]
  | x :: xs, ys => by simp only [List.cons_append, PyData.showableAll, shA xs ys, Bool.and_assoc]
section
variable {w v k : Nat} {d : PyData} {xs ys ds : List PyData}
theorem Szs.add (a : Szs w k xs) (b : Szs v k ys) : Szs (w + v) k (xs ++ ys) := ⟨by rw [lvA, a.lv, b.lv]; rfl, by rw [wtA]; exact Nat.add_le_add a.wt b.wt, by rw [dpA]; exact Nat.max_le.mpr ⟨a.dp, b.dp⟩, by rw [shA, a.sh, b.sh]; rfl⟩
theorem Szs.parts (a : Szs w k (xs ++ ys)) : Szs w k xs ∧ Szs w k ys := by
  obtain ⟨a1, a2, a3, a4⟩ := a
  rw [lvA, Bool.and_eq_true] at a1
  rw [wtA] at a2
  rw [dpA] at a3
  rw [shA, Bool.and_eq_true] at a4
  exact ⟨⟨a1.1, by omega, by omega, a4.1⟩, ⟨a1.2, by omega, by omega, a4.2⟩⟩
theorem Szs.more {w' k' : Nat} (a : Szs w k xs) (hw : w ≤ w') (hk : k ≤ k') : Szs w' k' xs := ⟨a.lv, Nat.le_trans a.wt hw, Nat.le_trans a.dp hk, a.sh⟩
theorem Szs.nil : Szs 0 0 [] := ⟨rfl, Nat.le_refl _, Nat.le_refl _, rfl⟩
theorem Szs.one (a : Sz w k d) : Szs (w + 1) k [d] := ⟨by simp [PyData.leavesShortAll, a.lv], by have := a.wt; simp only [PyData.weightAll]; omega, by have := a.dp; simp only [PyData.depthAll]; omega, by simp [PyData.showableAll, a.sh]⟩
theorem Szs.take (a : Szs w k xs) (n : Nat) : Szs w k (xs.take n) := by
  rw [← List.take_append_drop n xs] at a
  exact a.parts.1
theorem Szs.drop (a : Szs w k xs) (n : Nat) : Szs w k (xs.drop n) := by
  rw [← List.take_append_drop n xs] at a
  exact a.parts.2
theorem Szs.mem (a : Szs w k xs) (h : d ∈ xs) : Sz w k d := by
  obtain ⟨l, r, rfl⟩ := List.append_of_mem h
  have b := (Szs.parts (xs := l) (ys := d :: r) a).2
  have c := (Szs.parts (xs := [d]) (ys := r) b).1
  obtain ⟨c1, c2, c3, c4⟩ := c
  simp only [PyData.leavesShortAll, PyData.weightAll, PyData.depthAll, PyData.showableAll, Bool.and_true] at c1 c2 c3 c4
  exact ⟨c1, by omega, by omega, c4⟩
theorem wtR : ∀ xs : List PyData, PyData.weightAll xs.reverse = PyData.weightAll xs
  | [] => rfl
  | x :: xs => by
    rw [List.reverse_cons, wtA, wtR xs]
    simp only [PyData.weightAll]
    omega
theorem Szs.rev (a : Szs w k xs) : Szs w k xs.reverse := by
  have b : ∀ {ys : List PyData}, Szs w k ys → PyData.leavesShortAll 40 ys.reverse = true ∧ PyData.depthAll ys.reverse ≤ k ∧ PyData.showableAll ys.reverse = true := by
    intro ys
    induction ys with
    | nil => exact fun _ => ⟨rfl, Nat.zero_le _, rfl⟩
    | cons y ys ih =>
      intro s
      obtain ⟨s1, s2⟩ := Szs.parts (xs := [y]) (ys := ys) s
      obtain ⟨i1, i2, i3⟩ := ih s2
      rw [List.reverse_cons, lvA, dpA, shA, i1, i3, s1.lv, s1.sh]
      exact ⟨rfl, Nat.max_le.mpr ⟨i2, s1.dp⟩, rfl⟩
  obtain ⟨b1, b2, b3⟩ := b a
  exact ⟨b1, by rw [wtR]; exact a.wt, b2, b3⟩
theorem Szs.tup (a : Szs w k ds) : Sz w (k + 1) (.tuple ds) := ⟨by simpa only [PyData.leavesShort] using a.lv, by simpa only [PyData.weight] using a.wt, by have := a.dp; simp only [PyData.depth]; omega, by simpa only [PyData.showable] using a.sh⟩
theorem Szs.lst (a : Szs w k ds) : Sz w (k + 1) (.list ds) := ⟨by simpa only [PyData.leavesShort] using a.lv, by simpa only [PyData.weight] using a.wt, by have := a.dp; simp only [PyData.depth]; omega, by simpa only [PyData.showable] using a.sh⟩
theorem Sz.items (a : Sz w k (.tuple ds)) : ∃ j, k = j + 1 ∧ Szs w j ds := by
  obtain ⟨a1, a2, a3, a4⟩ := a
  simp only [PyData.leavesShort, PyData.weight, PyData.depth, PyData.showable] at a1 a2 a3 a4
  exact ⟨k - 1, by omega, a1, a2, by omega, a4⟩
theorem Sz.dictA (a : Sz w k d) : Sz (w + 3) (k + 1) (.dict [(.str "a", d)]) := by
  have l : (PyData.str "a").leavesShort 40 = true := by decide +kernel
  have z : (PyData.str "a").weight = 1 := by decide +kernel
  have dd : (PyData.str "a").depth = 0 := by decide +kernel
  have ss : (PyData.str "a").showable = true := by decide +kernel
  obtain ⟨a1, a2, a3, a4⟩ := a
  refine ⟨?_, ?_, ?_, ?_⟩
  · simp only [PyData.leavesShort, PyData.leavesShortKv] at l ⊢
    simp only [l, a1, Bool.and_self]
  · simp only [PyData.weight, PyData.weightKv] at z ⊢
    omega
  · simp only [PyData.depth, PyData.depthKv] at dd ⊢
    omega
  · simp only [PyData.showable, PyData.showableKv] at ss ⊢
    simp only [a4, Bool.and_self]
theorem Sz.short (a : Sz w k d) (hw : w ≤ 1000000) : Sh d := by
  rintro x rfl
  have := a.wt
  simp only [PyData.weight] at this
  have : x.length = x.cps.size := rfl
  omega
theorem Sz.short1 (a : Sz w k d) (hw : w ≤ 1000000) : Sh1 d := by
  rintro ds rfl e he
  obtain ⟨j, _, s⟩ := a.items
  exact (s.mem he).short hw
theorem Sz.short2 (a : Sz w k d) (hw : w ≤ 1000000) : Sh2 d := by
  rintro ds rfl e he
  obtain ⟨j, _, s⟩ := a.items
  exact (s.mem he).short1 hw
end
end Xby

set_option Elab.async false
set_option linter.all false
set_option maxRecDepth 100000
set_option maxHeartbeats 4000000
/-! # t == (), parts of tuples of any items, what a table's making says of two values -/
namespace Xby
open PySem PySem.Spec PyProof.Rows L2
section
variable {X : Cx}
def rNilT (K : PySem.W.Frag) : R2 := fun x y H Q => ∃ a b xs, x = .ref a ∧ y = .ref b ∧ SqT K H a xs ∧ SqT K H b [] ∧ Q (.bl xs.isEmpty) H
theorem op_nilT (K : PySem.W.Frag) (hK : X.K = K) (hu : X.A.units < cLine) : OpR X (compareOp .Eq) (rNilT K) := by
  subst hK
  rintro pins s σ H x y v u Q I rx ry ⟨a, b, xs, rfl, rfl, ha, hb, q⟩
  obtain rfl : v = Value.ref a := rx
  obtain rfl : u = Value.ref b := ry
  obtain ⟨its, rv, p, _⟩ := I.tuple ha
  obtain ⟨its2, rv2, p2, _⟩ := I.tuple hb
  cases rv2
  have l := rv.length
  have e : ((List.range (min its.toArray.size (#[] : Array Value).size)).all (fun _ => true) && its.toArray.size == (#[] : Array Value).size) = xs.isEmpty := by
    cases xs with
    | nil =>
      cases rv
      rfl
    | cons z zs =>
      have : its.length ≠ 0 := by rw [← l]; simp
      simp [this]
  unfold compareOp
  refine SeqAt.RcAt.tuples p p2 hu (e := fun _ => true) (fun j h1 h2 => absurd h2 (by simp)) _ _ _ _ ?_
  rw [e]
  exact ⟨.bl xs.isEmpty, H, I, rfl, q⟩
end
section
variable {K : PySem.W.Frag} {H : Hp} {a b p : Addr} {xs ys : List V} {Q : VK} {n : Nat}
theorem seqWo (h : SqT K H a xs) (pot : Pot H p n) : SqT K (wo p H) a xs := by
  obtain ⟨_, _, _, q, _⟩ := pot
  rcases h with (h | ⟨o, h⟩) | ⟨o, i, j, h⟩
  · exact .inl (.inl (wo_at (by rintro rfl; rw [h] at q; cases q) h))
  · exact .inl (.inr ⟨o, wo_at (by rintro rfl; rw [h] at q; cases q) h⟩)
  · exact .inr ⟨o, i, j, h⟩
/-- a part of a tuple: at some address -/
theorem partT {lo hi : Option Int} (ha : SqT K H a xs) (k : ∀ c H', Same H H' → SqT K H' c (cutV xs lo hi) → Q (.ref c) H') : rSlA K (.ref a) lo hi H Q := by
  refine ⟨a, xs, rfl, ha, fun h => ?_, fun _ p np => k p _ (Same.one np) (SqT.of upd_same)⟩
  refine k a H (Same.refl H) ?_
  rw [cut_all h]
  exact ha
/-- a + b, tuples -/
theorem catT (ha : SqT K H a xs) (hb : SqT K H b ys) (few : xs.length + ys.length ≤ 1000000) (k : ∀ c H', Same H H' → SqT K H' c (xs ++ ys) → Q (.ref c) H') : rCatA K (.ref a) (.ref b) H Q := by
  refine ⟨a, b, xs, ys, rfl, rfl, ha, hb, ?_, fun h => ?_, fun _ h => ?_, fun _ _ p np => k p _ (Same.one np) (SqT.of upd_same)⟩
  · have : sizeLine = 16777216 := sizeLine_eq
    omega
  · subst h
    exact k b H (Same.refl H) hb
  · subst h
    refine k a H (Same.refl H) ?_
    rw [List.append_nil]
    exact ha
theorem cut_last : cutV xs none (some (-1)) = xs.take (xs.length - 1) := by
  unfold cutV
  have : HT.sIx xs.length xs.length (some (-1)) = xs.length - 1 := by
    unfold HT.sIx
    simp only [show ((-1 : Int) < 0) = True by simp, if_true]
    omega
  rw [HT.sIx_none, this, List.drop_zero, Nat.sub_zero]
theorem DqAll.add {xs ys : List V} {ds es : List PyData} (h : DqAll K H xs ds) (k : DqAll K H ys es) : DqAll K H (xs ++ ys) (ds ++ es) := by
  induction xs generalizing ds with
  | nil => cases h; exact k
  | cons x xs ih =>
    cases h with
    | cons a t => exact .cons a (ih t)
theorem DqAll.part {xs : List V} {ds : List PyData} (h : DqAll K H xs ds) (n : Nat) : DqAll K H (xs.take n) (ds.take n) ∧ DqAll K H (xs.drop n) (ds.drop n) := by
  induction xs generalizing ds n with
  | nil =>
    cases h
    simpa using DqAll.nil
  | cons x xs ih =>
    cases h with
    | cons a t =>
      cases n with
      | zero => exact ⟨.nil, .cons a t⟩
      | succ n => exact ⟨.cons a (ih t n).1, (ih t n).2⟩
theorem DqAll.back {xs : List V} {ds : List PyData} (h : DqAll K H xs ds) : DqAll K H xs.reverse ds.reverse := by
  induction xs generalizing ds with
  | nil => cases h; exact .nil
  | cons x xs ih =>
    cases h with
    | cons a t =>
      rw [List.reverse_cons, List.reverse_cons]
      exact (ih t).add (.cons a .nil)
end
/-! ## what the making of a table says -/
inductive Fk where
  | columns | rows | row | many | none
  deriving DecidableEq
def Fk.name : Fk → Str
  | .columns => "columns"
  | .rows => "rows"
  | .row => "row"
  | .many => "many"
  | .none => "none"
def firstBad (n : Nat) : List V → List PyData → Option V
  | v :: vs, d :: ds => if rowD n d then firstBad n vs ds else some v
  | _, _ => none
def wid : PyData → Nat
  | .tuple ds => ds.length
  | _ => 0
def due (vh vr : V) (dh dr : PyData) (xs : List V) : Fk × V :=
  if colsD dh then
    match dr with
    | .tuple rs => if 6 < rs.length then (.many, .int 6) else match firstBad (wid dh) xs rs with
      | some v => (.row, v)
      | none => (.none, .non)
    | _ => (.rows, vr)
  else (.columns, vh)
/-- the two values, and the items of the second one where it is a tuple -/
structure Two (K : PySem.W.Frag) (H : Hp) (vh vr : V) (dh dr : PyData) (xs : List V) : Prop where
  h : Dq K H vh dh
  r : Dq K H vr dr
  x : ∀ rs, dr = .tuple rs → ∃ a, vr = .ref a ∧ SqT K H a xs ∧ DqAll K H xs rs
  s1 : Sh1 dh
  s2 : Sh2 dr
section
variable {K : PySem.W.Frag} {H H' : Hp} {vh vr : V} {dh dr : PyData} {xs : List V}
theorem Two.same (t : Two K H vh vr dh dr xs) (s : Same H H') : Two K H' vh vr dh dr xs := ⟨t.h.same s, t.r.same s, fun rs e => by
  obtain ⟨a, e1, e2, e3⟩ := t.x rs e
  exact ⟨a, e1, e2.ext s, e3.same s⟩, t.s1, t.s2⟩
theorem two_of (h : Dq K H vh dh) (r : Dq K H vr dr) (s1 : Sh1 dh) (s2 : Sh2 dr) : ∃ xs, Two K H vh vr dh dr xs := by
  rcases r.isTup with ⟨a, xs, ds, rfl, rfl, hs, ha⟩ | ⟨_, _, _, no⟩
  · refine ⟨xs, h, r, fun rs e => ?_, s1, s2⟩
    obtain rfl : ds = rs := by injection e
    exact ⟨a, rfl, hs, ha⟩
  · exact ⟨[], h, r, fun rs e => absurd e (no rs), s1, s2⟩
theorem due_cols (n : colsD dh = false) : due vh vr dh dr xs = (.columns, vh) := by
  unfold due
  rw [n]
  rfl
theorem due_rows (c : colsD dh = true) (n : ∀ rs, dr ≠ .tuple rs) : due vh vr dh dr xs = (.rows, vr) := by
  unfold due
  rw [if_pos c]
  cases dr with
  | tuple rs => exact absurd rfl (n rs)
  | _ => rfl
theorem due_many {rs : List PyData} (c : colsD dh = true) (n : 6 < rs.length) : due vh vr dh (.tuple rs) xs = (.many, .int 6) := by
  unfold due
  rw [if_pos c]
  exact if_pos n
theorem due_row {rs : List PyData} {v : V} (c : colsD dh = true) (n : ¬ 6 < rs.length) (b : firstBad (wid dh) xs rs = some v) : due vh vr dh (.tuple rs) xs = (.row, v) := by
  unfold due
  rw [if_pos c]
  show (if 6 < rs.length then _ else _) = _
  rw [if_neg n, b]
theorem due_none {rs : List PyData} (c : colsD dh = true) (n : ¬ 6 < rs.length) (b : firstBad (wid dh) xs rs = none) : due vh vr dh (.tuple rs) xs = (.none, .non) := by
  unfold due
  rw [if_pos c]
  show (if 6 < rs.length then _ else _) = _
  rw [if_neg n, b]
theorem bad_at {n : Nat} : ∀ {xs : List V} {rs : List PyData} {i : Nat} {v : V} {d : PyData}, xs[i]? = some v → rs[i]? = some d → (∀ j e, j < i → rs[j]? = some e → rowD n e = true) → rowD n d = false → firstBad n xs rs = some v
  | [], _, _, _, _, e, _, _, _ => by simp at e
  | _ :: _, [], _, _, _, _, e, _, _ => by simp at e
  | x :: xs, r :: rs, 0, v, d, e1, e2, _, b => by
    obtain rfl : x = v := by simpa using e1
    obtain rfl : r = d := by simpa using e2
    unfold firstBad
    rw [b]
    rfl
  | x :: xs, r :: rs, i + 1, v, d, e1, e2, ok, b => by
    unfold firstBad
    rw [ok 0 r (Nat.succ_pos _) rfl, if_pos rfl]
    exact bad_at (by simpa using e1) (by simpa using e2) (fun j e hj he => ok (j + 1) e (Nat.succ_lt_succ hj) (by simpa using he)) b
theorem bad_no {n : Nat} : ∀ {xs : List V} {rs : List PyData}, (∀ e ∈ rs, rowD n e = true) → firstBad n xs rs = none
  | [], _, _ => by unfold firstBad; rfl
  | _ :: _, [], _ => by unfold firstBad; rfl
  | x :: xs, r :: rs, ok => by
    unfold firstBad
    rw [ok r List.mem_cons_self, if_pos rfl]
    exact bad_no fun e he => ok e (List.mem_cons_of_mem _ he)
/-- what is told is data, no greater -/
theorem due_data {w k : Nat} (t : Two K H vh vr dh dr xs) (zh : Sz w k dh) (zr : Sz w k dr) (hw : 3 ≤ w) : ∃ d, Dq K H (due vh vr dh dr xs).2 d ∧ Sz w k d := by
  have six : Sz w k (.int 6) := (show Sz 3 0 (.int 6) by decide +kernel).more hw (Nat.zero_le _)
  by_cases c : colsD dh = true
  · rcases t.r.isTup with ⟨a, xs', ds, _, e, _, _⟩ | ⟨_, _, _, no⟩
    · subst e
      obtain ⟨a, rfl, hs, ha⟩ := t.x ds rfl
      by_cases m : 6 < ds.length
      · rw [due_many c m]
        exact ⟨_, .int 6, six⟩
      · cases b : firstBad (wid dh) xs ds with
        | none =>
          rw [due_none c m b]
          exact ⟨_, .non, (show Sz 0 0 .none by decide +kernel).more (by omega) (Nat.zero_le _)⟩
        | some v =>
          rw [due_row c m b]
          have mem : ∀ {xs : List V} {rs : List PyData}, DqAll K H xs rs → firstBad (wid dh) xs rs = some v → ∃ d ∈ rs, Dq K H v d := by
            intro xs
            induction xs with
            | nil => exact fun h b => by unfold firstBad at b; cases b
            | cons x xs ih =>
              intro rs h b
              cases h with
              | cons a1 a2 =>
                unfold firstBad at b
                split at b
                · obtain ⟨d, hd, q⟩ := ih a2 b
                  exact ⟨d, List.mem_cons_of_mem _ hd, q⟩
                · obtain rfl : x = v := Option.some.inj b
                  exact ⟨_, List.mem_cons_self, a1⟩
          obtain ⟨d, hd, q⟩ := mem ha b
          obtain ⟨j, rfl, s⟩ := zr.items
          exact ⟨d, q, (s.mem hd).more (Nat.le_refl _) (Nat.le_succ _)⟩
    · rw [due_rows c no]
      exact ⟨_, t.r, zr⟩
  · rw [due_cols (Bool.eq_false_iff.mpr c)]
    exact ⟨_, t.h, zh⟩
end
end Xby

set_option Elab.async false
set_option linter.all false
set_option maxRecDepth 100000
set_option maxHeartbeats 4000000
/-! # values that are data beside the drawer -/
namespace Xby
open PySem L2
def Okd (K : PySem.W.Frag) (p : Addr) (w k : Nat) (H : Hp) (x : V) : Prop := ∃ d, Dq K (wo p H) x d ∧ Sz w k d
section
variable {K : PySem.W.Frag} {p a : Addr} {w k n : Nat} {H H' : Hp} {x v : V} {l xs : List V} {ds : List PyData} {d : PyData}
theorem Okd.but (h : Okd K p w k H x) (b : But p H H') : Okd K p w k H' x := by
  obtain ⟨d, q, z⟩ := h
  exact ⟨d, q.same (wo_but b), z⟩
theorem all_but (h : ∀ x ∈ l, Okd K p w k H x) (b : But p H H') : ∀ x ∈ l, Okd K p w k H' x := fun x hx => (h x hx).but b
theorem all_add (h : ∀ x ∈ l, Okd K p w k H x) (a : Okd K p w k H v) : ∀ x ∈ v :: l, Okd K p w k H x := fun x hx => by
  rcases List.mem_cons.mp hx with rfl | hx
  · exact a
  · exact h x hx
theorem newTup (pot : Pot H p n) (na : H a = none) (h : DqAll K (wo p H) xs ds) : Dq K (wo p (upd H a (.tup xs))) (.ref a) (.tuple ds) :=
  .tup (SqT.of (wo_at (pot.ne na).symm upd_same)) (h.same (wo_but (But.of (Same.one na))))
theorem newLst (pot : Pot H p n) (na : H a = none) (sm : sysModules ≠ a) (h : DqAll K (wo p H) xs ds) : Dq K (wo p (upd H a (.lst xs))) (.ref a) (.list ds) :=
  .lst (wo_at (pot.ne na).symm upd_same) sm (h.same (wo_but (But.of (Same.one na))))
theorem newDct (pot : Pot H p n) (na : H a = none) : Dq K (wo p (upd H a (.dK []))) (.ref a) (.dict []) :=
  .dct (wo_at (pot.ne na).symm upd_same) .nil
theorem tupAt (pot : Pot H p n) (ha : SqT K H a xs) (h : DqAll K (wo p H) xs ds) : Dq K (wo p H) (.ref a) (.tuple ds) := .tup (seqWo ha pot) h
theorem DqAll.nil' {K : PySem.W.Frag} {H : Hp} : DqAll K H [] [] := .nil
end
end Xby
namespace Xby
open PySem L2
/-- the thing (a tuple), the list so far, what was made since -/
structure Bag (K : PySem.W.Frag) (p : Addr) (n w k : Nat) (H : Hp) (a : Addr) (xs : List V) (ds : List PyData) (L : Addr) (I : List V) (Hc : Hp) (items : List V) : Prop where
  pot : Pot Hc p n
  but : But p H Hc
  hs : SqT K (wo p Hc) a xs
  ha : DqAll K (wo p Hc) xs ds
  hl : Hc L = some (.lst I)
  g : ∀ x ∈ I, Okd K p w k Hc x
  gi : ∀ x ∈ items, Okd K p w k Hc x
section
variable {K : PySem.W.Frag} {p a L c : Addr} {n w k : Nat} {H Hc Hd : Hp} {xs I items ys : List V} {ds es : List PyData} {v : V}
theorem Bag.same (b : Bag K p n w k H a xs ds L I Hc items) (s : Same Hc Hd) : Bag K p n w k H a xs ds L I Hd items :=
  ⟨b.pot.same s, b.but.same s, b.hs.ext (wo_but (But.of s)), b.ha.same (wo_but (But.of s)), s _ _ b.hl, all_but b.g (But.of s), all_but b.gi (But.of s)⟩
theorem Bag.add (b : Bag K p n w k H a xs ds L I Hc items) (o : Okd K p w k Hc v) : Bag K p n w k H a xs ds L I Hc (v :: items) := ⟨b.pot, b.but, b.hs, b.ha, b.hl, b.g, all_add b.gi o⟩
/-- a tuple made of what the thing holds -/
theorem Bag.tup (b : Bag K p n w k H a xs ds L I Hc items) (s : Same Hc Hd) (hc : SqT K Hd c ys) (h : DqAll K (wo p Hc) ys es) (z : Sz w k (.tuple es)) : Bag K p n w k H a xs ds L I Hd (.ref c :: items) :=
  (b.same s).add ⟨_, tupAt (b.pot.same s) hc (h.same (wo_but (But.of s))), z⟩
theorem Bag.hsc (b : Bag K p n w k H a xs ds L I Hc items) : SqT K Hc a xs := b.hs.ext wo_same
end
theorem Szs.len {w k : Nat} : ∀ {ds : List PyData}, Szs w k ds → ds.length ≤ w
  | [], _ => Nat.zero_le _
  | d :: ds, s => by
    have a := s.wt
    simp only [PyData.weightAll] at a
    have b := Szs.len (w := w - 1) (k := k) (ds := ds) ⟨by have := s.lv; simp only [PyData.leavesShortAll, Bool.and_eq_true] at this; exact this.2, by omega, by have := s.dp; simp only [PyData.depthAll] at this; omega, by have := s.sh; simp only [PyData.showableAll, Bool.and_eq_true] at this; exact this.2⟩
    simp only [List.length_cons]
    omega
end Xby
namespace Xby
open PySem L2
/-- one item otherwise -/
theorem Szs.other {w j : Nat} {ds : List PyData} {i : Nat} {e d : PyData} (s : Szs w j ds) (hi : ds[i]? = some e) (z : Sz (2 * e.weight + 113) (j + 2) d) : Szs (2 * w + 113) (j + 2) (ds.take i ++ [d] ++ ds.drop (i + 1)) := by
  obtain ⟨hl, he⟩ := List.getElem?_eq_some_iff.mp hi
  have split : ds = ds.take i ++ ([e] ++ ds.drop (i + 1)) := by
    rw [← he]
    have := List.drop_eq_getElem_cons hl
    rw [List.singleton_append, ← this, List.take_append_drop]
  have wt := s.wt
  rw [split, wtA, wtA] at wt
  have w1 : PyData.weightAll [e] = e.weight + 1 := by simp [PyData.weightAll]
  have a := (s.take i).more (Nat.le_refl _) (show j ≤ j + 2 by omega)
  have b := (s.drop (i + 1)).more (Nat.le_refl _) (show j ≤ j + 2 by omega)
  have c := Szs.one z
  have all := (a.add c).add b
  refine ⟨all.lv, ?_, all.dp, all.sh⟩
  rw [wtA, wtA]
  have w2 : PyData.weightAll [d] = d.weight + 1 := by simp [PyData.weightAll]
  have := z.wt
  omega
theorem Sz.self {w j : Nat} {e : PyData} (z : Sz w j e) : Sz e.weight j e := ⟨z.lv, Nat.le_refl _, z.dp, z.sh⟩
end Xby

set_option linter.all false
/-! # plain facts about lists of ints -/
namespace Xby
theorem count_nodup {l ys : List Int} (nd : l.Nodup) (m : ∀ k, k ∈ l ↔ k ∈ ys) : l.length = ys.length ↔ ys.Nodup := by
  constructor
  · intro e
    rw [List.nodup_iff_count]
    intro a
    by_cases h : ys.count a ≤ 1
    · exact h
    · exfalso
      have ha : a ∈ ys := List.count_pos_iff.mp (by omega)
      have hb : a ∈ ys.erase a := List.count_pos_iff.mp (by rw [List.count_erase_self]; omega)
      have sub : l ⊆ ys.erase a := fun k hk => by
        by_cases c : k = a
        · rw [c]; exact hb
        · exact (List.mem_erase_of_ne c).mpr ((m k).mp hk)
      have := nd.length_le_of_subset sub
      rw [List.length_erase_of_mem ha] at this
      have : 0 < ys.length := List.length_pos_of_mem ha
      omega
  · intro n
    have a := nd.length_le_of_subset fun k hk => (m k).mp hk
    have b := n.length_le_of_subset fun k hk => (m k).mpr hk
    omega
theorem rise_iff : ∀ {l : List Int}, (∀ k (h : k + 1 < l.length), l[k] < l[k + 1]) ↔ l.Pairwise (· < ·)
  | [] => by simp
  | [x] => by simp
  | x :: y :: l => by
    have ih := rise_iff (l := y :: l)
    rw [List.pairwise_cons]
    constructor
    · intro h
      have p := ih.mp fun k hk => by
        have := h (k + 1) (by simpa using hk)
        simpa using this
      refine ⟨fun z hz => ?_, p⟩
      have xy : x < y := h 0 (by simp)
      rcases List.mem_cons.mp hz with rfl | hz
      · exact xy
      · exact Int.lt_trans xy (List.rel_of_pairwise_cons p hz)
    · rintro ⟨a, p⟩ k hk
      cases k with
      | zero => exact a y List.mem_cons_self
      | succ k =>
        have hk' : k + 1 < (y :: l).length := by simpa using hk
        exact ih.mpr p k hk'
theorem asc_unique {a b : List Int} (ha : a.Pairwise (· < ·)) (hb : b.Pairwise (· < ·)) (m : ∀ k, k ∈ a ↔ k ∈ b) : a = b := by
  have na : a.Nodup := ha.imp fun h => Int.ne_of_lt h
  have nb : b.Nodup := hb.imp fun h => Int.ne_of_lt h
  have p : a.Perm b := (List.perm_ext_iff_of_nodup na nb).mpr m
  exact p.eq_of_pairwise (le := (· < ·)) (fun x y _ _ h1 h2 => absurd (Int.lt_trans h1 h2) (Int.lt_irrefl _)) ha hb
/-- pairs of places: ascending, none twice -/
def okPs (ps : List (Int × Int)) : Bool := decide ((ps.map (·.1)).Pairwise (· < ·)) && decide (ps.map (·.2)).Nodup
end Xby

set_option Elab.async false
set_option linter.all false
set_option maxRecDepth 100000
set_option maxHeartbeats 4000000
/-! # set(l), l a list of ints; its length; t != (); targets that are tuples -/
namespace Xby
open PySem PySem.Spec PyProof.Rows L2
section
variable {prog : Program} {w : World} {A : Around} {E : Value → Shared → Prop} {s : Shared}
abbrev newSet (w : World) : Obj := { cls := .type "set", dict := none, data := .set #[] 0 (.fresh 0 0 (!w.params.followText "set-order")) }
set_option maxHeartbeats 3200000 in
theorem set_of_ints {l : Addr} {us : Array Value} {ys : List Int} {Q : Value → Shared → Prop} (hh : A.handled = none) (hl : s.heap.IsList l us) (hi : IntsAre us.toList ys) (few : ys.length + 1 < scanBound)
    (q : ∀ (h2 : Heap) (tk c : Nat), SetR w h2 s.heap.objs.size (fun j => decide (j ∈ ys)) c → c ≤ ys.length → (∀ b o, s.heap.get? b = some o → h2.get? b = some o) → Q (.ref s.heap.objs.size) { s with heap := h2, toks := tk }) :
    wpAny (model prog w) A (call (.type "set") [.ref l]) Q E s := by
  have lenU : us.size = ys.length := by
    have z := IntsAre.length hi
    rw [Array.length_toList] at z
    exact z
  obtain ⟨cc, tl, mro⟩ := PySem.F.called_set.mro
  have made := PySem.F.called_set.made
  have sub := PySem.F.called_set.sub
  have nt := PySem.F.called_set.notType
  have cr := PySem.F.called_set.canCreate
  have ct := PySem.F.typeCall_set_1 (.ref l)
  refine wpAny_call (codeAny_of_tree ?_)
  change wpAny _ _ (callAny (.type "set") _) _ _ _
  refine wpAny_pure ⟨Code.quiet_builtin _ (by decide +kernel), codeAny_builtin PySem.F.entry_type_call ?_⟩
  rw [Around.under_plain (weight_type_call_type "set" [.ref l] []) rfl]
  repeat (any_goals (first | assumption | wp_step))
  refine codeAny_mono (code_set_led1 (w := w) (.ref l) (E := E) (Q₁ := fun u s1 => u = .ref s.heap.objs.size ∧ s1 = { s with heap := s.heap.push (newSet w) }) ⟨rfl, rfl⟩) fun r s1 hr => ?_
  cases r with
  | error e => exact hr
  | ok fl =>
    cases fl with
    | ret u =>
      obtain ⟨rfl, rfl⟩ := hr
      have new : (s.heap.push (newSet w)).get? s.heap.objs.size = some (newSet w) := Heap.get?_push_size _ rfl
      have ty : Shared.TypeIs { s with heap := s.heap.push (newSet w) } (.ref s.heap.objs.size) "set" := ⟨_, new, rfl⟩
      have lk := PySem.F.called_set.init.lookup
      have bd := PySem.F.called_set.init.bind (.ref s.heap.objs.size)
      repeat (any_goals (first | assumption | wp_step))
      refine codeAny_mono (codeAny_call_builtin (R := wants (fun r s2 => r = .none ∧ ∃ h2 tk c, s2 = { s with heap := h2, toks := tk } ∧ SetR w h2 s.heap.objs.size (fun j => decide (j ∈ ys)) c ∧ c ≤ ys.length ∧
        (∀ b o, s.heap.get? b = some o → h2.get? b = some o)) E) PySem.F.called_set.init.plain PySem.F.entry_set_init (check_set_init_1 ty ?_)) fun r2 s2 hr2 => ?_
      · obtain ⟨⟨tc, td, tdata, tsl⟩, g, hc, nl, hd⟩ := hl
        simp only at hc hd
        subst hc hd
        have ls : l < s.heap.objs.size := Heap.lt_size g
        have g1 : (s.heap.push (newSet w)).get? l = some { cls := .type "list", dict := td, data := .seq us nl, slots := tsl } := Heap.get?_push_of_some _ g
        have st := PySem.F.sub_list_set
        have sf := PySem.F.sub_list_frozenset
        have nd : (Value.type "list" == Value.type "dict") = false := by decide
        have lst1 : (s.heap.push (newSet w)).IsList l us := ⟨_, g1, rfl, nl, rfl⟩
        unfold Builtin.«set.__init__» noKeywords Builtin.Frozenset.updateFrom
        generalize e : pyIter = it
        wp_walk
        subst e
        refine wpAny_pyIter_list lst1 (wpAny_bind (wpAny_runValue ?_))
        have h3 : A.in1.in1.in1.handled = none := by simp [hh]
        have ne : l ≠ (s.heap.push (newSet w)).objs.size := by
          rw [Heap.size_push]
          exact Nat.ne_of_lt (Nat.lt_succ_of_lt ls)
        have nf : s.heap.objs.size ∉ [(s.heap.push (newSet w)).objs.size, l] := by
          rw [Heap.size_push]
          simp only [List.mem_cons, List.not_mem_nil, or_false, not_or]
          exact ⟨Nat.ne_of_lt (Nat.lt_succ_self _), Nat.ne_of_gt ls⟩
        have val : ∀ (i : Nat) (v : Value), us[i]? = some v → ∃ k t, ys[i]? = some k ∧ v = .int k t := fun i v hv => by
          have hi' : i < ys.length := by rw [← lenU]; exact (Array.getElem?_eq_some_iff.mp hv).1
          obtain ⟨t, e⟩ := PyProof.Rows.IntsAre.int_at hi i v (by rw [Array.getElem?_toList]; exact hv)
          refine ⟨ys[i], t, List.getElem?_eq_getElem hi', ?_⟩
          rw [e, List.getD_eq_getElem?_getD, List.getElem?_eq_getElem hi'] <;> rfl
        refine set_update_ints ((Walks.list h3 _ l ne us).toS) s.heap.objs.size nf ys lenU few val (us.size - 0) 0 _ (by omega) (Nat.zero_le _) ⟨⟨_, Heap.get?_push_size _ rfl, rfl, rfl⟩, lst1.push _⟩ ?_ ?_
        · have g2 : ((s.heap.push (newSet w)).push { cls := .type "list_iterator", data := .fields #[.ref l, .int 0 0] }).get? s.heap.objs.size = some (newSet w) := Heap.get?_push_of_some _ new
          exact ⟨0, Nat.le_refl 0, setR_new_at g2⟩
        · rintro ⟨h2, g2, d2, t2, o2⟩ c2 mv c3 so
          obtain rfl : g2 = s.gens := mv.gens
          obtain rfl : d2 = s.drawn := mv.drawn
          obtain rfl : o2 = s.os := mv.os
          change wpAny _ _ _ _ _ _
          refine wpAny_pure ?_
          change wpAny _ _ (ret Value.none) _ _ _
          rw [lenU] at c3
          refine wpAny_pure ⟨rfl, h2, t2, c2, rfl, so, c3, fun b o e => ?_⟩
          have hb := Heap.lt_size e
          refine mv.heap b o ?_ (Heap.get?_push_of_some _ (Heap.get?_push_of_some _ e))
          rw [Heap.size_push]
          simp only [List.mem_cons, List.not_mem_nil, or_false, not_or]
          exact ⟨Nat.ne_of_lt hb, Nat.ne_of_lt (Nat.lt_succ_of_lt hb)⟩
      · cases r2 with
        | error e => exact hr2
        | ok fl2 =>
          cases fl2 with
          | ret r =>
            obtain ⟨rfl, h2, tk, c2, rfl, so, c3, k⟩ := hr2
            repeat (any_goals (first | assumption | wp_step))
            exact q _ _ _ so c3 k
          | _ => exact hr2.elim
    | _ => exact hr.elim
end
/-- how many different ones -/
theorem setR_count {w : World} {h : Heap} {a : Addr} {ys : List Int} {c : Nat} (R : SetR w h a (fun j => decide (j ∈ ys)) c) : c = ys.length ↔ ys.Nodup := by
  obtain ⟨o, es, ep, t, _, _, _, _, nd, mem, _, _, hc, _⟩ := R
  have m : ∀ k, k ∈ es.toList.map keyOf ↔ k ∈ ys := fun k => by
    rw [← mem k]
    simp
  have l1 : (es.toList.map keyOf).length = c := by rw [List.length_map, Array.length_toList, hc]
  rw [← l1]
  exact count_nodup nd m
theorem setR_within {w : World} {h : Heap} {a : Addr} {ys : List Int} {c : Nat} (R : SetR w h a (fun j => decide (j ∈ ys)) c) (zs : List Int) (sub : ys ⊆ zs) : c ≤ zs.length := by
  obtain ⟨o, es, ep, t, _, _, _, _, nd, mem, _, _, hc, _⟩ := R
  have l1 : (es.toList.map keyOf).length = c := by rw [List.length_map, Array.length_toList, hc]
  rw [← l1]
  refine nd.length_le_of_subset fun k hk => sub ?_
  have := (mem k).mpr hk
  simpa using this
section
variable {X : Cx}
def rSetL (K : PySem.W.Frag) (w : World) : List V → Hp → VK → Prop := fun xs H Q => ∃ (l : Addr) (ys : List Int), xs = [.ref l] ∧ SqL K H l (ys.map V.int) ∧ ys.length ≤ 1000 ∧
  ∀ p c, H p = none → c ≤ ys.length → (c = ys.length ↔ ys.Nodup) → (∀ zs : List Int, ys ⊆ zs → c ≤ zs.length) → Q (.ref p) (upd H p (SetO w p (fun j => decide (j ∈ ys)) c))
theorem call_setL (K : PySem.W.Frag) (w : World) (hK : X.K = K) (hw : X.w = w) (hc : X.calm = true) : CallR X (.type "set") (rSetL K w) := by
  subst hK hw
  rintro pins s σ H xs us Q I rv ⟨l, ys, rfl, hq, few, q⟩
  obtain ⟨u, rfl, r⟩ := vals1 rv
  cases r
  obtain ⟨its, rr, pl, _⟩ := I.list hq
  have hi := ints_of_vals rr
  have fits : ys.length + 1 < scanBound := by
    unfold scanBound
    omega
  refine set_of_ints (I.ok.hd hc) pl.isList (by simpa using hi) fits fun h2 tk c R c1 k => ?_
  have J : Inv X pins σ (upd H s.heap.objs.size (SetO X.w s.heap.objs.size (fun j => decide (j ∈ ys)) c)) { s with heap := h2, toks := tk } := I.laid (t' := tk) k (Nat.le_refl _) (setO_new (P := X.prog) (H := H) R)
  exact ⟨.ref _, _, J, rfl, q _ c (I.hok.fresh (Nat.le_refl _)) c1 (setR_count R) (setR_within R)⟩
def rLenS (w : World) : List V → Hp → VK → Prop := fun xs H Q => ∃ (a : Addr) (S : Int → Bool) (n : Nat), xs = [.ref a] ∧ H a = some (SetO w a S n) ∧ n < 1000000 ∧ Q (.int n) H
theorem call_lenS (w : World) (hw : X.w = w) : CallR X (.builtin "len") (rLenS w) := by
  subst hw
  rintro pins s σ H xs us Q I rv ⟨a, S, n, rfl, ha, few, q⟩
  obtain ⟨u, rfl, r⟩ := vals1 rv
  cases r
  obtain ⟨o, es, ep, t, ho, ex, hd, _, _, _, _, hf, hn, _⟩ := setO_get I ha
  refine call_len_set ho ex hd hf (by rw [hn]; omega) ⟨.int n, H, I.tok _, ⟨_, by rw [hn]⟩, q⟩
theorem cr_sortedSetK (w : World) (hw : X.w = w) (hc : X.calm = true) : CallR X (.builtin "sorted") (rSortedSet w) := by
  subst hw
  exact cr_sortedSet hc
/-- t != () -/
def rNeNilT (K : PySem.W.Frag) : R2 := fun x y H Q => ∃ a b xs, x = .ref a ∧ y = .ref b ∧ SqT K H a xs ∧ SqT K H b [] ∧ Q (.bl (!xs.isEmpty)) H
theorem op_neNilT (K : PySem.W.Frag) (hK : X.K = K) (hu : X.A.units + 64 < cLine) : OpR X (compareOp .NotEq) (rNeNilT K) := by
  subst hK
  rintro pins s σ H x y v u Q I rx ry ⟨a, b, xs, rfl, rfl, ha, hb, q⟩
  obtain rfl : v = Value.ref a := rx
  obtain rfl : u = Value.ref b := ry
  obtain ⟨its, rv, p, _⟩ := I.tuple ha
  obtain ⟨its2, rv2, p2, _⟩ := I.tuple hb
  cases rv2
  have l := rv.length
  have e : (!((List.range (min its.toArray.size (#[] : Array Value).size)).all (fun _ => true) && its.toArray.size == (#[] : Array Value).size)) = !xs.isEmpty := by
    cases xs with
    | nil =>
      cases rv
      rfl
    | cons z zs =>
      have : its.length ≠ 0 := by rw [← l]; simp
      simp [this]
  unfold compareOp
  refine SeqAt.RcNeAt.tuples p p2 (by omega) (e := fun _ => true) (fun j h1 h2 => absurd h2 (by simp)) _ _ _ _ ?_
  rw [e]
  exact ⟨.bl (!xs.isEmpty), H, I, rfl, q⟩
theorem pg_tupK (K : PySem.W.Frag) (hK : X.K = K) {es : List Expr} {k : Nat} {t : TGs} {n : Nat} {pos : Pos} (hc : X.calm = true) (h : PGs X es t)
    (hn : (assignEach es X.env).length = n := by rfl) (hst : (assignEach es X.env).findIdx? (·.1) = none := by rfl) : PG X (.Tuple es k pos) (gTup K n t) := by
  subst hK
  exact pg_tup hc h hn hst
end
end Xby

set_option Elab.async false
set_option linter.all false
set_option maxRecDepth 100000
set_option maxHeartbeats 4000000
namespace Xby
open PySem PySem.Spec PyProof.Rows L2
/-! ## comprehensions whose elements are told beforehand, in a heap that only grows -/
section
variable {J : It} {n : Nat} {G : Hp → Prop} {Y : Nat → Hp → V → Hp → Prop}
/-- what stands in the list behind the first m turns -/
def kept (f : Nat → V) (p : Nat → Bool) (m : Nat) : List V := ((List.range m).filter p).map f
theorem kept_len (f : Nat → V) (p : Nat → Bool) (m : Nat) : (kept f p m).length ≤ m := by
  unfold kept
  rw [List.length_map]
  exact Nat.le_trans (List.length_filter_le _ _) (by simp)
theorem kept_succ (f : Nat → V) (p : Nat → Bool) (m : Nat) : kept f p (m + 1) = kept f p m ++ (if p m then [f m] else []) := by
  unfold kept
  rw [List.range_succ, List.filter_append, List.map_append]
  congr 1
  cases h : p m <;> simp [h]
theorem lc_grow (w : Walk J n G Y) {g : TG} {tt : TT} {te : TE} {vs : List Nat} {σ : L2.St} {H1 : Hp} {D : Addr} {Qd : Hp → Prop} (nD : H1 D = none) (few : n < sizeLine) (f : Nat → V) (p : Nat → Bool)
    (hG : ∀ H', Same H1 H' → G H')
    (hs : ∀ i x H H' (Z : VK) (N : Hp → Prop), i < n → Same H1 H → Y i H x H' → (∀ H'', Same H H'' → p i = true → Z (f i) H'') → (∀ H'', Same H H'' → p i = false → N H'') →
      g x (wipe σ vs) H' fun σ2 H2 => wipe σ2 vs = wipe σ vs ∧ tt σ2 H2 fun b H3 => if b = true then te σ2 H3 Z else N H3)
    (hd : ∀ H, Same H1 H → H D = some (.lst (kept f p n)) → Qd H) :
    ∃ W : Nat → Nat → Hp → Prop, (∃ m, W 0 m (upd H1 D (.lst []))) ∧ ∀ i m H, W i m H →
      (J.stop i H ∧ Qd H) ∨ (J.go i H ∧ ∃ Nx : Hp → Prop, (∀ H', Nx H' → ∃ m', m' < m ∧ W (i + 1) m' H') ∧ ∀ x H', J.yld i H x H' → g x (wipe σ vs) H' fun σ2 H2 => wipe σ2 vs = wipe σ vs ∧ tt σ2 H2 fun b H3 =>
        if b = true then te σ2 H3 fun y H4 => ∃ acc, H4 D = some (.lst acc) ∧ acc.length < sizeLine ∧ Nx (upd H4 D (.lst (acc ++ [y]))) else Nx H3) := by
  refine lc_it w (fun i H => i ≤ n ∧ Same H1 H ∧ H D = some (.lst (kept f p i))) ⟨Nat.zero_le _, Same.one nD, upd_same⟩ (fun i H _ z => hG H z.2.1) ?_ (fun H z => hd H z.2.1 z.2.2)
  rintro i x H H' hi ⟨hi', s1, hD⟩ y
  refine hs i x H H' _ _ hi s1 y (fun H'' s2 pi => ⟨_, s2 _ _ hD, Nat.lt_of_le_of_lt (kept_len _ _ _) (by omega), hi, ?_, ?_⟩) (fun H'' s2 pi => ⟨hi, s1.trans s2, ?_⟩)
  · exact Same.updN (s1.trans s2) nD
  · rw [upd_same, kept_succ, pi]
    rfl
  · rw [s2 _ _ hD, kept_succ, pi]
    simp
end
/-! over a tuple, a list, a range -/
section
variable {K : PySem.W.Frag} {a : Addr} {xs : List V} {g : TG} {tt : TT} {te : TE} {vs : List Nat} {σ : L2.St} {H1 : Hp} {D : Addr} {Qd : Hp → Prop}
theorem lc_growT (hx : SqT K H1 a xs) (nD : H1 D = none) (few : xs.length < sizeLine) (f : Nat → V) (p : Nat → Bool)
    (hs : ∀ i x H (Z : VK) (N : Hp → Prop), xs[i]? = some x → Same H1 H → (∀ H'', Same H H'' → p i = true → Z (f i) H'') → (∀ H'', Same H H'' → p i = false → N H'') →
      g x (wipe σ vs) H fun σ2 H2 => wipe σ2 vs = wipe σ vs ∧ tt σ2 H2 fun b H3 => if b = true then te σ2 H3 Z else N H3)
    (hd : ∀ H, Same H1 H → H D = some (.lst (kept f p xs.length)) → Qd H) :
    ∃ W : Nat → Nat → Hp → Prop, (∃ m, W 0 m (upd H1 D (.lst []))) ∧ ∀ i m H, W i m H →
      ((Itt K a).stop i H ∧ Qd H) ∨ ((Itt K a).go i H ∧ ∃ Nx : Hp → Prop, (∀ H', Nx H' → ∃ m', m' < m ∧ W (i + 1) m' H') ∧ ∀ x H', (Itt K a).yld i H x H' → g x (wipe σ vs) H' fun σ2 H2 => wipe σ2 vs = wipe σ vs ∧ tt σ2 H2 fun b H3 =>
        if b = true then te σ2 H3 fun y H4 => ∃ acc, H4 D = some (.lst acc) ∧ acc.length < sizeLine ∧ Nx (upd H4 D (.lst (acc ++ [y]))) else Nx H3) := by
  refine lc_tup (K := K) (a := a) (xs := xs) (fun i H => i ≤ xs.length ∧ Same H1 H ∧ H D = some (.lst (kept f p i))) ⟨Nat.zero_le _, Same.one nD, upd_same⟩ (fun i H _ z => hx.ext z.2.1) ?_ (fun H z => hd H z.2.1 z.2.2)
  rintro i x H hi ⟨hi', s1, hD⟩
  have il := (List.getElem?_eq_some_iff.mp hi).1
  refine hs i x H _ _ hi s1 (fun H'' s2 pi => ⟨_, s2 _ _ hD, Nat.lt_of_le_of_lt (kept_len _ _ _) (by omega), il, ?_, ?_⟩) (fun H'' s2 pi => ⟨il, s1.trans s2, ?_⟩)
  · exact Same.updN (s1.trans s2) nD
  · rw [upd_same, kept_succ, pi]
    rfl
  · rw [s2 _ _ hD, kept_succ, pi]
    simp
theorem lc_growL (hx : SqL K H1 a xs) (nD : H1 D = none) (few : xs.length < sizeLine) (f : Nat → V) (p : Nat → Bool)
    (hs : ∀ i x H (Z : VK) (N : Hp → Prop), xs[i]? = some x → Same H1 H → (∀ H'', Same H H'' → p i = true → Z (f i) H'') → (∀ H'', Same H H'' → p i = false → N H'') →
      g x (wipe σ vs) H fun σ2 H2 => wipe σ2 vs = wipe σ vs ∧ tt σ2 H2 fun b H3 => if b = true then te σ2 H3 Z else N H3)
    (hd : ∀ H, Same H1 H → H D = some (.lst (kept f p xs.length)) → Qd H) :
    ∃ W : Nat → Nat → Hp → Prop, (∃ m, W 0 m (upd H1 D (.lst []))) ∧ ∀ i m H, W i m H →
      ((Itl K a).stop i H ∧ Qd H) ∨ ((Itl K a).go i H ∧ ∃ Nx : Hp → Prop, (∀ H', Nx H' → ∃ m', m' < m ∧ W (i + 1) m' H') ∧ ∀ x H', (Itl K a).yld i H x H' → g x (wipe σ vs) H' fun σ2 H2 => wipe σ2 vs = wipe σ vs ∧ tt σ2 H2 fun b H3 =>
        if b = true then te σ2 H3 fun y H4 => ∃ acc, H4 D = some (.lst acc) ∧ acc.length < sizeLine ∧ Nx (upd H4 D (.lst (acc ++ [y]))) else Nx H3) := by
  refine lc_list (K := K) (a := a) (xs := xs) (fun i H => i ≤ xs.length ∧ Same H1 H ∧ H D = some (.lst (kept f p i))) ⟨Nat.zero_le _, Same.one nD, upd_same⟩ (fun i H _ z => hx.ext z.2.1) ?_ (fun H z => hd H z.2.1 z.2.2)
  rintro i x H hi ⟨hi', s1, hD⟩
  have il := (List.getElem?_eq_some_iff.mp hi).1
  refine hs i x H _ _ hi s1 (fun H'' s2 pi => ⟨_, s2 _ _ hD, Nat.lt_of_le_of_lt (kept_len _ _ _) (by omega), il, ?_, ?_⟩) (fun H'' s2 pi => ⟨il, s1.trans s2, ?_⟩)
  · exact Same.updN (s1.trans s2) nD
  · rw [upd_same, kept_succ, pi]
    rfl
  · rw [s2 _ _ hD, kept_succ, pi]
    simp
theorem lc_growR {lo : Int} {n : Nat} (nD : H1 D = none) (few : n < sizeLine) (f : Nat → V) (p : Nat → Bool)
    (hs : ∀ i H (Z : VK) (N : Hp → Prop), i < n → Same H1 H → (∀ H'', Same H H'' → p i = true → Z (f i) H'') → (∀ H'', Same H H'' → p i = false → N H'') →
      g (.int (lo + i)) (wipe σ vs) H fun σ2 H2 => wipe σ2 vs = wipe σ vs ∧ tt σ2 H2 fun b H3 => if b = true then te σ2 H3 Z else N H3)
    (hd : ∀ H, Same H1 H → H D = some (.lst (kept f p n)) → Qd H) :
    ∃ W : Nat → Nat → Hp → Prop, (∃ m, W 0 m (upd H1 D (.lst []))) ∧ ∀ i m H, W i m H →
      ((Itr lo n).stop i H ∧ Qd H) ∨ ((Itr lo n).go i H ∧ ∃ Nx : Hp → Prop, (∀ H', Nx H' → ∃ m', m' < m ∧ W (i + 1) m' H') ∧ ∀ x H', (Itr lo n).yld i H x H' → g x (wipe σ vs) H' fun σ2 H2 => wipe σ2 vs = wipe σ vs ∧ tt σ2 H2 fun b H3 =>
        if b = true then te σ2 H3 fun y H4 => ∃ acc, H4 D = some (.lst acc) ∧ acc.length < sizeLine ∧ Nx (upd H4 D (.lst (acc ++ [y]))) else Nx H3) := by
  refine lc_range (lo := lo) (n := n) (fun i H => i ≤ n ∧ Same H1 H ∧ H D = some (.lst (kept f p i))) ⟨Nat.zero_le _, Same.one nD, upd_same⟩ ?_ (fun H z => hd H z.2.1 z.2.2)
  rintro i H hi ⟨hi', s1, hD⟩
  refine hs i H _ _ hi s1 (fun H'' s2 pi => ⟨_, s2 _ _ hD, Nat.lt_of_le_of_lt (kept_len _ _ _) (by omega), hi, ?_, ?_⟩) (fun H'' s2 pi => ⟨hi, s1.trans s2, ?_⟩)
  · exact Same.updN (s1.trans s2) nD
  · rw [upd_same, kept_succ, pi]
    rfl
  · rw [s2 _ _ hD, kept_succ, pi]
    simp
end
theorem kept_all (f : Nat → V) (m : Nat) : kept f (fun _ => true) m = (List.range m).map f := by
  unfold kept
  rw [List.filter_eq_self.mpr fun _ _ => rfl]
theorem kept_map {α : Type} (xs : List α) (d : α) (f : α → V) : kept (fun i => f (xs.getD i d)) (fun _ => true) xs.length = xs.map f := by
  rw [kept_all]
  apply List.ext_getElem
  · simp
  · intro i h1 h2
    have : i < xs.length := by simpa using h1
    simp [this]
theorem kept_filter {α : Type} (d : α) (f : α → V) (p : α → Bool) : ∀ (xs : List α), kept (fun i => f (xs.getD i d)) (fun i => p (xs.getD i d)) xs.length = (xs.filter p).map f := by
  intro xs
  unfold kept
  have e : xs = (List.range xs.length).map fun i => xs.getD i d := by
    apply List.ext_getElem
    · simp
    · intro i h1 h2
      simp [h1]
  conv => rhs; rw [e]
  rw [List.filter_map, List.map_map]
  rfl
end Xby

set_option Elab.async false
set_option linter.all false
set_option maxRecDepth 100000
set_option maxHeartbeats 4000000
/-! # tables, pairs and alignments as they lie in the heap; what a program's top has -/
namespace Xby
open PySem L2
/-! ## the top -/
structure Txt (K : PySem.W.Frag) (mg : Str → Option Value) where
  C : Addr
  EK : Addr
  ER : Addr
  EW : Addr
  EM : Addr
  iK : Addr
  iR : Addr
  iW : Addr
  iM : Addr
  t1 : Tok
  t2 : Tok
  t3 : Tok
  t4 : Tok
  eK : PySem.LowV.LowTxt K mg "BadColumns" "BadColumns.__init__" EK iK
  eR : PySem.LowV.LowTxt K mg "BadRows" "BadRows.__init__" ER iR
  eW : PySem.LowV.LowTxt K mg "BadRow" "BadRow.__init__" EW iW
  eM : PySem.LowL.LowTxt K mg "TooMany" "TooMany.__init__" EM iM
  cl : Cls K C
  n_columns : NoAttr K C "columns"
  n_rows : NoAttr K C "rows"
  g_Table : mg "Table" = some (.ref C)
  c_LONGEST_WORD : mg "LONGEST_WORD" = some (.int 8 t1)
  c_GREATEST_NUMBER : mg "GREATEST_NUMBER" = some (.int 999 t2)
  c_MOST_COLUMNS : mg "MOST_COLUMNS" = some (.int 3 t3)
  c_MOST_ROWS : mg "MOST_ROWS" = some (.int 6 t4)
  b_abs : mg "abs" = none
  b_all : mg "all" = none
  b_any : mg "any" = none
  b_bool : mg "bool" = none
  b_dict : mg "dict" = none
  b_enumerate : mg "enumerate" = none
  b_int : mg "int" = none
  b_isinstance : mg "isinstance" = none
  b_len : mg "len" = none
  b_list : mg "list" = none
  b_max : mg "max" = none
  b_min : mg "min" = none
  b_range : mg "range" = none
  b_repr : mg "repr" = none
  b_reversed : mg "reversed" = none
  b_set : mg "set" = none
  b_sorted : mg "sorted" = none
  b_str : mg "str" = none
  b_sum : mg "sum" = none
  b_tuple : mg "tuple" = none
  b_zip : mg "zip" = none
/-! ## cells, rows, tables -/
def cellV (v : V) : Bool := flatC v && cellD (datC v)
inductive RowsK (K : PySem.W.Frag) (H : Hp) (wd : Nat) : List V → List (List V) → Prop
  | nil : RowsK K H wd [] []
  | cons {a : Addr} {r : List V} {vs : List V} {rs : List (List V)} : SqT K H a r → r.length = wd → (∀ v ∈ r, cellV v = true) → RowsK K H wd vs rs → RowsK K H wd (.ref a :: vs) (r :: rs)
section
variable {K : PySem.W.Frag} {H H' : Hp} {wd n : Nat} {p a : Addr} {xs : List V} {rs : List (List V)}
theorem RowsK.len (h : RowsK K H wd xs rs) : xs.length = rs.length := by
  induction h with
  | nil => rfl
  | cons _ _ _ _ ih => simp [ih]
theorem RowsK.same (h : RowsK K H wd xs rs) (s : Same H H') : RowsK K H' wd xs rs := by
  induction h with
  | nil => exact .nil
  | cons e l m _ ih => exact .cons (e.ext s) l m ih
theorem RowsK.get (h : RowsK K H wd xs rs) : ∀ {i : Nat} {x : V}, xs[i]? = some x → ∃ b r, x = .ref b ∧ rs[i]? = some r ∧ SqT K H b r ∧ r.length = wd ∧ ∀ v ∈ r, cellV v = true := by
  induction h with
  | nil => exact fun e => by simp at e
  | @cons b r _ _ e l m _ ih =>
    intro i x hx
    cases i with
    | zero =>
      obtain rfl : V.ref b = x := by simpa using hx
      exact ⟨b, r, rfl, rfl, e, l, m⟩
    | succ i => exact ih (by simpa using hx)
theorem RowsK.snoc {r : List V} (h : RowsK K H wd xs rs) (e : SqT K H a r) (l : r.length = wd) (m : ∀ v ∈ r, cellV v = true) : RowsK K H wd (xs ++ [.ref a]) (rs ++ [r]) := by
  induction h with
  | nil => exact .cons e l m .nil
  | cons e' l' m' _ ih => exact .cons e' l' m' ih
theorem cellV_flat {v : V} (h : cellV v = true) : flatC v = true := by
  unfold cellV at h
  rw [Bool.and_eq_true] at h
  exact h.1
theorem cellV_cell {v : V} (h : cellV v = true) : cellD (datC v) = true := by
  unfold cellV at h
  rw [Bool.and_eq_true] at h
  exact h.2
theorem RowsK.dq (h : RowsK K H wd xs rs) : DqAll K H xs (rs.map fun r => .tuple (r.map datC)) := by
  induction h with
  | nil => exact .nil
  | cons e l m _ ih => exact .cons (.tup e (DqAll.flat fun v hv => cellV_flat (m v hv))) ih
theorem seqBut {a : Addr} {xs : List V} (h : SqT K H a xs) (pot : Pot H p n) (b : But p H H') : SqT K H' a xs := ((seqWo h pot).ext (wo_but b)).ext wo_same
theorem RowsK.but (h : RowsK K H wd xs rs) (pot : Pot H p n) (b : But p H H') : RowsK K H' wd xs rs := by
  induction h with
  | nil => exact .nil
  | cons e l m _ ih => exact .cons (seqBut e pot b) l m ih
end
def intV : V → Bool
  | .int _ => true
  | _ => false
theorem intV_not {v : V} (h : ∀ lo hi, okV lo hi v = false) : intV v = false := by
  cases v with
  | int i => exact absurd (h i i) (by simp [okV])
  | _ => rfl
theorem intV_is {v : V} (h : intV v = true) : ∃ i, v = .int i := by
  cases v with
  | int i => exact ⟨i, rfl⟩
  | _ => cases h
def flds (c r : V) : List (Str × V) := putF "rows" r (putF "columns" c [])
theorem l_columns (c r : V) : (flds c r).lookup ("columns" : Str) = some c := by
  unfold flds
  rw [lookup_putF, if_neg (by decide +kernel), lookup_putF, if_pos rfl]
theorem l_rows (c r : V) : (flds c r).lookup ("rows" : Str) = some r := by
  unfold flds
  rw [lookup_putF, if_pos rfl]
/-- a table at a: its names, its rows -/
structure Tab (K : PySem.W.Frag) (C : Addr) (H : Hp) (a : Addr) (hs : List Str) (rs : List (List V)) (dx ac ar : Addr) (xs : List V) : Prop where
  at_ : H a = some (.ins C dx (flds (.ref ac) (.ref ar)))
  c : SqT K H ac (hs.map V.str)
  r : SqT K H ar xs
  rows : RowsK K H hs.length xs rs
  w1 : 1 ≤ hs.length
  w3 : hs.length ≤ 3
  hw : ∀ h ∈ hs, wordS h = true
  nd : hs.Nodup
  r6 : rs.length ≤ 6
def IsTab (K : PySem.W.Frag) (C : Addr) (H : Hp) (a : Addr) (hs : List Str) (rs : List (List V)) : Prop := ∃ dx ac ar xs, Tab K C H a hs rs dx ac ar xs
section
variable {K : PySem.W.Frag} {C : Addr} {H H' : Hp} {a p : Addr} {hs : List Str} {rs : List (List V)} {n : Nat}
theorem IsTab.same (t : IsTab K C H a hs rs) (s : Same H H') : IsTab K C H' a hs rs := by
  obtain ⟨dx, ac, ar, xs, t⟩ := t
  exact ⟨dx, ac, ar, xs, s _ _ t.at_, t.c.ext s, t.r.ext s, t.rows.same s, t.w1, t.w3, t.hw, t.nd, t.r6⟩
theorem IsTab.but (t : IsTab K C H a hs rs) (pot : Pot H p n) (b : But p H H') : IsTab K C H' a hs rs := by
  obtain ⟨dx, ac, ar, xs, t⟩ := t
  have ne : a ≠ p := by
    rintro rfl
    obtain ⟨_, _, _, q, _⟩ := pot
    rw [t.at_] at q
    cases q
  exact ⟨dx, ac, ar, xs, b _ _ ne t.at_, seqBut t.c pot b, seqBut t.r pot b, t.rows.but pot b, t.w1, t.w3, t.hw, t.nd, t.r6⟩
theorem Tab.len (t : IsTab K C H a hs rs) : 1 ≤ hs.length ∧ hs.length ≤ 3 ∧ rs.length ≤ 6 := by
  obtain ⟨dx, ac, ar, xs, t⟩ := t
  exact ⟨t.w1, t.w3, t.r6⟩
end
theorem dq_strs {K : PySem.W.Frag} {H : Hp} : ∀ hs : List Str, DqAll K H (hs.map V.str) (hs.map PyData.str)
  | [] => .nil
  | h :: hs => .cons (.str h) (dq_strs hs)
/-! ## pairs -/
def pairD (m o : Nat) : PyData → Bool
  | .tuple [.int i, .int j] => decide (0 ≤ i ∧ i < m) && decide (0 ≤ j ∧ j < o)
  | _ => false
def prD : PyData → Int × Int
  | .tuple [.int i, .int j] => (i, j)
  | _ => (0, 0)
def pairsD (m o : Nat) : PyData → Bool
  | .tuple ds => ds.all (pairD m o) && okPs (ds.map prD)
  | _ => false
def nilD : PyData → Bool
  | .tuple [] => true
  | _ => false
def laidD (m o r q : Nat) : PyData → Bool
  | .tuple [a, b] => pairsD m o a && pairsD r q b && (!nilD a || nilD b)
  | _ => false
def datP (p : Int × Int) : PyData := .tuple [.int p.1, .int p.2]
/-- pairs of ints, as items -/
inductive Prs (K : PySem.W.Frag) (H : Hp) : List V → List (Int × Int) → Prop
  | nil : Prs K H [] []
  | cons {a : Addr} {i j : Int} {vs : List V} {ps : List (Int × Int)} : SqT K H a [.int i, .int j] → Prs K H vs ps → Prs K H (.ref a :: vs) ((i, j) :: ps)
section
variable {K : PySem.W.Frag} {H H' : Hp} {n : Nat} {p a : Addr} {xs : List V} {ps : List (Int × Int)}
theorem Prs.len (h : Prs K H xs ps) : xs.length = ps.length := by
  induction h with
  | nil => rfl
  | cons _ _ ih => simp [ih]
theorem Prs.same (h : Prs K H xs ps) (s : Same H H') : Prs K H' xs ps := by
  induction h with
  | nil => exact .nil
  | cons e _ ih => exact .cons (e.ext s) ih
theorem Prs.but (h : Prs K H xs ps) (pot : Pot H p n) (b : But p H H') : Prs K H' xs ps := by
  induction h with
  | nil => exact .nil
  | cons e _ ih => exact .cons (seqBut e pot b) ih
theorem Prs.get (h : Prs K H xs ps) : ∀ {i : Nat} {x : V}, xs[i]? = some x → ∃ b, x = .ref b ∧ ps[i]? = some (ps.getD i (0, 0)) ∧ SqT K H b [.int (ps.getD i (0, 0)).1, .int (ps.getD i (0, 0)).2] := by
  induction h with
  | nil => exact fun e => by simp at e
  | @cons b i j _ _ e _ ih =>
    intro k x hx
    cases k with
    | zero =>
      obtain rfl : V.ref b = x := by simpa using hx
      exact ⟨b, rfl, rfl, e⟩
    | succ k =>
      obtain ⟨b, h1, h2, h3⟩ := ih (i := k) (by simpa using hx)
      exact ⟨b, h1, by simpa using h2, by simpa using h3⟩
theorem Prs.snoc {i j : Int} (h : Prs K H xs ps) (e : SqT K H a [.int i, .int j]) : Prs K H (xs ++ [.ref a]) (ps ++ [(i, j)]) := by
  induction h with
  | nil => exact .cons e .nil
  | cons e' _ ih => exact .cons e' ih
theorem Prs.dq (h : Prs K H xs ps) : DqAll K H xs (ps.map datP) := by
  induction h with
  | nil => exact .nil
  | cons e _ ih => exact .cons (.tup e (.cons (.int _) (.cons (.int _) .nil))) ih
theorem Prs.of {ds : List PyData} {m o : Nat} (h : DqAll K H xs ds) (all : ds.all (pairD m o) = true) : Prs K H xs (ds.map prD) ∧ ds = (ds.map prD).map datP ∧ ∀ q ∈ ds.map prD, (0 ≤ q.1 ∧ q.1 < m) ∧ 0 ≤ q.2 ∧ q.2 < o := by
  induction xs generalizing ds with
  | nil =>
    cases h
    exact ⟨.nil, rfl, by simp⟩
  | cons x xs ih =>
    cases h with
    | @cons _ _ d ds h1 h2 =>
      rw [List.all_cons, Bool.and_eq_true] at all
      obtain ⟨a1, a2, a3⟩ := ih h2 all.2
      have one := all.1
      unfold pairD at one
      split at one
      · rename_i i j
        rw [Bool.and_eq_true] at one
        cases h1 with
        | tup hs hd =>
          cases hd with
          | cons i1 r1 =>
            cases r1 with
            | cons i2 r2 =>
              cases r2
              cases i1
              cases i2
              refine ⟨.cons hs a1, ?_, fun q hq => ?_⟩
              · rw [List.map_cons, List.map_cons, ← a2]
                rfl
              · rw [List.map_cons] at hq
                rcases List.mem_cons.mp hq with rfl | hq
                · exact ⟨of_decide_eq_true one.1, of_decide_eq_true one.2⟩
                · exact a3 q hq
      · cases one
end
theorem pairsD_map {m o : Nat} {ps : List (Int × Int)} (hb : ∀ q ∈ ps, (0 ≤ q.1 ∧ q.1 < m) ∧ 0 ≤ q.2 ∧ q.2 < o) : pairsD m o (.tuple (ps.map datP)) = okPs ps := by
  have e1 : (ps.map datP).all (pairD m o) = true := by
    rw [List.all_map, List.all_eq_true]
    intro q hq
    obtain ⟨h1, h2⟩ := hb q hq
    show (decide _ && decide _) = true
    rw [decide_eq_true h1, decide_eq_true h2]
    rfl
  have e2 : (ps.map datP).map prD = ps := by
    rw [List.map_map]
    exact List.map_id'' (fun q => rfl) ps
  show ((ps.map datP).all (pairD m o) && okPs ((ps.map datP).map prD)) = okPs ps
  rw [e1, e2, Bool.true_and]
end Xby
namespace Xby
open PySem L2
theorem sh_word {d : PyData} (h : wordD d = true) : Sh d := by
  rintro x rfl
  have h : wordS x = true := h
  unfold wordS at h
  rw [Bool.and_eq_true] at h
  have := (of_decide_eq_true h.1).2
  omega
theorem sh_cell {d : PyData} (h : cellD d = true) : Sh d := by
  rintro x rfl
  have h : (false || false || wordD (.str x)) = true := h
  exact sh_word (d := .str x) (by simpa using h) x rfl
theorem tab_two {K : PySem.W.Frag} {H : Hp} {ac ar : Addr} {hs : List Str} {xs : List V} {rs : List (List V)} (hc : SqT K H ac (hs.map V.str)) (hr : SqT K H ar xs) (rows : RowsK K H hs.length xs rs) (w1 : 1 ≤ hs.length) (w3 : hs.length ≤ 3)
    (hw : ∀ h ∈ hs, wordS h = true) (nd : hs.Nodup) (r6 : rs.length ≤ 6) :
    ∃ xs', Two K H (.ref ac) (.ref ar) (.tuple (hs.map PyData.str)) (.tuple (rs.map fun r => .tuple (r.map datC))) xs' ∧ (due (.ref ac) (.ref ar) (.tuple (hs.map PyData.str)) (.tuple (rs.map fun r => .tuple (r.map datC))) xs').1 = .none := by
  have all : ∀ {rs : List (List V)} {xs : List V}, RowsK K H hs.length xs rs → ∀ r ∈ rs, r.length = hs.length ∧ ∀ v ∈ r, cellV v = true := by
    intro rs xs h
    induction h with
    | nil => exact fun r hr => by simp at hr
    | cons _ l m _ ih =>
      intro r hr
      rcases List.mem_cons.mp hr with rfl | hr
      · exact ⟨l, m⟩
      · exact ih r hr
  have all := all rows
  have s1 : Sh1 (.tuple (hs.map PyData.str)) := by
    rintro ds e d hd
    injection e with e
    subst e
    obtain ⟨h, hh, rfl⟩ := List.mem_map.mp hd
    exact sh_word (d := .str h) (hw h hh)
  have s2 : Sh2 (.tuple (rs.map fun r => .tuple (r.map datC))) := by
    rintro ds e d hd
    injection e with e
    subst e
    obtain ⟨r, hr, rfl⟩ := List.mem_map.mp hd
    rintro ds e d hd
    injection e with e
    subst e
    obtain ⟨v, hv, rfl⟩ := List.mem_map.mp hd
    exact sh_cell (cellV_cell ((all r hr).2 v hv))
  obtain ⟨xs', two⟩ := two_of (.tup hc (dq_strs hs)) (.tup hr rows.dq) s1 s2
  refine ⟨xs', two, ?_⟩
  have c : colsD (.tuple (hs.map PyData.str)) = true := by
    show (decide _ && _ && decide _) = true
    have e1 : (hs.map PyData.str).all wordD = true := by
      rw [List.all_map, List.all_eq_true]
      exact hw
    have e2 : (hs.map PyData.str).map strD = hs := by
      rw [List.map_map]
      exact List.map_id'' (fun q => rfl) hs
    rw [e1, e2, decide_eq_true nd, decide_eq_true (by rw [List.length_map]; exact ⟨w1, w3⟩)]
    rfl
  refine congrArg Prod.fst (due_none c (by rw [List.length_map]; omega) (bad_no fun e he => ?_))
  obtain ⟨r, hr, rfl⟩ := List.mem_map.mp he
  obtain ⟨l, m⟩ := all r hr
  show (decide ((r.map datC).length = (hs.map PyData.str).length) && (r.map datC).all cellD) = true
  rw [List.length_map, List.length_map, decide_eq_true l, Bool.true_and, List.all_map, List.all_eq_true]
  exact fun v hv => cellV_cell (m v hv)
end Xby
namespace Xby
open PySem L2
theorem pairD_two (m o : Nat) (d e : PyData) : pairD m o (.tuple [d, e]) = (intD 0 ((m : Int) - 1) d && intD 0 ((o : Int) - 1) e) := by
  have l : ∀ (x : Int) (n : Nat), decide (0 ≤ x ∧ x < (n : Int)) = decide (0 ≤ x ∧ x ≤ (n : Int) - 1) := fun x n => by
    congr 1
    exact propext ⟨fun z => ⟨z.1, by omega⟩, fun z => ⟨z.1, by omega⟩⟩
  cases d <;> cases e <;> first
    | (show (decide _ && decide _) = (decide _ && decide _); rw [l, l]; done)
    | simp [pairD, intD]
theorem pairD_len {m o : Nat} {ds : List PyData} (h : ds.length ≠ 2) : pairD m o (.tuple ds) = false := by
  match ds, h with
  | [], _ => rfl
  | [d], _ => cases d <;> rfl
  | [d, e], h => exact absurd rfl h
  | d :: e :: f :: r, _ => cases d <;> cases e <;> rfl
theorem pairD_not {m o : Nat} {d : PyData} (h : ∀ ds, d ≠ .tuple ds) : pairD m o d = false := by
  cases d with
  | tuple ds => exact absurd rfl (h ds)
  | _ => rfl
theorem laidD_len {m o r q : Nat} {ds : List PyData} (h : ds.length ≠ 2) : laidD m o r q (.tuple ds) = false := by
  match ds, h with
  | [], _ => rfl
  | [d], _ => rfl
  | [d, e], h => exact absurd rfl h
  | d :: e :: f :: r, _ => rfl
/-- no great tuple -/
def Few (d : PyData) : Prop := ∀ ds, d = .tuple ds → ds.length ≤ 1000
def Few1 (d : PyData) : Prop := ∀ ds, d = .tuple ds → ∀ e ∈ ds, Few e
theorem rise_all (ps : List (Int × Int)) : ((List.range (ps.length - 1)).map fun i => decide ((ps.getD i (0, 0)).1 < (ps.getD (i + 1) (0, 0)).1)).all id = decide ((ps.map (·.1)).Pairwise (· < ·)) := by
  rw [Bool.eq_iff_iff, decide_eq_true_iff, ← rise_iff, List.all_map, List.all_eq_true]
  constructor
  · intro h k hk
    rw [List.length_map] at hk
    have := h k (List.mem_range.mpr (by omega))
    have := of_decide_eq_true this
    simpa [List.getD_eq_getElem?_getD, hk, Nat.lt_of_succ_lt hk] using this
  · intro h k hk
    have hk := List.mem_range.mp hk
    have h1 : k + 1 < ps.length := by omega
    have := h k (by rw [List.length_map]; exact h1)
    show decide _ = true
    refine decide_eq_true ?_
    simpa [List.getD_eq_getElem?_getD, h1, Nat.lt_of_succ_lt h1] using this
section
variable {K : PySem.W.Frag} {H : Hp} {v : V} {d : PyData} {m o : Nat}
theorem pairs_tup (h : Dq K H v d) (p : pairsD m o d = true) : ∃ a xs ds, v = .ref a ∧ d = .tuple ds ∧ SqT K H a xs ∧ DqAll K H xs ds := by
  cases d with
  | tuple ds =>
    obtain ⟨a, xs, e, h1, h2⟩ := h.ofTup
    exact ⟨a, xs, ds, e, rfl, h1, h2⟩
  | _ => cases p
theorem nilD_of {xs : List V} {ds : List PyData} (h : DqAll K H xs ds) : xs.isEmpty = nilD (.tuple ds) := by
  cases h <;> rfl
end
end Xby
namespace Xby
open PySem L2
def InB (m o : Nat) (ps : List (Int × Int)) : Prop := ∀ q ∈ ps, (0 ≤ q.1 ∧ q.1 < m) ∧ 0 ≤ q.2 ∧ q.2 < o
/-- an alignment at a -/
def Laid (K : PySem.W.Frag) (H : Hp) (a : Addr) (cs ps : List (Int × Int)) : Prop := ∃ a1 a2 x1 x2, SqT K H a [.ref a1, .ref a2] ∧ SqT K H a1 x1 ∧ Prs K H x1 cs ∧ SqT K H a2 x2 ∧ Prs K H x2 ps
section
variable {K : PySem.W.Frag} {H H' : Hp} {a p b : Addr} {cs ps : List (Int × Int)} {n : Nat} {xs l l' : List V}
theorem Laid.same (h : Laid K H a cs ps) (s : Same H H') : Laid K H' a cs ps := by
  obtain ⟨a1, a2, x1, x2, h1, h2, h3, h4, h5⟩ := h
  exact ⟨a1, a2, x1, x2, h1.ext s, h2.ext s, h3.same s, h4.ext s, h5.same s⟩
theorem Laid.but (h : Laid K H a cs ps) (pot : Pot H p n) (s : But p H H') : Laid K H' a cs ps := by
  obtain ⟨a1, a2, x1, x2, h1, h2, h3, h4, h5⟩ := h
  exact ⟨a1, a2, x1, x2, seqBut h1 pot s, seqBut h2 pot s, h3.but pot s, seqBut h4 pot s, h5.but pot s⟩
theorem Laid.dq (h : Laid K H a cs ps) : Dq K H (.ref a) (.tuple [.tuple (cs.map datP), .tuple (ps.map datP)]) := by
  obtain ⟨a1, a2, x1, x2, h1, h2, h3, h4, h5⟩ := h
  exact .tup h1 (.cons (.tup h2 h3.dq) (.cons (.tup h4 h5.dq) .nil))
theorem seqUpd (h : SqT K H a xs) (hb : H b = some (.lst l)) : SqT K (upd H b (.lst l')) a xs := by
  rcases h with (h | ⟨o, h⟩) | ⟨o, i, j, h⟩
  · exact .inl (.inl (by rw [upd_ne (by rintro rfl; rw [h] at hb; cases hb)]; exact h))
  · exact .inl (.inr ⟨o, by rw [upd_ne (by rintro rfl; rw [h] at hb; cases hb)]; exact h⟩)
  · exact .inr ⟨o, i, j, h⟩
theorem Prs.updL (h : Prs K H xs ps) (hb : H b = some (.lst l)) : Prs K (upd H b (.lst l')) xs ps := by
  induction h with
  | nil => exact .nil
  | cons e _ ih => exact .cons (seqUpd e hb) ih
end
theorem erase_perm {α : Type} : ∀ (l : List α) (i : Nat) (h : i < l.length), (l[i] :: l.eraseIdx i).Perm l
  | x :: xs, 0, _ => List.Perm.refl _
  | x :: xs, i + 1, h => by
    have h' : i < xs.length := by simpa using h
    exact (List.Perm.swap x xs[i] (xs.eraseIdx i)).trans ((erase_perm xs i h').cons x)
end Xby

set_option Elab.async false
set_option linter.all false
set_option maxRecDepth 100000
set_option maxHeartbeats 4000000
namespace Xby
open PySem L2
def spPairs6 (K : PySem.W.Frag) : Sp := fun vs H Q _ => ∃ (v : V) (d : PyData) (m o : Nat), vs = [v, .int m, .int o] ∧ m ≤ 6 ∧ Dq K H v d ∧ Few d ∧ ∀ H', Same H H' → Q (.bl (pairsD m o d)) H'
theorem dp_ints {K : PySem.W.Frag} {H : Hp} {a : Addr} {ns : List Int} (h : H a = some (.lst (ns.map V.int))) : Dp K H (.ref a) (.list (ns.map PyData.int)) := by
  refine .lst (SqL.of h) ?_
  clear h
  induction ns with
  | nil => exact .nil
  | cons n ns ih => exact .cons (.int n) ih
theorem shaped_ints (ns : List Int) : SeqAt.shaped (.list (ns.map PyData.int)) = true := by
  have h : ∀ ns : List Int, PyData.canLayAll0 (ns.map PyData.int) = true ∧ PyData.depthAll (ns.map PyData.int) = 0 := by
    intro ns
    induction ns with
    | nil => exact ⟨rfl, rfl⟩
    | cons n ns ih => exact ⟨by simp only [List.map_cons, PyData.canLayAll0, PyData.canLay0, ih.1, Bool.and_self], by simp only [List.map_cons, PyData.depthAll, PyData.depth, ih.2]; rfl⟩
  obtain ⟨a, b⟩ := h ns
  exact Shp.shaped (k := 1) ⟨by simpa only [PyData.canLay0] using a, by simp only [PyData.depth, b]; omega⟩ (by decide)
theorem eqv_ints (xs ys : List Int) : PyData.eqv (.list (xs.map PyData.int)) (.list (ys.map PyData.int)) = decide (xs = ys) := by
  simp only [PyData.eqv]
  induction xs generalizing ys with
  | nil => cases ys <;> simp [PyData.eqvAll]
  | cons x xs ih =>
    cases ys with
    | nil => simp [PyData.eqvAll]
    | cons y ys =>
      simp only [List.map_cons, PyData.eqvAll, PyData.eqv, ih]
      rw [Bool.eq_iff_iff]
      simp
end Xby

set_option Elab.async false
set_option linter.all false
set_option maxRecDepth 100000
set_option maxHeartbeats 4000000
namespace Xby
open PySem L2
section
variable {K : PySem.W.Frag} {H H' : Hp} {p L a : Addr} {o u : HO} {xs l I : List V} {w k n : Nat} {cs ps : List (Int × Int)}
theorem wo_upd : wo L (upd H L o) = wo L H := by
  funext b
  unfold wo
  split
  · rfl
  · rename_i h
    exact upd_ne h
theorem wo_wo : Same (wo p (wo L H)) (wo p H) := wo_but (But.of wo_same)
theorem wo_but2 (b : But p H H') (hp : ∀ {o}, H L = some o → H' L = some o ∨ True) : But p (wo L H) (wo L H') := fun c o n e => by
  have nl : c ≠ L := fun z => by rw [z, wo_p] at e; cases e
  exact wo_at nl (b c o n (wo_same c o e))
theorem wo_butL (b : But p H H') : But p (wo L H) (wo L H') := wo_but2 b fun _ => .inr trivial
theorem wo_potL (pot : Pot H p n) (ne : p ≠ L) : Pot (wo L H) p n := by
  obtain ⟨x, y, z, e, r⟩ := pot
  exact ⟨x, y, z, wo_at ne e, r⟩
theorem seqOff (h : SqT K H a xs) (hb : H L = some (.lst l)) : SqT K (wo L H) a xs := by
  rcases h with (h | ⟨o, h⟩) | ⟨o, i, j, h⟩
  · exact .inl (.inl (wo_at (by rintro rfl; rw [h] at hb; cases hb) h))
  · exact .inl (.inr ⟨o, wo_at (by rintro rfl; rw [h] at hb; cases hb) h⟩)
  · exact .inr ⟨o, i, j, h⟩
theorem Prs.off (h : Prs K H xs ps) (hb : H L = some (.lst l)) : Prs K (wo L H) xs ps := by
  induction h with
  | nil => exact .nil
  | cons e _ ih => exact .cons (seqOff e hb) ih
theorem Laid.off (h : Laid K H a cs ps) (hb : H L = some (.lst l)) : Laid K (wo L H) a cs ps := by
  obtain ⟨a1, a2, x1, x2, h1, h2, h3, h4, h5⟩ := h
  exact ⟨a1, a2, x1, x2, seqOff h1 hb, seqOff h2 hb, h3.off hb, seqOff h4 hb, h5.off hb⟩
theorem Laid.dqp (h : Laid K H a cs ps) (pot : Pot H p n) : Dq K (wo p H) (.ref a) (.tuple [.tuple (cs.map datP), .tuple (ps.map datP)]) := by
  obtain ⟨_, _, _, q, _⟩ := pot
  exact (h.off q).dq
/-- what is data where a list is shut away does not hold that list -/
theorem seqShut {od : Obj} (h : SqT K H a xs) (hb : H L = some (.frz od (.lst I))) : SqT K (wo L H) a xs := by
  rcases h with (h | ⟨o, h⟩) | ⟨o, i, j, h⟩
  · exact .inl (.inl (wo_at (by rintro rfl; rw [h] at hb; cases hb) h))
  · exact .inl (.inr ⟨o, wo_at (by rintro rfl; rw [h] at hb; cases hb) h⟩)
  · exact .inr ⟨o, i, j, h⟩
mutual
theorem Dq.shut {od : Obj} (hb : H L = some (.frz od (.lst I))) : ∀ {v : V} {d : PyData}, Dq K H v d → Dq K (wo L H) v d
  | _, _, .non => .non
  | _, _, .bl b => .bl b
  | _, _, .int i => .int i
  | _, _, .str x => .str x
  | _, _, .lst h n a => .lst (wo_at (by rintro rfl; rw [h] at hb; cases hb) h) n (DqAll.shut hb a)
  | _, _, .tup h a => .tup (seqShut h hb) (DqAll.shut hb a)
  | _, _, .dct h a => .dct (wo_at (by rintro rfl; rw [h] at hb; cases hb) h) (DqKv.shut hb a)
theorem DqAll.shut {od : Obj} (hb : H L = some (.frz od (.lst I))) : ∀ {vs : List V} {ds : List PyData}, DqAll K H vs ds → DqAll K (wo L H) vs ds
  | _, _, .nil => .nil
  | _, _, .cons h a => .cons (Dq.shut hb h) (DqAll.shut hb a)
theorem DqKv.shut {od : Obj} (hb : H L = some (.frz od (.lst I))) : ∀ {kvs : List (Key × V)} {ds : List (PyData × PyData)}, DqKv K H kvs ds → DqKv K (wo L H) kvs ds
  | _, _, .nil => .nil
  | _, _, .cons h a => .cons (Dq.shut hb h) (DqKv.shut hb a)
end
theorem wo_shut {od : Obj} (hb : H L = some (.lst I)) : Same (wo p (wo L H)) (wo p (upd H L (.frz od (.lst I)))) := wo_but (But.of fun b o e => by
  have n : b ≠ L := fun z => by rw [z, wo_p] at e; cases e
  rw [upd_ne n]
  exact wo_same b o e)
theorem wo_comm : wo p (wo L H) = wo L (wo p H) := by
  funext b
  unfold wo
  by_cases h1 : b = p <;> by_cases h2 : b = L <;> simp [h1, h2]
/-- a list is shut away, something is done, the list is there again -/
structure Lock (p L : Addr) (I : List V) (od : Obj) (H H' : Hp) : Prop where
  at_ : H' L = some (.frz od (.lst I))
  but : But p H (upd H' L (.lst I))
  off : But p (wo L H) (wo L (upd H' L (.lst I)))
theorem lock_of {od : Obj} (hL : H L = some (.lst I)) (ne : L ≠ p) (b : But p (upd H L (.frz od (.lst I))) H') : Lock p L I od H H' := by
  refine ⟨b L _ ne upd_same, fun c o n e => ?_, ?_⟩
  · by_cases h : c = L
    · subst h
      rw [hL] at e
      rw [upd_same]
      exact e
    · rw [upd_ne h]
      exact b c o n (by rw [upd_ne h]; exact e)
  · have z := wo_butL (L := L) b
    rw [wo_upd] at z
    rw [wo_upd]
    exact z
/-- data made while the list was shut away -/
theorem Okd.shut {od : Obj} {x : V} (h : Okd K p w k H' x) (hb : H' L = some (.frz od (.lst I))) (ne : L ≠ p) : Okd K p w k (wo L (upd H' L (.lst I))) x := by
  obtain ⟨d, q, z⟩ := h
  refine ⟨d, ?_, z⟩
  rw [wo_upd, wo_comm]
  exact q.shut (wo_at ne hb)
end
theorem sz_pair : ∀ i j : Nat, i < 6 → j < 6 → Sz 10 1 (datP ((i : Int), (j : Int))) := by
  have : ∀ i : Fin 6, ∀ j : Fin 6, Sz 10 1 (datP ((i.val : Int), (j.val : Int))) := by decide +kernel
  exact fun i j hi hj => this ⟨i, hi⟩ ⟨j, hj⟩
theorem okPs_len {ps : List (Int × Int)} {m o : Nat} (ok : okPs ps = true) (inb : InB m o ps) : ps.length ≤ m := by
  unfold okPs at ok
  rw [Bool.and_eq_true] at ok
  have nd : (ps.map (·.1)).Nodup := (of_decide_eq_true ok.1).imp fun h => Int.ne_of_lt h
  have := nd.length_le_of_subset (l₂ := (List.range m).map fun i : Nat => (i : Int)) fun x hx => by
    obtain ⟨q, hq, rfl⟩ := List.mem_map.mp hx
    have := (inb q hq).1
    exact List.mem_map.mpr ⟨q.1.toNat, List.mem_range.mpr (by omega), by omega⟩
  rw [List.length_map, List.length_map, List.length_range] at this
  exact this
theorem sz_pairs {ps : List (Int × Int)} {m o : Nat} (hm : m ≤ 6) (ho : o ≤ 6) (ok : okPs ps = true) (inb : InB m o ps) : Sz 66 2 (.tuple (ps.map datP)) := by
  have l := okPs_len ok inb
  refine (Sz.tup (w := 10) (k := 1) fun d hd => ?_).more ?_ (by decide)
  · obtain ⟨q, hq, rfl⟩ := List.mem_map.mp hd
    obtain ⟨⟨h0, h1⟩, h2, h3⟩ := inb q hq
    have := sz_pair q.1.toNat q.2.toNat (by omega) (by omega)
    rw [Int.toNat_of_nonneg h0, Int.toNat_of_nonneg h2] at this
    exact this
  · rw [List.length_map]
    omega
theorem sz_laid {cs ps : List (Int × Int)} {m o r q : Nat} (hm : m ≤ 6) (ho : o ≤ 6) (hr : r ≤ 6) (hq : q ≤ 6) (oc : okPs cs = true) (ic : InB m o cs) (op : okPs ps = true) (ip : InB r q ps) : Sz 134 3 (.tuple [.tuple (cs.map datP), .tuple (ps.map datP)]) := by
  refine (Sz.tup (w := 66) (k := 2) fun d hd => ?_).more (by show 67 * 2 ≤ 134; decide) (by decide)
  simp only [List.mem_cons, List.not_mem_nil, or_false] at hd
  rcases hd with rfl | rfl
  · exact sz_pairs hm ho oc ic
  · exact sz_pairs hr hq op ip
theorem Sz.few {w k : Nat} {d : PyData} (z : Sz w k d) (h : w ≤ 1000) : Few d := by
  rintro ds rfl
  obtain ⟨j, _, s⟩ := z.items
  have := s.len
  omega
theorem Sz.few1 {w k : Nat} {d : PyData} (z : Sz w k d) (h : w ≤ 1000) : Few1 d := by
  rintro ds rfl e he
  obtain ⟨j, _, s⟩ := z.items
  exact (s.mem he).few h
theorem fine_bool (b : Bool) : Fine (.bool b) := by
  have : ∀ b : Bool, Sz 10 1 (.bool b) := by decide +kernel
  exact (this b).fine (by decide) (by decide)
theorem laidD_of {cs ps : List (Int × Int)} {m o r q : Nat} (ic : InB m o cs) (ip : InB r q ps) (oc : okPs cs = true) (op : okPs ps = true) (z : cs = [] → ps = []) : laidD m o r q (.tuple [.tuple (cs.map datP), .tuple (ps.map datP)]) = true := by
  show (pairsD m o _ && pairsD r q _ && (!nilD _ || nilD _)) = true
  rw [pairsD_map ic, pairsD_map ip, oc, op]
  cases cs with
  | nil =>
    rw [z rfl]
    rfl
  | cons c cs => rfl
end Xby
namespace Xby
open PySem L2
section
variable {K : PySem.W.Frag} {C : Addr} {H H' H0 : Hp} {p L a b one other : Addr} {o u : HO} {xs l I : List V} {w k n m : Nat} {cs ps : List (Int × Int)} {hs ks : List Str} {rs qs : List (List V)} {wd : Nat} {x : V}
theorem Okd.more {w' k' : Nat} (h : Okd K p w k H x) (hw : w ≤ w') (hk : k ≤ k') : Okd K p w' k' H x := by
  obtain ⟨d, q, z⟩ := h
  exact ⟨d, q, z.more hw hk⟩
theorem seqButL (h : SqT K H a xs) (hb : H b = some (.lst l)) (s : But b H H') : SqT K H' a xs := by
  rcases h with (h | ⟨o, h⟩) | ⟨o, i, j, h⟩
  · exact .inl (.inl (s a _ (by rintro rfl; rw [h] at hb; cases hb) h))
  · exact .inl (.inr ⟨o, s a _ (by rintro rfl; rw [h] at hb; cases hb) h⟩)
  · exact .inr ⟨o, i, j, h⟩
theorem RowsK.butL (h : RowsK K H wd xs rs) (hb : H b = some (.lst l)) (s : But b H H') : RowsK K H' wd xs rs := by
  induction h with
  | nil => exact .nil
  | cons e l m _ ih => exact .cons (seqButL e hb s) l m ih
theorem IsTab.butL (t : IsTab K C H a hs rs) (hb : H b = some (.lst l)) (s : But b H H') : IsTab K C H' a hs rs := by
  obtain ⟨dx, ac, ar, xs, t⟩ := t
  have ne : a ≠ b := by
    rintro rfl
    rw [t.at_] at hb
    cases hb
  exact ⟨dx, ac, ar, xs, s _ _ ne t.at_, seqButL t.c hb s, seqButL t.r hb s, t.rows.butL hb s, t.w1, t.w3, t.hw, t.nd, t.r6⟩
theorem But.upd1 : But b H (L2.upd H b o) := fun c u n e => by
  rw [upd_ne n]
  exact e
/-- a drawer, a list of data that grows, two tables -/
structure Bk (K : PySem.W.Frag) (C p L one other : Addr) (H0 : Hp) (hs ks : List Str) (rs qs : List (List V)) (w k : Nat) (m : Nat) (I : List V) (H : Hp) : Prop where
  hL : H L = some (.lst I)
  g : ∀ x ∈ I, Okd K p w k (wo L H) x
  t1 : IsTab K C H one hs rs
  t2 : IsTab K C H other ks qs
  pot : Pot H p m
  but : But p H0 H
  ne : L ≠ p
  nw : H0 L = none
  few : I.length ≤ 100000
theorem Bk.next (s : Bk K C p L one other H0 hs ks rs qs w k m I H) (b : But p H H') (pot : Pot H' p n) : Bk K C p L one other H0 hs ks rs qs w k n I H' :=
  ⟨b _ _ s.ne s.hL, all_but s.g (wo_butL b), s.t1.but s.pot b, s.t2.but s.pot b, pot, s.but.trans b, s.ne, s.nw, s.few⟩
theorem Bk.same (s : Bk K C p L one other H0 hs ks rs qs w k m I H) (b : Same H H') : Bk K C p L one other H0 hs ks rs qs w k m I H' := s.next (But.of b) (s.pot.same b)
theorem Bk.more (s : Bk K C p L one other H0 hs ks rs qs w k m I H) (h : m ≤ n) : Bk K C p L one other H0 hs ks rs qs w k n I H := ⟨s.hL, s.g, s.t1, s.t2, s.pot.more h, s.but, s.ne, s.nw, s.few⟩
theorem Bk.add (s : Bk K C p L one other H0 hs ks rs qs w k m I H) (o : Okd K p w k (wo L H) x) (few : I.length < 100000) : Bk K C p L one other H0 hs ks rs qs w k m (I ++ [x]) (upd H L (.lst (I ++ [x]))) := by
  refine ⟨upd_same, fun y hy => ?_, s.t1.butL s.hL But.upd1, s.t2.butL s.hL But.upd1, s.pot.upd s.ne.symm, s.but.updN s.nw, s.ne, s.nw, by rw [List.length_append]; exact few⟩
  rw [wo_upd]
  rcases List.mem_append.mp hy with hy | hy
  · exact s.g y hy
  · obtain rfl : y = x := by simpa using hy
    exact o
/-- behind what was done while the list was shut away -/
theorem Bk.lock {od : Obj} (s : Bk K C p L one other H0 hs ks rs qs w k m I H) (b : But p (upd H L (.frz od (.lst I))) H') (pot : Pot H' p n) : Lock p L I od H H' ∧ Bk K C p L one other H0 hs ks rs qs w k n I (upd H' L (.lst I)) := by
  have lk := lock_of s.hL s.ne b
  exact ⟨lk, s.next lk.but (pot.upd s.ne.symm)⟩
theorem Bk.line (s : Bk K C p L one other H0 hs ks rs qs w k m I H) : I.length < sizeLine := by
  have := s.few
  have : sizeLine = 16777216 := sizeLine_eq
  omega
end
end Xby

set_option Elab.async false
set_option linter.all false
set_option maxRecDepth 100000
set_option maxHeartbeats 4000000
namespace K49
open PySem L2 Xby
def top (i : Nat) : Stmt := PySem.Challenge.pw_tableheld_k49_versions_of_histories.main.body.getD i (.Pass ⟨0, 0, 0, 0⟩)
def spInteger (K : PySem.W.Frag) : Sp := fun vs H Q _ => ∃ (v : V) (d : PyData), vs = [v] ∧ Dq K H v d ∧ Q (.bl (intV v)) H
def spWithin (K : PySem.W.Frag) : Sp := fun vs H Q _ => ∃ (v : V) (d : PyData) (lo hi : Int), vs = [v, .int lo, .int hi] ∧ Dq K H v d ∧ Q (.bl (okV lo hi v)) H
def spWord (K : PySem.W.Frag) : Sp := fun vs H Q _ => ∃ (v : V) (d : PyData), vs = [v] ∧ Dq K H v d ∧ Sh d ∧ ∀ H', Same H H' → Q (.bl (wordD d)) H'
def spCell (K : PySem.W.Frag) : Sp := fun vs H Q _ => ∃ (v : V) (d : PyData), vs = [v] ∧ Dq K H v d ∧ Sh d ∧ ∀ H', Same H H' → Q (.bl (cellD d)) H'
def spCols (K : PySem.W.Frag) : Sp := fun vs H Q _ => ∃ (v : V) (d : PyData), vs = [v] ∧ Dq K H v d ∧ Sh1 d ∧ ∀ H', Same H H' → Q (.bl (colsD d)) H'
def spRow (K : PySem.W.Frag) : Sp := fun vs H Q _ => ∃ (v : V) (d : PyData) (n : Nat), vs = [v, .int n] ∧ Dq K H v d ∧ Sh1 d ∧ n < 1000 ∧ ∀ H', Same H H' → Q (.bl (rowD n d)) H'
section
variable {P : Program} {w : World} {K : PySem.W.Frag} {mg : Str → Option Value} {base : Heap}
abbrev s_is_integer : Stmt := top 12
theorem sc_is_integer : FnScope ["value"] ["value"] (defScope s_is_integer) := ⟨rfl, rfl, rfl, by decide +kernel, rfl, by decide +kernel, by decide +kernel⟩
theorem ok_integer {f : Addr} {fd : FuncData} (F : Fun K "is_integer" "is_integer" s_is_integer f fd) (T : Txt K mg) : FnOk P w K mg base CX0 1 f fd ["value"] (spInteger K) := by
  refine F.ok sc_is_integer (fun vs H Q E h => ?_) (fun cdv A outer s H vs Q E hr h => ⟨_, (pss_one (ps_ret (pe_and (pe_callB (call_isiK K rfl) (by rfl) T.b_isinstance (by decide +kernel) (pa_cons (pv 0) (pa_cons (pe_bltn (v := .ty "int") (by rfl) T.b_int (by decide +kernel) rfl) pa_nil))) (pe_one (pe_not (pe_callB (call_isiK K rfl) (by rfl) T.b_isinstance (by decide +kernel) (pa_cons (pv 0) (pa_cons (pe_bltn (v := .ty "bool") (by rfl) T.b_bool (by decide +kernel) rfl) pa_nil)))))))), ?_⟩)
  · obtain ⟨_, _, rfl, _⟩ := h
    rfl
  obtain ⟨v, d, rfl, hd, k⟩ := h
  rcases hd.kind with ⟨b, rfl⟩ | ⟨i, rfl⟩ | ⟨T', ty, ⟨kb, ki⟩, no⟩
  · exact ⟨_, rfl, _, _, _, _, _, rfl, .ty _, .base (.bl b), kit_ty kit_bi, _, rfl, _, rfl, _, _, _, _, _, rfl, .ty _, .base (.bl b), kit_ty kit_bb, _, rfl, k⟩
  · exact ⟨_, rfl, _, _, _, _, _, rfl, .ty _, .base (.int i), kit_ty kit_ii, _, rfl, _, rfl, _, _, _, _, _, rfl, .ty _, .base (.int i), kit_ty kit_ib, _, rfl, k⟩
  · rw [intV_not no] at k
    exact ⟨_, rfl, _, _, _, _, _, rfl, .ty _, ty, kit_ty ki, _, rfl, k⟩
abbrev s_is_integer_within : Stmt := top 13
theorem sc_is_integer_within : FnScope ["value", "least", "most"] ["value", "least", "most"] (defScope s_is_integer_within) := ⟨rfl, rfl, rfl, by decide +kernel, rfl, by decide +kernel, by decide +kernel⟩
theorem ok_within {f fI : Addr} {fd fdI : FuncData} (F : Fun K "is_integer_within" "is_integer_within" s_is_integer_within f fd) (T : Txt K mg)
    (c_is_integer : ∀ base, Ca P w K mg base CX0 "is_integer" 1 ["value"] (spInteger K) fI fdI) : FnOk P w K mg base CX0 2 f fd ["value", "least", "most"] (spWithin K) := by
  have c_is_integer := c_is_integer base
  refine F.ok sc_is_integer_within (fun vs H Q E h => ?_) (fun cdv A outer s H vs Q E hr h => ⟨_, (pss_one (ps_ret (pe_and (pe_call c_is_integer.G (hr.mono (by first | decide | omega)) (by rfl) c_is_integer.g c_is_integer.k c_is_integer.B .nil pass0 (pa_cons (pv 0) pa_nil)) (pe_one (pe_chain op_le op_le (pv 1) (pv 0) (pv 2)))))), ?_⟩)
  · obtain ⟨_, _, _, _, rfl, _⟩ := h
    rfl
  obtain ⟨v, d, lo, hi, rfl, hd, k⟩ := h
  refine ⟨_, rfl, v, d, rfl, hd, _, rfl, ite2 (fun hint => ?_) (fun hn => ?_)⟩
  · obtain ⟨i, rfl⟩ := intV_is hint
    refine ⟨_, rfl, _, rfl, _, _, rfl, rfl, _, rfl, ite2 (fun h1 => ?_) (fun h1 => ?_)⟩
    · refine ⟨_, rfl, _, _, rfl, rfl, ?_⟩
      have e : decide (i ≤ hi) = okV lo hi (.int i) := by
        have := of_decide_eq_true h1
        show _ = decide (lo ≤ i ∧ i ≤ hi)
        congr 1
        exact propext ⟨fun z => ⟨this, z⟩, fun z => z.2⟩
      show Q (.bl (decide (i ≤ hi))) H
      rw [e]
      exact k
    · have e : okV lo hi (.int i) = false := decide_eq_false fun z => h1 (decide_eq_true z.1)
      rw [e] at k
      exact k
  · have e : okV lo hi v = false := by
      cases v with
      | int i => exact absurd rfl hn
      | _ => rfl
    rw [e] at k
    exact k
abbrev s_is_word : Stmt := top 23
theorem sc_is_word : FnScope ["value", "letter"] ["value"] (defScope s_is_word) := ⟨rfl, rfl, rfl, by decide +kernel, rfl, by decide +kernel, by decide +kernel⟩
theorem ok_word {f : Addr} {fd : FuncData} (F : Fun K "is_word" "is_word" s_is_word f fd) (T : Txt K mg) : FnOk P w K mg base CX0 1 f fd ["value"] (spWord K) := by
  refine F.ok sc_is_word (fun vs H Q E h => ?_) (fun cdv A outer s H vs Q E hr h => ⟨_, (pss_cons (ps_if (PW.pt (pw_or (pt_not (pt_val (pe_callB (call_isiK K rfl) (by rfl) T.b_isinstance (by decide +kernel) (pa_cons (pv 0) (pa_cons (pe_bltn (v := .ty "str") (by rfl) T.b_str (by decide +kernel) rfl) pa_nil))))) (pw_or1 (pt_not (pt_chain op_le op_le pe_int (pe_callB (call_lenK K rfl) (by rfl) T.b_len (by decide +kernel) (pa_cons (pv 0) pa_nil)) (pe_glob (v := .int 8) rfl T.c_LONGEST_WORD ⟨_, rfl⟩)))))) (pss_one (ps_ret pe_bl)) pss_nil)
    (pss_one (ps_ret (pe_callB (cr_allK K rfl rfl) (by rfl) T.b_all (by decide +kernel) (pa_cons (pe_lc (own := [("letter", 1)]) (g := gName 1) (tt := tYes) rfl sc_is_word.nd (pi_str (pv 0)) (blkOk_by (N := ["value", "letter"]) (sc := defScope s_is_word) (by decide +kernel)) (fun _ _ _ _ _ => (pg_name (i := 1) sc_is_word.nd rfl (Or.inl rfl))) (fun _ _ _ _ _ => pts_nil) (fun _ _ _ _ _ => (pe_chain op_le_str op_le_str pe_str (pv 1) pe_str))) pa_nil))))), ?_⟩)
  · obtain ⟨_, _, rfl, _⟩ := h
    rfl
  obtain ⟨v, d, rfl, hd, sh, k⟩ := h
  rcases hd.isStr with ⟨x, rfl, rfl⟩ | ⟨T', ty, kt, no⟩
  · refine ⟨_, rfl, _, _, _, _, _, rfl, .ty _, .base (.str x), kit_ty kit_ss, _, rfl, ?_⟩
    have hx : x.length ≤ 1000000 := sh x rfl
    have ew : wordD (.str x) = (decide (1 ≤ x.length ∧ x.length ≤ 8) && x.cps.toList.all lowC) := rfl
    rw [ew] at k
    have rest : decide (1 ≤ x.length ∧ x.length ≤ 8) = false → Q (.bl false) H := fun n => by
      have := k H (Same.refl H)
      rw [n, Bool.false_and] at this
      exact this
    refine ⟨_, rfl, _, _, rfl, ⟨Nat.le_trans hx (by decide), rfl⟩, _, _, rfl, rfl, _, rfl, ite2 (fun h1 => ?_) (fun h1 => ?_)⟩
    · have h1' := of_decide_eq_true h1
      refine ⟨_, _, rfl, rfl, _, rfl, ite2 (fun h8 => ?_) (fun h8 => ?_)⟩
      · have h8' : ¬ ((x.length : Int) ≤ 8) := by simpa using h8
        refine rest (decide_eq_false fun z => h8' ?_)
        omega
      · have h8' : (x.length : Int) ≤ 8 := by simpa using h8
        have ok : decide (1 ≤ x.length ∧ x.length ≤ 8) = true := decide_eq_true (by omega)
        rw [ok, Bool.true_and] at k
        refine ⟨_, rfl, x, rfl, fun D nD => lc_it walk_str (fun i H' => H' = upd H D (.lst (((x.cps.toList.take i).map lowC).map V.bl))) rfl (fun i H' _ _ => trivial) ?_ ?_⟩
        · rintro i v H1 H2 hi rfl ⟨rfl, c, hc, rfl⟩
          have hl : x.cps.toList[i]? = some c := by rw [Array.getElem?_toList]; exact hc
          have few : (((x.cps.toList.take i).map lowC).map V.bl).length < sizeLine := by
            rw [List.length_map, List.length_map, List.length_take]
            have : x.cps.toList.length = x.length := Array.length_toList
            exact Nat.lt_of_le_of_lt (Nat.min_le_right _ _) (by rw [this]; exact Nat.lt_of_le_of_lt hx (by decide))
          have fin : ∀ b : Bool, b = lowC c → upd (upd H D (.lst (((x.cps.toList.take i).map lowC).map V.bl))) D (.lst ((((x.cps.toList.take i).map lowC).map V.bl) ++ [.bl b])) = upd H D (.lst (((x.cps.toList.take (i + 1)).map lowC).map V.bl)) := fun b hb => by
            rw [upd_upd, List.take_succ, hl, hb, List.map_append, List.map_append]
            rfl
          refine ⟨rfl, _, rfl, _, _, rfl, rfl, _, rfl, ite2 (fun ha => ?_) (fun ha => ?_)⟩
          · rw [le_a] at ha
            refine ⟨_, _, rfl, rfl, _, upd_same, few, fin _ ?_⟩
            rw [le_z]
            have := of_decide_eq_true ha
            by_cases h : c ≤ 122
            · rw [decide_eq_true h]
              exact (decide_eq_true ⟨this, h⟩).symm
            · rw [decide_eq_false h]
              exact (decide_eq_false fun z => h z.2).symm
          · rw [le_a] at ha
            refine ⟨_, upd_same, few, fin _ ?_⟩
            exact (decide_eq_false fun z => ha (decide_eq_true z.1)).symm
        · rintro H1 rfl
          refine ⟨D, x.cps.toList.map lowC, rfl, ?_, ?_⟩
          · refine SqL.of ?_
            have : x.cps.toList.take x.cps.size = x.cps.toList := List.take_of_length_le (by rw [Array.length_toList]; exact Nat.le_refl _)
            rw [this]
            exact upd_same
          · have : (x.cps.toList.map lowC).all id = x.cps.toList.all lowC := by rw [List.all_map]; rfl
            rw [this]
            exact k _ (Same.one nD)
    · refine ⟨_, rfl, rest (decide_eq_false fun z => h1 (decide_eq_true ?_))⟩
      omega
  · rw [no] at k
    refine ⟨_, rfl, _, _, _, _, _, rfl, .ty _, ty, kit_ty kt, _, rfl, ?_⟩
    exact k H (Same.refl H)
abbrev s_is_cell : Stmt := top 24
theorem sc_is_cell : FnScope ["value"] ["value"] (defScope s_is_cell) := ⟨rfl, rfl, rfl, by decide +kernel, rfl, by decide +kernel, by decide +kernel⟩
theorem ok_cell {f fW fI : Addr} {fd fdW fdI : FuncData} (F : Fun K "is_cell" "is_cell" s_is_cell f fd) (T : Txt K mg)
    (c_is_integer_within : ∀ base, Ca P w K mg base CX0 "is_integer_within" 2 ["value", "least", "most"] (spWithin K) fI fdI) (c_is_word : ∀ base, Ca P w K mg base CX0 "is_word" 1 ["value"] (spWord K) fW fdW) : FnOk P w K mg base CX0 3 f fd ["value"] (spCell K) := by
  have c_is_integer_within := c_is_integer_within base
  have c_is_word := c_is_word base
  refine F.ok sc_is_cell (fun vs H Q E h => ?_) (fun cdv A outer s H vs Q E hr h => ⟨_, (pss_one (ps_ret (pe_or (pe_cmpR op_isN (pv 0) pe_non (nomark _)) (pe_or (pe_call c_is_integer_within.G (hr.mono (by first | decide | omega)) (by rfl) c_is_integer_within.g c_is_integer_within.k c_is_integer_within.B .nil pass0 (pa_cons (pv 0) (pa_cons (pe_un un_neg (pe_glob (v := .int 999) rfl T.c_GREATEST_NUMBER ⟨_, rfl⟩)) (pa_cons (pe_glob (v := .int 999) rfl T.c_GREATEST_NUMBER ⟨_, rfl⟩) pa_nil)))) (pe_one (pe_call c_is_word.G (hr.mono (by first | decide | omega)) (by rfl) c_is_word.g c_is_word.k c_is_word.B .nil pass0 (pa_cons (pv 0) pa_nil))))))), ?_⟩)
  · obtain ⟨_, _, rfl, _⟩ := h
    rfl
  obtain ⟨v, d, rfl, hd, sh, k⟩ := h
  refine ⟨_, rfl, rfl, _, rfl, ite2 (fun hn => ?_) (fun hn => ?_)⟩
  · obtain rfl := of_decide_eq_true hn
    cases hd
    exact k H (Same.refl H)
  · have nn : nonD d = false := by
      cases hd with
      | non => exact absurd (decide_eq_true rfl) hn
      | _ => rfl
    have ec : cellD d = (intD (-999) 999 d || wordD d) := by
      unfold cellD
      rw [nn, Bool.false_or]
    rw [ec, ← hd.okV] at k
    refine ⟨_, rfl, _, rfl, v, d, -999, 999, rfl, hd, _, rfl, ite2 (fun h => ?_) (fun h => ?_)⟩
    · rw [h, Bool.true_or] at k
      exact k H (Same.refl H)
    · rw [Bool.eq_false_iff.mpr h, Bool.false_or] at k
      exact ⟨_, rfl, v, d, rfl, hd, sh, k⟩
abbrev s_are_columns : Stmt := top 25
theorem sc_are_columns : FnScope ["value", "name"] ["value"] (defScope s_are_columns) := ⟨rfl, rfl, rfl, by decide +kernel, rfl, by decide +kernel, by decide +kernel⟩
theorem ok_cols {f fW : Addr} {fd fdW : FuncData} (F : Fun K "are_columns" "are_columns" s_are_columns f fd) (T : Txt K mg)
    (c_is_word : ∀ base, Ca P w K mg base CX0 "is_word" 1 ["value"] (spWord K) fW fdW) : FnOk P w K mg base CX0 2 f fd ["value"] (spCols K) := by
  have c_is_word := c_is_word base
  refine F.ok sc_are_columns (fun vs H Q E h => ?_) (fun cdv A outer s H vs Q E hr h => ⟨_, (pss_cons (ps_if (PW.pt (pw_or (pt_not (pt_val (pe_callB (call_isiK K rfl) (by rfl) T.b_isinstance (by decide +kernel) (pa_cons (pv 0) (pa_cons (pe_bltn (v := .ty "tuple") (by rfl) T.b_tuple (by decide +kernel) rfl) pa_nil))))) (pw_or1 (pt_not (pt_chain op_le op_le pe_int (pe_callB (call_lenK K rfl) (by rfl) T.b_len (by decide +kernel) (pa_cons (pv 0) pa_nil)) (pe_glob (v := .int 3) rfl T.c_MOST_COLUMNS ⟨_, rfl⟩)))))) (pss_one (ps_ret pe_bl)) pss_nil)
    (pss_one (ps_ret (pe_and (pe_callB (cr_allK K rfl rfl) (by rfl) T.b_all (by decide +kernel) (pa_cons (pe_lc (own := [("name", 1)]) (g := gName 1) (tt := tYes) rfl sc_are_columns.nd (pi_tupK K rfl (pv 0)) (blkOk_by (N := ["value", "name"]) (sc := defScope s_are_columns) (by decide +kernel)) (fun _ _ _ _ _ => (pg_name (i := 1) sc_are_columns.nd rfl (Or.inl rfl))) (fun _ _ _ _ _ => pts_nil) (fun _ _ _ _ _ => (pe_call c_is_word.G (hr.mono (by first | decide | omega)) (by rfl) c_is_word.g c_is_word.k c_is_word.B .nil pass0 (pa_cons (pv 1) pa_nil)))) pa_nil)) (pe_one (pe_cmpR op_eq (pe_lenSetTK K rfl rfl (by rfl) T.b_len (by rfl) T.b_set (pv 0)) (pe_callB (call_lenK K rfl) (by rfl) T.b_len (by decide +kernel) (pa_cons (pv 0) pa_nil)) (nomark _))))))), ?_⟩)
  · obtain ⟨_, _, rfl, _⟩ := h
    rfl
  obtain ⟨v, d, rfl, hd, sh, k⟩ := h
  rcases hd.isTup with ⟨a, xs, ds, rfl, rfl, hs, ha⟩ | ⟨T', ty, kt, no⟩
  · have len := ha.len
    have ec : colsD (.tuple ds) = (decide (1 ≤ ds.length ∧ ds.length ≤ 3) && ds.all wordD && decide (ds.map strD).Nodup) := rfl
    rw [ec] at k
    have rest : decide (1 ≤ ds.length ∧ ds.length ≤ 3) = false → Q (.bl false) H := fun n => by
      have := k H (Same.refl H)
      rw [n, Bool.false_and, Bool.false_and] at this
      exact this
    refine ⟨_, rfl, _, _, _, _, _, rfl, .ty _, tyTup hs, kit_ty kit_tt, _, rfl, ?_⟩
    refine ⟨_, rfl, _, _, rfl, .inr ⟨xs, hs, rfl⟩, _, _, rfl, rfl, _, rfl, ite2 (fun h1 => ?_) (fun h1 => ?_)⟩
    · have h1' := of_decide_eq_true h1
      refine ⟨_, _, rfl, rfl, _, rfl, ite2 (fun h8 => ?_) (fun h8 => ?_)⟩
      · have h8' : ¬ ((xs.length : Int) ≤ 3) := by simpa using h8
        refine rest (decide_eq_false fun z => h8' ?_)
        omega
      · have h8' : (xs.length : Int) ≤ 3 := by simpa using h8
        have ok : decide (1 ≤ ds.length ∧ ds.length ≤ 3) = true := decide_eq_true (by omega)
        rw [ok, Bool.true_and] at k
        refine ⟨_, rfl, a, rfl, ⟨_, hs⟩, fun D nD => lc_tup (K := K) (a := a) (xs := xs) (fun i H' => H' D = some (.lst (((ds.take i).map wordD).map V.bl)) ∧ Same H H') ⟨upd_same, Same.one nD⟩ (fun i H' _ z => hs.ext z.2) ?_ ?_⟩
        · rintro i v H1 hi ⟨hD, s1⟩
          obtain ⟨e, he, hq⟩ := ha.get hi
          refine ⟨rfl, _, rfl, v, e, rfl, hq.same s1, sh _ rfl e (List.mem_of_getElem? he), fun H2 s2 => ⟨_, s2 _ _ hD, ?_, ?_, Same.updN (s1.trans s2) nD⟩⟩
          · rw [List.length_map, List.length_map, List.length_take]
            exact Nat.lt_of_le_of_lt (Nat.min_le_right _ _) (show ds.length < sizeLine by have : sizeLine = 16777216 := sizeLine_eq; omega)
          · rw [upd_same, List.take_succ, he, List.map_append, List.map_append]
            rfl
        · rintro H1 ⟨hD, s1⟩
          rw [len, List.take_length] at hD
          refine ⟨D, ds.map wordD, rfl, SqL.of hD, ?_⟩
          have e1 : (ds.map wordD).all id = ds.all wordD := by rw [List.all_map]; rfl
          rw [e1]
          refine ⟨_, rfl, ite2 (fun hw => ?_) (fun hw => ?_)⟩
          · rw [hw, Bool.true_and] at k
            have ex : xs = (ds.map strD).map V.str := ha.words hw
            refine ⟨_, rfl, a, ds.map strD, rfl, ?_, by rw [List.length_map]; omega, _, rfl, _, _, rfl, .inr ⟨xs, hs.ext s1, rfl⟩, rfl, ?_⟩
            · rw [← ex]
              exact hs.ext s1
            · have : decide (V.int ((news (ds.map strD) (ds.map strD).length : Nat) : Int) = V.int ((xs.length : Nat) : Int)) = decide (ds.map strD).Nodup := by
                have := news_all (ys := ds.map strD) (Nat.le_refl _)
                rw [List.take_length] at this
                have l2 : xs.length = (ds.map strD).length := by rw [List.length_map, len]
                rw [l2]
                congr 1
                refine propext ⟨fun z => this.mp ?_, fun z => by rw [this.mpr z]⟩
                have := V.int.inj z
                omega
              rw [this]
              exact k _ s1
          · rw [Bool.eq_false_iff.mpr hw, Bool.false_and] at k
            exact k _ s1
    · refine ⟨_, rfl, rest (decide_eq_false fun z => h1 (decide_eq_true ?_))⟩
      omega
  · refine ⟨_, rfl, _, _, _, _, _, rfl, .ty _, ty, kit_ty kt, _, rfl, ?_⟩
    have : colsD d = false := by
      cases d with
      | tuple ds => exact absurd rfl (no ds)
      | _ => rfl
    rw [this] at k
    exact k H (Same.refl H)
abbrev s_is_row : Stmt := top 26
theorem sc_is_row : FnScope ["value", "width", "cell"] ["value", "width"] (defScope s_is_row) := ⟨rfl, rfl, rfl, by decide +kernel, rfl, by decide +kernel, by decide +kernel⟩
theorem ok_row {f fW : Addr} {fd fdW : FuncData} (F : Fun K "is_row" "is_row" s_is_row f fd) (T : Txt K mg)
    (c_is_cell : ∀ base, Ca P w K mg base CX0 "is_cell" 3 ["value"] (spCell K) fW fdW) : FnOk P w K mg base CX0 4 f fd ["value", "width"] (spRow K) := by
  have c_is_cell := c_is_cell base
  refine F.ok sc_is_row (fun vs H Q E h => ?_) (fun cdv A outer s H vs Q E hr h => ⟨_, (pss_cons (ps_if (PW.pt (pw_or (pt_not (pt_val (pe_callB (call_isiK K rfl) (by rfl) T.b_isinstance (by decide +kernel) (pa_cons (pv 0) (pa_cons (pe_bltn (v := .ty "tuple") (by rfl) T.b_tuple (by decide +kernel) rfl) pa_nil))))) (pw_or1 (pt_cmpR op_ne (pe_callB (call_lenK K rfl) (by rfl) T.b_len (by decide +kernel) (pa_cons (pv 0) pa_nil)) (pv 1) (nomark _))))) (pss_one (ps_ret pe_bl)) pss_nil)
    (pss_one (ps_ret (pe_callB (cr_allK K rfl rfl) (by rfl) T.b_all (by decide +kernel) (pa_cons (pe_lc (own := [("cell", 2)]) (g := gName 2) (tt := tYes) rfl sc_is_row.nd (pi_tupK K rfl (pv 0)) (blkOk_by (N := ["value", "width", "cell"]) (sc := defScope s_is_row) (by decide +kernel)) (fun _ _ _ _ _ => (pg_name (i := 2) sc_is_row.nd rfl (Or.inl rfl))) (fun _ _ _ _ _ => pts_nil) (fun _ _ _ _ _ => (pe_call c_is_cell.G (hr.mono (by first | decide | omega)) (by rfl) c_is_cell.g c_is_cell.k c_is_cell.B .nil pass0 (pa_cons (pv 2) pa_nil)))) pa_nil))))), ?_⟩)
  · obtain ⟨_, _, _, rfl, _⟩ := h
    rfl
  obtain ⟨v, d, n, rfl, hd, sh, few, k⟩ := h
  rcases hd.isTup with ⟨a, xs, ds, rfl, rfl, hs, ha⟩ | ⟨T', ty, kt, no⟩
  · have len := ha.len
    have ec : rowD n (.tuple ds) = (decide (ds.length = n) && ds.all cellD) := rfl
    rw [ec] at k
    refine ⟨_, rfl, _, _, _, _, _, rfl, .ty _, tyTup hs, kit_ty kit_tt, _, rfl, ?_⟩
    refine ⟨_, rfl, _, _, rfl, .inr ⟨xs, hs, rfl⟩, _, rfl, rfl, _, rfl, ite2 (fun h1 => ?_) (fun h1 => ?_)⟩
    · have ne : ds.length ≠ n := fun z => by
        rw [len, z] at h1
        simp at h1
      rw [decide_eq_false ne, Bool.false_and] at k
      exact k H (Same.refl H)
    · have eq : ds.length = n := by
        have : V.int ((xs.length : Nat) : Int) = V.int (n : Int) := by simpa using h1
        have := V.int.inj this
        omega
      rw [decide_eq_true eq, Bool.true_and] at k
      refine ⟨_, rfl, a, rfl, ⟨_, hs⟩, fun D nD => lc_tup (K := K) (a := a) (xs := xs) (fun i H' => H' D = some (.lst (((ds.take i).map cellD).map V.bl)) ∧ Same H H') ⟨upd_same, Same.one nD⟩ (fun i H' _ z => hs.ext z.2) ?_ ?_⟩
      · rintro i v H1 hi ⟨hD, s1⟩
        obtain ⟨e, he, hq⟩ := ha.get hi
        refine ⟨rfl, _, rfl, v, e, rfl, hq.same s1, sh _ rfl e (List.mem_of_getElem? he), fun H2 s2 => ⟨_, s2 _ _ hD, ?_, ?_, Same.updN (s1.trans s2) nD⟩⟩
        · rw [List.length_map, List.length_map, List.length_take]
          exact Nat.lt_of_le_of_lt (Nat.min_le_right _ _) (show ds.length < sizeLine by have : sizeLine = 16777216 := sizeLine_eq; omega)
        · rw [upd_same, List.take_succ, he, List.map_append, List.map_append]
          rfl
      · rintro H1 ⟨hD, s1⟩
        rw [len, List.take_length] at hD
        refine ⟨D, ds.map cellD, rfl, SqL.of hD, ?_⟩
        have e1 : (ds.map cellD).all id = ds.all cellD := by rw [List.all_map]; rfl
        rw [e1]
        exact k _ s1
  · refine ⟨_, rfl, _, _, _, _, _, rfl, .ty _, ty, kit_ty kt, _, rfl, ?_⟩
    have : rowD n d = false := by
      cases d with
      | tuple ds => exact absurd rfl (no ds)
      | _ => rfl
    rw [this] at k
    exact k H (Same.refl H)
end
/-- what is raised -/
def Raised (EK ER EW EM : Addr) (r : Fk × V) (E : XK) (H : Hp) : Prop := ∀ (d : Addr) (H' : Hp), Same H H' →
  (r.1 = .columns → H' d = some (.xd [(("value" : Str), r.2)]) → E (.ref EK) (some d) H') ∧ (r.1 = .rows → H' d = some (.xd [(("value" : Str), r.2)]) → E (.ref ER) (some d) H') ∧
  (r.1 = .row → H' d = some (.xd [(("value" : Str), r.2)]) → E (.ref EW) (some d) H') ∧ (r.1 = .many → H' d = some (.xd [(("limit" : Str), r.2)]) → E (.ref EM) (some d) H')
theorem raised_none {EK ER EW EM : Addr} {r : Fk × V} {E : XK} {H : Hp} (e : r.1 = .none) : Raised EK ER EW EM r E H := fun _ _ _ =>
  ⟨fun z _ => Fk.noConfusion (z.symm.trans e), fun z _ => Fk.noConfusion (z.symm.trans e), fun z _ => Fk.noConfusion (z.symm.trans e), fun z _ => Fk.noConfusion (z.symm.trans e)⟩
def spInit (K : PySem.W.Frag) (C EK ER EW EM : Addr) : Sp := fun vs H Q E => ∃ (x dx : Addr) (vh vr : V) (dh dr : PyData) (xs : List V), vs = [.ref x, vh, vr] ∧ H x = some (.ins C dx []) ∧ Two K H vh vr dh dr xs ∧
  Raised EK ER EW EM (due vh vr dh dr xs) E H ∧ ((due vh vr dh dr xs).1 = .none → ∀ H', But x H H' → H' x = some (.ins C dx (flds vh vr)) → Q .non H')
section
variable {P : Program} {w : World} {K : PySem.W.Frag} {mg : Str → Option Value} {base : Heap}
abbrev s_Table___init__ : Stmt := inClass (top 27) 0
theorem sc_Table___init__ : FnScope ["self", "columns", "rows", "row"] ["self", "columns", "rows"] (defScope s_Table___init__) := ⟨rfl, rfl, rfl, by decide +kernel, rfl, by decide +kernel, by decide +kernel⟩
theorem ok_init {f fK fR : Addr} {fd fdK fdR : FuncData} (F : Fun K "__init__" "Table.__init__" s_Table___init__ f fd) (T : Txt K mg)
    (c_are_columns : ∀ base, Ca P w K mg base CX0 "are_columns" 2 ["value"] (spCols K) fK fdK) (c_is_row : ∀ base, Ca P w K mg base CX0 "is_row" 4 ["value", "width"] (spRow K) fR fdR) : FnOk P w K mg base (L2.CX P w) 5 f fd ["self", "columns", "rows"] (spInit K T.C T.EK T.ER T.EW T.EM) := by
  have c_are_columns := c_are_columns base
  have c_is_row := c_is_row base
  refine F.okX sc_Table___init__ (fun vs H Q E h => ?_) (fun cdv A outer s H vs Q E hr h => ⟨_, (pss_cons (ps_if (pt_not (pt_val (pe_call c_are_columns.G (hr.mono (by first | decide | omega)) (by rfl) c_are_columns.g c_are_columns.k c_are_columns.B .nil pass0 (pa_cons (pv 1) pa_nil)))) (pss_one (L2.LowV.ps_raiseLow rfl T.eK hr (takes_of rfl rfl rfl rfl) (by exact (pa_cons (pv 1) pa_nil)))) pss_nil)
    (pss_cons (ps_if (pt_not (pt_val (pe_callB (call_isiK K rfl) (by rfl) T.b_isinstance (by decide +kernel) (pa_cons (pv 2) (pa_cons (pe_bltn (v := .ty "tuple") (by rfl) T.b_tuple (by decide +kernel) rfl) pa_nil))))) (pss_one (L2.LowV.ps_raiseLow rfl T.eR hr (takes_of rfl rfl rfl rfl) (by exact (pa_cons (pv 2) pa_nil)))) pss_nil)
    (pss_cons (ps_if (pt_cmpR op_gt (pe_callB (call_lenK K rfl) (by rfl) T.b_len (by decide +kernel) (pa_cons (pv 2) pa_nil)) (pe_glob (v := .int 6) rfl T.c_MOST_ROWS ⟨_, rfl⟩) (nomark _)) (pss_one (L2.LowL.ps_raiseLow rfl T.eM hr (takes_of rfl rfl rfl rfl) (by exact (pa_cons (pe_glob (v := .int 6) rfl T.c_MOST_ROWS ⟨_, rfl⟩) pa_nil)))) pss_nil)
    (pss_cons (ps_for (passes_of rfl) rfl (pi_tupK K rfl (pv 2)) (pg_name (i := 3) sc_Table___init__.nd rfl (Or.inl rfl)) (pss_one (ps_if (pt_not (pt_val (pe_call c_is_row.G (hr.mono (by first | decide | omega)) (by rfl) c_is_row.g c_is_row.k c_is_row.B .nil pass0 (pa_cons (pv 3) (pa_cons (pe_callB (call_lenK K rfl) (by rfl) T.b_len (by decide +kernel) (pa_cons (pv 1) pa_nil)) pa_nil))))) (pss_one (L2.LowV.ps_raiseLow rfl T.eW hr (takes_of rfl rfl rfl rfl) (by exact (pa_cons (pv 3) pa_nil)))) pss_nil)))
    (pss_cons (ps_fld (pv 0) (pv 1) rfl)
    (pss_one (ps_fld (pv 0) (pv 2) rfl))))))), ?_⟩)
  · obtain ⟨_, _, _, _, _, _, _, rfl, _⟩ := h
    rfl
  obtain ⟨x, dx, vh, vr, dh, dr, xs, rfl, hx, two, kE, kG⟩ := h
  refine ⟨_, rfl, vh, dh, rfl, two.h, two.s1, fun H1 s1 => ?_⟩
  cases hc : colsD dh with
  | false =>
    refine ⟨_, rfl, _, rfl, vh, rfl, fun d' nd => ?_⟩
    refine (kE d' _ (Same.upd s1 nd)).1 (by rw [due_cols hc]) ?_
    rw [due_cols hc]
    exact upd_same
  | true =>
    refine ⟨_, rfl, ?_⟩
    rcases (two.r.same s1).isTup with ⟨a0, _, ds, _, e, _, _⟩ | ⟨T', ty, kt, no⟩
    · subst e
      obtain ⟨a, rfl, hs, ha⟩ := two.x ds rfl
      have len := ha.len
      obtain ⟨cs, rfl⟩ : ∃ cs, dh = .tuple cs := by
        cases dh with
        | tuple cs => exact ⟨cs, rfl⟩
        | _ => cases hc
      obtain ⟨ac, xc, rfl, hsc, hac⟩ := two.h.ofTup
      have lenc := hac.len
      have ec : colsD (.tuple cs) = (decide (1 ≤ cs.length ∧ cs.length ≤ 3) && cs.all wordD && decide (cs.map strD).Nodup) := rfl
      have wide : cs.length ≤ 3 := by
        rw [ec, Bool.and_eq_true, Bool.and_eq_true] at hc
        exact (of_decide_eq_true hc.1.1).2
      refine ⟨_, rfl, _, _, _, _, _, rfl, .ty _, tyTup (hs.ext s1), kit_ty kit_tt, _, rfl, ?_⟩
      refine ⟨_, rfl, _, _, rfl, .inr ⟨xs, hs.ext s1, rfl⟩, _, _, rfl, rfl, _, rfl, ite2 (fun h => ?_) (fun h => ?_)⟩
      · have m : 6 < ds.length := by
          have := of_decide_eq_true h
          omega
        refine ⟨.int 6, rfl, fun d' nd => ?_⟩
        refine (kE d' _ (Same.upd s1 nd)).2.2.2 (by rw [due_many hc m]) ?_
        rw [due_many hc m]
        exact upd_same
      · have m : ¬ 6 < ds.length := fun z => h (decide_eq_true (by omega))
        refine ⟨_, rfl, a, rfl, ⟨_, hs.ext s1⟩, for_tup (K := K) (a := a) (xs := xs) (fun i σ H' => ∃ o, σ = [some (.ref x), some (.ref ac), some (.ref a), o] ∧ Same H H' ∧ ∀ j e, j < i → ds[j]? = some e → rowD cs.length e = true)
          ⟨none, rfl, s1, fun j e hj _ => absurd hj (Nat.not_lt_zero j)⟩ (fun i σ H' _ ⟨_, _, z, _⟩ => hs.ext z) ?_ ?_⟩
        · rintro i v σ H2 hi ⟨o, rfl, s2, before⟩
          obtain ⟨e, he, hq⟩ := ha.get hi
          refine ⟨_, rfl, _, rfl, _, _, rfl, .inr ⟨xc, hsc.ext s2, rfl⟩, v, e, xc.length, rfl, hq.same s2, two.s2 _ rfl e (List.mem_of_getElem? he), by omega, fun H3 s3 => ?_⟩
          rw [lenc]
          cases hrow : rowD cs.length e with
          | true =>
            refine ⟨_, rfl, _, rfl, s2.trans s3, fun j e' hj he' => ?_⟩
            rcases Nat.lt_succ_iff_lt_or_eq.mp hj with hj | rfl
            · exact before j e' hj he'
            · rw [he] at he'
              rw [← Option.some.inj he']
              exact hrow
          | false =>
            refine ⟨_, rfl, _, rfl, v, rfl, fun d' nd => ?_⟩
            have b : firstBad (wid (.tuple cs)) xs ds = some v := bad_at hi he before hrow
            refine (kE d' _ (Same.upd (s2.trans s3) nd)).2.2.1 (by rw [due_row hc m b]) ?_
            rw [due_row hc m b]
            exact upd_same
        · rintro σ H2 ⟨o, rfl, s2, all⟩
          have b : firstBad (wid (.tuple cs)) xs ds = none := bad_no fun e he => by
            obtain ⟨j, hj⟩ := List.getElem?_of_mem he
            refine all j e ?_ hj
            rw [len]
            exact (List.getElem?_eq_some_iff.mp hj).1
          refine ⟨_, rfl, _, rfl, x, T.C, dx, _, rfl, s2 _ _ hx, T.cl, T.n_columns, by decide, ?_⟩
          refine ⟨_, rfl, _, rfl, x, T.C, dx, _, rfl, upd_same, T.cl, T.n_rows, by show 1 < 1000; decide, ?_⟩
          exact kG (by rw [due_none hc m b]) _ (((But.of s2).upd).upd) upd_same
    · refine ⟨_, rfl, _, _, _, _, _, rfl, .ty _, ty, kit_ty kt, _, rfl, ?_⟩
      refine ⟨_, rfl, vr, rfl, fun d' nd => ?_⟩
      refine (kE d' _ (Same.upd s1 nd)).2.1 (by rw [due_rows hc no]) ?_
      rw [due_rows hc no]
      exact upd_same
end
end K49

set_option Elab.async false
set_option linter.all false
set_option maxRecDepth 100000
set_option maxHeartbeats 4000000
/-! # max(xs, default=d), min(xs, default=d), xs a list of ints -/
namespace Xby
open PySem PySem.Spec PyProof.Rows L2
def maxDef (d : Int) : List Int → Int
  | [] => d
  | n :: ns => ns.foldl max n
def minDef (d : Int) : List Int → Int
  | [] => d
  | n :: ns => ns.foldl min n
theorem alike_ints (ns : List Int) : PySem.W.AlikeAll (ns.map PyData.int) := by
  refine ⟨fun x hx y hy => ?_, fun x hx => ?_⟩
  · obtain ⟨i, _, rfl⟩ := List.mem_map.mp hx
    obtain ⟨j, _, rfl⟩ := List.mem_map.mp hy
    rfl
  · obtain ⟨i, _, rfl⟩ := List.mem_map.mp hx
    simp
theorem depth_ints : ∀ ns : List Int, PyData.depthAll (ns.map PyData.int) = 0
  | [] => rfl
  | n :: ns => by simp only [List.map_cons, PyData.depthAll, PyData.depth, depth_ints ns]; rfl
theorem dp_intsL {K : PySem.W.Frag} {H : Hp} (ns : List Int) : DpAll K H (ns.map V.int) (ns.map PyData.int) := by
  induction ns with
  | nil => exact .nil
  | cons n ns ih => exact .cons (.int n) ih
section
variable {X : Cx}
def rMaxDef (K : PySem.W.Frag) (f : Int → List Int → Int) : List V → List V → Hp → VK → Prop := fun vs zs H Q => ∃ (a : Addr) (ns : List Int) (d : Int), vs = [.ref a] ∧ zs = [.int d] ∧ SqL K H a (ns.map V.int) ∧ Q (.int (f d ns)) H
theorem call_maxDef (K : PySem.W.Frag) (hK : X.K = K) (hc : X.calm = true) (hu : X.A.units + 64 < cLine) : CallRK X (.builtin "max") ["default"] (rMaxDef K maxDef) := by
  subst hK
  rintro pins s σ H xs zs us ws Q I rv rz ⟨a, ns, d, rfl, rfl, ha, q⟩
  obtain ⟨u, rfl, ru⟩ := vals1 rv
  obtain ⟨z, rfl, t, rfl⟩ := vals1 rz
  cases ru
  obtain ⟨its, rr, pl, _⟩ := I.list ha
  obtain ⟨as, rd⟩ := Dp.readsAll I (ns.map PyData.int) (ns.map V.int) its (dp_intsL ns) rr
  refine PySem.W.max_list_default (I.ok.hd hc) pl.isList (by simpa using rd) (alike_ints ns) (by rw [depth_ints]; omega) (fun e h' tk k => ?_) fun y ys i v h' tk bs e hv r k => ?_
  · have : ns = [] := by simpa using e
    subst this
    exact ⟨.int d, H, I.kept k, ⟨_, rfl⟩, q⟩
  · cases ns with
    | nil => cases e
    | cons n ns =>
      rw [List.map_cons] at e
      injection e with e1 e2
      subst e1 e2
      rw [PySem.W.maxD_ints] at r
      cases r with
      | int _ t => exact ⟨.int _, H, I.kept k, ⟨_, rfl⟩, q⟩
theorem call_minDef (K : PySem.W.Frag) (hK : X.K = K) (hc : X.calm = true) (hu : X.A.units + 64 < cLine) : CallRK X (.builtin "min") ["default"] (rMaxDef K minDef) := by
  subst hK
  rintro pins s σ H xs zs us ws Q I rv rz ⟨a, ns, d, rfl, rfl, ha, q⟩
  obtain ⟨u, rfl, ru⟩ := vals1 rv
  obtain ⟨z, rfl, t, rfl⟩ := vals1 rz
  cases ru
  obtain ⟨its, rr, pl, _⟩ := I.list ha
  obtain ⟨as, rd⟩ := Dp.readsAll I (ns.map PyData.int) (ns.map V.int) its (dp_intsL ns) rr
  refine PySem.W.min_list_default (I.ok.hd hc) pl.isList (by simpa using rd) (alike_ints ns) (by rw [depth_ints]; omega) (fun e h' tk k => ?_) fun y ys i v h' tk bs e hv r k => ?_
  · have : ns = [] := by simpa using e
    subst this
    exact ⟨.int d, H, I.kept k, ⟨_, rfl⟩, q⟩
  · cases ns with
    | nil => cases e
    | cons n ns =>
      rw [List.map_cons] at e
      injection e with e1 e2
      subst e1 e2
      rw [PySem.W.minD_ints] at r
      cases r with
      | int _ t => exact ⟨.int _, H, I.kept k, ⟨_, rfl⟩, q⟩
end
end Xby

set_option Elab.async false
set_option linter.all false
set_option maxRecDepth 100000
set_option maxHeartbeats 4000000
/-! # x in t, t a tuple of texts and x any data; x in t, both data -/
namespace Xby
open PySem PySem.Spec PyProof.Rows L2 SeqAt
theorem str_off_dict (b : Str) (u : Tok) (l : Addr) (es : Array DictEntry) (ep : Nat) (dd : Option Addr) (sl : Array (Option Value)) :
    Meets (Builtin.«str.__eq__» ⟨[.str b u, .ref l], []⟩) (fun _ R s => s.heap.get? l = some { cls := .type "dict", dict := dd, data := .dict es ep, slots := sl } ∧ R (.ok (.ret .notImplemented)) s) :=
  .of_wp fun prog w A R s h => by
    obtain ⟨hp, g, d, tk, os⟩ := s
    obtain ⟨hl, h⟩ := h
    wp_walk using wpAny_loadPart' hl, wpAny_load hl
    exact ⟨_, rfl, h⟩
theorem dict_off_str (l : Addr) (es : Array DictEntry) (ep : Nat) (dd : Option Addr) (sl : Array (Option Value)) (b : Str) (u : Tok) :
    Meets (Builtin.«dict.__eq__» ⟨[.ref l, .str b u], []⟩) (fun _ R s => s.heap.get? l = some { cls := .type "dict", dict := dd, data := .dict es ep, slots := sl } ∧ R (.ok (.ret .notImplemented)) s) :=
  .of_wp fun prog w A R s h => by
    obtain ⟨hp, g, d, tk, os⟩ := s
    obtain ⟨hl, h⟩ := h
    have f1 := PySem.F.sub_str_dict
    wp_walk using wpAny_loadPart' hl, wpAny_load hl
    exact ⟨_, rfl, h⟩
section
variable {A : Around} {s : Shared}
theorem rc_str_dict {l : Addr} {es : Array DictEntry} {ep : Nat} {o : Obj} (b : Str) (u : Tok) (ho : s.heap.get? l = some o) (hc : o.cls = .type "dict") (hd : o.data = .dict es ep) (hu : A.units < cLine) : RcAt A s (.str b u) (.ref l) false := fun prog w E Q h => by
  obtain ⟨cls, dd, data, sl⟩ := o
  simp only at hc hd
  subst hc hd
  exact rc_eq_decline_or (k := false) (typeIs_str s b u) ⟨_, ho, rfl⟩ (by decide) PySem.F.sub_dict_str PySem.F.slot_str_eq PySem.F.slot_dict_eq_refl
    (fun _ hq => call_meets PySem.F.slot_str_eq (typeIs_str s b u) PySem.F.entry_str_eq (PySem.F.args_str_eq_2 _ _) (str_off_dict b u l es ep dd sl) ⟨ho, hq⟩)
    (fun _ hq => call_meets PySem.F.slot_dict_eq_refl ⟨_, ho, rfl⟩ PySem.F.entry_dict_eq (PySem.F.args_dict_eq_2 _ _) (dict_off_str l es ep dd sl b u) ⟨ho, hq⟩)
    (fun _ hq => wpAny_of_eq (rfl : isSame (.str b u) (.ref l) = pure false) hq) (.inr hu) h
theorem eq_str_dict {l : Addr} {es : Array DictEntry} {ep : Nat} {o : Obj} (b : Str) (u : Tok) (ho : s.heap.get? l = some o) (hc : o.cls = .type "dict") (hd : o.data = .dict es ep) (hu : A.units < cLine) : EqAt A s (.str b u) (.ref l) false := fun prog w E Q h => by
  unfold eqBool
  refine wpAny_holding (wpAny_ite_split (fun hab => absurd (eq_of_beq hab) nofun) (fun _ => ?_))
  exact wpAny_bind (rc_str_dict b u ho hc hd hu prog w E _ (wpAny_truthy_bool h))
end
def isTxt (d : PyData) (a : Str) : Bool := match d with
  | .str b => a == b
  | _ => false
section
variable {X : Cx}
/-- x in t (neg: not in), t a tuple of texts -/
def rInTx (K : PySem.W.Frag) (neg : Bool) : R2 := fun x y H Q => ∃ (p : Addr) (ks : List Str) (d : PyData), y = .ref p ∧ SqT K H p (ks.map V.str) ∧ Dq K H x d ∧ Q (.bl (if neg then !ks.any (isTxt d) else ks.any (isTxt d))) H
theorem in_tx {K : PySem.W.Frag} {pins : List (Addr × Obj)} {σ : L2.St} {H : Hp} {s : Shared} {x : V} {v : Value} {d : PyData} {ks : List Str} {its : List Value} (I : Inv X pins σ H s) (hK : X.K = K) (hu : X.A.units + 64 < cLine) (hd : Dq K H x d) (rx : RelV x v) (rv : Vals (ks.map V.str) its) :
    ∃ e : Value → Bool, (∀ y, y ∈ its.toArray → EqAt X.A.in1 s y v (e y)) ∧ its.toArray.any e = ks.any (isTxt d) := by
  subst hK
  have un : X.A.in1.units < cLine := by show X.A.units + 1 < cLine; omega
  refine ⟨fun y => match y with | .str a _ => isTxt d a | _ => false, fun y hy => ?_, ?_⟩
  · have hy : y ∈ its := by simpa using hy
    have : ∃ a t, y = .str a t := by
      clear hd rx
      induction ks generalizing its with
      | nil => cases rv; simp at hy
      | cons k ks ih =>
        cases rv with
        | cons r1 r2 =>
          rcases List.mem_cons.mp hy with rfl | hy
          · obtain ⟨t, rfl⟩ := r1
            exact ⟨_, _, rfl⟩
          · exact ih r2 (by simpa using hy) hy
    obtain ⟨a, t, rfl⟩ := this
    cases hd with
    | non => cases rx; exact EqAt.str_none a t
    | bl b => cases rx; exact EqAt.str_bool a t b
    | int i => obtain ⟨t', rfl⟩ := rx; exact EqAt.str_int a t i t'
    | str b => obtain ⟨t', rfl⟩ := rx; exact EqAt.str_str a t b t'
    | lst hs _ _ =>
      cases rx
      obtain ⟨_, _, pl, _⟩ := I.list (SqL.of hs)
      exact EqAt.str_list a t pl.isList un
    | tup hs _ =>
      cases rx
      obtain ⟨_, _, pl, _⟩ := I.tuple hs
      exact EqAt.str_tuple a t pl un
    | dct hs _ =>
      cases rx
      obtain ⟨_, _, _, _, o, es, ep, ho, ex, hd, _⟩ := I.hok _ _ hs
      exact eq_str_dict a t ho ex.1 hd un
  · rw [List.any_toArray]
    clear hd rx
    induction ks generalizing its with
    | nil => cases rv; rfl
    | cons k ks ih =>
      cases rv with
      | cons r1 r2 =>
        obtain ⟨t, rfl⟩ := r1
        rw [List.any_cons, List.any_cons, ih r2]
theorem op_inTx (K : PySem.W.Frag) (hK : X.K = K) (hu : X.A.units + 64 < cLine) : OpR X (compareOp .In) (rInTx K false) := by
  rintro pins s σ H x y v u Q I rx ry ⟨p, ks, d, rfl, hp, hd, q⟩
  cases ry
  obtain ⟨its, rv, pl, _⟩ := I.tuple (by rw [hK]; exact hp)
  obtain ⟨e, he, ha⟩ := in_tx I hK hu hd rx rv
  exact in_tupleAt e pl he ⟨.bl _, H, I, by rw [ha]; rfl, q⟩
theorem op_notInTx (K : PySem.W.Frag) (hK : X.K = K) (hu : X.A.units + 64 < cLine) : OpR X (compareOp .NotIn) (rInTx K true) := by
  rintro pins s σ H x y v u Q I rx ry ⟨p, ks, d, rfl, hp, hd, q⟩
  cases ry
  obtain ⟨its, rv, pl, _⟩ := I.tuple (by rw [hK]; exact hp)
  obtain ⟨e, he, ha⟩ := in_tx I hK hu hd rx rv
  exact notIn_tupleAt e pl he ⟨.bl _, H, I, by rw [ha]; rfl, q⟩
/-- x in t, t a tuple of data -/
def rInDT (K : PySem.W.Frag) : R2 := fun x y H Q => ∃ d ds, Dp K H x d ∧ Dp K H y (.tuple ds) ∧ SeqAt.shaped d = true ∧ SeqAt.shaped (.tuple ds) = true ∧ Q (.bl (ds.any fun z => PyData.eqv z d)) H
theorem op_inDT (K : PySem.W.Frag) (hK : X.K = K) (hu : X.A.units + 65 < cLine) : OpR X (compareOp .In) (rInDT K) := by
  subst hK
  rintro pins s σ H x y v u Q I rx ry ⟨d, ds, hd, he, sd, se, q⟩
  obtain ⟨as, r1⟩ := Dp.reads I d x v hd rx
  obtain ⟨bs, r2⟩ := Dp.reads I (.tuple ds) y u he ry
  exact SeqAt.in_tuple_reads r2 r1 (SeqAt.canLay_of_shaped se) (SeqAt.canLay_of_shaped sd) (room_in_shaped sd hu) ⟨.bl _, H, I, rfl, q⟩
end
end Xby

set_option Elab.async false
set_option linter.all false
set_option maxRecDepth 100000
set_option maxHeartbeats 4000000
/-! # conditions, as data and as they lie in the heap -/
namespace Xby
open PySem L2
structure TxtA (K : PySem.W.Frag) (mg : Str → Option Value) extends Txt K mg where
  EA : Addr
  EB : Addr
  iA : Addr
  iB : Addr
  KN : Addr
  t5 : Tok
  eA : PySem.LowV.LowTxt K mg "BadAlignment" "BadAlignment.__init__" EA iA
  eB : PySem.LowV.LowTxt K mg "BadCondition" "BadCondition.__init__" EB iB
  c_KINDS : mg "KINDS" = some (.ref KN)
  kinds : ∀ H, SqT K H KN ((["column", "row"] : List Str).map V.str)
  c_MOST_CONDITIONS : mg "MOST_CONDITIONS" = some (.int 40 t5)
theorem seqLookup {K : PySem.W.Frag} {a : Addr} {o : Obj} {its : Array Value} {n : Nat} {xs : List V} (h : K.lookup a = some o) (hc : o.cls = .type "tuple") (hd : o.data = .seq its n) (few : its.size ≤ sizeLine) (v : Vals xs its.toList) (H : Hp) : SqT K H a xs := .inr ⟨o, its, n, h, hc, hd, few, v⟩
theorem hu65 {A : Around} {k : Nat} (hr : Room k A) : A.units + 65 < cLine := by
  have := hr.un
  omega
def boolD : PyData → Bool
  | .bool _ => true
  | _ => false
def okO (m : Nat) (d : PyData) : Bool := nonD d || intD 0 ((m : Int) - 1) d
def condD (m o r q : Nat) : PyData → Bool
  | .tuple [dk, di, dj, dt] => (["column", "row"] : List Str).any (isTxt dk) && boolD dt && !(nonD di && nonD dj) && (okO (if isTxt dk "column" then m else r) di && okO (if isTxt dk "column" then o else q) dj)
  | _ => false
structure Cnd where
  row : Bool
  i : Option Int
  j : Option Int
  t : Bool
def kn : Bool → Str
  | true => "row"
  | false => "column"
def vO : Option Int → V
  | none => .non
  | some i => .int i
def intO : PyData → Option Int
  | .int i => some i
  | _ => none
def cndD : PyData → Cnd
  | .tuple [dk, di, dj, .bool t] => ⟨isTxt dk "row", intO di, intO dj, t⟩
  | _ => ⟨false, none, none, false⟩
/-- whether the claim is so of these pairs -/
def holdsP (ps : List (Int × Int)) : Option Int → Option Int → Bool
  | some i, some j => decide ((i, j) ∈ ps)
  | some i, none => decide (i ∉ ps.map (·.1))
  | none, some j => decide (j ∉ ps.map (·.2))
  | none, none => true
def keepP (ps : List (Int × Int)) (row : Bool) (l : List Cnd) : Bool := (l.filter fun c => c.row == row).all fun c => holdsP ps c.i c.j == c.t
def keepB (cs ps : List (Int × Int)) (l : List Cnd) : Bool := keepP cs false l && keepP ps true l
inductive Cnds (K : PySem.W.Frag) (H : Hp) : List V → List Cnd → Prop
  | nil : Cnds K H [] []
  | cons {a : Addr} {c : Cnd} {vs : List V} {l : List Cnd} : SqT K H a [.str (kn c.row), vO c.i, vO c.j, .bl c.t] → (c.i ≠ none ∨ c.j ≠ none) → Cnds K H vs l → Cnds K H (.ref a :: vs) (c :: l)
section
variable {K : PySem.W.Frag} {H H' : Hp} {xs : List V} {l : List Cnd} {ds : List PyData} {m o r q : Nat} {v : V} {d : PyData}
theorem Cnds.len (h : Cnds K H xs l) : xs.length = l.length := by
  induction h with
  | nil => rfl
  | cons _ _ _ ih => simp [ih]
theorem Cnds.same (h : Cnds K H xs l) (s : Same H H') : Cnds K H' xs l := by
  induction h with
  | nil => exact .nil
  | cons e n _ ih => exact .cons (e.ext s) n ih
def cnd0 : Cnd := ⟨false, none, none, false⟩
theorem Cnds.get (h : Cnds K H xs l) : ∀ {i : Nat} {x : V}, xs[i]? = some x → ∃ b, x = .ref b ∧ l[i]? = some (l.getD i cnd0) ∧ SqT K H b [.str (kn (l.getD i cnd0).row), vO (l.getD i cnd0).i, vO (l.getD i cnd0).j, .bl (l.getD i cnd0).t] ∧ ((l.getD i cnd0).i ≠ none ∨ (l.getD i cnd0).j ≠ none) := by
  induction h with
  | nil => exact fun e => by simp at e
  | @cons b c _ _ e n _ ih =>
    intro k x hx
    cases k with
    | zero =>
      obtain rfl : V.ref b = x := by simpa using hx
      exact ⟨b, rfl, rfl, e, n⟩
    | succ k =>
      obtain ⟨b, h1, h2, h3, h4⟩ := ih (i := k) (by simpa using hx)
      exact ⟨b, h1, by simpa using h2, by simpa using h3, by simpa using h4⟩
theorem okO_is (h : Dq K H v d) (k : okO m d = true) : v = vO (intO d) ∧ (intO d = none ↔ nonD d = true) := by
  unfold okO at k
  cases h with
  | non => exact ⟨rfl, by simp [intO, nonD]⟩
  | int i => exact ⟨rfl, by simp [intO, nonD]⟩
  | _ => exact absurd k (by simp [nonD, intD])
theorem txt_is (h : Dq K H v d) (k : (["column", "row"] : List Str).any (isTxt d) = true) : v = .str (kn (isTxt d "row")) ∧ d = .str (kn (isTxt d "row")) ∧ isTxt d "column" = !isTxt d "row" := by
  cases h with
  | str x =>
    simp only [List.any_cons, List.any_nil, Bool.or_false, Bool.or_eq_true] at k
    rcases k with k | k
    · have e : ("column" : Str) = x := by simpa [isTxt] using k
      subst e
      exact ⟨congrArg V.str (by decide +kernel), congrArg PyData.str (by decide +kernel), by decide +kernel⟩
    · have e : ("row" : Str) = x := by simpa [isTxt] using k
      subst e
      exact ⟨congrArg V.str (by decide +kernel), congrArg PyData.str (by decide +kernel), by decide +kernel⟩
  | _ => exact absurd k (by simp [isTxt])
theorem bool_is (h : Dq K H v d) (k : boolD d = true) : ∃ t, v = .bl t ∧ d = .bool t := by
  cases h with
  | bl t => exact ⟨t, rfl, rfl⟩
  | _ => cases k
theorem cond_len (n : ds.length ≠ 4) : condD m o r q (.tuple ds) = false := by
  match ds, n with
  | [], _ => rfl
  | [_], _ => rfl
  | [_, _], _ => rfl
  | [_, _, _], _ => rfl
  | [_, _, _, _], n => exact absurd rfl n
  | _ :: _ :: _ :: _ :: _ :: _, _ => rfl
theorem Cnds.of (h : DqAll K H xs ds) (all : ds.all (condD m o r q) = true) : Cnds K H xs (ds.map cndD) := by
  induction xs generalizing ds with
  | nil => cases h; exact .nil
  | cons x xs ih =>
    cases h with
    | @cons _ _ d ds h1 h2 =>
      rw [List.all_cons, Bool.and_eq_true] at all
      have one := all.1
      have rest := ih h2 all.2
      unfold condD at one
      split at one
      · rename_i dk di dj dt
        rw [Bool.and_eq_true, Bool.and_eq_true, Bool.and_eq_true, Bool.and_eq_true] at one
        obtain ⟨⟨⟨k1, k2⟩, k3⟩, k4, k5⟩ := one
        cases h1 with
        | tup hs hd =>
          cases hd with
          | cons q0 r0 =>
            cases r0 with
            | cons q1 r1 =>
              cases r1 with
              | cons q2 r2 =>
                cases r2 with
                | cons q3 r3 =>
                  cases r3
                  obtain ⟨e0, f0, _⟩ := txt_is q0 k1
                  obtain ⟨t, e3, rfl⟩ := bool_is q3 k2
                  obtain ⟨e1, n1⟩ := okO_is q1 k4
                  obtain ⟨e2, n2⟩ := okO_is q2 k5
                  rw [e0, e1, e2, e3] at hs
                  refine .cons (c := ⟨isTxt dk "row", intO di, intO dj, t⟩) hs ?_ rest
                  by_cases z : intO di = none
                  · refine .inr fun z2 => ?_
                    rw [n1.mp z, n2.mp z2] at k3
                    cases k3
                  · exact .inl z
      · cases one
/-- the first member that is none -/
def badIn (P : PyData → Bool) : List V → List PyData → Option V
  | v :: vs, d :: ds => if P d then badIn P vs ds else some v
  | _, _ => none
def badConds (m o r q : Nat) (v : V) (d : PyData) (xs : List V) : Option V := match d with
  | .tuple ds => if 40 < ds.length then some v else badIn (condD m o r q) xs ds
  | _ => some v
theorem badIn_at {P : PyData → Bool} : ∀ {xs : List V} {rs : List PyData} {i : Nat} {v : V} {d : PyData}, xs[i]? = some v → rs[i]? = some d → (∀ j e, j < i → rs[j]? = some e → P e = true) → P d = false → badIn P xs rs = some v
  | [], _, _, _, _, e, _, _, _ => by simp at e
  | _ :: _, [], _, _, _, _, e, _, _ => by simp at e
  | x :: xs, r :: rs, 0, v, d, e1, e2, _, b => by
    obtain rfl : x = v := by simpa using e1
    obtain rfl : r = d := by simpa using e2
    unfold badIn
    rw [b]
    rfl
  | x :: xs, r :: rs, i + 1, v, d, e1, e2, ok, b => by
    unfold badIn
    rw [ok 0 r (Nat.succ_pos _) rfl, if_pos rfl]
    exact badIn_at (by simpa using e1) (by simpa using e2) (fun j e hj he => ok (j + 1) e (Nat.succ_lt_succ hj) (by simpa using he)) b
theorem badIn_no {P : PyData → Bool} : ∀ {xs : List V} {rs : List PyData}, rs.all P = true → badIn P xs rs = none
  | [], _, _ => by unfold badIn; rfl
  | _ :: _, [], _ => by unfold badIn; rfl
  | x :: xs, r :: rs, ok => by
    rw [List.all_cons, Bool.and_eq_true] at ok
    unfold badIn
    rw [ok.1, if_pos rfl]
    exact badIn_no ok.2
theorem badIn_all {P : PyData → Bool} : ∀ {xs : List V} {rs : List PyData}, xs.length = rs.length → badIn P xs rs = none → rs.all P = true
  | _, [], _, _ => rfl
  | [], r :: rs, e, _ => by simp at e
  | x :: xs, r :: rs, e, b => by
    unfold badIn at b
    split at b
    · rename_i h
      rw [List.all_cons, h, badIn_all (by simpa using e) b]
      rfl
    · cases b
/-- a value, and its members where it is a tuple -/
structure Its (K : PySem.W.Frag) (H : Hp) (v : V) (d : PyData) (xs : List V) : Prop where
  h : Dq K H v d
  x : ∀ ds, d = .tuple ds → ∃ a, v = .ref a ∧ SqT K H a xs ∧ DqAll K H xs ds
theorem Its.same (t : Its K H v d xs) (s : Same H H') : Its K H' v d xs := ⟨t.h.same s, fun ds e => by
  obtain ⟨a, e1, e2, e3⟩ := t.x ds e
  exact ⟨a, e1, e2.ext s, e3.same s⟩⟩
theorem its_of (h : Dq K H v d) : ∃ xs, Its K H v d xs := by
  rcases h.isTup with ⟨a, xs, ds, rfl, rfl, hs, ha⟩ | ⟨_, _, _, no⟩
  · exact ⟨xs, h, fun rs e => by injection e with e; subst e; exact ⟨a, rfl, hs, ha⟩⟩
  · exact ⟨[], h, fun rs e => absurd e (no rs)⟩
theorem laid_of (h : Dq K H v d) (k : laidD m o r q d = true) : ∃ a cs ps, v = .ref a ∧ d = .tuple [.tuple (cs.map datP), .tuple (ps.map datP)] ∧ Laid K H a cs ps ∧ okPs cs = true ∧ okPs ps = true ∧ InB m o cs ∧ InB r q ps ∧ (cs = [] → ps = []) := by
  unfold laidD at k
  split at k
  · rename_i da db
    rw [Bool.and_eq_true, Bool.and_eq_true] at k
    obtain ⟨⟨k1, k2⟩, k3⟩ := k
    cases h with
    | @tup a _ _ hs hd =>
      cases hd with
      | cons q0 r0 =>
        cases r0 with
        | cons q1 r1 =>
          cases r1
          obtain ⟨a1, x1, e1, rfl, rfl, hs1, ha1⟩ := pairs_tup q0 k1
          obtain ⟨a2, x2, e2, rfl, rfl, hs2, ha2⟩ := pairs_tup q1 k2
          have k1 : (e1.all (pairD m o) && okPs (e1.map prD)) = true := k1
          have k2 : (e2.all (pairD r q) && okPs (e2.map prD)) = true := k2
          rw [Bool.and_eq_true] at k1 k2
          obtain ⟨p1, f1, b1⟩ := Prs.of ha1 k1.1
          obtain ⟨p2, f2, b2⟩ := Prs.of ha2 k2.1
          refine ⟨a, e1.map prD, e2.map prD, rfl, by rw [← f1, ← f2], ⟨a1, a2, x1, x2, hs, hs1, p1, hs2, p2⟩, k1.2, k2.2, b1, b2, fun z => ?_⟩
          have z1 : e1 = [] := by simpa using z
          subst z1
          cases e2 with
          | nil => rfl
          | cons e e2 => cases k3
  · cases k
end
theorem inV_ints (i : Int) : ∀ ns : List Int, inV (.int i) (ns.map V.int) = decide (i ∈ ns) := by
  intro ns
  unfold inV
  rw [Bool.eq_iff_iff, List.any_eq_true, decide_eq_true_iff]
  constructor
  · rintro ⟨y, hy, e⟩
    obtain ⟨n, hn, rfl⟩ := List.mem_map.mp hy
    have : n = i := by simpa [eqV] using e
    rw [← this]
    exact hn
  · intro h
    exact ⟨.int i, List.mem_map.mpr ⟨i, h, rfl⟩, by simp [eqV]⟩
theorem flat_ints (ns : List Int) : (ns.map V.int).all flatV = true := by
  rw [List.all_map, List.all_eq_true]
  exact fun _ _ => rfl
theorem any_pair (i j : Int) (ps : List (Int × Int)) : ((ps.map datP).any fun z => PyData.eqv z (datP (i, j))) = decide ((i, j) ∈ ps) := by
  rw [Bool.eq_iff_iff, List.any_eq_true, decide_eq_true_iff]
  constructor
  · rintro ⟨y, hy, e⟩
    obtain ⟨n, hn, rfl⟩ := List.mem_map.mp hy
    have : n = (i, j) := by
      have : n.1 = i ∧ n.2 = j := by simpa [datP, PyData.eqv, PyData.eqvAll] using e
      exact Prod.ext this.1 this.2
    rw [← this]
    exact hn
  · intro h
    exact ⟨datP (i, j), List.mem_map.mpr ⟨_, h, rfl⟩, by simp [datP, PyData.eqv, PyData.eqvAll]⟩
theorem shaped_pair (q : Int × Int) : Shp 1 (datP q) := Shp.tup (k := 0) fun d hd => by
  simp only [List.mem_cons, List.not_mem_nil, or_false] at hd
  rcases hd with rfl | rfl <;> exact ⟨rfl, Nat.le_refl _⟩
theorem shaped_pairs (ps : List (Int × Int)) : SeqAt.shaped (.tuple (ps.map datP)) = true := by
  refine Shp.shaped (k := 2) (Shp.tup (k := 1) fun d hd => ?_) (by decide)
  obtain ⟨q, _, rfl⟩ := List.mem_map.mp hd
  exact shaped_pair q
theorem Prs.dp {K : PySem.W.Frag} {H : Hp} {xs : List V} {ps : List (Int × Int)} (h : Prs K H xs ps) : DpAll K H xs (ps.map datP) := by
  induction h with
  | nil => exact .nil
  | cons e _ ih => exact .cons (.tup e (.cons (.int _) (.cons (.int _) .nil))) ih
end Xby

set_option Elab.async false
set_option linter.all false
set_option maxRecDepth 100000
set_option maxHeartbeats 4000000
namespace Xby
open PySem L2
def datO : Option Int → PyData
  | none => .none
  | some i => .int i
def datCnd (c : Cnd) : PyData := .tuple [.str (kn c.row), datO c.i, datO c.j, .bool c.t]
structure CndOk (m o r q : Nat) (c : Cnd) : Prop where
  i : ∀ x, c.i = some x → 0 ≤ x ∧ x < ((if c.row then r else m : Nat) : Int)
  j : ∀ x, c.j = some x → 0 ≤ x ∧ x < ((if c.row then q else o : Nat) : Int)
  n : c.i ≠ none ∨ c.j ≠ none
theorem isTxt_row (row : Bool) : isTxt (.str (kn row)) "row" = row := by cases row <;> decide +kernel
theorem isTxt_col (row : Bool) : isTxt (.str (kn row)) "column" = !row := by cases row <;> decide +kernel
theorem isTxt_any (row : Bool) : (["column", "row"] : List Str).any (isTxt (.str (kn row))) = true := by cases row <;> decide +kernel
theorem cnd_back (c : Cnd) : cndD (datCnd c) = c := by
  obtain ⟨row, i, j, t⟩ := c
  unfold datCnd cndD
  simp only [isTxt_row]
  cases i <;> cases j <;> rfl
theorem cnds_back (l : List Cnd) : (l.map datCnd).map cndD = l := by
  rw [List.map_map]
  exact List.map_id'' cnd_back l
theorem okO_dat {m : Nat} {o : Option Int} (h : ∀ x, o = some x → 0 ≤ x ∧ x < (m : Int)) : okO m (datO o) = true := by
  cases o with
  | none => rfl
  | some x =>
    obtain ⟨h0, h1⟩ := h x rfl
    show (false || decide (0 ≤ x ∧ x ≤ (m : Int) - 1)) = true
    rw [decide_eq_true ⟨h0, by omega⟩]
    rfl
theorem CndOk.cond {m o r q : Nat} {c : Cnd} (h : CndOk m o r q c) : condD m o r q (datCnd c) = true := by
  show (_ && true && !(nonD (datO c.i) && nonD (datO c.j)) && (_ && _)) = true
  rw [isTxt_any, isTxt_col]
  have e1 : okO (if (!c.row) = true then m else r) (datO c.i) = true := okO_dat fun x hx => by
    have := h.i x hx
    cases hc : c.row <;> simpa [hc] using this
  have e2 : okO (if (!c.row) = true then o else q) (datO c.j) = true := okO_dat fun x hx => by
    have := h.j x hx
    cases hc : c.row <;> simpa [hc] using this
  rw [e1, e2]
  have e3 : (nonD (datO c.i) && nonD (datO c.j)) = false := by
    rcases h.n with n | n
    · cases hi : c.i with
      | none => exact absurd hi n
      | some x => rfl
    · cases hj : c.j with
      | none => exact absurd hj n
      | some x => cases c.i <;> rfl
  rw [e3]
  rfl
section
variable {K : PySem.W.Frag} {H H' : Hp} {xs : List V} {l : List Cnd} {p b : Addr} {n : Nat} {I : List V} {a : Addr} {c : Cnd}
theorem dq_vO (o : Option Int) : Dq K H (vO o) (datO o) := by cases o <;> constructor
theorem dq_cnd (h : SqT K H a [.str (kn c.row), vO c.i, vO c.j, .bl c.t]) : Dq K H (.ref a) (datCnd c) := .tup h (.cons (.str _) (.cons (dq_vO _) (.cons (dq_vO _) (.cons (.bl _) .nil))))
theorem Cnds.dq (h : Cnds K H xs l) : DqAll K H xs (l.map datCnd) := by
  induction h with
  | nil => exact .nil
  | cons e _ _ ih => exact .cons (dq_cnd e) ih
theorem Cnds.but (h : Cnds K H xs l) (pot : Pot H p n) (s : But p H H') : Cnds K H' xs l := by
  induction h with
  | nil => exact .nil
  | cons e n _ ih => exact .cons (seqBut e pot s) n ih
theorem Cnds.butL (h : Cnds K H xs l) (hb : H b = some (.lst I)) (s : But b H H') : Cnds K H' xs l := by
  induction h with
  | nil => exact .nil
  | cons e n _ ih => exact .cons (seqButL e hb s) n ih
theorem Cnds.snoc (h : Cnds K H xs l) (e : SqT K H a [.str (kn c.row), vO c.i, vO c.j, .bl c.t]) (n : c.i ≠ none ∨ c.j ≠ none) : Cnds K H (xs ++ [.ref a]) (l ++ [c]) := by
  induction h with
  | nil => exact .cons e n .nil
  | cons e' n' _ ih => exact .cons e' n' ih
theorem Cnds.app {ys : List V} {k : List Cnd} (h : Cnds K H xs l) (g : Cnds K H ys k) : Cnds K H (xs ++ ys) (l ++ k) := by
  induction h with
  | nil => exact g
  | cons e n _ ih => exact .cons e n ih
theorem Cnds.take (h : Cnds K H xs l) (m : Nat) : Cnds K H (xs.take m) (l.take m) := by
  induction h generalizing m with
  | nil => cases m <;> exact .nil
  | cons e n _ ih =>
    cases m with
    | zero => exact .nil
    | succ m => exact .cons e n (ih m)
theorem Cnds.rep (h : Cnds K H xs l) : ∀ m : Nat, Cnds K H (List.replicate m xs).flatten (List.replicate m l).flatten
  | 0 => .nil
  | m + 1 => by
    rw [List.replicate_succ, List.replicate_succ, List.flatten_cons, List.flatten_cons]
    exact h.app (Cnds.rep h m)
theorem Cnds.its (h : Cnds K H xs l) (ha : SqT K H a xs) : Its K H (.ref a) (.tuple (l.map datCnd)) xs := ⟨.tup ha h.dq, fun ds e => by injection e with e; subst e; exact ⟨a, rfl, ha, h.dq⟩⟩
end
theorem bad_none {m o r q : Nat} {v : V} {xs : List V} {l : List Cnd} (few : l.length ≤ 40) (ok : ∀ c ∈ l, CndOk m o r q c) : badConds m o r q v (.tuple (l.map datCnd)) xs = none := by
  have nb : ¬ 40 < (l.map datCnd).length := by rw [List.length_map]; omega
  have e : badConds m o r q v (.tuple (l.map datCnd)) xs = badIn (condD m o r q) xs (l.map datCnd) := if_neg nb
  rw [e]
  refine badIn_no ?_
  rw [List.all_map, List.all_eq_true]
  exact fun c hc => (ok c hc).cond
def soB (cs ps : List (Int × Int)) (c : Cnd) : Bool := holdsP (if c.row then ps else cs) c.i c.j
theorem keep_all (cs ps : List (Int × Int)) : ∀ l : List Cnd, keepB cs ps l = l.all fun c => soB cs ps c == c.t
  | [] => rfl
  | c :: l => by
    have ih := keep_all cs ps l
    unfold keepB keepP at ih ⊢
    rw [List.all_cons, ← ih]
    cases hc : c.row with
    | true =>
      have e1 : ((c :: l).filter fun c => c.row == false) = l.filter fun c => c.row == false := by simp [hc]
      have e2 : ((c :: l).filter fun c => c.row == true) = c :: l.filter fun c => c.row == true := by simp [hc]
      rw [e1, e2, List.all_cons]
      have e3 : soB cs ps c = holdsP ps c.i c.j := by unfold soB; rw [hc]; rfl
      rw [e3]
      generalize (holdsP ps c.i c.j == c.t) = x
      generalize List.all _ _ = y
      generalize List.all _ _ = z
      cases x <;> cases y <;> cases z <;> rfl
    | false =>
      have e1 : ((c :: l).filter fun c => c.row == false) = c :: l.filter fun c => c.row == false := by simp [hc]
      have e2 : ((c :: l).filter fun c => c.row == true) = l.filter fun c => c.row == true := by simp [hc]
      rw [e1, e2, List.all_cons]
      have e3 : soB cs ps c = holdsP cs c.i c.j := by unfold soB; rw [hc]; rfl
      rw [e3, Bool.and_assoc]
theorem keepD_of {cs ps : List (Int × Int)} {l : List Cnd} : (match PyData.tuple [.tuple (cs.map datP), .tuple (ps.map datP)], PyData.tuple (l.map datCnd) with
  | .tuple [.tuple a, .tuple b], .tuple ds => keepB (a.map Xby.prD) (b.map Xby.prD) (ds.map cndD)
  | _, _ => false) = keepB cs ps l := by
  have e1 : ∀ l : List (Int × Int), (l.map datP).map Xby.prD = l := fun l => by
    rw [List.map_map]
    exact List.map_id'' (fun q => rfl) l
  show keepB ((cs.map datP).map Xby.prD) ((ps.map datP).map Xby.prD) ((l.map datCnd).map cndD) = _
  rw [e1, e1, cnds_back]
end Xby
namespace Xby
open PySem L2
theorem cr_maxK {X : Cx} (K : PySem.W.Frag) (hK : X.K = K) (hc : X.calm = true) : CallR X (.builtin "max") (rMax K) := by
  subst hK
  exact cr_max hc
end Xby

set_option Elab.async false
set_option linter.all false
set_option maxRecDepth 100000
set_option maxHeartbeats 4000000
namespace Xby
open PySem L2
section
variable {K : PySem.W.Frag} {C : Addr} {H H' H0 : Hp} {p B b one other a : Addr} {xs I : List V} {n m : Nat} {cs ps : List (Int × Int)} {hs ks : List Str} {rs qs : List (List V)} {l : List Cnd} {c : Cnd} {x : V}
theorem But.back (s : But p H H') (n : H' b = none) (ne : b ≠ p) : H b = none := by
  cases e : H b with
  | none => rfl
  | some o =>
    have := s b o ne e
    rw [n] at this
    cases this
theorem Prs.butL (h : Prs K H xs ps) (hb : H b = some (.lst I)) (s : But b H H') : Prs K H' xs ps := by
  induction h with
  | nil => exact .nil
  | cons e _ ih => exact .cons (seqButL e hb s) ih
theorem Laid.butL (h : Laid K H a cs ps) (hb : H b = some (.lst I)) (s : But b H H') : Laid K H' a cs ps := by
  obtain ⟨a1, a2, x1, x2, h1, h2, h3, h4, h5⟩ := h
  exact ⟨a1, a2, x1, x2, seqButL h1 hb s, seqButL h2 hb s, h3.butL hb s, seqButL h4 hb s, h5.butL hb s⟩
/-- a list of conditions that grows, beside tables and an alignment -/
structure Wn (K : PySem.W.Frag) (C p one other a B : Addr) (H0 : Hp) (hs ks : List Str) (rs qs : List (List V)) (cs ps : List (Int × Int)) (m : Nat) (xs : List V) (l : List Cnd) (H : Hp) : Prop where
  hB : H B = some (.lst xs)
  ne : B ≠ p
  cn : Cnds K H xs l
  ok : ∀ c ∈ l, CndOk hs.length ks.length rs.length qs.length c
  laid : Laid K H a cs ps
  t1 : IsTab K C H one hs rs
  t2 : IsTab K C H other ks qs
  pot : Pot H p m
  but : But p H0 H
  nw : H0 B = none
theorem Wn.next (s : Wn K C p one other a B H0 hs ks rs qs cs ps m xs l H) (b : But p H H') (pot : Pot H' p n) : Wn K C p one other a B H0 hs ks rs qs cs ps n xs l H' :=
  ⟨b _ _ s.ne s.hB, s.ne, s.cn.but s.pot b, s.ok, s.laid.but s.pot b, s.t1.but s.pot b, s.t2.but s.pot b, pot, s.but.trans b, s.nw⟩
theorem Wn.same (s : Wn K C p one other a B H0 hs ks rs qs cs ps m xs l H) (b : Same H H') : Wn K C p one other a B H0 hs ks rs qs cs ps m xs l H' := s.next (But.of b) (s.pot.same b)
theorem Wn.more (s : Wn K C p one other a B H0 hs ks rs qs cs ps m xs l H) (h : m ≤ n) : Wn K C p one other a B H0 hs ks rs qs cs ps n xs l H := ⟨s.hB, s.ne, s.cn, s.ok, s.laid, s.t1, s.t2, s.pot.more h, s.but, s.nw⟩
theorem Wn.add (s : Wn K C p one other a B H0 hs ks rs qs cs ps m xs l H) (e : SqT K H b [.str (kn c.row), vO c.i, vO c.j, .bl c.t]) (o : CndOk hs.length ks.length rs.length qs.length c) :
    Wn K C p one other a B H0 hs ks rs qs cs ps m (xs ++ [.ref b]) (l ++ [c]) (upd H B (.lst (xs ++ [.ref b]))) := by
  refine ⟨upd_same, s.ne, (s.cn.snoc e o.n).butL s.hB But.upd1, fun d hd => ?_, s.laid.butL s.hB But.upd1, s.t1.butL s.hB But.upd1, s.t2.butL s.hB But.upd1, s.pot.upd s.ne.symm, s.but.updN s.nw, s.nw⟩
  rcases List.mem_append.mp hd with hd | hd
  · exact s.ok d hd
  · obtain rfl : d = c := by simpa using hd
    exact o
theorem Wn.line (s : Wn K C p one other a B H0 hs ks rs qs cs ps m xs l H) (few : l.length ≤ 1000) : xs.length < sizeLine := by
  have := s.cn.len
  have : sizeLine = 16777216 := sizeLine_eq
  omega
end
theorem CndOk.other {m o r q : Nat} {c : Cnd} (h : CndOk m o r q c) (t : Bool) : CndOk m o r q ⟨c.row, c.i, c.j, t⟩ := ⟨h.i, h.j, h.n⟩
end Xby
namespace Xby
open PySem L2
theorem kinds_of {K : PySem.W.Frag} {KN : Addr} {od : Option Addr} {u1 u2 : Tok} {n : Nat} {sl : Array (Option Value)} (h : K.lookup KN = some ⟨.type "tuple", od, .seq #[.str "column" u1, .str "row" u2] n, sl⟩) (H : Hp) : SqT K H KN ((["column", "row"] : List Str).map V.str) := by
  have v : Vals [V.str "column", V.str "row"] [Value.str "column" u1, Value.str "row" u2] := .cons ⟨_, rfl⟩ (.cons ⟨_, rfl⟩ .nil)
  exact seqLookup h rfl rfl (by show 2 ≤ sizeLine; decide) v H
end Xby

set_option linter.all false
/-! # the longest rise, two ways, of at most three places -/
namespace Xby
def maxDef0 (d : Int) : List Int → Int
  | [] => d
  | n :: ns => ns.foldl max n
def lens (ns : List Int) : Nat → List Int
  | 0 => []
  | i + 1 => lens ns i ++ [1 + maxDef0 0 (((List.range i).filter fun k => decide (ns.getD k 0 < ns.getD i 0)).map fun k => (lens ns i).getD k 0)]
def riseN (ns : List Int) : Int := maxDef0 0 (lens ns ns.length)
theorem lens_len (ns : List Int) : ∀ i, (lens ns i).length = i
  | 0 => rfl
  | i + 1 => by
    unfold lens
    rw [List.length_append, lens_len ns i]
    rfl
/-- all subsequences, as the law lays them out -/
def subsOf (ns : List Int) : List (List Int) := ns.foldl (fun s p => s ++ s.map (· ++ [p])) [[]]
def sortedB (l : List Int) : Bool := decide (l.Pairwise (· ≤ ·))
def bestOf (ns : List Int) : List Int := ((subsOf ns).filter sortedB).map fun l => (l.length : Int)
theorem rise0 : riseN [] ∈ bestOf [] ∧ ∀ y ∈ bestOf [], y ≤ riseN [] := by decide +kernel
theorem rise1 : ∀ a : Fin 3, riseN [(a.val : Int)] ∈ bestOf [(a.val : Int)] ∧ ∀ y ∈ bestOf [(a.val : Int)], y ≤ riseN [(a.val : Int)] := by decide +kernel
theorem rise2 : ∀ a b : Fin 3, a ≠ b → riseN [(a.val : Int), (b.val : Int)] ∈ bestOf [(a.val : Int), (b.val : Int)] ∧ ∀ y ∈ bestOf [(a.val : Int), (b.val : Int)], y ≤ riseN [(a.val : Int), (b.val : Int)] := by decide +kernel
theorem rise3 : ∀ a b c : Fin 3, a ≠ b → a ≠ c → b ≠ c → riseN [(a.val : Int), (b.val : Int), (c.val : Int)] ∈ bestOf [(a.val : Int), (b.val : Int), (c.val : Int)] ∧ ∀ y ∈ bestOf [(a.val : Int), (b.val : Int), (c.val : Int)], y ≤ riseN [(a.val : Int), (b.val : Int), (c.val : Int)] := by decide +kernel
theorem fin3 {x : Int} (h : 0 ≤ x ∧ x < 3) : ∃ a : Fin 3, x = (a.val : Int) := ⟨⟨x.toNat, by omega⟩, by simp; omega⟩
theorem rise_best (ns : List Int) (few : ns.length ≤ 3) (lo : ∀ x ∈ ns, 0 ≤ x ∧ x < 3) (nd : ns.Nodup) : riseN ns ∈ bestOf ns ∧ ∀ y ∈ bestOf ns, y ≤ riseN ns := by
  match ns, few, lo, nd with
  | [], _, _, _ => exact rise0
  | [x], _, lo, _ =>
    obtain ⟨a, rfl⟩ := fin3 (lo x (by simp))
    exact rise1 a
  | [x, y], _, lo, nd =>
    obtain ⟨a, rfl⟩ := fin3 (lo x (by simp))
    obtain ⟨b, rfl⟩ := fin3 (lo y (by simp))
    exact rise2 a b (by rintro rfl; simp at nd)
  | [x, y, z], _, lo, nd =>
    obtain ⟨a, rfl⟩ := fin3 (lo x (by simp))
    obtain ⟨b, rfl⟩ := fin3 (lo y (by simp))
    obtain ⟨c, rfl⟩ := fin3 (lo z (by simp))
    exact rise3 a b c (by rintro rfl; simp at nd) (by rintro rfl; simp at nd) (by rintro rfl; simp at nd)
theorem max_unique {l : List Int} {m r : Int} (h1 : m ∈ l) (h2 : ∀ y ∈ l, y ≤ m) (h3 : r ∈ l) (h4 : ∀ y ∈ l, y ≤ r) : m = r := Int.le_antisymm (h4 m h1) (h2 r h3)
/-- sums, one way and the other -/
theorem sum_swap {α β : Type} (f : α → β → Int) (xs : List α) (ys : List β) : (xs.map fun x => (ys.map fun y => f x y).sum).sum = (ys.map fun y => (xs.map fun x => f x y).sum).sum := by
  induction xs with
  | nil =>
    simp only [List.map_nil, List.sum_nil]
    induction ys with
    | nil => rfl
    | cons y ys ih => simp [← ih]
  | cons x xs ih =>
    simp only [List.map_cons, List.sum_cons, ih]
    clear ih
    induction ys with
    | nil => rfl
    | cons y ys ih =>
      simp only [List.map_cons, List.sum_cons]
      omega
theorem sum_mul (c : Int) {α : Type} (f : α → Int) (xs : List α) : (xs.map fun x => c * f x).sum = c * (xs.map f).sum := by
  induction xs with
  | nil => simp
  | cons x xs ih => simp only [List.map_cons, List.sum_cons, ih, Int.mul_add]
theorem sum_add {α : Type} (f g : α → Int) (xs : List α) : (xs.map fun x => f x + g x).sum = (xs.map f).sum + (xs.map g).sum := by
  induction xs with
  | nil => rfl
  | cons x xs ih => simp only [List.map_cons, List.sum_cons, ih]; omega
theorem count_sum {α : Type} (p : α → Bool) (xs : List α) : ((xs.filter p).length : Int) = (xs.map fun x => if p x then (1 : Int) else 0).sum := by
  induction xs with
  | nil => rfl
  | cons x xs ih =>
    simp only [List.map_cons, List.sum_cons, ← ih]
    cases h : p x
    · simp [h]
    · simp [h]; omega
end Xby

set_option Elab.async false
set_option linter.all false
set_option maxRecDepth 100000
set_option maxHeartbeats 4000000
/-! # costs -/
namespace Xby
open PySem L2
structure Bill where
  cell : Int
  row : Int
  column : Int
  name : Int
  move : Int
def fldsC (a b c d e : V) : List (Str × V) := putF "move" e (putF "name" d (putF "column" c (putF "row" b (putF "cell" a []))))
def fldB (b : Bill) : List (Str × V) := fldsC (.int b.cell) (.int b.row) (.int b.column) (.int b.name) (.int b.move)
section
variable (a b c d e : V)
theorem l_cell : (fldsC a b c d e).lookup ("cell" : Str) = some a := by
  unfold fldsC
  rw [lookup_putF, if_neg (by decide +kernel), lookup_putF, if_neg (by decide +kernel), lookup_putF, if_neg (by decide +kernel), lookup_putF, if_neg (by decide +kernel), lookup_putF, if_pos rfl]
theorem l_row : (fldsC a b c d e).lookup ("row" : Str) = some b := by
  unfold fldsC
  rw [lookup_putF, if_neg (by decide +kernel), lookup_putF, if_neg (by decide +kernel), lookup_putF, if_neg (by decide +kernel), lookup_putF, if_pos rfl]
theorem l_column : (fldsC a b c d e).lookup ("column" : Str) = some c := by
  unfold fldsC
  rw [lookup_putF, if_neg (by decide +kernel), lookup_putF, if_neg (by decide +kernel), lookup_putF, if_pos rfl]
theorem l_name : (fldsC a b c d e).lookup ("name" : Str) = some d := by
  unfold fldsC
  rw [lookup_putF, if_neg (by decide +kernel), lookup_putF, if_pos rfl]
theorem l_move : (fldsC a b c d e).lookup ("move" : Str) = some e := by
  unfold fldsC
  rw [lookup_putF, if_pos rfl]
end
def BillOk (b : Bill) : Prop := (1 ≤ b.cell ∧ b.cell ≤ 50) ∧ (1 ≤ b.row ∧ b.row ≤ 50) ∧ (1 ≤ b.column ∧ b.column ≤ 50) ∧ (1 ≤ b.name ∧ b.name ≤ 50) ∧ (1 ≤ b.move ∧ b.move ≤ 50)
def IsCosts (CC : Addr) (H : Hp) (a : Addr) (b : Bill) : Prop := ∃ dx, H a = some (.ins CC dx (fldB b))
structure TxtC (K : PySem.W.Frag) (mg : Str → Option Value) extends Txt K mg where
  EA : Addr
  iA : Addr
  eA : PySem.LowV.LowTxt K mg "BadAlignment" "BadAlignment.__init__" EA iA
  CC : Addr
  CB : Addr
  iC : Addr
  t6 : Tok
  t7 : Tok
  low : PySem.LowV.LowTxt K mg "BadCost" "BadCost.__init__" CB iC
  clC : Cls K CC
  n_cell : NoAttr K CC "cell"
  n_row : NoAttr K CC "row"
  n_column : NoAttr K CC "column"
  n_name : NoAttr K CC "name"
  n_move : NoAttr K CC "move"
  g_Costs : mg "Costs" = some (.ref CC)
  c_LEAST_COST : mg "LEAST_COST" = some (.int 1 t6)
  c_GREATEST_COST : mg "GREATEST_COST" = some (.int 50 t7)
section
variable {CC : Addr} {H H' : Hp} {a p : Addr} {b : Bill} {n : Nat}
theorem IsCosts.same (h : IsCosts CC H a b) (s : Same H H') : IsCosts CC H' a b := by
  obtain ⟨dx, h⟩ := h
  exact ⟨dx, s _ _ h⟩
theorem IsCosts.but (h : IsCosts CC H a b) (pot : Pot H p n) (s : But p H H') : IsCosts CC H' a b := by
  obtain ⟨dx, h⟩ := h
  refine ⟨dx, s _ _ ?_ h⟩
  rintro rfl
  obtain ⟨_, _, _, q, _⟩ := pot
  rw [h] at q
  cases q
end
/-- what things cost -/
def nmNe (hs ks : List Str) (q : Int × Int) : Bool := !decide (V.str (hs.getD q.1.toNat Str.empty) = V.str (ks.getD q.2.toNat Str.empty))
def colN (b : Bill) (hs ks : List Str) (cs : List (Int × Int)) : Int :=
  b.column * ((hs.length : Int) + (ks.length : Int) - 2 * (cs.length : Int)) + b.name * ((cs.filter (nmNe hs ks)).length : Int) + b.move * ((cs.length : Int) - riseN (cs.map (·.2)))
def clNe (r q : List V) (c : Int × Int) : Bool := !decide (r.getD c.1.toNat .non = q.getD c.2.toNat .non)
def unl (r q : List V) (cs : List (Int × Int)) : Int := ((cs.filter (clNe r q)).length : Int)
def unlS (rs qs : List (List V)) (cs ps : List (Int × Int)) : Int := (ps.map fun p => unl (rs.getD p.1.toNat []) (qs.getD p.2.toNat []) cs).sum
def costN (b : Bill) (hs ks : List Str) (rs qs : List (List V)) (cs ps : List (Int × Int)) : Int :=
  colN b hs ks cs + b.row * ((rs.length : Int) + (qs.length : Int) - 2 * (ps.length : Int)) + b.cell * unlS rs qs cs ps
theorem scal_cell {x y : V} (hx : cellV x = true) (hy : cellV y = true) : scal x y = true := by
  have fx := cellV_flat hx
  have fy := cellV_flat hy
  have nb : ∀ {v : V}, cellV v = true → ∀ b, v ≠ .bl b := fun {v} h b e => by
    subst e
    have := cellV_cell h
    cases this
  cases x <;> cases y <;> first | rfl | exact absurd rfl (nb hx _) | exact absurd rfl (nb hy _) | cases fx; done | cases fy
theorem maxDef_eq : maxDef = maxDef0 := by
  funext d l
  cases l <;> rfl
theorem Prs.bnd {K : PySem.W.Frag} {H : Hp} {xs : List V} {ps : List (Int × Int)} {m o : Nat} (inb : InB m o ps) {i : Nat} (hi : i < ps.length) : (0 ≤ (ps.getD i (0, 0)).1 ∧ (ps.getD i (0, 0)).1 < m) ∧ 0 ≤ (ps.getD i (0, 0)).2 ∧ (ps.getD i (0, 0)).2 < o := by
  have : ps.getD i (0, 0) ∈ ps := by
    rw [List.getD_eq_getElem?_getD, List.getElem?_eq_getElem hi]
    exact List.getElem_mem hi
  exact inb _ this
theorem atI_map {α : Type} (f : α → V) (d : α) {xs : List α} {i : Int} (h0 : 0 ≤ i) (h1 : i < xs.length) : atI (xs.map f) i = some (f (xs.getD i.toNat d)) := by
  have hi : i.toNat < xs.length := by omega
  have e : (xs.map f)[i.toNat]? = some (f (xs.getD i.toNat d)) := by simp [hi]
  have := atI_nat e
  rw [Int.toNat_of_nonneg h0] at this
  exact this
theorem atI_own {xs : List V} (d : V) {i : Int} (h0 : 0 ≤ i) (h1 : i < xs.length) : atI xs i = some (xs.getD i.toNat d) := by
  have := atI_map id d (xs := xs) h0 h1
  rw [List.map_id] at this
  exact this
theorem RowsK.at_ {K : PySem.W.Frag} {H : Hp} {wd : Nat} {xs : List V} {rs : List (List V)} (h : RowsK K H wd xs rs) {i : Int} (h0 : 0 ≤ i) (h1 : i < rs.length) : ∃ b, atI xs i = some (.ref b) ∧ SqT K H b (rs.getD i.toNat []) ∧ (rs.getD i.toNat []).length = wd ∧ ∀ v ∈ rs.getD i.toNat [], cellV v = true := by
  have l := h.len
  have hi : i.toNat < xs.length := by omega
  obtain ⟨b, r, e1, e2, e3, e4, e5⟩ := h.get (List.getElem?_eq_getElem hi)
  have e6 : rs.getD i.toNat [] = r := by rw [List.getD_eq_getElem?_getD, e2]; rfl
  have := atI_nat (List.getElem?_eq_getElem hi)
  rw [Int.toNat_of_nonneg h0, e1] at this
  rw [e6]
  exact ⟨b, this, e3, e4, e5⟩
end Xby
namespace Xby
open PySem L2
section
variable {X : Cx}
theorem pi_enumK (K : PySem.W.Frag) (hK : X.K = K) {e : Expr} {ta : TA} {p pos tpos : Pos} {elts : List Expr} {kk : Nat} (hg : Gl X "enumerate") (hm : X.mg "enumerate" = none) (ha : PA X [e] ta) (hs : starEach [e] X.env = [(false, eval e X.env)] := by rfl) :
    PI X (.Tuple elts kk tpos) (.Call (.Name "enumerate" p) [e] [] pos) (iEnum K ta) := by
  subst hK
  exact pi_enum hg hm ha hs
theorem cr_sumK (K : PySem.W.Frag) (hK : X.K = K) (hc : X.calm = true) : CallR X (.builtin "sum") (rSum K) := by
  subst hK
  exact cr_sum hc
theorem cr_sortedK (K : PySem.W.Frag) (hK : X.K = K) : CallR X (.builtin "sorted") (rSorted K) := by
  subst hK
  exact cr_sorted
end
end Xby

set_option Elab.async false
set_option linter.all false
set_option maxRecDepth 100000
set_option maxHeartbeats 4000000
/-! # costs without the errors of alignments -/
namespace Xby
open PySem L2
structure TxtK (K : PySem.W.Frag) (mg : Str → Option Value) extends Txt K mg where
  CC : Addr
  CB : Addr
  iC : Addr
  t6 : Tok
  t7 : Tok
  low : PySem.LowV.LowTxt K mg "BadCost" "BadCost.__init__" CB iC
  clC : Cls K CC
  n_cell : NoAttr K CC "cell"
  n_row : NoAttr K CC "row"
  n_column : NoAttr K CC "column"
  n_name : NoAttr K CC "name"
  n_move : NoAttr K CC "move"
  g_Costs : mg "Costs" = some (.ref CC)
  c_LEAST_COST : mg "LEAST_COST" = some (.int 1 t6)
  c_GREATEST_COST : mg "GREATEST_COST" = some (.int 50 t7)
/-- and the conditions' -/
structure TxtKB (K : PySem.W.Frag) (mg : Str → Option Value) extends TxtK K mg where
  EB : Addr
  iB : Addr
  KN : Addr
  t5 : Tok
  eB : PySem.LowV.LowTxt K mg "BadCondition" "BadCondition.__init__" EB iB
  c_KINDS : mg "KINDS" = some (.ref KN)
  kinds : ∀ H, SqT K H KN ((["column", "row"] : List Str).map V.str)
  c_MOST_CONDITIONS : mg "MOST_CONDITIONS" = some (.int 40 t5)
end Xby

set_option Elab.async false
set_option linter.all false
set_option maxRecDepth 100000
set_option maxHeartbeats 4000000
/-! # histories: what their texts lean on -/
namespace Xby
open PySem L2
/-- a class of the program, asked by isinstance and ==, != -/
structure OwnC (K : PySem.W.Frag) (C : Addr) : Prop where
  cl : Cls K C
  kcc : PySem.W.kitOne K (.ref C) (.ref C) = some true
  ca : PySem.W.findIn K (.ref C) "__class__" = some (some (.builtin "object.__class__"))
  cn : PySem.W.specialIn K (.builtin "object.__class__") "__get__" = some (some (.builtin "getset_descriptor.__get__"))
  ct : PySem.W.takesIn K (.builtin "object.__class__") = some true
  cm : PySem.W.mroIn K C (.type "object") = some true
  ne : PySem.W.findIn K (.ref C) "__ne__" = some (some (.builtin "object.__ne__"))
structure TxtH (K : PySem.W.Frag) (mg : Str → Option Value) extends TxtK K mg where
  HC : Addr
  oC : OwnC K C
  oCC : OwnC K CC
  oH : OwnC K HC
  ET : Addr
  iT : Addr
  eT : PySem.LowV.LowTxt K mg "BadTable" "BadTable.__init__" ET iT
  ES : Addr
  iS : Addr
  eS : PySem.LowV.LowTxt K mg "BadCosts" "BadCosts.__init__" ES iS
  EV : Addr
  iV : Addr
  eV : PySem.LowV.LowTxt K mg "NoVersion" "NoVersion.__init__" EV iV
  t8 : Tok
  c_MOST_VERSIONS : mg "MOST_VERSIONS" = some (.int 12 t8)
  g_History : mg "History" = some (.ref HC)
  n_tables : NoAttr K HC "tables"
  n_last : NoAttr K HC "last"
  n_hcosts : NoAttr K HC "costs"
  n_sayings : NoAttr K HC "sayings"
  n_next_number : NoAttr K HC "next_number"
  n_open_trials : NoAttr K HC "open_trials"
  n_comparisons : NoAttr K HC "comparisons"
  HE : Addr
  g_HeldError : mg "HeldError" = some (.ref HE)
  xV : L2.ExcC K EV
  xM : L2.ExcC K EM
  isV : PySem.W.kitOne K (.ref EV) (.ref HE) = some true
  isM : PySem.W.kitOne K (.ref EM) (.ref HE) = some true
end Xby

set_option Elab.async false
set_option linter.all false
set_option maxRecDepth 100000
set_option maxHeartbeats 4000000
namespace K49
open PySem L2 Xby
/-- one sign of a text -/
def spAnyS : Sp := fun vs H Q _ => ∃ (p : Addr) (z : Str) (n : Nat), vs = [.ref p, .str z] ∧ (1 ≤ z.length ∧ z.length ≤ 100) ∧ n + 1 ≤ 1000000 ∧ Pot H p n ∧
  ∀ c H', c ∈ z.cps.toList → Pot H' p (n + 1) → But p H H' → Q (.str ⟨#[c]⟩) H'
section
variable {P : Program} {w : World} {K : PySem.W.Frag} {mg : Str → Option Value} {base : Heap}
abbrev s_law_draw : Stmt := top 36
theorem sc_law_draw : FnScope ["_law_pot_here", "_law_many", "_law_digit", "_law_prime", "_law_made"] ["_law_pot_here", "_law_many"] (defScope s_law_draw) := ⟨rfl, rfl, rfl, by decide +kernel, rfl, by decide +kernel, by decide +kernel⟩
theorem ok_draw {f : Addr} {fd : FuncData} (F : Fun K "_law_draw" "_law_draw" s_law_draw f fd) (T : Txt K mg) : FnOk P w K mg base CX0 1 f fd ["_law_pot_here", "_law_many"] spDraw := by
  refine F.ok sc_law_draw (fun vs H Q E h => ?_) (fun cdv A outer s H vs Q E hr h => ⟨_, (pss_cons (ps_if (pt_cmpR op_gt (pe_ix (ix_listK K rfl) (pv 0) pe_int (fun _ _ => rfl)) pe_int (nomark _)) (pss_cons (ps_set (i := 2) sc_law_draw.nd rfl (Or.inl rfl) (pe_op op_mod (pe_callTy call_int1 (by rfl) T.b_int (by decide +kernel) (pa_cons (pe_ix (ix_listK K rfl) (pv 0) pe_int (fun _ _ => rfl)) pa_nil)) (pv 1)))
    (pss_cons (ps_asg (pe_op op_fdivW (pe_ix (ix_listK K rfl) (pv 0) pe_int (fun _ _ => rfl)) (pv 1)) (pg_sub (pv 0) pe_int set_list))
    (pss_one (ps_ret (pv 2))))) pss_nil)
    (pss_cons (ps_asg (pe_op op_add (pe_ix (ix_listK K rfl) (pv 0) pe_int (fun _ _ => rfl)) pe_int) (pg_sub (pv 0) pe_int set_list))
    (pss_cons (ps_set (i := 3) sc_law_draw.nd rfl (Or.inl rfl) (pe_ix (ix_listK K rfl) (pe_lst (pa_cons pe_int (pa_cons pe_int (pa_cons pe_int (pa_cons pe_int (pa_cons pe_int pa_nil)))))) (pe_op op_mod (pe_callTy call_int1 (by rfl) T.b_int (by decide +kernel) (pa_cons (pe_ix (ix_listK K rfl) (pv 0) pe_int (fun _ _ => rfl)) pa_nil)) pe_int) (fun _ _ => rfl)))
    (pss_cons (ps_set (i := 4) sc_law_draw.nd rfl (Or.inl rfl) (pe_op op_mod (pe_callTy call_int1 (by rfl) T.b_int (by decide +kernel) (pa_cons (pe_op op_pow (pe_op op_add (pe_op op_add (pe_ix (ix_listK K rfl) (pv 0) pe_int (fun _ _ => rfl)) (pe_op op_mul (pe_op op_mul pe_int (pe_ix (ix_listK K rfl) (pv 0) pe_int (fun _ _ => rfl))) (pe_ix (ix_listK K rfl) (pv 0) pe_int (fun _ _ => rfl)))) pe_int) pe_int) pa_nil)) (pv 3)))
    (pss_cons (ps_set (i := 4) sc_law_draw.nd rfl (Or.inl rfl) (pe_op op_mod (pe_callTy call_int1 (by rfl) T.b_int (by decide +kernel) (pa_cons (pe_op op_mul (pv 4) (pe_op op_add (pe_op op_mod (pe_callTy call_int1 (by rfl) T.b_int (by decide +kernel) (pa_cons (pv 4) pa_nil)) pe_int) (pe_op op_mul pe_int (pe_ix (ix_listK K rfl) (pv 0) pe_int (fun _ _ => rfl))))) pa_nil)) pe_int))
    (pss_one (ps_ret (pe_op op_mod (pe_callTy call_int1 (by rfl) T.b_int (by decide +kernel) (pa_cons (pe_op op_fdiv (pv 4) pe_int) pa_nil)) (pv 1))))))))), ?_⟩)
  · obtain ⟨p, many, n, rfl, _⟩ := h
    rfl
  obtain ⟨p, many, n, rfl, ⟨m0, m1⟩, hn, ⟨a, m, c, hp, ⟨a0, a1⟩, ⟨g0, g1⟩, ⟨c0, c1⟩⟩, k⟩ := h
  refine ⟨_, rfl, p, _, _, _, rfl, rfl, SqL.of hp, rfl, _, _, rfl, rfl, _, rfl, ite2 (fun ha => ?_) (fun ha => ?_)⟩
  · refine ⟨_, rfl, p, _, _, _, rfl, rfl, SqL.of hp, rfl, .inl ⟨_, rfl, _, rfl, _, _, rfl, rfl, m0, ?_⟩⟩
    refine ⟨_, rfl, p, _, _, _, rfl, rfl, SqL.of hp, rfl, _, rfl, _, _, rfl, rfl, wide_div (b := 10) m0 (by omega) (by decide) (by decide), _, rfl, p, _, _, _, rfl, rfl, hp, rfl, _, rfl, ?_⟩
    have d0 : 0 ≤ a / many := Int.ediv_nonneg a0 (by omega)
    have d1 : a / many ≤ a := Int.ediv_le_self _ a0
    exact k _ _ (Int.emod_nonneg _ (by omega)) (Int.emod_lt_of_pos _ m0) ⟨_, m, c, upd_same, ⟨d0, wide_le d0 d1 a1⟩, ⟨g0, g1⟩, c0, by omega⟩ (fun b o hb e => by rw [upd_ne hb]; exact e)
  · refine ⟨_, rfl, p, _, _, _, rfl, rfl, SqL.of hp, rfl, _, _, rfl, rfl, _, rfl, p, _, _, _, rfl, rfl, hp, rfl, ?_⟩
    refine ⟨by show 5 ≤ sizeLine; decide, fun l hl => ?_⟩
    have npl : p ≠ l := fun e => by rw [← e, upd_same] at hl; cases hl
    have hp2 : (upd (upd H p (.lst ([V.int a, V.int m, V.int c].set 2 (.int (c + 1))))) l (.lst [.int 2147483647, .int 2147483629, .int 2147483587, .int 2147483579, .int 2147483563])) p = some (.lst [.int a, .int m, .int (c + 1)]) := by
      rw [upd_ne npl, upd_same]; rfl
    obtain ⟨v, hv, v0, v1⟩ : ∃ v : Int, atI [V.int 2147483647, V.int 2147483629, V.int 2147483587, V.int 2147483579, V.int 2147483563] ((c + 1) % 5) = some (.int v) ∧ 2147483563 ≤ v ∧ v ≤ 2147483647 := by
      have h0 : (c + 1) % 5 = 0 ∨ (c + 1) % 5 = 1 ∨ (c + 1) % 5 = 2 ∨ (c + 1) % 5 = 3 ∨ (c + 1) % 5 = 4 := by omega
      rcases h0 with e | e | e | e | e <;> rw [e]
      · exact ⟨_, rfl, by decide, by decide⟩
      · exact ⟨_, rfl, by decide, by decide⟩
      · exact ⟨_, rfl, by decide, by decide⟩
      · exact ⟨_, rfl, by decide, by decide⟩
      · exact ⟨_, rfl, by decide, by decide⟩
    refine ⟨_, rfl, p, _, _, _, rfl, rfl, SqL.of hp2, rfl, .inl ⟨_, rfl, _, _, rfl, rfl, (show (0 : Int) < 5 by decide), l, _, _, _, rfl, rfl, SqL.of upd_same, hv, ?_⟩⟩
    have q0 : (c + 1) * (c + 1) ≤ 1000001 * 1000001 := Int.mul_le_mul (by omega) (by omega) (by omega) (by omega)
    have q1 : 0 ≤ (c + 1) * (c + 1) := Int.mul_nonneg (by omega) (by omega)
    have q2 : 99991 * (c + 1) * (c + 1) = 99991 * ((c + 1) * (c + 1)) := Int.mul_assoc _ _ _
    refine ⟨_, rfl, p, _, _, _, rfl, rfl, SqL.of hp2, rfl, _, rfl, p, _, _, _, rfl, rfl, SqL.of hp2, rfl, _, _, rfl, rfl, .inl ⟨by decide, by decide⟩, _, rfl, p, _, _, _, rfl, rfl, SqL.of hp2, rfl, _, _, rfl, rfl, .inl ⟨by omega, by omega⟩, _, _, rfl, rfl, _, _, rfl, rfl, ?_⟩
    refine ⟨_, _, rfl, rfl, ⟨by decide, by decide, by omega⟩, .inl ⟨_, rfl, _, rfl, _, _, rfl, rfl, by omega, ?_⟩⟩
    refine ⟨_, rfl, _, rfl, .inl ⟨_, rfl, _, _, rfl, rfl, (show (0 : Int) < 10007 by decide), _, rfl, p, _, _, _, rfl, rfl, SqL.of hp2, rfl, _, _, rfl, rfl, .inl ⟨by decide, by decide⟩, _, _, rfl, rfl, _, _, rfl, rfl, .inl ⟨?_, ?_⟩, .inl ⟨_, rfl, _, _, rfl, rfl, (show (0 : Int) < 2305843009213693907 by decide), ?_⟩⟩⟩
    · exact Int.lt_of_lt_of_le (show -2 ^ 64 < (0 : Int) by decide) (Int.emod_nonneg _ (by omega))
    · exact Int.lt_trans (Int.emod_lt_of_pos _ (by omega)) (by omega)
    · refine ⟨_, rfl, _, _, rfl, rfl, ⟨by decide, by decide⟩, .inl ⟨_, rfl, _, rfl, _, _, rfl, rfl, m0, ?_⟩⟩
      exact k _ _ (Int.emod_nonneg _ (by omega)) (Int.emod_lt_of_pos _ m0) ⟨a, m, c + 1, hp2, ⟨a0, a1⟩, ⟨g0, g1⟩, by omega, by omega⟩ (fun b o hb e => by
        have e1 : (upd H p (.lst ([V.int a, V.int m, V.int c].set 2 (.int (c + 1))))) b = some o := by rw [upd_ne hb]; exact e
        rw [upd_ne (ne_of_none e1 hl)]; exact e1)
abbrev s_law_any : Stmt := top 37
theorem sc_law_any : FnScope ["_law_pot_here", "_law_items"] ["_law_pot_here", "_law_items"] (defScope s_law_any) := ⟨rfl, rfl, rfl, by decide +kernel, rfl, by decide +kernel, by decide +kernel⟩
theorem ok_any {f fD : Addr} {fd fdD : FuncData} (F : Fun K "_law_any" "_law_any" s_law_any f fd) (T : Txt K mg)
    (c_law_draw : ∀ base, Ca P w K mg base CX0 "_law_draw" 1 ["_law_pot_here", "_law_many"] spDraw fD fdD) : FnOk P w K mg base CX0 2 f fd ["_law_pot_here", "_law_items"] spAny := by
  have c_law_draw := c_law_draw base
  refine F.ok sc_law_any (fun vs H Q E h => ?_) (fun cdv A outer s H vs Q E hr h => ⟨_, (pss_one (ps_ret (pe_ix (ix_listK K rfl) (pv 1) (pe_call c_law_draw.G (hr.mono (by first | decide | omega)) (by rfl) c_law_draw.g c_law_draw.k c_law_draw.B .nil pass0 (pa_cons (pv 0) (pa_cons (pe_callB (call_lenK K rfl) (by rfl) T.b_len (by decide +kernel) (pa_cons (pv 1) pa_nil)) pa_nil))) (fun _ _ => rfl)))), ?_⟩)
  · obtain ⟨_, _, _, _, rfl, _⟩ := h
    rfl
  obtain ⟨p, l, xs, n, rfl, hl, npl, ⟨x0, x1⟩, hn, hp, k⟩ := h
  refine ⟨_, rfl, _, rfl, _, rfl, _, _, rfl, .inl ⟨_, SqL.of hl, rfl⟩, p, _, n, rfl, ⟨by omega, by omega⟩, hn, hp, fun r H' r0 r1 pot but => ?_⟩
  have hr : r.toNat < xs.length := by omega
  refine ⟨l, xs, r, xs[r.toNat], rfl, rfl, SqL.of (but _ _ npl hl), ?_, k _ _ (List.getElem_mem hr) pot but⟩
  have := atI_nat (xs := xs) (j := r.toNat) (v := xs[r.toNat]) (by simp [hr])
  rw [Int.toNat_of_nonneg r0] at this
  exact this
theorem ok_anyS {f fD : Addr} {fd fdD : FuncData} (F : Fun K "_law_any" "_law_any" s_law_any f fd) (T : Txt K mg)
    (c_law_draw : ∀ base, Ca P w K mg base CX0 "_law_draw" 1 ["_law_pot_here", "_law_many"] spDraw fD fdD) : FnOk P w K mg base CX0 2 f fd ["_law_pot_here", "_law_items"] spAnyS := by
  have c_law_draw := c_law_draw base
  refine F.ok sc_law_any (fun vs H Q E h => ?_) (fun cdv A outer s H vs Q E hr h => ⟨_, (pss_one (ps_ret (pe_ix ix_str (pv 1) (pe_call c_law_draw.G (hr.mono (by first | decide | omega)) (by rfl) c_law_draw.g c_law_draw.k c_law_draw.B .nil pass0 (pa_cons (pv 0) (pa_cons (pe_callB (call_lenK K rfl) (by rfl) T.b_len (by decide +kernel) (pa_cons (pv 1) pa_nil)) pa_nil))) (fun _ _ => rfl)))), ?_⟩)
  · obtain ⟨_, _, _, rfl, _⟩ := h
    rfl
  obtain ⟨p, z, n, rfl, ⟨z0, z1⟩, hn, hp, k⟩ := h
  have sl : sizeLine = 16777216 := sizeLine_eq
  refine ⟨_, rfl, _, rfl, _, rfl, _, _, rfl, ⟨by omega, rfl⟩, p, _, n, rfl, ⟨by omega, by omega⟩, by omega, hp, fun r H' r0 r1 pot but => ?_⟩
  have lz : z.cps.toList.length = z.length := Array.length_toList
  have hr : r.toNat < z.cps.toList.length := by omega
  refine ⟨z, r, z.cps.toList[r.toNat], rfl, rfl, by omega, ?_, k _ _ (List.getElem_mem hr) pot but⟩
  have := atI_nat (xs := z.cps.toList) (j := r.toNat) (v := z.cps.toList[r.toNat]) (by simp [hr])
  rw [Int.toNat_of_nonneg r0] at this
  exact this
abbrev s_law_pot : Stmt := top 35
theorem sc_law_pot : FnScope ["_law_script", "_law_k", "_law_first", "_law_own"] ["_law_script", "_law_k"] (defScope s_law_pot) := ⟨rfl, rfl, rfl, by decide +kernel, rfl, by decide +kernel, by decide +kernel⟩
theorem ten300 : ((10 : Int) ^ (60 : Int).toNat) ^ (5 : Int).toNat < 2 ^ 1000 := by decide +kernel
theorem ten300p : 0 < ((10 : Int) ^ (60 : Int).toNat) ^ (5 : Int).toNat := by decide +kernel
theorem pot_bound (x : Int) (b : Bool) : 0 ≤ x % (((10 : Int) ^ (60 : Int).toNat) ^ (5 : Int).toNat) * (if b = true then 1 else 0) ∧ (x % (((10 : Int) ^ (60 : Int).toNat) ^ (5 : Int).toNat) * (if b = true then 1 else 0)).natAbs < 2 ^ 1000 := by
  have h0 := Int.emod_nonneg x (Int.ne_of_gt ten300p)
  have h1 := Int.lt_trans (Int.emod_lt_of_pos x ten300p) ten300
  cases b with
  | false =>
    rw [if_neg Bool.false_ne_true, Int.mul_zero]
    exact ⟨Int.le_refl _, by decide +kernel⟩
  | true =>
    rw [if_pos rfl, Int.mul_one]
    refine ⟨h0, ?_⟩
    have := Int.natAbs_of_nonneg h0
    generalize x % (((10 : Int) ^ (60 : Int).toNat) ^ (5 : Int).toNat) = y at *
    have h2 : ((y.natAbs : Nat) : Int) < ((2 ^ 1000 : Nat) : Int) := by rw [this]; exact h1
    exact Int.ofNat_lt.mp h2
theorem pot_small (x : Int) (b : Bool) : CMulW (x % (((10 : Int) ^ (60 : Int).toNat) ^ (5 : Int).toNat)) (if b = true then 1 else 0) := by
  have h := (pot_bound x true).2
  rw [if_pos rfl, Int.mul_one] at h
  refine wide_mul (a := 1000) (b := 1) h ?_ (by decide) (by decide) (by decide)
  cases b <;> decide
theorem ok_pot {f : Addr} {fd : FuncData} (F : Fun K "_law_pot" "_law_pot" s_law_pot f fd) (T : Txt K mg) : FnOk P w K mg base CX0 1 f fd ["_law_script", "_law_k"] (spPot K) := by
  refine F.ok sc_law_pot (fun vs H Q E h => ?_) (fun cdv A outer s H vs Q E hr h => ⟨_, (pss_cons (ps_set (i := 2) sc_law_pot.nd rfl (Or.inl rfl) (pe_ifExp (pt_cmpR op_lt (pv 1) (pe_callB (call_lenK K rfl) (by rfl) T.b_len (by decide +kernel) (pa_cons (pv 0) pa_nil)) (nomark _)) (pe_ix (ix_listK K rfl) (pv 0) (pv 1) (fun _ _ => rfl)) (pe_op op_add (pe_op op_mul pe_int (pv 1)) pe_int)))
    (pss_cons (ps_set (i := 3) sc_law_pot.nd rfl (Or.inl rfl) (pe_op op_mulW (pe_op op_mod (pe_callTy call_int1 (by rfl) T.b_int (by decide +kernel) (pa_cons (pe_callB call_abs (by rfl) T.b_abs (by decide +kernel) (pa_cons (pv 2) pa_nil)) pa_nil)) (pe_op op_powW (pe_op op_pow pe_int pe_int) pe_int)) (pe_callTy call_int1 (by rfl) T.b_int (by decide +kernel) (pa_cons (pe_cmpR op_ge (pe_callB call_abs (by rfl) T.b_abs (by decide +kernel) (pa_cons (pv 2) pa_nil)) (pe_op op_pow pe_int pe_int) (nomark _)) pa_nil))))
    (pss_one (ps_ret (pe_lst (pa_cons (pv 3) (pa_cons (pe_op op_mod (pe_callTy call_int1 (by rfl) T.b_int (by decide +kernel) (pa_cons (pe_op op_add (pe_op op_add (pe_op op_mul (pe_op op_mod (pe_callTy call_int1 (by rfl) T.b_int (by decide +kernel) (pa_cons (pv 2) pa_nil)) pe_int) pe_int) (pe_op op_mul (pe_op op_mul pe_int (pv 1)) (pv 1))) pe_int) pa_nil)) pe_int) (pa_cons pe_int pa_nil)))))))), ?_⟩)
  · obtain ⟨_, _, _, rfl, _⟩ := h
    rfl
  obtain ⟨a, ns, k, rfl, hS, few, ⟨k0, k3⟩, kk⟩ := h
  have kk9 : k * k ≤ 9 := Int.mul_le_mul (show k ≤ 3 by omega) (show k ≤ 3 by omega) k0 (by decide)
  have kk0 : 0 ≤ k * k := Int.mul_nonneg k0 k0
  have kk1 : 9241 * k * k = 9241 * (k * k) := Int.mul_assoc _ _ _
  refine ⟨_, rfl, _, rfl, _, _, rfl, .inl ⟨_, hS, rfl⟩, _, _, rfl, rfl, _, rfl, ite2 (fun h1 => ?_) (fun h1 => ?_)⟩
  · have hk : k.toNat < ns.length := by
      have := of_decide_eq_true h1
      rw [List.length_map] at this
      omega
    have ea : atI (ns.map V.int) k = some (.int ns[k.toNat]) := by
      have := atI_nat (xs := ns.map V.int) (j := k.toNat) (v := .int ns[k.toNat]) (by simp [hk])
      rw [Int.toNat_of_nonneg k0] at this
      exact this
    refine ⟨_, rfl, _, rfl, a, _, k, _, rfl, rfl, hS, ea, ?_⟩
    generalize ns[k.toNat] = d
    refine ⟨_, rfl, _, rfl, .inl ⟨_, rfl, _, _, rfl, rfl, ⟨by decide, by decide, by decide⟩, _, _, rfl, rfl, ⟨by decide, by decide +kernel⟩, _, _, rfl, rfl, ten300p, _, rfl, _, rfl, _, _, rfl, rfl, ⟨by decide, by decide, by decide⟩, _, _, rfl, rfl, .inr ⟨_, rfl, _, _, rfl, rfl, pot_small _ _, ?_⟩⟩⟩
    refine ⟨_, rfl, _, rfl, .inl ⟨_, rfl, _, _, rfl, rfl, (show (0 : Int) < 2305843009213693951 by decide), _, _, rfl, rfl, .inr ⟨by decide, by decide⟩, _, rfl, _, _, rfl, rfl, .inl ⟨by decide, by decide⟩, _, rfl, _, _, rfl, rfl, .inl ⟨by omega, by omega⟩, _, _, rfl, rfl, _, _, rfl, rfl, .inl ⟨_, rfl, _, _, rfl, rfl, (show (0 : Int) < 2305843009213693921 by decide), by show 3 ≤ sizeLine; decide, fun p hp => ?_⟩⟩⟩
    exact kk p _ hp (Same.upd (Same.refl H) hp) ⟨_, _, _, upd_same, pot_bound _ _, ⟨Int.emod_nonneg _ (by decide), Int.emod_lt_of_pos _ (by decide)⟩, by decide, by decide⟩
  · refine ⟨_, rfl, _, _, rfl, rfl, .inl ⟨by decide, by decide⟩, _, _, rfl, rfl, ?_⟩
    generalize 11 * k + 9 = d
    refine ⟨_, rfl, _, rfl, .inl ⟨_, rfl, _, _, rfl, rfl, ⟨by decide, by decide, by decide⟩, _, _, rfl, rfl, ⟨by decide, by decide +kernel⟩, _, _, rfl, rfl, ten300p, _, rfl, _, rfl, _, _, rfl, rfl, ⟨by decide, by decide, by decide⟩, _, _, rfl, rfl, .inr ⟨_, rfl, _, _, rfl, rfl, pot_small _ _, ?_⟩⟩⟩
    refine ⟨_, rfl, _, rfl, .inl ⟨_, rfl, _, _, rfl, rfl, (show (0 : Int) < 2305843009213693951 by decide), _, _, rfl, rfl, .inr ⟨by decide, by decide⟩, _, rfl, _, _, rfl, rfl, .inl ⟨by decide, by decide⟩, _, rfl, _, _, rfl, rfl, .inl ⟨by omega, by omega⟩, _, _, rfl, rfl, _, _, rfl, rfl, .inl ⟨_, rfl, _, _, rfl, rfl, (show (0 : Int) < 2305843009213693921 by decide), by show 3 ≤ sizeLine; decide, fun p hp => ?_⟩⟩⟩
    exact kk p _ hp (Same.upd (Same.refl H) hp) ⟨_, _, _, upd_same, pot_bound _ _, ⟨Int.emod_nonneg _ (by decide), Int.emod_lt_of_pos _ (by decide)⟩, by decide, by decide⟩
end
end K49

set_option Elab.async false
set_option linter.all false
set_option maxRecDepth 100000
set_option maxHeartbeats 4000000
/-! # an alignment seen from the other side costs the same -/
namespace Xby
open PySem L2
def swp (q : Int × Int) : Int × Int := (q.2, q.1)
def insP (q : Int × Int) : List (Int × Int) → List (Int × Int)
  | [] => [q]
  | r :: l => if q.1 < r.1 then q :: r :: l else r :: insP q l
def invP (l : List (Int × Int)) : List (Int × Int) := (l.map swp).foldr insP []
theorem insP_perm (q : Int × Int) : ∀ l, (insP q l).Perm (q :: l)
  | [] => List.Perm.refl _
  | r :: l => by
    unfold insP
    split
    · exact List.Perm.refl _
    · exact ((insP_perm q l).cons r).trans (List.Perm.swap q r l)
theorem foldP_perm : ∀ l : List (Int × Int), (l.foldr insP []).Perm l
  | [] => List.Perm.refl _
  | q :: l => by
    rw [List.foldr_cons]
    exact (insP_perm q _).trans ((foldP_perm l).cons q)
theorem invP_perm (l : List (Int × Int)) : (invP l).Perm (l.map swp) := foldP_perm _
def turnOk (l : List (Int × Int)) : Bool := decide (((invP l).map (·.1)).Pairwise (· < ·)) && decide (riseN ((invP l).map (·.2)) = riseN (l.map (·.2)))
theorem turn1 : ∀ a b : Fin 3, turnOk [((a.val : Int), (b.val : Int))] = true := by decide +kernel
theorem turn2 : ∀ a b c d : Fin 3, okPs [((a.val : Int), (b.val : Int)), ((c.val : Int), (d.val : Int))] = true → turnOk [((a.val : Int), (b.val : Int)), ((c.val : Int), (d.val : Int))] = true := by decide +kernel
theorem turn3 : ∀ a b c d e f : Fin 3, okPs [((a.val : Int), (b.val : Int)), ((c.val : Int), (d.val : Int)), ((e.val : Int), (f.val : Int))] = true → turnOk [((a.val : Int), (b.val : Int)), ((c.val : Int), (d.val : Int)), ((e.val : Int), (f.val : Int))] = true := by decide +kernel
theorem fin3P {q : Int × Int} (h : (0 ≤ q.1 ∧ q.1 < 3) ∧ 0 ≤ q.2 ∧ q.2 < 3) : ∃ a b : Fin 3, q = ((a.val : Int), (b.val : Int)) := by
  obtain ⟨a, ha⟩ := fin3 h.1
  obtain ⟨b, hb⟩ := fin3 h.2
  exact ⟨a, b, Prod.ext ha hb⟩
theorem turn_ok {cs : List (Int × Int)} (few : cs.length ≤ 3) (ok : okPs cs = true) (inb : ∀ q ∈ cs, (0 ≤ q.1 ∧ q.1 < 3) ∧ 0 ≤ q.2 ∧ q.2 < 3) : turnOk cs = true := by
  match cs, few, ok, inb with
  | [], _, _, _ => decide
  | [x], _, ok, inb =>
    obtain ⟨a, b, rfl⟩ := fin3P (inb x (by simp))
    exact turn1 a b
  | [x, y], _, ok, inb =>
    obtain ⟨a, b, rfl⟩ := fin3P (inb x (by simp))
    obtain ⟨c, d, rfl⟩ := fin3P (inb y (by simp))
    exact turn2 a b c d ok
  | [x, y, z], _, ok, inb =>
    obtain ⟨a, b, rfl⟩ := fin3P (inb x (by simp))
    obtain ⟨c, d, rfl⟩ := fin3P (inb y (by simp))
    obtain ⟨e, f, rfl⟩ := fin3P (inb z (by simp))
    exact turn3 a b c d e f ok
theorem rise_turn {cs cs' : List (Int × Int)} (few : cs.length ≤ 3) (ok : okPs cs = true) (inb : ∀ q ∈ cs, (0 ≤ q.1 ∧ q.1 < 3) ∧ 0 ≤ q.2 ∧ q.2 < 3) (pm : cs'.Perm (cs.map swp)) (asc : (cs'.map (·.1)).Pairwise (· < ·)) :
    riseN (cs'.map (·.2)) = riseN (cs.map (·.2)) := by
  have t := turn_ok few ok inb
  unfold turnOk at t
  rw [Bool.and_eq_true] at t
  have t1 := of_decide_eq_true t.1
  have t2 := of_decide_eq_true t.2
  have e : cs' = invP cs := (pm.trans (invP_perm cs).symm).eq_of_pairwise (le := fun a b : Int × Int => a.1 < b.1) (fun x y _ _ h1 h2 => absurd (Int.lt_trans h1 h2) (Int.lt_irrefl _)) (List.pairwise_map.mp asc) (List.pairwise_map.mp t1)
  rw [e]
  exact t2
theorem perm_sum {l m : List Int} (p : l.Perm m) : l.sum = m.sum := by
  induction p with
  | nil => rfl
  | cons x _ ih => rw [List.sum_cons, List.sum_cons, ih]
  | swap x y l => simp only [List.sum_cons]; omega
  | trans _ _ a b => rw [a, b]
theorem filter_turn {p q : Int × Int → Bool} (h : ∀ x, p (swp x) = q x) {cs cs' : List (Int × Int)} (pm : cs'.Perm (cs.map swp)) : (cs'.filter p).length = (cs.filter q).length := by
  rw [(pm.filter p).length_eq, List.filter_map, List.length_map]
  congr 2
  funext x
  exact h x
theorem dec_symm {a b : V} : decide (a = b) = decide (b = a) := by
  by_cases h : a = b
  · rw [h]
  · rw [decide_eq_false h, decide_eq_false fun z => h z.symm]
theorem unl_turn {r q : List V} {cs cs' : List (Int × Int)} (pm : cs'.Perm (cs.map swp)) : unl q r cs' = unl r q cs := by
  unfold unl
  rw [filter_turn (q := clNe r q) (fun x => by unfold clNe swp; rw [dec_symm]) pm]
theorem unlS_turn {rs qs : List (List V)} {cs cs' ps ps' : List (Int × Int)} (pc : cs'.Perm (cs.map swp)) (pp : ps'.Perm (ps.map swp)) : unlS qs rs cs' ps' = unlS rs qs cs ps := by
  unfold unlS
  rw [perm_sum (pp.map _), List.map_map]
  congr 1
  exact List.map_congr_left fun p _ => unl_turn pc
theorem cost_turn {b : Bill} {hs ks : List Str} {rs qs : List (List V)} {cs ps cs' ps' : List (Int × Int)} (few : cs.length ≤ 3) (ok : okPs cs = true) (inb : ∀ q ∈ cs, (0 ≤ q.1 ∧ q.1 < 3) ∧ 0 ≤ q.2 ∧ q.2 < 3)
    (pc : cs'.Perm (cs.map swp)) (asc : (cs'.map (·.1)).Pairwise (· < ·)) (pp : ps'.Perm (ps.map swp)) : costN b ks hs qs rs cs' ps' = costN b hs ks rs qs cs ps := by
  have lc := pc.length_eq
  have lp := pp.length_eq
  rw [List.length_map] at lc lp
  unfold costN colN
  rw [rise_turn few ok inb pc asc, unlS_turn pc pp, filter_turn (q := nmNe hs ks) (fun x => by unfold nmNe swp; rw [dec_symm]) pc, lc, lp, Int.add_comm (ks.length : Int), Int.add_comm (qs.length : Int)]
end Xby

set_option Elab.async false
set_option linter.all false
set_option maxRecDepth 100000
set_option maxHeartbeats 4000000
/-! # alignments one behind another: what both together cost -/
namespace Xby
open PySem L2
def lookP (qs : List (Int × Int)) (j : Int) : Option Int := (qs.find? fun q => decide (q.1 = j)).map (·.2)
def joinP (ps qs : List (Int × Int)) : List (Int × Int) := ps.filterMap fun p => (lookP qs p.2).map fun k => (p.1, k)
def dupP (ps : List (Int × Int)) : List (Int × Int) := ps.map fun p => (p.1, p.1)
theorem lookP_mem {qs : List (Int × Int)} {j k : Int} (h : lookP qs j = some k) : (j, k) ∈ qs := by
  unfold lookP at h
  rw [Option.map_eq_some_iff] at h
  obtain ⟨q, e, rfl⟩ := h
  have e1 : decide (q.1 = j) = true := List.find?_some (p := fun q : Int × Int => decide (q.1 = j)) e
  have e1 := of_decide_eq_true e1
  have m := List.mem_of_find?_eq_some e
  rw [← e1]
  exact m
theorem lookP_of {qs : List (Int × Int)} (nd : (qs.map (·.1)).Nodup) {j k : Int} (h : (j, k) ∈ qs) : lookP qs j = some k := by
  induction qs with
  | nil => simp at h
  | cons q qs ih =>
    rw [List.map_cons, List.nodup_cons] at nd
    unfold lookP
    rw [List.find?_cons]
    rcases List.mem_cons.mp h with rfl | h
    · simp
    · have ne : ¬ q.1 = j := fun e => nd.1 (List.mem_map.mpr ⟨_, h, e.symm⟩)
      rw [decide_eq_false ne]
      exact ih nd.2 h
theorem joinP_nil (qs : List (Int × Int)) : joinP [] qs = [] := rfl
theorem joinP_cons (p : Int × Int) (ps qs : List (Int × Int)) : joinP (p :: ps) qs = (match lookP qs p.2 with | some k => [(p.1, k)] | none => []) ++ joinP ps qs := by
  unfold joinP
  rw [List.filterMap_cons]
  cases lookP qs p.2 <;> rfl
theorem joinP_mem {ps qs : List (Int × Int)} {x : Int × Int} (h : x ∈ joinP ps qs) : ∃ j, (x.1, j) ∈ ps ∧ lookP qs j = some x.2 := by
  unfold joinP at h
  obtain ⟨p, hp, e⟩ := List.mem_filterMap.mp h
  rw [Option.map_eq_some_iff] at e
  obtain ⟨k, e, rfl⟩ := e
  exact ⟨p.2, hp, e⟩
theorem okPs_fst {ps : List (Int × Int)} (h : okPs ps = true) : (ps.map (·.1)).Pairwise (· < ·) := by
  unfold okPs at h
  rw [Bool.and_eq_true] at h
  exact of_decide_eq_true h.1
theorem okPs_snd {ps : List (Int × Int)} (h : okPs ps = true) : (ps.map (·.2)).Nodup := by
  unfold okPs at h
  rw [Bool.and_eq_true] at h
  exact of_decide_eq_true h.2
theorem okPs_mk {ps : List (Int × Int)} (h1 : (ps.map (·.1)).Pairwise (· < ·)) (h2 : (ps.map (·.2)).Nodup) : okPs ps = true := by
  unfold okPs
  rw [decide_eq_true h1, decide_eq_true h2]
  rfl
theorem asc_nodup {l : List Int} (h : l.Pairwise (· < ·)) : l.Nodup := h.imp fun h => Int.ne_of_lt h
theorem joinP_fst (ps qs : List (Int × Int)) : ((joinP ps qs).map (·.1)).Sublist (ps.map (·.1)) := by
  induction ps with
  | nil => exact List.Sublist.refl _
  | cons p ps ih =>
    rw [joinP_cons, List.map_append, List.map_cons]
    cases lookP qs p.2 with
    | none => exact ih.cons _
    | some k => exact ih.cons_cons _
theorem snd_inj {qs : List (Int × Int)} (nd : (qs.map (·.2)).Nodup) {i j k : Int} (h1 : (i, k) ∈ qs) (h2 : (j, k) ∈ qs) : i = j := by
  induction qs with
  | nil => simp at h1
  | cons q qs ih =>
    rw [List.map_cons, List.nodup_cons] at nd
    rcases List.mem_cons.mp h1 with e1 | h1 <;> rcases List.mem_cons.mp h2 with e2 | h2
    · exact congrArg (·.1) (e1.trans e2.symm)
    · exact absurd (List.mem_map.mpr ⟨_, h2, by rw [← e1]⟩) nd.1
    · exact absurd (List.mem_map.mpr ⟨_, h1, by rw [← e2]⟩) nd.1
    · exact ih nd.2 h1 h2
theorem joinP_snd {ps qs : List (Int × Int)} (n1 : (ps.map (·.2)).Nodup) (n2 : (qs.map (·.2)).Nodup) : ((joinP ps qs).map (·.2)).Nodup := by
  induction ps with
  | nil => simp [joinP_nil]
  | cons p ps ih =>
    rw [List.map_cons, List.nodup_cons] at n1
    rw [joinP_cons]
    cases e : lookP qs p.2 with
    | none => exact ih n1.2
    | some k =>
      show (k :: (joinP ps qs).map (·.2)).Nodup
      rw [List.nodup_cons]
      refine ⟨fun m => ?_, ih n1.2⟩
      obtain ⟨x, hx, rfl⟩ := List.mem_map.mp m
      obtain ⟨j, hj, ej⟩ := joinP_mem hx
      have := snd_inj n2 (lookP_mem e) (lookP_mem ej)
      exact n1.1 (List.mem_map.mpr ⟨_, hj, this.symm⟩)
theorem joinP_ok {ps qs : List (Int × Int)} (h1 : okPs ps = true) (h2 : okPs qs = true) : okPs (joinP ps qs) = true :=
  okPs_mk ((okPs_fst h1).sublist (joinP_fst ps qs)) (joinP_snd (okPs_snd h1) (okPs_snd h2))
theorem joinP_in {ps qs : List (Int × Int)} {a b c : Nat} (h1 : InB a b ps) (h2 : InB b c qs) : InB a c (joinP ps qs) := fun x hx => by
  obtain ⟨j, hj, e⟩ := joinP_mem hx
  exact ⟨(h1 _ hj).1, (h2 _ (lookP_mem e)).2⟩
theorem nodup_len : ∀ (n : Nat) (l : List Int), l.Nodup → (∀ x ∈ l, 0 ≤ x ∧ x < (n : Int)) → l.length ≤ n
  | 0, l, _, h => by
    cases l with
    | nil => exact Nat.le_refl _
    | cons x l => have := h x (by simp); omega
  | n + 1, l, nd, h => by
    have := nodup_len n (l.erase (n : Int)) (nd.erase _) fun x hx => by
      have ne := (nd.mem_erase_iff.mp hx).1
      have := h x (List.mem_of_mem_erase hx)
      omega
    by_cases m : (n : Int) ∈ l
    · rw [List.length_erase_of_mem m] at this
      omega
    · rw [List.erase_of_not_mem m] at this
      omega
/-- how many pairs are left -/
theorem joinP_len {ps qs : List (Int × Int)} {a b c : Nat} (h1 : okPs ps = true) (h2 : okPs qs = true) (i1 : InB a b ps) (i2 : InB b c qs) : ps.length + qs.length ≤ (joinP ps qs).length + b := by
  have key : ∀ ps : List (Int × Int), (ps.map (·.2)).Nodup → ∃ l : List Int, (l ++ qs.map (·.1)).Nodup ∧ (∀ x ∈ l, x ∈ ps.map (·.2)) ∧ ps.length = (joinP ps qs).length + l.length := by
    intro ps
    induction ps with
    | nil => exact fun _ => ⟨[], by simpa using asc_nodup (okPs_fst h2), by simp, rfl⟩
    | cons p ps ih =>
      intro n1
      rw [List.map_cons, List.nodup_cons] at n1
      obtain ⟨l, nd, sub, e⟩ := ih n1.2
      rw [joinP_cons]
      cases el : lookP qs p.2 with
      | some k => exact ⟨l, nd, fun x hx => List.mem_cons_of_mem _ (sub x hx), by show ps.length + 1 = ((p.1, k) :: joinP ps qs).length + l.length; rw [List.length_cons]; omega⟩
      | none =>
        refine ⟨p.2 :: l, ?_, fun x hx => ?_, by show ps.length + 1 = (joinP ps qs).length + (l.length + 1); omega⟩
        · rw [List.cons_append, List.nodup_cons]
          refine ⟨fun m => ?_, nd⟩
          rcases List.mem_append.mp m with m | m
          · exact n1.1 (sub _ m)
          · obtain ⟨q, hq, eq⟩ := List.mem_map.mp m
            have := lookP_of (asc_nodup (okPs_fst h2)) (j := p.2) (k := q.2) (by rw [← eq]; exact hq)
            rw [el] at this
            cases this
        · rcases List.mem_cons.mp hx with rfl | hx
          · exact List.mem_cons_self
          · exact List.mem_cons_of_mem _ (sub x hx)
  obtain ⟨l, nd, sub, e⟩ := key ps (okPs_snd h1)
  have := nodup_len b _ nd fun x hx => by
    rcases List.mem_append.mp hx with hx | hx
    · obtain ⟨q, hq, rfl⟩ := List.mem_map.mp (sub x hx)
      exact (i1 q hq).2
    · obtain ⟨q, hq, rfl⟩ := List.mem_map.mp hx
      exact (i2 q hq).1
  rw [List.length_append, List.length_map] at this
  omega
theorem sum_sub {α : Type} [DecidableEq α] (f : α → Int) (h0 : ∀ x, 0 ≤ f x) : ∀ (l m : List α), l.Nodup → (∀ x ∈ l, x ∈ m) → (l.map f).sum ≤ (m.map f).sum
  | [], m, _, _ => by
    induction m with
    | nil => exact Int.le_refl _
    | cons x m ih =>
      have := h0 x
      simp only [List.map_nil, List.sum_nil, List.map_cons, List.sum_cons] at ih ⊢
      have := ih (by simp)
      omega
  | x :: l, m, nd, sub => by
    rw [List.nodup_cons] at nd
    have hx : x ∈ m := sub x (by simp)
    have pm := List.perm_cons_erase hx
    rw [perm_sum (pm.map f), List.map_cons, List.map_cons, List.sum_cons, List.sum_cons]
    have := sum_sub f h0 l (m.erase x) nd.2 fun y hy => by
      have ne : y ≠ x := fun e => nd.1 (e ▸ hy)
      exact (List.mem_erase_of_ne ne).mpr (sub y (List.mem_cons_of_mem _ hy))
    omega
/-- what is counted of both together -/
theorem join_sum (F A B : Int × Int → Int) (hA : ∀ x, 0 ≤ A x) (hB : ∀ x, 0 ≤ B x) {ps qs : List (Int × Int)} (n1 : (ps.map (·.2)).Nodup)
    (h : ∀ i j k, (i, j) ∈ ps → (j, k) ∈ qs → F (i, k) ≤ A (i, j) + B (j, k)) : ((joinP ps qs).map F).sum ≤ (ps.map A).sum + (qs.map B).sum := by
  have key : ∀ ps : List (Int × Int), (ps.map (·.2)).Nodup → (∀ i j k, (i, j) ∈ ps → (j, k) ∈ qs → F (i, k) ≤ A (i, j) + B (j, k)) →
      ∃ l : List (Int × Int), l.Nodup ∧ (∀ x ∈ l, x ∈ qs ∧ x.1 ∈ ps.map (·.2)) ∧ ((joinP ps qs).map F).sum ≤ (ps.map A).sum + (l.map B).sum := by
    intro ps
    induction ps with
    | nil => exact fun _ _ => ⟨[], by simp, by simp, by simp [joinP_nil]⟩
    | cons p ps ih =>
      intro n1 h
      rw [List.map_cons, List.nodup_cons] at n1
      obtain ⟨l, nd, sub, e⟩ := ih n1.2 fun i j k h1 h2 => h i j k (List.mem_cons_of_mem _ h1) h2
      have a0 := hA p
      rw [joinP_cons]
      cases el : lookP qs p.2 with
      | none =>
        refine ⟨l, nd, fun x hx => ⟨(sub x hx).1, List.mem_cons_of_mem _ (sub x hx).2⟩, ?_⟩
        show ((joinP ps qs).map F).sum ≤ _
        rw [List.map_cons, List.sum_cons]
        omega
      | some k =>
        have m := lookP_mem el
        have f := h p.1 p.2 k (by simp) m
        refine ⟨(p.2, k) :: l, ?_, fun x hx => ?_, ?_⟩
        · rw [List.nodup_cons]
          exact ⟨fun z => n1.1 (sub _ z).2, nd⟩
        · rcases List.mem_cons.mp hx with rfl | hx
          · exact ⟨m, List.mem_cons_self⟩
          · exact ⟨(sub x hx).1, List.mem_cons_of_mem _ (sub x hx).2⟩
        · show (((p.1, k) :: joinP ps qs).map F).sum ≤ _
          rw [List.map_cons, List.sum_cons, List.map_cons, List.sum_cons, List.map_cons, List.sum_cons]
          have : A (p.1, p.2) = A p := rfl
          omega
  obtain ⟨l, nd, sub, e⟩ := key ps n1 h
  have := sum_sub B hB l qs nd fun x hx => (sub x hx).1
  omega
theorem join_count (F A B : Int × Int → Bool) {ps qs : List (Int × Int)} (n1 : (ps.map (·.2)).Nodup) (h : ∀ i j k, (i, j) ∈ ps → (j, k) ∈ qs → F (i, k) = true → A (i, j) = true ∨ B (j, k) = true) :
    (((joinP ps qs).filter F).length : Int) ≤ ((ps.filter A).length : Int) + ((qs.filter B).length : Int) := by
  rw [count_sum, count_sum, count_sum]
  refine join_sum _ _ _ (fun x => by split <;> decide) (fun x => by split <;> decide) n1 fun i j k h1 h2 => ?_
  have := h i j k h1 h2
  cases hF : F (i, k) <;> cases hA : A (i, j) <;> cases hB : B (j, k) <;> first | decide | exact absurd (this hF) (by simp [hA, hB])
/-! ## moves, of at most three columns -/
def pairs9 : List (Int × Int) := [(0, 0), (0, 1), (0, 2), (1, 0), (1, 1), (1, 2), (2, 0), (2, 1), (2, 2)]
def all3 : List (List (Int × Int)) := (([] :: pairs9.map fun x => [x]) ++ (pairs9.flatMap fun x => pairs9.map fun y => [x, y]) ++ (pairs9.flatMap fun x => pairs9.flatMap fun y => pairs9.map fun z => [x, y, z])).filter okPs
theorem in9 {q : Int × Int} (h : (0 ≤ q.1 ∧ q.1 < 3) ∧ 0 ≤ q.2 ∧ q.2 < 3) : q ∈ pairs9 := by
  obtain ⟨a, b, rfl⟩ := fin3P h
  revert a b
  decide
theorem in_all3 {cs : List (Int × Int)} (few : cs.length ≤ 3) (ok : okPs cs = true) (inb : ∀ q ∈ cs, (0 ≤ q.1 ∧ q.1 < 3) ∧ 0 ≤ q.2 ∧ q.2 < 3) : cs ∈ all3 := by
  refine List.mem_filter.mpr ⟨?_, ok⟩
  match cs, few, inb with
  | [], _, _ => exact List.mem_append_left _ (List.mem_append_left _ List.mem_cons_self)
  | [x], _, inb => exact List.mem_append_left _ (List.mem_append_left _ (List.mem_cons_of_mem _ (List.mem_map.mpr ⟨x, in9 (inb x (by simp)), rfl⟩)))
  | [x, y], _, inb => exact List.mem_append_left _ (List.mem_append_right _ (List.mem_flatMap.mpr ⟨x, in9 (inb x (by simp)), List.mem_map.mpr ⟨y, in9 (inb y (by simp)), rfl⟩⟩))
  | [x, y, z], _, inb => exact List.mem_append_right _ (List.mem_flatMap.mpr ⟨x, in9 (inb x (by simp)), List.mem_flatMap.mpr ⟨y, in9 (inb y (by simp)), List.mem_map.mpr ⟨z, in9 (inb z (by simp)), rfl⟩⟩⟩)
def movN (cs : List (Int × Int)) : Int := (cs.length : Int) - riseN (cs.map (·.2))
theorem mov_all : (all3.all fun x => all3.all fun y => decide (movN (joinP x y) ≤ movN x + movN y)) = true := by decide +kernel
theorem dup_all : (all3.all fun x => decide (movN (dupP x) = 0)) = true := by decide +kernel
theorem join_mov {cs ds : List (Int × Int)} (h1 : cs ∈ all3) (h2 : ds ∈ all3) : movN (joinP cs ds) ≤ movN cs + movN ds :=
  of_decide_eq_true (List.all_eq_true.mp (List.all_eq_true.mp mov_all _ h1) _ h2)
theorem dup_mov {cs : List (Int × Int)} (h1 : cs ∈ all3) : movN (dupP cs) = 0 := of_decide_eq_true (List.all_eq_true.mp dup_all _ h1)
theorem ne_tri {a b c : V} (h : (!decide (a = c)) = true) : (!decide (a = b)) = true ∨ (!decide (b = c)) = true := by
  by_cases e1 : a = b
  · by_cases e2 : b = c
    · rw [decide_eq_true (e1.trans e2)] at h
      cases h
    · exact .inr (by rw [decide_eq_false e2]; rfl)
  · exact .inl (by rw [decide_eq_false e1]; rfl)
theorem unl_tri {r q u : List V} {cs ds : List (Int × Int)} (n1 : (cs.map (·.2)).Nodup) : unl r u (joinP cs ds) ≤ unl r q cs + unl q u ds :=
  join_count (clNe r u) (clNe r q) (clNe q u) n1 fun i j k _ _ h => ne_tri h
theorem unl_nn (r q : List V) (cs : List (Int × Int)) : 0 ≤ unl r q cs := by unfold unl; omega
theorem unlS_tri {rs qs us : List (List V)} {cs ds ps ts : List (Int × Int)} (n1 : (cs.map (·.2)).Nodup) (n2 : (ps.map (·.2)).Nodup) : unlS rs us (joinP cs ds) (joinP ps ts) ≤ unlS rs qs cs ps + unlS qs us ds ts :=
  join_sum _ _ _ (fun _ => unl_nn _ _ _) (fun _ => unl_nn _ _ _) n2 fun i j k _ _ => unl_tri n1
theorem mul_tri {c x y z : Int} (h0 : 0 ≤ c) (h : x ≤ y + z) : c * x ≤ c * y + c * z := by
  rw [← Int.mul_add]
  exact Int.mul_le_mul_of_nonneg_left h h0
/-- one behind another, both together cost no more -/
theorem cost_tri {b : Bill} {hs ks ls : List Str} {rs qs us : List (List V)} {cs ds ps ts : List (Int × Int)} (ok : BillOk b) (c3 : cs ∈ all3) (d3 : ds ∈ all3) (okc : okPs cs = true) (okd : okPs ds = true) (okp : okPs ps = true) (okt : okPs ts = true)
    (ic : InB hs.length ks.length cs) (id : InB ks.length ls.length ds) (ip : InB rs.length qs.length ps) (it : InB qs.length us.length ts) :
    costN b hs ls rs us (joinP cs ds) (joinP ps ts) ≤ costN b hs ks rs qs cs ps + costN b ks ls qs us ds ts := by
  obtain ⟨ok1, ok2, ok3, ok4, ok5⟩ := ok
  have l1 := joinP_len okc okd ic id
  have l2 := joinP_len okp okt ip it
  have a1 := mul_tri (c := b.column) (x := (hs.length : Int) + (ls.length : Int) - 2 * ((joinP cs ds).length : Int)) (y := (hs.length : Int) + (ks.length : Int) - 2 * (cs.length : Int)) (z := (ks.length : Int) + (ls.length : Int) - 2 * (ds.length : Int)) (by omega) (by omega)
  have a2 := mul_tri (c := b.row) (x := (rs.length : Int) + (us.length : Int) - 2 * ((joinP ps ts).length : Int)) (y := (rs.length : Int) + (qs.length : Int) - 2 * (ps.length : Int)) (z := (qs.length : Int) + (us.length : Int) - 2 * (ts.length : Int)) (by omega) (by omega)
  have a3 := mul_tri (c := b.name) (by omega) (join_count (nmNe hs ls) (nmNe hs ks) (nmNe ks ls) (ps := cs) (qs := ds) (okPs_snd okc) fun i j k _ _ h => ne_tri h)
  have a4 := mul_tri (c := b.move) (by omega) (join_mov c3 d3)
  have a5 := mul_tri (c := b.cell) (by omega) (unlS_tri (rs := rs) (qs := qs) (us := us) (cs := cs) (ds := ds) (ps := ps) (ts := ts) (okPs_snd okc) (okPs_snd okp))
  unfold movN at a4
  unfold costN colN
  omega
/-- there and back -/
theorem join_back {ps ps' : List (Int × Int)} (ok : okPs ps = true) (pm : ps'.Perm (ps.map swp)) : joinP ps ps' = dupP ps := by
  have nd : (ps'.map (·.1)).Nodup := by
    have := pm.map (·.1)
    rw [List.map_map] at this
    exact this.nodup_iff.mpr (okPs_snd ok)
  have key : ∀ l : List (Int × Int), (∀ x ∈ l, x ∈ ps) → joinP l ps' = dupP l := by
    intro l
    induction l with
    | nil => exact fun _ => rfl
    | cons p l ih =>
      intro h
      have e := lookP_of nd (j := p.2) (k := p.1) (pm.mem_iff.mpr (List.mem_map.mpr ⟨p, h p (by simp), rfl⟩))
      rw [joinP_cons, e, ih fun x hx => h x (List.mem_cons_of_mem _ hx)]
      rfl
  exact key ps fun _ h => h
theorem filter_dup (F : Int × Int → Bool) (h : ∀ i, F (i, i) = false) (ps : List (Int × Int)) : (dupP ps).filter F = [] := by
  unfold dupP
  rw [List.filter_map, List.map_eq_nil_iff, List.filter_eq_nil_iff]
  exact fun x _ => by show ¬ F (x.1, x.1) = true; rw [h]; simp
theorem unl_dup (r : List V) (cs : List (Int × Int)) : unl r r (dupP cs) = 0 := by
  unfold unl
  rw [filter_dup (clNe r r) fun i => by unfold clNe; simp]
  rfl
theorem unlS_dup (rs : List (List V)) (cs ps : List (Int × Int)) : unlS rs rs (dupP cs) (dupP ps) = 0 := by
  unfold unlS
  induction ps with
  | nil => rfl
  | cons p ps ih =>
    have e : dupP (p :: ps) = (p.1, p.1) :: dupP ps := rfl
    rw [e, List.map_cons, List.sum_cons, ih, unl_dup]
    rfl
theorem dupP_len (ps : List (Int × Int)) : (dupP ps).length = ps.length := by unfold dupP; rw [List.length_map]
theorem cost_home {b : Bill} {hs : List Str} {rs : List (List V)} {cs ps : List (Int × Int)} (c3 : cs ∈ all3) :
    costN b hs hs rs rs (dupP cs) (dupP ps) = 2 * (b.column * ((hs.length : Int) - ((dupP cs).length : Int)) + b.row * ((rs.length : Int) - ((dupP ps).length : Int))) := by
  have m := dup_mov c3
  unfold movN at m
  unfold costN colN
  rw [m, unlS_dup, filter_dup (nmNe hs hs) (fun i => by unfold nmNe; simp)]
  have e1 : b.column * ((hs.length : Int) + (hs.length : Int) - 2 * ((dupP cs).length : Int)) = 2 * (b.column * ((hs.length : Int) - ((dupP cs).length : Int))) := by
    rw [show (hs.length : Int) + (hs.length : Int) - 2 * ((dupP cs).length : Int) = 2 * ((hs.length : Int) - ((dupP cs).length : Int)) by omega, Int.mul_left_comm]
  have e2 : b.row * ((rs.length : Int) + (rs.length : Int) - 2 * ((dupP ps).length : Int)) = 2 * (b.row * ((rs.length : Int) - ((dupP ps).length : Int))) := by
    rw [show (rs.length : Int) + (rs.length : Int) - 2 * ((dupP ps).length : Int) = 2 * ((rs.length : Int) - ((dupP ps).length : Int)) by omega, Int.mul_left_comm]
  rw [e1, e2]
  simp only [List.length_nil, Int.natCast_zero, Int.mul_zero]
  omega
end Xby

set_option Elab.async false
set_option linter.all false
set_option maxRecDepth 100000
set_option maxHeartbeats 4000000
/-! # tables told otherwise -/
namespace Xby
open PySem L2
def nxtC (c : Nat) : Nat := if c = 122 then 97 else c + 1
def otherW (s : Str) : Str := ⟨(s.cps.toList.map nxtC).toArray⟩
def otherV : V → V
  | .str s => .str (otherW s)
  | v => v
abbrev abc : Str := "abcdefghijklmnopqrstuvwxyz"
abbrev bcd : Str := "bcdefghijklmnopqrstuvwxyza"
theorem occ_fin : ∀ c : Fin 26, Builtin.Str.occurrences abc ⟨#[c.val + 97]⟩ 0 abc.length 1 = [c.val] := by decide +kernel
theorem bcd_fin : ∀ c : Fin 26, bcd.cps.toList[c.val]? = some (nxtC (c.val + 97)) := by decide +kernel
theorem occ_low {c : Nat} (h : lowC c = true) : Builtin.Str.occurrences abc ⟨#[c]⟩ 0 abc.length 1 = [c - 97] := by
  have h := of_decide_eq_true h
  have := occ_fin ⟨c - 97, by omega⟩
  rw [show ((⟨c - 97, by omega⟩ : Fin 26).val + 97) = c by show c - 97 + 97 = c; omega] at this
  exact this
theorem bcd_low {c : Nat} (h : lowC c = true) : atI bcd.cps.toList ((c - 97 : Nat) : Int) = some (nxtC c) := by
  have h := of_decide_eq_true h
  have := bcd_fin ⟨c - 97, by omega⟩
  rw [show ((⟨c - 97, by omega⟩ : Fin 26).val + 97) = c by show c - 97 + 97 = c; omega] at this
  exact atI_nat this
theorem glue_fold : ∀ (cs : List Nat) (a : Array Nat), List.foldl (fun acc (p : Str) => acc ++ ("" : Str).cps ++ p.cps) a (cs.map fun c => (⟨#[c]⟩ : Str)) = a ++ cs.toArray
  | [], a => by simp
  | c :: cs, a => by
    rw [List.map_cons, List.foldl_cons, glue_fold cs]
    have e : ("" : Str).cps = #[] := by decide +kernel
    rw [e]
    apply Array.ext'
    simp
theorem glue1 (cs : List Nat) : Txt.join "" (cs.map fun c => (⟨#[c]⟩ : Str)) = ⟨cs.toArray⟩ := by
  unfold Txt.join Builtin.Str.glued
  congr 1
  cases cs with
  | nil => rfl
  | cons c cs =>
    show List.foldl (fun acc (p : Str) => acc ++ ("" : Str).cps ++ p.cps) #[c] (cs.map fun c => (⟨#[c]⟩ : Str)) = _
    rw [glue_fold]
    apply Array.ext'
    simp
theorem nxt_low {c : Nat} (h : lowC c = true) : lowC (nxtC c) = true := by
  have h := of_decide_eq_true h
  unfold nxtC
  split <;> exact decide_eq_true (by omega)
theorem nxt_inj {c d : Nat} (h1 : lowC c = true) (h2 : lowC d = true) (e : nxtC c = nxtC d) : c = d := by
  have h1 := of_decide_eq_true h1
  have h2 := of_decide_eq_true h2
  unfold nxtC at e
  split at e <;> split at e <;> omega
theorem otherW_len (s : Str) : (otherW s).length = s.length := by
  show (s.cps.toList.map nxtC).toArray.size = s.cps.size
  rw [List.size_toArray, List.length_map, Array.length_toList]
theorem word_low {s : Str} (h : wordS s = true) : ∀ c ∈ s.cps.toList, lowC c = true := by
  unfold wordS at h
  rw [Bool.and_eq_true] at h
  exact List.all_eq_true.mp h.2
theorem word_len {s : Str} (h : wordS s = true) : 1 ≤ s.length ∧ s.length ≤ 8 := by
  unfold wordS at h
  rw [Bool.and_eq_true] at h
  exact of_decide_eq_true h.1
theorem otherW_word {s : Str} (h : wordS s = true) : wordS (otherW s) = true := by
  have l := word_len h
  unfold wordS
  rw [otherW_len, decide_eq_true l, Bool.true_and, List.all_eq_true]
  intro c hc
  have hc : c ∈ s.cps.toList.map nxtC := by simpa [otherW] using hc
  obtain ⟨d, hd, rfl⟩ := List.mem_map.mp hc
  exact nxt_low (word_low h d hd)
theorem map_inj_on {α β : Type} {f : α → β} : ∀ {xs ys : List α}, (∀ x ∈ xs, ∀ y ∈ ys, f x = f y → x = y) → xs.map f = ys.map f → xs = ys
  | [], [], _, _ => rfl
  | [], _ :: _, _, e => by simp at e
  | _ :: _, [], _, e => by simp at e
  | x :: xs, y :: ys, h, e => by
    rw [List.map_cons, List.map_cons, List.cons.injEq] at e
    rw [h x (by simp) y (by simp) e.1, map_inj_on (fun a ha b hb => h a (List.mem_cons_of_mem _ ha) b (List.mem_cons_of_mem _ hb)) e.2]
theorem otherW_inj {s t : Str} (h1 : wordS s = true) (h2 : wordS t = true) (e : otherW s = otherW t) : s = t := by
  have e : s.cps.toList.map nxtC = t.cps.toList.map nxtC := by
    have := congrArg (fun z : Str => z.cps.toList) e
    simpa [otherW] using this
  have := map_inj_on (fun x hx y hy e => nxt_inj (word_low h1 x hx) (word_low h2 y hy) e) e
  cases s
  cases t
  congr 1
  exact Array.ext' this
theorem cell_str {s : Str} (h : cellV (.str s) = true) : wordS s = true := by
  have := cellV_cell h
  have h : (false || false || wordD (.str s)) = true := this
  simpa [wordD] using h
theorem otherV_cell {v : V} (h : cellV v = true) : cellV (otherV v) = true := by
  cases v with
  | str s =>
    have hw := otherW_word (cell_str h)
    show (flatC (.str (otherW s)) && cellD (.str (otherW s))) = true
    rw [Bool.and_eq_true]
    refine ⟨rfl, ?_⟩
    show (false || false || wordS (otherW s)) = true
    rw [hw]
    rfl
  | _ => exact h
theorem otherV_inj {v w : V} (h1 : cellV v = true) (h2 : cellV w = true) : decide (otherV v = otherV w) = decide (v = w) := by
  refine decide_eq_decide.mpr ⟨fun e => ?_, fun e => by rw [e]⟩
  cases v with
  | str s =>
    cases w with
    | str t => rw [otherW_inj (cell_str h1) (cell_str h2) (V.str.inj e)]
    | _ => exact absurd e (by simp [otherV])
  | _ =>
    cases w with
    | str t => exact absurd e (by simp [otherV])
    | _ => exact e
theorem getD_map {α β : Type} (f : α → β) (xs : List α) (i : Nat) (a : α) (b : β) (h : i < xs.length) : (xs.map f).getD i b = f (xs.getD i a) := by
  rw [List.getD_eq_getElem?_getD, List.getD_eq_getElem?_getD, List.getElem?_map, List.getElem?_eq_getElem h]
  rfl
theorem getD_mem {α : Type} (xs : List α) (i : Nat) (a : α) (h : i < xs.length) : xs.getD i a ∈ xs := by
  rw [List.getD_eq_getElem?_getD, List.getElem?_eq_getElem h]
  exact List.getElem_mem h
theorem filter_on {α : Type} {p q : α → Bool} {l : List α} (h : ∀ x ∈ l, p x = q x) : l.filter p = l.filter q := List.filter_congr h
/-- all names and words exchanged for others: it costs the same -/
theorem cost_words {b : Bill} {hs ks : List Str} {rs qs : List (List V)} {cs ps : List (Int × Int)} (h1 : ∀ h ∈ hs, wordS h = true) (h2 : ∀ h ∈ ks, wordS h = true) (c1 : ∀ r ∈ rs, r.length = hs.length ∧ ∀ v ∈ r, cellV v = true) (c2 : ∀ r ∈ qs, r.length = ks.length ∧ ∀ v ∈ r, cellV v = true)
    (inc : InB hs.length ks.length cs) (inp : InB rs.length qs.length ps) :
    costN b (hs.map otherW) (ks.map otherW) (rs.map fun r => r.map otherV) (qs.map fun r => r.map otherV) cs ps = costN b hs ks rs qs cs ps := by
  have n : cs.filter (nmNe (hs.map otherW) (ks.map otherW)) = cs.filter (nmNe hs ks) := filter_on fun c hc => by
    obtain ⟨⟨a1, a2⟩, a3, a4⟩ := inc c hc
    unfold nmNe
    rw [getD_map otherW hs _ Str.empty _ (by omega), getD_map otherW ks _ Str.empty _ (by omega)]
    congr 1
    refine decide_eq_decide.mpr ⟨fun e => ?_, fun e => by rw [V.str.inj e]⟩
    rw [otherW_inj (h1 _ (getD_mem _ _ _ (by omega))) (h2 _ (getD_mem _ _ _ (by omega))) (V.str.inj e)]
  have u : unlS (rs.map fun r => r.map otherV) (qs.map fun r => r.map otherV) cs ps = unlS rs qs cs ps := by
    unfold unlS
    congr 1
    refine List.map_congr_left fun p hp => ?_
    obtain ⟨⟨a1, a2⟩, a3, a4⟩ := inp p hp
    rw [getD_map (fun r : List V => r.map otherV) rs _ [] _ (by omega), getD_map (fun r : List V => r.map otherV) qs _ [] _ (by omega)]
    have m1 := c1 _ (getD_mem rs p.1.toNat [] (by omega))
    have m2 := c2 _ (getD_mem qs p.2.toNat [] (by omega))
    generalize rs.getD p.1.toNat [] = r at m1
    generalize qs.getD p.2.toNat [] = q at m2
    unfold unl
    rw [filter_on (p := clNe (r.map otherV) (q.map otherV)) (q := clNe r q) fun c hc => ?_]
    obtain ⟨⟨b1, b2⟩, b3, b4⟩ := inc c hc
    unfold clNe
    rw [getD_map otherV r _ .non _ (by omega), getD_map otherV q _ .non _ (by omega), otherV_inj (m1.2 _ (getD_mem _ _ _ (by omega))) (m2.2 _ (getD_mem _ _ _ (by omega)))]
  unfold costN colN
  rw [n, u, List.length_map, List.length_map, List.length_map, List.length_map]
/-- all costs as many times as great -/
def timesB (t : Int) (b : Bill) : Bill := ⟨b.cell * t, b.row * t, b.column * t, b.name * t, b.move * t⟩
theorem cost_times (t : Int) (b : Bill) (hs ks : List Str) (rs qs : List (List V)) (cs ps : List (Int × Int)) : costN (timesB t b) hs ks rs qs cs ps = costN b hs ks rs qs cs ps * t := by
  unfold costN colN timesB
  simp only [Int.add_mul, Int.mul_assoc, Int.mul_comm t, Int.mul_left_comm t]
/-! ## rows in another sequence -/
/-- the first place of j in a list -/
def placeN (l : List Int) (j : Int) : Int := ((l.findIdx fun x => decide (x = j) : Nat) : Int)
def ledP (l : List Int) (ps : List (Int × Int)) : List (Int × Int) := ps.map fun p => (p.1, placeN l p.2)
theorem place_get {l : List Int} {j : Int} (h : j ∈ l) : l[l.findIdx fun x => decide (x = j)]? = some j ∧ (l.findIdx fun x => decide (x = j)) < l.length := by
  have lt : (l.findIdx fun x => decide (x = j)) < l.length := List.findIdx_lt_length.mpr ⟨j, h, decide_eq_true rfl⟩
  refine ⟨?_, lt⟩
  rw [List.getElem?_eq_getElem lt]
  have := List.findIdx_getElem (p := fun x => decide (x = j)) (w := lt)
  exact congrArg some (of_decide_eq_true this)
theorem place_inj {l : List Int} {i j : Int} (h1 : i ∈ l) (h2 : j ∈ l) (e : placeN l i = placeN l j) : i = j := by
  unfold placeN at e
  have e : (l.findIdx fun x => decide (x = i)) = l.findIdx fun x => decide (x = j) := by exact_mod_cast e
  have a := (place_get h1).1
  have b := (place_get h2).1
  rw [e, b] at a
  exact (Option.some.inj a).symm
theorem led_ok {l : List Int} {ps : List (Int × Int)} {m o : Nat} (pm : l.Perm ((List.range o).map fun i : Nat => (i : Int))) (ok : okPs ps = true) (inb : InB m o ps) : okPs (ledP l ps) = true ∧ InB m o (ledP l ps) := by
  have mem : ∀ p ∈ ps, p.2 ∈ l := fun p hp => pm.mem_iff.mpr (List.mem_map.mpr ⟨p.2.toNat, List.mem_range.mpr (by have := inb p hp; omega), by have := inb p hp; omega⟩)
  have ll : l.length = o := by have := pm.length_eq; rw [List.length_map, List.length_range] at this; exact this
  refine ⟨okPs_mk ?_ ?_, fun x hx => ?_⟩
  · have e : (ledP l ps).map (·.1) = ps.map (·.1) := by unfold ledP; rw [List.map_map]; rfl
    rw [e]
    exact okPs_fst ok
  · have e : (ledP l ps).map (·.2) = ps.map fun p => placeN l p.2 := by unfold ledP; rw [List.map_map]; rfl
    rw [e]
    have nd := okPs_snd ok
    rw [List.nodup_iff_pairwise_ne, List.pairwise_map] at nd ⊢
    refine nd.imp_of_mem fun {a b} ha hb h z => h (place_inj (mem a ha) (mem b hb) z)
  · obtain ⟨p, hp, rfl⟩ := List.mem_map.mp hx
    have g := (place_get (mem p hp)).2
    have := inb p hp
    exact ⟨this.1, by show 0 ≤ placeN l p.2; unfold placeN; omega, by show placeN l p.2 < (o : Int); unfold placeN; omega⟩
theorem cost_led {b : Bill} {hs ks : List Str} {rs qs : List (List V)} {cs ps : List (Int × Int)} {l : List Int} (pm : l.Perm ((List.range qs.length).map fun i : Nat => (i : Int))) (inp : InB rs.length qs.length ps) :
    costN b hs ks rs (l.map fun j => qs.getD j.toNat []) cs (ledP l ps) = costN b hs ks rs qs cs ps := by
  have ll : l.length = qs.length := by have := pm.length_eq; rw [List.length_map, List.length_range] at this; exact this
  have u : unlS rs (l.map fun j => qs.getD j.toNat []) cs (ledP l ps) = unlS rs qs cs ps := by
    unfold unlS ledP
    rw [List.map_map]
    congr 1
    refine List.map_congr_left fun p hp => ?_
    have m : p.2 ∈ l := pm.mem_iff.mpr (List.mem_map.mpr ⟨p.2.toNat, List.mem_range.mpr (by have := inp p hp; omega), by have := inp p hp; omega⟩)
    obtain ⟨g1, g2⟩ := place_get m
    show unl (rs.getD p.1.toNat []) ((l.map fun j => qs.getD j.toNat []).getD (placeN l p.2).toNat []) cs = _
    have e : (placeN l p.2).toNat = l.findIdx fun x => decide (x = p.2) := by unfold placeN; omega
    have e3 : (l.map fun j => qs.getD j.toNat []).getD (l.findIdx fun x => decide (x = p.2)) [] = qs.getD p.2.toNat [] := by
      rw [List.getD_eq_getElem?_getD, List.getElem?_map, g1]
      rfl
    rw [e, e3]
  have lp : (ledP l ps).length = ps.length := by unfold ledP; rw [List.length_map]
  unfold costN colN
  rw [u, lp, List.length_map, ll]
/-! ## a row more -/
theorem getD_left {α : Type} (xs ys : List α) (i : Nat) (a : α) (h : i < xs.length) : (xs ++ ys).getD i a = xs.getD i a := by
  rw [List.getD_eq_getElem?_getD, List.getD_eq_getElem?_getD, List.getElem?_append_left h]
theorem getD_last {α : Type} (xs : List α) (y a : α) : (xs ++ [y]).getD xs.length a = y := by
  rw [List.getD_eq_getElem?_getD, List.getElem?_append_right (Nat.le_refl _), Nat.sub_self]
  rfl
theorem unlS_more {rs qs rs' qs' : List (List V)} {cs ps : List (Int × Int)} (inp : InB rs.length qs.length ps) : unlS (rs ++ rs') (qs ++ qs') cs ps = unlS rs qs cs ps := by
  unfold unlS
  congr 1
  refine List.map_congr_left fun p hp => ?_
  have := inp p hp
  rw [getD_left _ _ _ _ (by omega), getD_left _ _ _ _ (by omega)]
theorem cost_longer {b : Bill} {hs ks : List Str} {rs qs : List (List V)} {cs ps : List (Int × Int)} (y : List V) (inp : InB rs.length qs.length ps) : costN b hs ks rs (qs ++ [y]) cs ps = costN b hs ks rs qs cs ps + b.row := by
  have u := unlS_more (rs' := []) (qs' := [y]) (cs := cs) inp
  rw [List.append_nil] at u
  unfold costN colN
  rw [u, List.length_append]
  have e : ((qs.length + [y].length : Nat) : Int) = qs.length + 1 := by simp
  rw [e, show (rs.length : Int) + ((qs.length : Int) + 1) - 2 * (ps.length : Int) = ((rs.length : Int) + (qs.length : Int) - 2 * (ps.length : Int)) + 1 by omega, Int.mul_add, Int.mul_one]
  omega
theorem cost_two {b : Bill} {hs ks : List Str} {rs qs : List (List V)} {cs ps : List (Int × Int)} (x y : List V) (inp : InB rs.length qs.length ps) : costN b hs ks (rs ++ [x]) (qs ++ [y]) cs ps = costN b hs ks rs qs cs ps + 2 * b.row := by
  have u := unlS_more (rs' := [x]) (qs' := [y]) (cs := cs) inp
  unfold costN colN
  rw [u, List.length_append, List.length_append]
  have e : ((qs.length + [y].length : Nat) : Int) = qs.length + 1 := by simp
  have e2 : ((rs.length + [x].length : Nat) : Int) = rs.length + 1 := by simp
  rw [e, e2, show ((rs.length : Int) + 1) + ((qs.length : Int) + 1) - 2 * (ps.length : Int) = ((rs.length : Int) + (qs.length : Int) - 2 * (ps.length : Int)) + 2 by omega, Int.mul_add, Int.mul_comm b.row 2]
  omega
theorem unl_nones (m o : Nat) {cs : List (Int × Int)} : unl (List.replicate m V.non) (List.replicate o V.non) cs = 0 := by
  have g : ∀ n i : Nat, (List.replicate n V.non).getD i .non = .non := fun n i => by
    rw [List.getD_eq_getElem?_getD, List.getElem?_replicate]
    split <;> rfl
  unfold unl
  have : cs.filter (clNe (List.replicate m V.non) (List.replicate o V.non)) = [] := by
    rw [List.filter_eq_nil_iff]
    intro c _
    unfold clNe
    rw [g, g]
    simp
  rw [this]
  rfl
theorem cost_paired {b : Bill} {hs ks : List Str} {rs qs : List (List V)} {cs ps : List (Int × Int)} (m o : Nat) (inp : InB rs.length qs.length ps) :
    costN b hs ks (rs ++ [List.replicate m V.non]) (qs ++ [List.replicate o V.non]) cs (ps ++ [((rs.length : Int), (qs.length : Int))]) = costN b hs ks rs qs cs ps := by
  have u : unlS (rs ++ [List.replicate m V.non]) (qs ++ [List.replicate o V.non]) cs (ps ++ [((rs.length : Int), (qs.length : Int))]) = unlS rs qs cs ps := by
    rw [← unlS_more (rs' := [List.replicate m V.non]) (qs' := [List.replicate o V.non]) (cs := cs) inp]
    unfold unlS
    rw [List.map_append, List.sum_append]
    have e : ([((rs.length : Int), (qs.length : Int))].map fun p => unl ((rs ++ [List.replicate m V.non]).getD p.1.toNat []) ((qs ++ [List.replicate o V.non]).getD p.2.toNat []) cs).sum = 0 := by
      rw [List.map_cons, List.map_nil, List.sum_cons, List.sum_nil]
      show unl ((rs ++ [List.replicate m V.non]).getD rs.length []) ((qs ++ [List.replicate o V.non]).getD qs.length []) cs + 0 = 0
      rw [getD_last, getD_last, unl_nones]
      rfl
    rw [e]
    omega
  unfold costN colN
  rw [u, List.length_append, List.length_append, List.length_append]
  have e : ∀ n : Nat, ((n + 1 : Nat) : Int) = (n : Int) + 1 := fun n => by omega
  show _ + b.row * (((rs.length + 1 : Nat) : Int) + ((qs.length + 1 : Nat) : Int) - 2 * ((ps.length + 1 : Nat) : Int)) + _ = _
  rw [e, e, e, show ((rs.length : Int) + 1) + ((qs.length : Int) + 1) - 2 * ((ps.length : Int) + 1) = (rs.length : Int) + (qs.length : Int) - 2 * (ps.length : Int) by omega]
theorem paired_ok {ps : List (Int × Int)} {m o : Nat} (ok : okPs ps = true) (inb : InB m o ps) : okPs (ps ++ [((m : Int), (o : Int))]) = true ∧ InB (m + 1) (o + 1) (ps ++ [((m : Int), (o : Int))]) := by
  refine ⟨okPs_mk ?_ ?_, fun x hx => ?_⟩
  · rw [List.map_append, List.pairwise_append]
    refine ⟨okPs_fst ok, by simp, fun x hx y hy => ?_⟩
    obtain ⟨q, hq, rfl⟩ := List.mem_map.mp hx
    obtain rfl : y = (m : Int) := by simpa using hy
    exact (inb q hq).1.2
  · rw [List.map_append, List.nodup_append]
    refine ⟨okPs_snd ok, by simp, fun x hx y hy => ?_⟩
    obtain ⟨q, hq, rfl⟩ := List.mem_map.mp hx
    obtain rfl : y = (o : Int) := by simpa using hy
    have := (inb q hq).2.2
    intro e
    omega
  · rcases List.mem_append.mp hx with hx | hx
    · have := inb x hx
      omega
    · obtain rfl : x = ((m : Int), (o : Int)) := by simpa using hx
      exact ⟨⟨by show (0 : Int) ≤ m; omega, by show (m : Int) < ((m + 1 : Nat) : Int); omega⟩, by show (0 : Int) ≤ o; omega, by show (o : Int) < ((o + 1 : Nat) : Int); omega⟩
end Xby

set_option Elab.async false
set_option linter.all false
set_option maxRecDepth 100000
set_option maxHeartbeats 8000000
namespace K49
open PySem L2 Xby
def lenAt (A0 : Addr) (_ : L2.St) (H : Hp) : Nat := match H A0 with
  | some (.lst l) => l.length
  | _ => 0
/-- a list with the same items, in a drawn sequence -/
def spMixed (K : PySem.W.Frag) : Sp := fun vs H Q _ => ∃ (p a : Addr) (ls : List V) (n : Nat), vs = [.ref p, .ref a] ∧ SqL K H a ls ∧ ls.length ≤ 12 ∧ n + 12 ≤ 1000000 ∧ Pot H p n ∧
  ∀ (B : Addr) (H' : Hp) (ms : List V), H' B = some (.lst ms) → ms.Perm ls → B ≠ p → Pot H' p (n + 12) → But p H H' → Q (.ref B) H'
/-- names: so many, unlike one another -/
def spNames : Sp := fun vs H Q _ => ∃ (p : Addr) (many n : Nat), vs = [.ref p, .int many] ∧ many ≤ 9 ∧ n + 6 ≤ 1000000 ∧ Pot H p n ∧
  ∀ a H' (hs : List Str), hs.length = many → hs.Nodup → (∀ h ∈ hs, wordS h = true) → H' a = some (.tup (hs.map V.str)) → Pot H' p (n + 6) → But p H H' → Q (.ref a) H'
def nameC (st : List Nat) (sp f k : Nat) : List Nat := st.take sp ++ [97 + (f + 3 * k) % 26] ++ st.drop sp
theorem nameC_word {st : List Nat} {sp f k : Nat} (h : ∀ c ∈ st, lowC c = true) (l : st.length ≤ 3) : wordS ⟨(nameC st sp f k).toArray⟩ = true := by
  unfold wordS
  rw [Bool.and_eq_true]
  constructor
  · refine decide_eq_true ?_
    have : (⟨(nameC st sp f k).toArray⟩ : Str).length = (nameC st sp f k).length := List.size_toArray ..
    rw [this]
    unfold nameC
    rw [List.length_append, List.length_append, List.length_take, List.length_drop, List.length_singleton]
    omega
  · rw [List.all_eq_true]
    intro c hc
    have hc : c ∈ nameC st sp f k := by simpa using hc
    unfold nameC at hc
    rcases List.mem_append.mp hc with hc | hc
    · rcases List.mem_append.mp hc with hc | hc
      · exact h c (List.mem_of_mem_take hc)
      · obtain rfl := List.mem_singleton.mp hc
        exact decide_eq_true (by omega)
    · exact h c (List.mem_of_mem_drop hc)
theorem nameC_inj {st : List Nat} {sp f k j : Nat} (hk : k < 9) (hj : j < 9) (e : nameC st sp f k = nameC st sp f j) : k = j := by
  unfold nameC at e
  have e := List.append_cancel_right e
  have e := List.append_cancel_left e
  injection e with e
  omega
theorem nameC_nodup {st : List Nat} {sp f m : Nat} (hm : m ≤ 9) : ((List.range m).map fun k => (⟨(nameC st sp f k).toArray⟩ : Str)).Nodup := by
  refine List.pairwise_map.mpr (List.Pairwise.imp_of_mem (R := fun a b : Nat => a ≠ b) (fun {a b} ha hb ne e => ne ?_) List.nodup_range)
  have e : nameC st sp f a = nameC st sp f b := congrArg (fun s : Str => s.cps.toList) e
  have := List.mem_range.mp ha
  have := List.mem_range.mp hb
  exact nameC_inj (by omega) (by omega) e
theorem abc_at : ∀ c : _root_.Fin 26, abc.cps.toList[c.val]? = some (97 + c.val) := by decide +kernel
theorem abc_low : ∀ c ∈ abc.cps.toList, lowC c = true := by decide +kernel
theorem abc_atI {f k : Nat} : atI abc.cps.toList ((((f : Int) + 3 * (k : Int)) % 26)) = some (97 + (f + 3 * k) % 26) := by
  have e : (((f : Int) + 3 * (k : Int)) % 26) = (((f + 3 * k) % 26 : Nat) : Int) := by omega
  rw [e]
  exact atI_nat (abc_at ⟨(f + 3 * k) % 26, Nat.mod_lt _ (by decide)⟩)
theorem cut_lo {st : List Nat} {sn : Nat} (h : sn ≤ st.length) : cutS ⟨st.toArray⟩ none (some (sn : Int)) = ⟨(st.take sn).toArray⟩ := by
  have ls : (⟨st.toArray⟩ : Str).length = st.length := List.size_toArray ..
  unfold cutS
  rw [ls, HT.sIx_none, HT.sIx_nat, Nat.min_eq_left h]
  rfl
theorem cut_hi {st : List Nat} {sn : Nat} (h : sn ≤ st.length) : cutS ⟨st.toArray⟩ (some (sn : Int)) none = ⟨(st.drop sn).toArray⟩ := by
  have ls : (⟨st.toArray⟩ : Str).length = st.length := List.size_toArray ..
  unfold cutS
  rw [ls, HT.sIx_none, HT.sIx_nat, Nat.min_eq_left h]
  have : (st.drop sn).take (st.length - sn) = st.drop sn := List.take_of_length_le (by rw [List.length_drop]; exact Nat.le_refl _)
  show (⟨((st.drop sn).take (st.length - sn)).toArray⟩ : Str) = _
  rw [this]
theorem str_app (a b : List Nat) : (⟨a.toArray⟩ : Str) ++ (⟨b.toArray⟩ : Str) = ⟨(a ++ b).toArray⟩ := by
  show (⟨a.toArray ++ b.toArray⟩ : Str) = _
  rw [List.append_toArray]
section
variable {P : Program} {w : World} {K : PySem.W.Frag} {mg : Str → Option Value} {base : Heap}
abbrev s_law_mixed : Stmt := top 38
theorem sc_law_mixed : FnScope ["_law_pot_here", "_law_items", "_law_left", "_law_found"] ["_law_pot_here", "_law_items"] (defScope s_law_mixed) := ⟨rfl, rfl, rfl, by decide +kernel, rfl, by decide +kernel, by decide +kernel⟩
theorem ok_mixed {f fD : Addr} {fd fdD : FuncData} (F : Fun K "_law_mixed" "_law_mixed" s_law_mixed f fd) (T : TxtH K mg)
    (c_law_draw : ∀ base, Ca P w K mg base CX0 "_law_draw" 1 ["_law_pot_here", "_law_many"] spDraw fD fdD) : FnOk P w K mg base CX0 2 f fd ["_law_pot_here", "_law_items"] (spMixed K) := by
  have c_law_draw := c_law_draw base
  refine F.ok sc_law_mixed (fun vs H Q E h => ?_) (fun cdv A outer s H vs Q E hr h => ⟨_, (pss_cons (ps_par (i := 2) (j := 3) (by rfl) sc_law_mixed.nd rfl rfl (by decide) rfl rfl (pa_cons (pe_callTy (call_listK K rfl) (by rfl) T.b_list (by decide +kernel) (pa_cons (pv 1) pa_nil)) (pa_cons (pe_lst pa_nil) pa_nil)) (by rfl))
    (pss_cons (ps_while PassesOwn.never (pt_cmpR (op_neNilK K rfl hr.units0) (pv 2) (pe_lst pa_nil) (nomark _)) (pss_one (ps_expr (pe_bm PySem.F.plainAttrs_list PySem.F.slot_list_append PySem.F.type_list_append mt_append (pv 3) (pa_cons (pe_bm PySem.F.plainAttrs_list PySem.F.slot_list_pop PySem.F.type_list_pop mt_popAt (pv 2) (pa_cons (pe_call c_law_draw.G (hr.mono (by first | decide | omega)) (by rfl) c_law_draw.g c_law_draw.k c_law_draw.B .nil pass0 (pa_cons (pv 0) (pa_cons (pe_callB (call_lenK K rfl) (by rfl) T.b_len (by decide +kernel) (pa_cons (pv 2) pa_nil)) pa_nil))) pa_nil)) pa_nil)))))
    (pss_one (ps_ret (pv 3))))), ?_⟩)
  · obtain ⟨_, _, _, _, rfl, _⟩ := h
    rfl
  obtain ⟨p, a, ls, n, rfl, ha, l6, hn, pot, k⟩ := h
  have sl : sizeLine = 16777216 := sizeLine_eq
  refine ⟨_, rfl, a, _, rfl, .inl ha, fun A0 nA => ⟨by show 0 ≤ sizeLine; decide, fun B0 nB => ⟨_, _, rfl, ?_⟩⟩⟩
  have hA : (upd (upd H A0 (.lst (ls))) B0 (.lst [])) A0 = some (.lst (ls)) := Same.one nB _ _ upd_same
  have hB : (upd (upd H A0 (.lst (ls))) B0 (.lst [])) B0 = some (.lst []) := upd_same
  have AB : A0 ≠ B0 := fun e => by rw [e] at nB; rw [upd_same] at nB; cases nB
  have nB0 : H B0 = none := by rw [upd_ne AB.symm] at nB; exact nB
  have Ap : A0 ≠ p := (pot.ne nA).symm
  have Bp : B0 ≠ p := (pot.ne nB0).symm
  have s1 := (Same.one (o := .lst (ls)) nA).trans (Same.one (o := .lst []) nB)
  have pot1 := pot.same s1
  show tSeq _ _ _ _ (upd (upd H A0 (.lst (ls))) B0 (.lst []))
  generalize upd (upd H A0 (.lst (ls))) B0 (.lst []) = H1 at hA hB s1 pot1 ⊢
  clear nB
  refine while_by (fun σ H' => σ = [some (.ref p), some (.ref a), some (.ref A0), some (.ref B0)] ∧ ∃ (l m : List V), H' A0 = some (.lst (l)) ∧ H' B0 = some (.lst (m)) ∧ (m ++ l).Perm ls ∧ Pot H' p (n + m.length) ∧ But p H H') (lenAt A0) ⟨rfl, ls, [], hA, hB, List.Perm.refl _, pot1, But.of s1⟩ ?_ ?_
  · rintro σ H2 ⟨rfl, l, m, hA2, hB2, pm, pot2, but2⟩
    have lm := pm.length_eq
    rw [List.length_append] at lm
    refine ⟨_, rfl, by show 0 ≤ sizeLine; decide, fun e0 ne0 => ⟨A0, e0, _, rfl, rfl, SqL.of (Same.one ne0 _ _ hA2), SqL.of upd_same, _, rfl, ?_⟩⟩
    have s3 := Same.one (o := .lst []) ne0
    have hA3 := s3 _ _ hA2
    have hB3 := s3 _ _ hB2
    have pot3 := pot2.same s3
    have but3 := but2.same s3
    have len2 : lenAt A0 [some (.ref p), some (.ref a), some (.ref A0), some (.ref B0)] H2 = l.length := by
      unfold lenAt
      rw [hA2]
    rw [len2]
    generalize upd H2 e0 (.lst []) = H3 at hA3 hB3 pot3 but3 ⊢
    refine ite2 (fun hne => ?_) (fun hne => ?_)
    · have lpos : 0 < l.length := by
        cases l with
        | nil => exact absurd hne (by simp)
        | cons x xs => exact Nat.succ_pos _
      refine ⟨_, rfl, .inl ⟨rfl, _, SqL.of hB3⟩, _, rfl, .inl ⟨rfl, _, SqL.of hA3⟩, _, rfl, _, rfl, _, _, rfl, .inl ⟨_, SqL.of hA3, rfl⟩, p, _, n + m.length, rfl, ⟨by omega, by omega⟩, by omega, pot3, fun r H4 r0 r1 pot4 but4 => ?_⟩
      have hA4 := but4 A0 _ Ap hA3
      have hB4 := but4 B0 _ Bp hB3
      have but4 := but3.trans but4
      have hr : r.toNat < l.length := by omega
      have gy : (l)[r.toNat]? = some l[r.toNat] := by simp [hr]
      have gi : seqIndex? r (l).length = some r.toNat := by
        unfold seqIndex?
        simp only [Int.not_lt.mpr r0, if_false]
        rw [if_pos (by simp; omega)]
      refine ⟨A0, _, r, r.toNat, _, rfl, rfl, hA4, by omega, by omega, gi, gy, ?_⟩
      have hA5 : (upd H4 A0 (.lst (l.eraseIdx r.toNat))) A0 = some (.lst (l.eraseIdx r.toNat)) := upd_same
      have hB5 : (upd H4 A0 (.lst (l.eraseIdx r.toNat))) B0 = some (.lst (m)) := by rw [upd_ne AB.symm]; exact hB4
      have pot5 := pot4.upd (o := .lst (l.eraseIdx r.toNat)) Ap.symm
      have but5 := but4.updN (o := .lst (l.eraseIdx r.toNat)) nA
      generalize upd H4 A0 (.lst (l.eraseIdx r.toNat)) = H5 at hA5 hB5 pot5 but5 ⊢
      have le := List.length_eraseIdx_of_lt hr
      have hA6 : (upd H5 B0 (.lst (m ++ [l[r.toNat]]))) A0 = some (.lst (l.eraseIdx r.toNat)) := by rw [upd_ne AB]; exact hA5
      refine ⟨B0, _, _, rfl, rfl, hB5, by omega, ⟨rfl, l.eraseIdx r.toNat, m ++ [l[r.toNat]], hA6, ?_, ?_, ?_, but5.updN nB0⟩, ?_⟩
      · rw [upd_same]
      · refine List.Perm.trans ?_ pm
        rw [List.append_assoc]
        exact List.Perm.append_left _ (Xby.erase_perm l r.toNat hr)
      · exact (pot5.upd Bp.symm).more (by rw [List.length_append]; show n + m.length + 1 ≤ n + (m.length + 1); omega)
      · unfold lenAt
        rw [hA6]
        show (l.eraseIdx r.toNat).length < l.length
        omega
    · have l0 : l = [] := by
        cases l with
        | nil => rfl
        | cons x xs => exact absurd rfl hne
      subst l0
      rw [List.append_nil] at pm
      exact ⟨_, rfl, k B0 H3 m hB3 pm Bp (pot3.more (by omega)) but3⟩
  · intro σ H Q Q' hq h
    obtain ⟨x, hx, hs, h⟩ := h
    refine ⟨x, hx, hs, fun e ne => ?_⟩
    obtain ⟨a, b, xs, e1, e2, e3, e4, b', e5, q⟩ := h e ne
    exact ⟨a, b, xs, e1, e2, e3, e4, b', e5, hq _ _ q⟩
abbrev s_law_names : Stmt := top 39
theorem sc_law_names : FnScope ["_law_pot_here", "_law_many", "_law_small", "_law_stem", "_law_turn", "_law_spot", "_law_first", "_law_k"] ["_law_pot_here", "_law_many"] (defScope s_law_names) := ⟨rfl, rfl, rfl, by decide +kernel, rfl, by decide +kernel, by decide +kernel⟩
theorem ok_names {f fD fA : Addr} {fd fdD fdA : FuncData} (F : Fun K "_law_names" "_law_names" s_law_names f fd) (T : TxtH K mg)
    (c_law_draw : ∀ base, Ca P w K mg base CX0 "_law_draw" 1 ["_law_pot_here", "_law_many"] spDraw fD fdD) (c_law_anyS : ∀ base, Ca P w K mg base CX0 "_law_any" 2 ["_law_pot_here", "_law_items"] spAnyS fA fdA) : FnOk P w K mg base CX0 3 f fd ["_law_pot_here", "_law_many"] spNames := by
  have c_law_draw := c_law_draw base
  have c_law_anyS := c_law_anyS base
  refine F.ok sc_law_names (fun vs H Q E h => ?_) (fun cdv A outer s H vs Q E hr h => ⟨_, (pss_cons (ps_set (i := 2) sc_law_names.nd rfl (Or.inr rfl) pe_str)
    (pss_cons (ps_set (i := 3) sc_law_names.nd rfl (Or.inr rfl) (pe_join pe_str (pe_lc (own := [("_law_turn", 4)]) (g := gName 4) (tt := tYes) rfl sc_law_names.nd (pi_range1 (by rfl) T.b_range (pa_cons (pe_call c_law_draw.G (hr.mono (by first | decide | omega)) (by rfl) c_law_draw.g c_law_draw.k c_law_draw.B .nil pass0 (pa_cons (pv 0) (pa_cons pe_int pa_nil))) pa_nil)) (blkOk_by (N := ["_law_pot_here", "_law_many", "_law_small", "_law_stem", "_law_turn", "_law_spot", "_law_first", "_law_k"]) (sc := defScope s_law_names) (by decide +kernel)) (fun _ _ _ _ _ => (pg_name (i := 4) sc_law_names.nd rfl (Or.inl rfl))) (fun _ _ _ _ _ => pts_nil) (fun _ _ _ _ _ => (pe_call c_law_anyS.G (hr.mono (by first | decide | omega)) (by rfl) c_law_anyS.g c_law_anyS.k c_law_anyS.B .nil pass0 (pa_cons (pv 0) (pa_cons (pv 2) pa_nil)))))))
    (pss_cons (ps_asg (pe_tup (pa_cons (pe_call c_law_draw.G (hr.mono (by first | decide | omega)) (by rfl) c_law_draw.g c_law_draw.k c_law_draw.B .nil pass0 (pa_cons (pv 0) (pa_cons (pe_op op_add (pe_callB (call_lenK K rfl) (by rfl) T.b_len (by decide +kernel) (pa_cons (pv 3) pa_nil)) pe_int) pa_nil))) (pa_cons (pe_call c_law_draw.G (hr.mono (by first | decide | omega)) (by rfl) c_law_draw.g c_law_draw.k c_law_draw.B .nil pass0 (pa_cons (pv 0) (pa_cons pe_int pa_nil))) pa_nil))) (pg_tupK K rfl rfl (pgs_cons (pg_name (i := 5) sc_law_names.nd rfl (Or.inr rfl)) (pgs_cons (pg_name (i := 6) sc_law_names.nd rfl (Or.inr rfl)) pgs_nil))))
    (pss_one (ps_ret (pe_callTy (call_tupleK K rfl) (by rfl) T.b_tuple (by decide +kernel) (pa_cons (pe_lc (own := [("_law_k", 7)]) (g := gName 7) (tt := tYes) rfl sc_law_names.nd (pi_range1 (by rfl) T.b_range (pa_cons (pv 1) pa_nil)) (blkOk_by (N := ["_law_pot_here", "_law_many", "_law_small", "_law_stem", "_law_turn", "_law_spot", "_law_first", "_law_k"]) (sc := defScope s_law_names) (by decide +kernel)) (fun _ _ _ _ _ => (pg_name (i := 7) sc_law_names.nd rfl (Or.inl rfl))) (fun _ _ _ _ _ => pts_nil) (fun _ _ _ _ _ => (pe_op op_add_str (pe_op op_add_str (pe_slice sl_str (pv 3) po_none (po_some (pv 5))) (pe_ix ix_str (pv 2) (pe_op op_mod (pe_callTy call_int1 (by rfl) T.b_int (by decide +kernel) (pa_cons (pe_op op_add (pv 6) (pe_op op_mul pe_int (pv 7))) pa_nil)) pe_int) (fun _ _ => rfl))) (pe_slice sl_str (pv 3) (po_some (pv 5)) po_none)))) pa_nil))))))), ?_⟩)
  · obtain ⟨_, _, _, rfl, _⟩ := h
    rfl
  obtain ⟨p, many, n, rfl, hm, hn, pot, k⟩ := h
  have sl : sizeLine = 16777216 := sizeLine_eq
  have small : (abc : Str).length = 26 := by decide +kernel
  refine ⟨⟨_, rfl⟩, _, rfl, p, 4, n, rfl, ⟨by decide, by decide⟩, by omega, pot, fun r4 H1 r0 r1 pot1 but1 => ⟨r4, rfl, by omega, by omega, fun D nD => lc_range (lo := 0) (n := r4.toNat) (fun j H' => ∃ cs : List Nat, H' D = some (.lst (cs.map fun c => V.str ⟨#[c]⟩)) ∧ cs.length = j ∧ (∀ c ∈ cs, lowC c = true) ∧ Pot H' p (n + 1 + j) ∧ But p H1 H')
    ⟨[], upd_same, rfl, by simp, pot1.new nD, But.of (Same.one nD)⟩ ?_ ?_⟩⟩
  · rintro j H2 hj ⟨cs, hD, lc, low, pot2, but2⟩
    have Dp : D ≠ p := (pot1.ne nD).symm
    refine ⟨rfl, _, rfl, _, rfl, p, abc, n + 1 + j, rfl, ⟨by omega, by omega⟩, by omega, pot2, fun c H3 hc pot3 but3 => ⟨_, but3 D _ Dp hD, by rw [List.length_map]; omega, cs ++ [c], ?_, by rw [List.length_append, lc]; rfl, fun d hd => ?_, (pot3.more (by omega)).upd Dp.symm, (but2.trans but3).updN nD⟩⟩
    · rw [upd_same, List.map_append]
      rfl
    · rcases List.mem_append.mp hd with hd | hd
      · exact low d hd
      · obtain rfl := List.mem_singleton.mp hd
        exact abc_low _ hc
  rintro H2 ⟨st, hD, lst, low, pot2, but2⟩
  have l3 : st.length ≤ 3 := by omega
  have e1 : (st.map fun c => V.str ⟨#[c]⟩) = (st.map fun c => (⟨#[c]⟩ : Str)).map V.str := by
    rw [List.map_map]
    rfl
  rw [e1] at hD
  refine ⟨"", D, _, rfl, rfl, .inl (SqL.of hD), ?_, ?_⟩
  · have e2 : ∀ l : List Nat, ((l.map fun c => (⟨#[c]⟩ : Str)).map (·.length)).sum = l.length := fun l => by
      induction l with
      | nil => rfl
      | cons c l ih => rw [List.map_cons, List.map_cons, List.sum_cons, ih, List.length_cons, Nat.add_comm]; rfl
    have e3 : ("" : Str).length = 0 := by decide +kernel
    rw [e2, e3]
    omega
  rw [glue1]
  have ls : (⟨st.toArray⟩ : Str).length = st.length := List.size_toArray ..
  have pot3 := pot2
  refine ⟨_, rfl, _, rfl, _, _, rfl, ⟨by omega, rfl⟩, _, _, rfl, rfl, p, _, n + 1 + r4.toNat, rfl, ⟨by omega, by omega⟩, by omega, pot2, fun s H3 s0 s1 pot3 but3 => ⟨_, rfl, p, 26, n + 1 + r4.toNat + 1, rfl, ⟨by decide, by decide⟩, by omega, pot3, fun f H4 f0 f1 pot4 but4 => ⟨by show 2 ≤ sizeLine; decide, fun t nt => ⟨t, _, rfl, SqT.of upd_same, rfl, _, _, rfl, _, _, rfl, rfl, ?_⟩⟩⟩⟩
  obtain ⟨sn, rfl⟩ := Int.eq_ofNat_of_zero_le s0
  obtain ⟨fn, rfl⟩ := Int.eq_ofNat_of_zero_le f0
  have pot5 := pot4.same (Same.one (o := .tup [.int (sn : Int), .int (fn : Int)]) nt)
  have but5 := (((but1.trans but2).trans but3).trans but4).new (o := .tup [.int (sn : Int), .int (fn : Int)]) nt
  generalize upd H4 t (.tup [.int (sn : Int), .int (fn : Int)]) = H5 at pot5 but5 ⊢
  have sle : sn ≤ st.length := by omega
  refine ⟨_, rfl, _, rfl, by omega, by omega, fun D5 nD5 => lc_range (lo := 0) (n := (many : Int).toNat) (fun j H' => H' = upd H5 D5 (.lst (((List.range j).map fun k => (⟨(nameC st sn fn k).toArray⟩ : Str)).map V.str))) rfl ?_ ?_⟩
  · rintro j H6 hj rfl
    refine ⟨rfl, _, rfl, _, rfl, _, rfl, _, rfl, by omega, _, rfl, _, rfl, _, rfl, _, _, rfl, rfl, .inl ⟨by decide, by decide⟩, _, _, rfl, rfl, .inl ⟨_, rfl, _, _, rfl, rfl, (show (0 : Int) < 26 by decide), ?_⟩⟩
    rw [cut_lo sle]
    have l1 : (⟨(st.take sn).toArray⟩ : Str).length ≤ 3 := by
      show (st.take sn).toArray.size ≤ 3
      rw [List.size_toArray, List.length_take]
      omega
    have l2 : ∀ c : Nat, (⟨#[c]⟩ : Str).length = 1 := fun _ => rfl
    have e0 : (⟨(st.take sn).toArray⟩ : Str) ++ (⟨#[97 + (fn + 3 * j) % 26]⟩ : Str) = ⟨(st.take sn ++ [97 + (fn + 3 * j) % 26]).toArray⟩ := str_app _ [97 + (fn + 3 * j) % 26]
    refine ⟨abc, _, 97 + (fn + 3 * j) % 26, rfl, rfl, by omega, (by rw [Int.zero_add]; exact abc_atI), _, _, rfl, rfl, by rw [l2]; omega, ?_⟩
    rw [e0]
    have l3' : (⟨(st.take sn ++ [97 + (fn + 3 * j) % 26]).toArray⟩ : Str).length ≤ 4 := by
      show (st.take sn ++ [97 + (fn + 3 * j) % 26]).toArray.size ≤ 4
      rw [List.size_toArray, List.length_append, List.length_take, List.length_singleton]
      omega
    refine ⟨_, rfl, _, rfl, _, rfl, _, rfl, by omega, _, _, rfl, rfl, ?_, _, upd_same, by rw [List.length_map, List.length_map, List.length_range]; omega, ?_⟩
    · have : (cutS ⟨st.toArray⟩ (some (sn : Int)) none).length ≤ (⟨st.toArray⟩ : Str).length := cutS_length ..
      omega
    · rw [upd_upd, cut_hi sle, str_app, List.range_succ, List.map_append, List.map_append]
      rfl
  · rintro H6 rfl
    refine ⟨D5, _, rfl, .inl ⟨SqL.of upd_same, fun l nl => k l _ _ ?_ ?_ ?_ upd_same (((pot5.new nD5).new nl).more (by omega)) ((but5.new nD5).new nl)⟩⟩
    · rw [List.length_map, List.length_range]
      omega
    · exact nameC_nodup (by omega)
    · intro h hh
      obtain ⟨kk, _, rfl⟩ := List.mem_map.mp hh
      exact nameC_word low l3
end
end K49

set_option Elab.async false
set_option linter.all false
set_option maxRecDepth 100000
set_option maxHeartbeats 8000000
namespace K49
open PySem L2 Xby
def cells10 : List V := [.int 0, .int 1, .int 1, .int 2, .int 2, .int (-3), .str "a", .str "b", .str "bb", .non]
theorem cells_cell : ∀ v ∈ cells10, cellV v = true := by decide +kernel
def spACell : Sp := fun vs H Q _ => ∃ (p : Addr) (n : Nat), vs = [.ref p] ∧ n + 1 ≤ 1000000 ∧ Pot H p n ∧ ∀ v H', v ∈ cells10 → Pot H' p (n + 1) → But p H H' → Q v H'
def spTable (K : PySem.W.Frag) (C : Addr) : Sp := fun vs H Q _ => ∃ (p : Addr) (wide tall n : Nat), vs = [.ref p, .int wide, .int tall] ∧ (1 ≤ wide ∧ wide ≤ 3) ∧ tall ≤ 6 ∧ n + 40 ≤ 1000000 ∧ Pot H p n ∧
  ∀ a H' hs rs, IsTab K C H' a hs rs → hs.length ≤ wide → rs.length ≤ tall → Pot H' p (n + 40) → But p H H' → Q (.ref a) H'
theorem mk_at {K : PySem.W.Frag} {C EK ER EW EM ah ar x dx : Addr} {H : Hp} {hs : List Str} {xs : List V} {rs : List (List V)} {R : Hp → Prop} {E : XK} (h1 : SqT K H ah (hs.map V.str)) (h2 : SqT K H ar xs) (rows : RowsK K H hs.length xs rs) (w1 : 1 ≤ hs.length) (w3 : hs.length ≤ 3)
    (hw : ∀ h ∈ hs, wordS h = true) (nd : hs.Nodup) (r6 : rs.length ≤ 6) (nx : H x = none) (ndx : H dx = none) (ne : dx ≠ x) (k : ∀ H', Same H H' → IsTab K C H' x hs rs → R H') :
    spInit K C EK ER EW EM [.ref x, .ref ah, .ref ar] (upd (upd H dx (.own x)) x (.ins C dx [])) (fun v H2 => v = .non ∧ R H2) E := by
  have s5 : Same H (upd (upd H dx (.own x)) x (.ins C dx [])) := Same.upd (Same.one ndx) (by rw [upd_ne ne.symm]; exact nx)
  obtain ⟨xs', two, none⟩ := tab_two (K := K) (H := upd (upd H dx (.own x)) x (.ins C dx [])) (h1.ext s5) (h2.ext s5) (rows.same s5) w1 w3 hw nd r6
  refine ⟨x, dx, _, _, _, _, xs', rfl, upd_same, two, raised_none none, fun _ H6 bt hx6 => ⟨rfl, ?_⟩⟩
  have s6 : Same H H6 := fun b o e => bt b o (ne_of_none e nx) (s5 b o e)
  exact k H6 s6 ⟨dx, ah, ar, xs, hx6, h1.ext s6, h2.ext s6, rows.same s6, w1, w3, hw, nd, r6⟩
theorem tupBut {H H' : Hp} {n : Nat} {p a : Addr} {xs : List V} (e : H a = some (.tup xs)) (pot : Pot H p n) (b : But p H H') : H' a = some (.tup xs) := by
  refine b _ _ ?_ e
  rintro rfl
  obtain ⟨_, _, _, q, _⟩ := pot
  rw [e] at q
  cases q
section
variable {P : Program} {w : World} {K : PySem.W.Frag} {mg : Str → Option Value} {base : Heap}
abbrev s_law_cell : Stmt := top 40
theorem sc_law_cell : FnScope ["_law_pot_here"] ["_law_pot_here"] (defScope s_law_cell) := ⟨rfl, rfl, rfl, by decide +kernel, rfl, by decide +kernel, by decide +kernel⟩
theorem ok_acell {f fA : Addr} {fd fdA : FuncData} (F : Fun K "_law_cell" "_law_cell" s_law_cell f fd) (T : TxtH K mg)
    (c_law_any : ∀ base, Ca P w K mg base CX0 "_law_any" 2 ["_law_pot_here", "_law_items"] spAny fA fdA) : FnOk P w K mg base CX0 3 f fd ["_law_pot_here"] spACell := by
  have c_law_any := c_law_any base
  refine F.ok sc_law_cell (fun vs H Q E h => ?_) (fun cdv A outer s H vs Q E hr h => ⟨_, (pss_one (ps_ret (pe_call c_law_any.G (hr.mono (by first | decide | omega)) (by rfl) c_law_any.g c_law_any.k c_law_any.B .nil pass0 (pa_cons (pv 0) (pa_cons (pe_lst (pa_cons pe_int (pa_cons pe_int (pa_cons pe_int (pa_cons pe_int (pa_cons pe_int (pa_cons (pe_un un_neg pe_int) (pa_cons pe_str (pa_cons pe_str (pa_cons pe_str (pa_cons pe_non pa_nil))))))))))) pa_nil))))), ?_⟩)
  · obtain ⟨_, _, rfl, _⟩ := h
    rfl
  obtain ⟨p, n, rfl, hn, pot, k⟩ := h
  refine ⟨_, rfl, _, rfl, by show 10 ≤ sizeLine; decide, fun l nl => ⟨p, l, _, n, rfl, upd_same, (pot.ne nl).symm, ⟨by decide, by decide⟩, by omega, pot.new nl, fun x H' hx pot' but' => ?_⟩⟩
  exact k x H' hx pot' ((But.of (Same.one nl)).trans but')
abbrev s_law_table : Stmt := top 41
theorem sc_law_table : FnScope ["_law_pot_here", "_law_wide", "_law_high", "_law_words", "_law_rows", "_law_word", "_law_turn"] ["_law_pot_here", "_law_wide", "_law_high"] (defScope s_law_table) := ⟨rfl, rfl, rfl, by decide +kernel, rfl, by decide +kernel, by decide +kernel⟩
theorem ok_table {f fD fN fC fI : Addr} {fd fdD fdN fdC fdI : FuncData} (F : Fun K "_law_table" "_law_table" s_law_table f fd) (T : TxtH K mg) (M : Mk K T.C fI)
    (c_law_draw : ∀ base, Ca P w K mg base CX0 "_law_draw" 1 ["_law_pot_here", "_law_many"] spDraw fD fdD) (c_law_names : ∀ base, Ca P w K mg base CX0 "_law_names" 3 ["_law_pot_here", "_law_many"] spNames fN fdN) (c_law_cell : ∀ base, Ca P w K mg base CX0 "_law_cell" 3 ["_law_pot_here"] spACell fC fdC)
    (G : ∀ base, FnOk P w K mg base (L2.CX P w) 5 fI fdI ["self", "columns", "rows"] (spInit K T.C T.EK T.ER T.EW T.EM)) (hb : Binds K fdI ["self", "columns", "rows"] []) : FnOk P w K mg base CX0 7 f fd ["_law_pot_here", "_law_wide", "_law_high"] (spTable K T.C) := by
  have c_law_draw := c_law_draw base
  have c_law_names := c_law_names base
  have c_law_cell := c_law_cell base
  have G := G base
  refine F.ok sc_law_table (fun vs H Q E h => ?_) (fun cdv A outer s H vs Q E hr h => ⟨_, (pss_cons (ps_set (i := 3) sc_law_table.nd rfl (Or.inr rfl) (pe_call c_law_names.G (hr.mono (by first | decide | omega)) (by rfl) c_law_names.g c_law_names.k c_law_names.B .nil pass0 (pa_cons (pv 0) (pa_cons (pe_op op_add pe_int (pe_call c_law_draw.G (hr.mono (by first | decide | omega)) (by rfl) c_law_draw.g c_law_draw.k c_law_draw.B .nil pass0 (pa_cons (pv 0) (pa_cons (pv 1) pa_nil)))) pa_nil))))
    (pss_cons (ps_setLc (i := 4) (own := [("_law_turn", 6)]) (g := gName 6) (tt := tYes) rfl sc_law_table.nd rfl rfl (sw_true rfl rfl rfl (by decide +kernel)) (pi_range1 (by rfl) T.b_range (pa_cons (pe_call c_law_draw.G (hr.mono (by first | decide | omega)) (by rfl) c_law_draw.g c_law_draw.k c_law_draw.B .nil pass0 (pa_cons (pv 0) (pa_cons (pe_op op_add (pv 2) pe_int) pa_nil))) pa_nil)) (blkOk_by (N := ["_law_pot_here", "_law_wide", "_law_high", "_law_words", "_law_rows", "_law_word", "_law_turn"]) (sc := defScope s_law_table) (by decide +kernel)) (fun _ _ _ _ _ => (pg_name (i := 6) sc_law_table.nd rfl (Or.inl rfl))) (fun _ _ _ _ _ => pts_nil) (fun _ _ _ _ _ => (pe_callTy (call_tupleK K rfl) (by rfl) T.b_tuple (by decide +kernel) (pa_cons (pe_lc (own := [("_law_word", 5)]) (g := gName 5) (tt := tYes) rfl sc_law_table.nd (pi_tupK K rfl (pv 3)) (blkOk_by (N := ["_law_pot_here", "_law_wide", "_law_high", "_law_words", "_law_rows", "_law_word", "_law_turn"]) (sc := { kind := .function, names := [(".0", .local), ("_law_turn", .local), ("tuple", .globalImplicit), ("_law_pot_here", .cell), ("_law_words", .cell)], isGenerator := false, isCoroutine := false }) (by decide +kernel)) (fun _ _ _ _ _ => (pg_name (i := 5) sc_law_table.nd rfl (Or.inl rfl))) (fun _ _ _ _ _ => pts_nil) (fun _ _ _ _ _ => (pe_call c_law_cell.G (hr.mono (by first | decide | omega)) (by rfl) c_law_cell.g c_law_cell.k c_law_cell.B .nil pass0 (pa_cons (pv 0) pa_nil)))) pa_nil))))
    (pss_one (ps_ret (pe_make M G (hr.mono (by decide)) (by rfl) T.g_Table hb .nil passL (pa_cons (pv 3) (pa_cons (pe_callTy (call_tupleK K rfl) (by rfl) T.b_tuple (by decide +kernel) (pa_cons (pv 4) pa_nil)) pa_nil))))))), ?_⟩)
  · obtain ⟨_, _, _, _, rfl, _⟩ := h
    rfl
  obtain ⟨p, wide, tall, n, rfl, ⟨w1, w3⟩, ht, hn, pot, kk⟩ := h
  refine ⟨_, rfl, _, rfl, _, rfl, p, wide, n, rfl, ⟨by omega, by omega⟩, by omega, pot, fun d H1 d0 d3 pot1 but1 => ?_⟩
  obtain ⟨m', rfl⟩ := Int.eq_ofNat_of_zero_le d0
  refine ⟨_, _, rfl, rfl, p, 1 + m', n + 1, by simp, by omega, by omega, pot1, fun ah H2 hs lh nd hw hh pot2 but2 => ?_⟩
  have sl : sizeLine = 16777216 := sizeLine_eq
  refine ⟨_, rfl, _, rfl, _, _, rfl, rfl, p, tall + 1, n + 7, rfl, ⟨by omega, by omega⟩, by omega, pot2, fun t H3 t0 t6 pot3 but3 => ⟨t, rfl, by omega, by omega, fun B nB => lc_range (lo := 0) (n := t.toNat) (fun i H' => ∃ (xs : List V) (rs : List (List V)), H' B = some (.lst xs) ∧ RowsK K H' hs.length xs rs ∧ rs.length = i ∧ Pot H' p (n + 8 + 3 * i) ∧ But p H3 H')
    ⟨[], [], upd_same, .nil, rfl, pot3.new nB, But.of (Same.one nB)⟩ ?_ ?_⟩⟩
  · rintro i H4 hi ⟨xs, rs, hB, rows, lr, pot4, but4⟩
    have Bp : B ≠ p := (pot3.ne nB).symm
    have hh4 := tupBut (tupBut hh pot2 but3) pot3 but4
    have lx := rows.len
    refine ⟨rfl, _, rfl, ah, rfl, ⟨_, SqT.of hh4⟩, fun D nD => lc_tup (K := K) (a := ah) (xs := hs.map V.str) (fun j H' => ∃ acc : List V, H' D = some (.lst acc) ∧ acc.length = j ∧ (∀ v ∈ acc, v ∈ cells10) ∧ Pot H' p (n + 8 + 3 * i + j) ∧ But p H4 H')
      ⟨[], upd_same, rfl, by simp, pot4.new nD, But.of (Same.one nD)⟩ (fun j H' _ ⟨_, _, _, _, _, b⟩ => SqT.of (tupBut hh4 pot4 b)) ?_ ?_⟩
    · rintro j x H5 hx ⟨acc, hD, la, hc, pot5, but5⟩
      have Dp : D ≠ p := (pot4.ne nD).symm
      have hj := (List.getElem?_eq_some_iff.mp hx).1
      rw [List.length_map] at hj
      refine ⟨rfl, _, rfl, p, n + 8 + 3 * i + j, rfl, by omega, pot5, fun v H6 hv pot6 but6 => ⟨acc, but6 D _ Dp hD, by omega, acc ++ [v], upd_same, by simp [la], fun u hu => ?_, (pot6.more (by omega)).upd Dp.symm, (but5.trans but6).updN nD⟩⟩
      rcases List.mem_append.mp hu with hu | hu
      · exact hc u hu
      · obtain rfl : u = v := by simpa using hu
        exact hv
    rintro H5 ⟨acc, hD, la, hc, pot5, but5⟩
    rw [List.length_map] at la pot5
    refine ⟨D, acc, rfl, .inl ⟨SqL.of hD, fun l nl => ?_⟩⟩
    have hB5 := but5 B _ Bp hB
    have hB6 := Same.one (o := .tup acc) nl _ _ hB5
    refine ⟨xs, hB6, by omega, xs ++ [.ref l], rs ++ [acc], upd_same, ?_, by simp [lr], ((pot5.new nl).upd Bp.symm).more (by omega), ((but4.trans but5).new nl).updN nB⟩
    exact (((rows.but pot4 but5).same (Same.one nl)).snoc (SqT.of upd_same) (by omega) (fun v hv => cells_cell v (hc v hv))).butL hB6 But.upd1
  rintro H4 ⟨xs, rs, hB, rows, lr, pot4, but4⟩
  have hh4 := tupBut (tupBut hh pot2 but3) pot3 but4
  refine ⟨_, rfl, _, rfl, B, xs, rfl, .inl ⟨SqL.of hB, fun l nl => ?_⟩⟩
  have s1 := Same.one (o := .tup xs) nl
  refine fun x dx nx ndx ne => mk_at ((SqT.of hh4).ext s1) (SqT.of upd_same) (rows.same s1) (by omega) (by omega) hw nd (by omega) nx ndx ne fun H' s2 ht => ?_
  exact kk x H' hs rs ht (by omega) (by omega) (((pot4.same s1).same s2).more (by omega)) (((((but1.trans but2).trans but3).trans but4).same s1).same s2)
end
end K49

set_option Elab.async false
set_option linter.all false
set_option maxRecDepth 100000
set_option maxHeartbeats 4000000
namespace Xby
open PySem PySem.Spec PyProof.Rows L2
section
variable {X : Cx}
/-- xs == [] -/
def rEqNil (K : PySem.W.Frag) : R2 := fun x y H Q => ∃ a b xs, x = .ref a ∧ y = .ref b ∧ SqL K H a xs ∧ SqL K H b [] ∧ Q (.bl xs.isEmpty) H
theorem op_eqNilK (K : PySem.W.Frag) (hK : X.K = K) (hu : X.A.units < cLine) : OpR X (compareOp .Eq) (rEqNil K) := by
  subst hK
  rintro pins s σ H x y v u Q I rx ry ⟨a, b, xs, rfl, rfl, ha, hb, q⟩
  obtain rfl : v = Value.ref a := rx
  obtain rfl : u = Value.ref b := ry
  obtain ⟨its, rv, p, _⟩ := I.list ha
  obtain ⟨its2, rv2, p2, _⟩ := I.list hb
  cases rv2
  have l := rv.length
  unfold compareOp
  cases xs with
  | nil =>
    cases rv
    refine SeqAt.RcAt.lists p.isList p2.isList rfl hu (e := fun _ => true) (fun j h1 => absurd h1 (by simp)) _ _ _ _ ?_
    exact ⟨.bl true, H, I, rfl, q⟩
  | cons z zs =>
    refine SeqAt.RcAt.lists_lengths p.isList p2.isList ?_ hu _ _ _ _ ⟨.bl false, H, I, rfl, q⟩
    have : its.length ≠ 0 := by rw [← l]; simp
    simpa using this
end
end Xby

set_option Elab.async false
set_option linter.all false
set_option maxRecDepth 100000
set_option maxHeartbeats 8000000
namespace K49
open PySem L2 Xby
/-- places of a table of m columns, each at most once, or none -/
structure Pls (m : Nat) (os : List (Option Int)) : Prop where
  i : ∀ x, some x ∈ os → 0 ≤ x ∧ x < (m : Int)
  n : (os.filterMap id).Nodup
theorem nd_inj {hs : List Str} (h : hs.Nodup) {i j : Nat} (hi : i < hs.length) (hj : j < hs.length) (e : hs[i] = hs[j]) : i = j := by
  have p := List.pairwise_iff_getElem.mp h
  rcases Nat.lt_trichotomy i j with lt | eq | lt
  · exact absurd e (p i j hi hj lt)
  · exact eq
  · exact absurd e.symm (p j i hj hi lt)
theorem perm_pre {α β : Type} (f : α → β) : ∀ {l : List α} {ms : List β}, ms.Perm (l.map f) → ∃ l' : List α, ms = l'.map f ∧ l'.Perm l
  | [], ms, h => ⟨[], List.Perm.eq_nil h, List.Perm.refl _⟩
  | x :: l, ms, h => by
    have hx : f x ∈ ms := h.symm.subset (by simp)
    obtain ⟨s, t, rfl⟩ := List.append_of_mem hx
    have h2 : (s ++ t).Perm (l.map f) := List.Perm.cons_inv (List.perm_middle.symm.trans h)
    obtain ⟨l', e, pm⟩ := perm_pre f h2
    obtain ⟨l1, l2, rfl, rfl, rfl⟩ := List.map_eq_append_iff.mp e.symm
    exact ⟨l1 ++ x :: l2, by simp, List.perm_middle.trans (pm.cons x)⟩
theorem Pls.perm {m : Nat} {os os' : List (Option Int)} (h : Pls m os) (p : os'.Perm os) : Pls m os' := ⟨fun x hx => h.i x (p.subset hx), (p.filterMap id).nodup_iff.mpr h.n⟩
theorem Pls.none {m : Nat} {os : List (Option Int)} (h : Pls m os) : Pls m (os ++ [none]) := ⟨fun x hx => h.i x (by simpa using hx), by rw [List.filterMap_append]; simpa using h.n⟩
theorem Pls.fresh {m : Nat} {os : List (Option Int)} (h : Pls m os) {i : Nat} {x : Int} (hi : os[i]? = some (some x)) : some x ∉ os.take i := fun hx => by
  obtain ⟨lt, e⟩ := List.getElem?_eq_some_iff.mp hi
  have e2 : os = os.take i ++ some x :: os.drop (i + 1) := by
    rw [← e, List.getElem_cons_drop, List.take_append_drop]
  have n := h.n
  rw [e2, List.filterMap_append] at n
  have d := (List.nodup_append.mp n).2.2
  exact d x (List.mem_filterMap.mpr ⟨some x, hx, rfl⟩) x (by simp) rfl
/-- the words so far, and the spare ones -/
structure Wds (hs : List Str) (os : List (Option Int)) (i : Nat) (ws sp : List Str) : Prop where
  len : ws.length = i
  nd : ws.Nodup
  wd : ∀ w ∈ ws, wordS w = true
  ty : ∀ w ∈ ws, (∃ x : Int, some x ∈ os.take i ∧ hs[x.toNat]? = some w) ∨ (w ∉ hs ∧ w ∉ sp)
  sn : sp.Nodup
  so : ∀ w ∈ sp, w ∉ hs ∧ wordS w = true
  sl : 4 ≤ sp.length + i
theorem but_none {p a : Addr} {H H' : Hp} (b : But p H H') (n : H' a = none) (ne : a ≠ p) : H a = none := by
  cases e : H a with
  | none => rfl
  | some o =>
    rw [b a o ne e] at n
    cases n
theorem sub_len {l hs : List Str} (n : l.Nodup) (h : ∀ x ∈ l, x ∈ hs) : l.length ≤ hs.length := n.length_le_of_subset h
theorem parts_len (q : Str → Bool) : ∀ l : List Str, (l.filter q).length + (l.filter fun x => !q x).length = l.length
  | [] => rfl
  | x :: l => by
    have := parts_len q l
    cases h : q x <;> simp [h] <;> omega
theorem wds_start {hs hs2 : List Str} {os : List (Option Int)} {wide : Nat} (h1 : 1 ≤ hs.length) (hw : hs.length ≤ wide) (l2 : hs2.length = 2 * wide + 3) (n2 : hs2.Nodup) (w2 : ∀ w ∈ hs2, wordS w = true) : Wds hs os 0 [] (hs2.filter fun w => !hs.any (isTxt (.str w))) := by
  refine ⟨rfl, by simp, by simp, by simp, List.Pairwise.filter _ n2, fun w hx => ?_, ?_⟩
  · obtain ⟨h2, q⟩ := List.mem_filter.mp hx
    refine ⟨fun z => ?_, w2 w h2⟩
    have : hs.any (isTxt (.str w)) = true := List.any_eq_true.mpr ⟨w, z, by show (w == w) = true; exact beq_self_eq_true w⟩
    rw [this] at q
    cases q
  · have a := parts_len (fun w => hs.any (isTxt (.str w))) hs2
    have b : (hs2.filter fun w => hs.any (isTxt (.str w))).length ≤ hs.length := sub_len (List.Pairwise.filter _ n2) fun w hx => by
      obtain ⟨y, hy, e⟩ := List.any_eq_true.mp (List.mem_filter.mp hx).2
      have : y = w := eq_of_beq e
      rw [← this]
      exact hy
    omega
theorem snoc_nd {ws : List Str} {w : Str} (h : ws.Nodup) (n : w ∉ ws) : (ws ++ [w]).Nodup := by
  refine List.nodup_append.mpr ⟨h, by simp, fun a ha b hb e => ?_⟩
  obtain rfl := List.mem_singleton.mp hb
  exact n (e ▸ ha)
theorem take_more {os : List (Option Int)} {i : Nat} {o : Option Int} (h : o ∈ os.take i) : o ∈ os.take (i + 1) := List.mem_of_mem_take (i := i) (by rw [List.take_take, Nat.min_eq_left (Nat.le_succ i)]; exact h)
theorem Wds.keep {hs : List Str} {os : List (Option Int)} {i : Nat} {ws sp : List Str} (h : Wds hs os i ws sp) (pl : Pls hs.length os) (hn : hs.Nodup) (hw : ∀ w ∈ hs, wordS w = true) {x : Int} (hi : os[i]? = some (some x)) {w : Str} (e : hs[x.toNat]? = some w) : Wds hs os (i + 1) (ws ++ [w]) sp := by
  have wh : w ∈ hs := List.mem_of_getElem? e
  have x0 := pl.i x (List.mem_of_getElem? hi)
  have nw : w ∉ ws := fun hx => by
    rcases h.ty w hx with ⟨x', hx', e'⟩ | ⟨n, _⟩
    · have x1 := pl.i x' (List.mem_of_mem_take hx')
      obtain ⟨l1, q1⟩ := List.getElem?_eq_some_iff.mp e
      obtain ⟨l2, q2⟩ := List.getElem?_eq_some_iff.mp e'
      have := nd_inj hn l1 l2 (q1.trans q2.symm)
      have : x' = x := by omega
      subst this
      exact pl.fresh hi hx'
    · exact n wh
  refine ⟨by rw [List.length_append, h.len]; rfl, snoc_nd h.nd nw, fun v hv => ?_, fun v hv => ?_, h.sn, h.so, by have := h.sl; omega⟩
  · rcases List.mem_append.mp hv with hv | hv
    · exact h.wd v hv
    · obtain rfl := List.mem_singleton.mp hv
      exact hw _ wh
  · rcases List.mem_append.mp hv with hv | hv
    · rcases h.ty v hv with ⟨x', hx', e'⟩ | n
      · exact .inl ⟨x', take_more hx', e'⟩
      · exact .inr n
    · obtain rfl := List.mem_singleton.mp hv
      refine .inl ⟨x, ?_, e⟩
      rw [List.take_succ, hi]
      simp
theorem Wds.spare {hs : List Str} {os : List (Option Int)} {i : Nat} {ws sp : List Str} (h : Wds hs os i ws sp) {w : Str} (e : sp[sp.length - 1]? = some w) : Wds hs os (i + 1) (ws ++ [w]) sp.dropLast := by
  have ws' : w ∈ sp := List.mem_of_getElem? e
  have ne : sp ≠ [] := fun z => by rw [z] at e; cases e
  have split : sp = sp.dropLast ++ [w] := by
    have : sp.getLast ne = w := by
      rw [List.getLast_eq_getElem]
      exact (List.getElem?_eq_some_iff.mp e).2
    rw [← this, List.dropLast_concat_getLast]
  have nd := h.sn
  rw [split] at nd
  have nd2 := (List.nodup_append.mp nd)
  have sub : ∀ v ∈ sp.dropLast, v ∈ sp := fun v hv => by rw [split]; exact List.mem_append_left _ hv
  have nw : w ∉ ws := fun hx => by
    rcases h.ty w hx with ⟨x', hx', e'⟩ | ⟨_, n⟩
    · exact (h.so w ws').1 (List.mem_of_getElem? e')
    · exact n ws'
  refine ⟨by rw [List.length_append, h.len]; rfl, snoc_nd h.nd nw, fun v hv => ?_, fun v hv => ?_, nd2.1, fun v hv => h.so v (sub v hv), ?_⟩
  · rcases List.mem_append.mp hv with hv | hv
    · exact h.wd v hv
    · obtain rfl := List.mem_singleton.mp hv
      exact (h.so _ ws').2
  · rcases List.mem_append.mp hv with hv | hv
    · rcases h.ty v hv with ⟨x', hx', e'⟩ | ⟨n1, n2⟩
      · exact .inl ⟨x', take_more hx', e'⟩
      · exact .inr ⟨n1, fun z => n2 (sub v z)⟩
    · obtain rfl := List.mem_singleton.mp hv
      exact .inr ⟨(h.so _ ws').1, fun z => nd2.2.2 _ z _ (by simp) rfl⟩
  · have := h.sl
    have l : sp.dropLast.length = sp.length - 1 := List.length_dropLast
    have : 0 < sp.length := List.length_pos_iff.mpr ne
    omega
def spMovedC (K : PySem.W.Frag) (C : Addr) : Sp := fun vs H Q _ => ∃ (p t : Addr) (wide n : Nat) (hs : List Str) (rs : List (List V)), vs = [.ref p, .ref t, .int wide] ∧ IsTab K C H t hs rs ∧ hs.length ≤ wide ∧ wide ≤ 3 ∧ n + 40 ≤ 1000000 ∧ Pot H p n ∧
  ∀ (u pl wd : Addr) (H' : Hp) (os : List (Option Int)) (ws : List Str), H' u = some (.tup [.ref pl, .ref wd]) → H' pl = some (.lst (os.map vO)) → H' wd = some (.tup (ws.map V.str)) → pl ≠ p → ws.length = os.length → 1 ≤ os.length → os.length ≤ wide → Pls hs.length os → ws.Nodup → (∀ w ∈ ws, wordS w = true) →
    Pot H' p (n + 40) → But p H H' → Q (.ref u) H'
def MidM (p t : Addr) (wide n m lo : Nat) (H : Hp) (σ : St) (H' : Hp) : Prop := ∃ (B : Addr) (o4 : Option V) (os : List (Option Int)), σ = [some (.ref p), some (.ref t), some (.int wide), some (.ref B), o4, none, none, none] ∧ H' B = some (.lst (os.map vO)) ∧ B ≠ p ∧ lo ≤ os.length ∧ os.length ≤ wide ∧ Pls m os ∧ Pot H' p n ∧ But p H H'
section
variable {P : Program} {w : World} {K : PySem.W.Frag} {mg : Str → Option Value} {base : Heap}
abbrev s_law_moved_columns : Stmt := top 42
theorem sc_law_moved_columns : FnScope ["_law_pot_here", "_law_table_here", "_law_wide", "_law_places", "_law_spot", "_law_spare", "_law_words", "_law_word"] ["_law_pot_here", "_law_table_here", "_law_wide"] (defScope s_law_moved_columns) := ⟨rfl, rfl, rfl, by decide +kernel, rfl, by decide +kernel, by decide +kernel⟩
theorem ok_movedc {f fD fM fN : Addr} {fd fdD fdM fdN : FuncData} (F : Fun K "_law_moved_columns" "_law_moved_columns" s_law_moved_columns f fd) (T : TxtH K mg)
    (c_law_draw : ∀ base, Ca P w K mg base CX0 "_law_draw" 1 ["_law_pot_here", "_law_many"] spDraw fD fdD) (c_law_mixed : ∀ base, Ca P w K mg base CX0 "_law_mixed" 2 ["_law_pot_here", "_law_items"] (spMixed K) fM fdM) (c_law_names : ∀ base, Ca P w K mg base CX0 "_law_names" 3 ["_law_pot_here", "_law_many"] spNames fN fdN) : FnOk P w K mg base CX0 4 f fd ["_law_pot_here", "_law_table_here", "_law_wide"] (spMovedC K T.C) := by
  have c_law_draw := c_law_draw base
  have c_law_mixed := c_law_mixed base
  have c_law_names := c_law_names base
  refine F.ok sc_law_moved_columns (fun vs H Q E h => ?_) (fun cdv A outer s H vs Q E hr h => ⟨_, (pss_cons (ps_set (i := 3) sc_law_moved_columns.nd rfl (Or.inl rfl) (pe_lst pa_nil))
    (pss_cons (ps_for PassesOwn.never rfl (pi_range1 (by rfl) T.b_range (pa_cons (pe_callB (call_lenK K rfl) (by rfl) T.b_len (by decide +kernel) (pa_cons (pe_fldK K rfl (pv 1) rfl) pa_nil)) pa_nil)) (pg_name (i := 4) sc_law_moved_columns.nd rfl (Or.inl rfl)) (pss_one (ps_if (pt_cmpR op_gt (pe_call c_law_draw.G (hr.mono (by first | decide | omega)) (by rfl) c_law_draw.g c_law_draw.k c_law_draw.B .nil pass0 (pa_cons (pv 0) (pa_cons pe_int pa_nil))) pe_int (nomark _)) (pss_one (ps_expr (pe_bm PySem.F.plainAttrs_list PySem.F.slot_list_append PySem.F.type_list_append mt_append (pv 3) (pa_cons (pv 4) pa_nil)))) pss_nil)))
    (Evl.pss_cut (ps_if (PW.pt (pw_and (pt_cmpR op_lt (pe_callB (call_lenK K rfl) (by rfl) T.b_len (by decide +kernel) (pa_cons (pv 3) pa_nil)) (pv 2) (nomark _)) (pw_and1 (PW.pt (pw_or (pt_cmpR (op_eqNilK K rfl hr.units0) (pv 3) (pe_lst pa_nil) (nomark _)) (pw_or1 (pt_cmpR op_eq (pe_call c_law_draw.G (hr.mono (by first | decide | omega)) (by rfl) c_law_draw.g c_law_draw.k c_law_draw.B .nil pass0 (pa_cons (pv 0) (pa_cons pe_int pa_nil))) pe_int (nomark _)))))))) (pss_one (ps_expr (pe_bm PySem.F.plainAttrs_list PySem.F.slot_list_append PySem.F.type_list_append mt_append (pv 3) (pa_cons pe_non pa_nil)))) pss_nil)
    (Evl.pss_cut (ps_if (pt_cmpR op_eq (pe_call c_law_draw.G (hr.mono (by first | decide | omega)) (by rfl) c_law_draw.g c_law_draw.k c_law_draw.B .nil pass0 (pa_cons (pv 0) (pa_cons pe_int pa_nil))) pe_int (nomark _)) (pss_one (ps_set (i := 3) sc_law_moved_columns.nd rfl (Or.inl rfl) (pe_call c_law_mixed.G (hr.mono (by first | decide | omega)) (by rfl) c_law_mixed.g c_law_mixed.k c_law_mixed.B .nil pass0 (pa_cons (pv 0) (pa_cons (pv 3) pa_nil))))) pss_nil)
    (pss_cons (ps_par (i := 5) (j := 6) (by rfl) sc_law_moved_columns.nd rfl rfl (by decide) rfl rfl (pa_cons (pe_callTy (call_listT K rfl) (by rfl) T.b_list (by decide +kernel) (pa_cons (pe_call c_law_names.G (hr.mono (by first | decide | omega)) (by rfl) c_law_names.g c_law_names.k c_law_names.B .nil pass0 (pa_cons (pv 0) (pa_cons (pe_op op_add (pe_op op_mul pe_int (pv 2)) pe_int) pa_nil))) pa_nil)) (pa_cons (pe_lst pa_nil) pa_nil)) (by rfl))
    (pss_cons (ps_setLc (i := 5) (own := [("_law_word", 7)]) (g := gName 7) rfl sc_law_moved_columns.nd rfl rfl (sw_true rfl rfl rfl (by decide +kernel)) (pi_listK K rfl (pv 5)) (blkOk_by (N := ["_law_pot_here", "_law_table_here", "_law_wide", "_law_places", "_law_spot", "_law_spare", "_law_words", "_law_word"]) (sc := defScope s_law_moved_columns) (by decide +kernel)) (fun _ _ _ _ _ => (pg_name (i := 7) sc_law_moved_columns.nd rfl (Or.inl rfl))) (fun _ _ _ _ _ => pts_one (pt_cmpR (op_notInTx K rfl hr.units) (pv 7) (pe_fldK K rfl (pv 1) rfl) (by rfl))) (fun _ _ _ _ _ => (pv 7)))
    (pss_cons (ps_for PassesOwn.never rfl (pi_listK K rfl (pv 3)) (pg_name (i := 4) sc_law_moved_columns.nd rfl (Or.inl rfl)) (pss_one (ps_expr (pe_bm PySem.F.plainAttrs_list PySem.F.slot_list_append PySem.F.type_list_append mt_append (pv 6) (pa_cons (pe_ifExp (PW.pt (pw_or (pt_cmpR op_isN (pv 4) pe_non (nomark _)) (pw_or1 (pt_cmpR op_eq (pe_call c_law_draw.G (hr.mono (by first | decide | omega)) (by rfl) c_law_draw.g c_law_draw.k c_law_draw.B .nil pass0 (pa_cons (pv 0) (pa_cons pe_int pa_nil))) pe_int (nomark _))))) (pe_bm0 PySem.F.plainAttrs_list PySem.F.slot_list_pop PySem.F.type_list_pop mt_pop (pv 5)) (pe_ix (ix_tupK K rfl) (pe_fldK K rfl (pv 1) rfl) (pv 4) (fun _ _ => rfl))) pa_nil)))))
    (pss_one (ps_ret (pe_tup (pa_cons (pv 3) (pa_cons (pe_callTy (call_tupleK K rfl) (by rfl) T.b_tuple (by decide +kernel) (pa_cons (pv 6) pa_nil)) pa_nil)))))))))))), ?_⟩)
  · obtain ⟨_, _, _, _, _, _, rfl, _⟩ := h
    rfl
  obtain ⟨p, t, wide, n, hs, rs, rfl, t1, hw, w3, hn, pot, k⟩ := h
  have sl : sizeLine = 16777216 := sizeLine_eq
  obtain ⟨l1, l2, l3⟩ := Tab.len t1
  refine ⟨by show 0 ≤ sizeLine; decide, fun B nB => ?_⟩
  have hB0 : (upd H B (.lst [])) B = some (.lst []) := upd_same
  have Bp : B ≠ p := (pot.ne nB).symm
  have pot0 := pot.new (o := .lst []) nB
  have but0 : But p H (upd H B (.lst [])) := But.of (Same.one nB)
  generalize upd H B (.lst []) = H0 at hB0 pot0 but0 ⊢
  have t0 := t1.but pot but0
  obtain ⟨dx, ac, ar, xr, u1⟩ := id t0
  have lh : (hs.map V.str).length = hs.length := List.length_map ..
  refine ⟨_, rfl, t, T.C, dx, _, _, rfl, u1.at_, T.cl, T.n_columns, l_columns .., _, _, rfl, .inr ⟨_, u1.c, rfl⟩, _, rfl, by omega, by omega, for_range (lo := 0) (n := (((hs.map V.str).length : Nat) : Int).toNat) (fun i σ H' => ∃ (o4 : Option V) (os : List (Option Int)), σ = [some (.ref p), some (.ref t), some (.int wide), some (.ref B), o4, none, none, none] ∧ H' B = some (.lst (os.map vO)) ∧ os.length ≤ i ∧ (∀ x, some x ∈ os → 0 ≤ x ∧ x < (i : Int)) ∧ (os.filterMap id).Nodup ∧ Pot H' p (n + i) ∧ But p H H')
    ⟨none, [], rfl, hB0, by simp, by simp, by simp, pot0, but0⟩ ?_ ?_⟩
  · rintro i σ H1 hi ⟨o4, os, rfl, hB, lo, pi, pn, pot1, but1⟩
    refine ⟨_, rfl, p, 6, n + i, rfl, ⟨by decide, by decide⟩, by omega, pot1, fun r H2 r0 r1 pot2 but2 => ⟨_, _, rfl, rfl, _, rfl, ite2 (fun _ => ?_) (fun _ => ?_)⟩⟩
    · have hB2 := but2 B _ Bp hB
      refine ⟨_, rfl, .inl ⟨rfl, _, SqL.of hB2⟩, _, rfl, B, _, _, rfl, rfl, hB2, by rw [List.length_map]; omega, _, os ++ [some (0 + (i : Int))], rfl, ?_, by rw [List.length_append]; show os.length + 1 ≤ i + 1; omega, fun x hx => ?_, ?_, (pot2.more (by omega)).upd Bp.symm, (but1.trans but2).updN nB⟩
      · rw [upd_same, List.map_append]
        rfl
      · rcases List.mem_append.mp hx with hx | hx
        · have := pi x hx
          omega
        · have : x = 0 + (i : Int) := by simpa using hx
          omega
      · rw [List.filterMap_append]
        refine List.nodup_append.mpr ⟨pn, by simp, fun a ha b hb e => ?_⟩
        obtain ⟨o, ho, rfl⟩ := List.mem_filterMap.mp ha
        have := pi a (by assumption)
        have : b = 0 + (i : Int) := by simpa using hb
        omega
    · exact ⟨_, os, rfl, but2 B _ Bp hB, by omega, fun x hx => by have := pi x hx; omega, pn, pot2.more (by omega), but1.trans but2⟩
  clear hB0 pot0 but0 t0 u1
  rintro σ H1 ⟨o4, os, rfl, hB, lo, pi, pn, pot1, but1⟩
  have pl : Pls hs.length os := ⟨fun x hx => by have := pi x hx; omega, pn⟩
  have lo : os.length ≤ hs.length := by omega
  have pot1 := pot1.more (show n + (((hs.map V.str).length : Nat) : Int).toNat ≤ n + 3 by omega)
  clear pi pn
  refine ⟨MidM p t wide (n + 4) hs.length 1 H, ?_, ?_⟩
  · have app : ∀ {H2 : Hp}, H2 B = some (.lst (os.map vO)) → os.length < wide → Pot H2 p (n + 4) → But p H H2 → ∃ l, H2 B = some (.lst l) ∧ l.length < sizeLine ∧ MidM p t wide (n + 4) hs.length 1 H [some (.ref p), some (.ref t), some (.int wide), some (.ref B), o4, none, none, none] (upd H2 B (.lst (l ++ [V.non]))) := fun {H2} hB2 lt pot2 but2 =>
      ⟨_, hB2, by rw [List.length_map]; omega, B, o4, os ++ [none], rfl, by rw [upd_same, List.map_append]; rfl, Bp, by rw [List.length_append]; show 1 ≤ os.length + 1; omega, by rw [List.length_append]; show os.length + 1 ≤ wide; omega, pl.none, pot2.upd Bp.symm, but2.updN nB⟩
    have lm : (os.map vO).length = os.length := List.length_map ..
    refine ⟨_, rfl, _, _, rfl, .inl ⟨_, SqL.of hB, rfl⟩, _, rfl, _, _, rfl, rfl, _, rfl, ite2 (fun hlt => ?_) (fun hge => ?_)⟩
    · have hlt : os.length < wide := by
        have := of_decide_eq_true hlt
        omega
      refine ⟨_, rfl, by show 0 ≤ sizeLine; decide, fun e0 ne0 => ⟨B, e0, _, rfl, rfl, SqL.of (Same.one ne0 _ _ hB), SqL.of upd_same, _, rfl, ite2 (fun he => ?_) (fun he => ?_)⟩⟩
      · obtain ⟨l, q1, q2, q3⟩ := app (Same.one (o := .lst []) ne0 _ _ hB) hlt ((pot1.new ne0).more (by omega)) (but1.new ne0)
        exact ⟨_, rfl, .inl ⟨rfl, _, SqL.of q1⟩, B, _, _, rfl, rfl, q1, q2, q3⟩
      · have ne : 1 ≤ os.length := by
          cases os with
          | nil => exact absurd rfl he
          | cons x xs => exact Nat.succ_le_succ (Nat.zero_le _)
        have hB2 := Same.one (o := .lst []) ne0 _ _ hB
        refine ⟨_, rfl, p, 4, n + 3, rfl, ⟨by decide, by decide⟩, by omega, pot1.new ne0, fun r H3 r0 r1 pot3 but3 => ⟨rfl, _, rfl, ite2 (fun _ => ?_) (fun _ => ?_)⟩⟩
        · obtain ⟨l, q1, q2, q3⟩ := app (but3 B _ Bp hB2) hlt pot3 ((but1.new ne0).trans but3)
          exact ⟨_, rfl, .inl ⟨rfl, _, SqL.of q1⟩, B, _, _, rfl, rfl, q1, q2, q3⟩
        · exact ⟨B, o4, os, rfl, but3 B _ Bp hB2, Bp, ne, by omega, pl, pot3, (but1.new ne0).trans but3⟩
    · have hge : ¬ os.length < wide := fun z => hge (decide_eq_true (by omega))
      exact iteF ⟨B, o4, os, rfl, hB, Bp, by omega, by omega, pl, pot1.more (by omega), but1⟩
  clear hB lo pl pot1 but1 nB Bp
  rintro σ H1 ⟨B, o4, os, rfl, hB, Bp, ne, lo, pl, pot1, but1⟩
  have lm : (os.map vO).length = os.length := List.length_map ..
  refine ⟨MidM p t wide (n + 17) hs.length 1 H, ?_, ?_⟩
  · refine ⟨_, rfl, p, 3, n + 4, rfl, ⟨by decide, by decide⟩, by omega, pot1, fun r H2 r0 r1 pot2 but2 => ⟨rfl, _, rfl, ite2 (fun _ => ?_) (fun _ => ?_)⟩⟩
    · refine ⟨_, rfl, _, rfl, p, B, os.map vO, n + 5, rfl, SqL.of (but2 B _ Bp hB), by omega, by omega, pot2, fun B' H3 ms hB' pm ne' pot3 but3 => ?_⟩
      obtain ⟨os', rfl, pm2⟩ := perm_pre vO pm
      have := pm2.length_eq
      have : (os'.map vO).length = os'.length := List.length_map ..
      exact ⟨B', o4, os', rfl, hB', ne', by omega, by omega, pl.perm pm2, pot3, (but1.trans but2).trans but3⟩
    · exact ⟨B, o4, os, rfl, but2 B _ Bp hB, Bp, ne, lo, pl, pot2.more (by omega), but1.trans but2⟩
  clear hB lo pl pot1 but1 Bp ne lm
  rintro σ H1 ⟨B, o5, os, rfl, hB, Bp, ne, lo, pl, pot1, but1⟩
  have lm : (os.map vO).length = os.length := List.length_map ..
  refine ⟨_, rfl, _, rfl, _, _, rfl, rfl, .inl ⟨by decide, by decide⟩, _, _, rfl, rfl, p, 2 * wide + 3, n + 17, by simp, by omega, by omega, pot1, fun a H2 hs2 lh2 nd2 hw2 ha pot2 but2 => ⟨a, _, rfl, SqT.of ha, fun A nA smA => ⟨by show 0 ≤ sizeLine; decide, fun W nW => ⟨_, _, rfl, ?_⟩⟩⟩⟩
  have Ap : A ≠ p := (pot2.ne nA).symm
  have sA := Same.one (o := .lst (hs2.map V.str)) nA
  have hA : (upd (upd H2 A (.lst (hs2.map V.str))) W (.lst [])) A = some (.lst (hs2.map V.str)) := Same.one nW _ _ upd_same
  have hW : (upd (upd H2 A (.lst (hs2.map V.str))) W (.lst [])) W = some (.lst []) := upd_same
  have s3 := sA.trans (Same.one (o := .lst []) nW)
  have hB3 := s3 _ _ (but2 B _ Bp hB)
  have pot3 := pot2.same s3
  have Wp : W ≠ p := ((pot2.same sA).ne nW).symm
  have nWH : H W = none := but_none ((but1.trans but2).same sA) nW Wp
  have but3 := (but1.trans but2).same s3
  generalize upd (upd H2 A (.lst (hs2.map V.str))) W (.lst []) = H3 at hA hW s3 hB3 pot3 but3 ⊢
  clear s3 sA nW nA smA ha but2 pot2 hB but1 pot1
  have BW : B ≠ W := fun z => by
    subst z
    rw [hW] at hB3
    injection hB3 with z
    injection z with z
    rw [← z] at lm
    simp at lm
    omega
  obtain ⟨dx, ac, ar, xr, u1⟩ := t1.but pot but3
  refine ⟨_, rfl, A, rfl, ⟨_, SqL.of hA⟩, fun D nD => lc_growL (SqL.of hA) nD (by rw [List.length_map]; omega) (fun i => .str (hs2.getD i "")) (fun i => !hs.any (isTxt (.str (hs2.getD i "")))) (fun i x H4 Z N hi s4 kz kn' => ?_) (fun H4 s4 hD => ?_)⟩
  · obtain ⟨w', hw', rfl⟩ := List.mem_map.mp (List.mem_of_getElem? hi)
    have e : hs2.getD i "" = w' := by
      rw [List.getElem?_map] at hi
      cases h : hs2[i]? with
      | none => rw [h] at hi; cases hi
      | some y =>
        rw [h] at hi
        injection hi with hi
        injection hi with hi
        rw [List.getD_eq_getElem?_getD, h, hi]
        rfl
    rw [e] at kz kn'
    refine ⟨rfl, _, rfl, _, rfl, t, T.C, dx, _, _, rfl, s4 _ _ u1.at_, T.cl, T.n_columns, l_columns .., ac, hs, .str w', rfl, u1.c.ext s4, .str w', _, rfl, ?_⟩
    cases hk : hs.any (isTxt (.str w')) with
    | true => exact iteF (kn' H4 (Same.refl _) (by rw [hk]; rfl))
    | false => exact iteT ⟨_, rfl, kz H4 (Same.refl _) (by rw [hk]; rfl)⟩
  have hD : H4 D = some (.lst ((hs2.filter fun w => !hs.any (isTxt (.str w))).map V.str)) := by
    rw [hD, List.length_map]
    exact congrArg (fun l => some (HO.lst l)) (kept_filter ("" : Str) V.str (fun w => !hs.any (isTxt (.str w))) hs2)
  have hW4 := s4 _ _ hW
  have hB4 := s4 _ _ hB3
  have DW : D ≠ W := fun z => by rw [z] at nD; rw [hW] at nD; cases nD
  have DB : D ≠ B := fun z => by rw [z] at nD; rw [hB3] at nD; cases nD
  have Dp : D ≠ p := (pot3.ne nD).symm
  have nDH : H D = none := but_none but3 nD Dp
  have pot4 := pot3.same s4
  have but4 := but3.same s4
  have wd0 : Wds hs os 0 [] (hs2.filter fun w => !hs.any (isTxt (.str w))) := wds_start (by omega) hw lh2 nd2 hw2
  clear hA hW hB3 pot3 but3 nD u1 s4
  refine ⟨_, rfl, B, rfl, ⟨_, SqL.of hB4⟩, for_list (K := K) (a := B) (xs := os.map vO) (fun i σ H' => ∃ (o4 : Option V) (ws sp : List Str), σ = [some (.ref p), some (.ref t), some (.int wide), some (.ref B), o4, some (.ref D), some (.ref W), none] ∧ H' D = some (.lst (sp.map V.str)) ∧ H' W = some (.lst (ws.map V.str)) ∧ H' B = some (.lst (os.map vO)) ∧ Wds hs os i ws sp ∧ Pot H' p (n + 23 + i) ∧ But p H H')
    ⟨o5, [], _, rfl, hD, hW4, hB4, wd0, pot4, but4⟩ (fun i σ H' _ ⟨_, _, _, _, _, _, z, _⟩ => SqL.of z) ?_ ?_⟩
  · rintro i v σ H5 hi ⟨o4, ws, sp, rfl, hD, hW, hB, wd, pot5, but5⟩
    have il := (List.getElem?_eq_some_iff.mp hi).1
    have lw := wd.len
    have lsp := wd.sl
    have app : ∀ {H6 : Hp} {w' : Str} {sp' : List Str}, H6 D = some (.lst (sp'.map V.str)) → H6 W = some (.lst (ws.map V.str)) → H6 B = some (.lst (os.map vO)) → Wds hs os (i + 1) (ws ++ [w']) sp' → Pot H6 p (n + 23 + (i + 1)) → But p H H6 →
        ∃ l, H6 W = some (.lst l) ∧ l.length < sizeLine ∧ ∃ (o4 : Option V) (ws sp : List Str), [some (.ref p), some (.ref t), some (.int wide), some (.ref B), some v, some (.ref D), some (.ref W), none] = [some (.ref p), some (.ref t), some (.int wide), some (.ref B), o4, some (.ref D), some (.ref W), none] ∧ (upd H6 W (.lst (l ++ [.str w']))) D = some (.lst (sp.map V.str)) ∧ (upd H6 W (.lst (l ++ [.str w']))) W = some (.lst (ws.map V.str)) ∧ (upd H6 W (.lst (l ++ [.str w']))) B = some (.lst (os.map vO)) ∧ Wds hs os (i + 1) ws sp ∧ Pot (upd H6 W (.lst (l ++ [.str w']))) p (n + 23 + (i + 1)) ∧ But p H (upd H6 W (.lst (l ++ [.str w']))) := fun {H6 w' sp'} hD6 hW6 hB6 wd6 pot6 but6 =>
      ⟨_, hW6, by rw [List.length_map]; omega, _, ws ++ [w'], sp', rfl, by rw [upd_ne DW]; exact hD6, by rw [upd_same, List.map_append]; rfl, by rw [upd_ne BW]; exact hB6, wd6, pot6.upd Wp.symm, but6.updN nWH⟩
    obtain ⟨o, ho, rfl⟩ : ∃ o, os[i]? = some o ∧ v = vO o := by
      rw [List.getElem?_map] at hi
      cases h : os[i]? with
      | none => rw [h] at hi; cases hi
      | some y =>
        rw [h] at hi
        injection hi with hi
        exact ⟨y, rfl, hi.symm⟩
    have some' : ∃ w', sp[sp.length - 1]? = some w' := ⟨_, List.getElem?_eq_getElem (show sp.length - 1 < sp.length by omega)⟩
    obtain ⟨w', hw'⟩ := some'
    have hl : (sp.map V.str)[(sp.map V.str).length - 1]? = some (.str w') := by rw [List.length_map, List.getElem?_map, hw']; rfl
    have ed : (sp.map V.str).dropLast = sp.dropLast.map V.str := by simp
    have pop : ∀ {H6 : Hp}, H6 D = some (.lst (sp.map V.str)) → H6 W = some (.lst (ws.map V.str)) → H6 B = some (.lst (os.map vO)) → Pot H6 p (n + 23 + (i + 1)) → But p H H6 → _ := fun {H6} hD6 hW6 hB6 pot6 but6 =>
      app (H6 := upd H6 D (.lst (sp.dropLast.map V.str))) (w' := w') upd_same (by rw [upd_ne DW.symm]; exact hW6) (by rw [upd_ne DB.symm]; exact hB6) (wd.spare hw') (pot6.upd Dp.symm) (but6.updN nDH)
    refine ⟨_, rfl, .inl ⟨rfl, _, SqL.of hW⟩, _, rfl, rfl, _, rfl, ?_⟩
    cases o with
    | none =>
      obtain ⟨l, q1, q2, q3⟩ := pop hD hW hB (pot5.more (by omega)) but5
      refine iteT ⟨_, rfl, .inl ⟨rfl, _, SqL.of hD⟩, D, _, .str w', rfl, rfl, hD, hl, ?_⟩
      rw [ed]
      exact ⟨W, _, _, rfl, rfl, q1, q2, q3⟩
    | some x =>
      refine iteF ⟨_, rfl, p, 5, n + 23 + i, rfl, ⟨by decide, by decide⟩, by omega, pot5, fun r H6 r0 r1 pot6 but6 => ⟨rfl, _, rfl, ?_⟩⟩
      have hD6 := but6 D _ Dp hD
      have hW6 := but6 W _ Wp hW
      have hB6 := but6 B _ Bp hB
      have but6 := but5.trans but6
      refine ite2 (fun _ => ?_) (fun _ => ?_)
      · obtain ⟨l, q1, q2, q3⟩ := pop hD6 hW6 hB6 pot6 but6
        refine ⟨_, rfl, .inl ⟨rfl, _, SqL.of hD6⟩, D, _, .str w', rfl, rfl, hD6, hl, ?_⟩
        rw [ed]
        exact ⟨W, _, _, rfl, rfl, q1, q2, q3⟩
      · obtain ⟨dx, ac, ar, xr, u1⟩ := t1.but pot but6
        have x0 := pl.i x (List.mem_of_getElem? ho)
        have hx : hs[x.toNat]? = some hs[x.toNat] := List.getElem?_eq_getElem (by omega)
        have hat : atI (hs.map V.str) x = some (.str hs[x.toNat]) := by
          have := atI_nat (xs := hs.map V.str) (j := x.toNat) (v := .str hs[x.toNat]) (by rw [List.getElem?_map, hx]; rfl)
          rw [Int.toNat_of_nonneg x0.1] at this
          exact this
        obtain ⟨l, q1, q2, q3⟩ := app hD6 hW6 hB6 (wd.keep pl u1.nd u1.hw ho hx) pot6 but6
        exact ⟨_, rfl, t, T.C, dx, _, _, rfl, u1.at_, T.cl, T.n_columns, l_columns .., _, rfl, ac, _, x, _, rfl, rfl, u1.c, hat, W, _, _, rfl, rfl, q1, q2, q3⟩
  rintro σ H5 ⟨o4, ws, sp, rfl, hD, hW, hB, wd, pot5, but5⟩
  have lw := wd.len
  refine ⟨_, rfl, _, rfl, W, _, rfl, .inl ⟨SqL.of hW, fun w' nw' => ⟨by show 2 ≤ sizeLine; decide, fun u nu => ?_⟩⟩⟩
  have s6 := (Same.one (o := .tup (ws.map V.str)) nw').trans (Same.one (o := .tup [.ref B, .ref w']) nu)
  exact k u B w' _ os ws upd_same (s6 _ _ hB) (Same.one nu _ _ upd_same) Bp (by omega) ne lo pl wd.nd wd.wd ((pot5.same s6).more (by omega)) (but5.same s6)
end
end K49

set_option Elab.async false
set_option linter.all false
set_option maxRecDepth 100000
set_option maxHeartbeats 8000000
namespace K49
open PySem L2 Xby
theorem rowsK_perm {K : PySem.W.Frag} {H : Hp} {wd : Nat} {xs ms : List V} (p : xs.Perm ms) : ∀ {qs : List (List V)}, RowsK K H wd xs qs → ∃ qs', RowsK K H wd ms qs' ∧ qs'.length = qs.length := by
  induction p with
  | nil => exact fun h => ⟨_, h, rfl⟩
  | cons x _ ih =>
    intro qs h
    cases h with
    | cons e l m r =>
      obtain ⟨qs', h', l'⟩ := ih r
      exact ⟨_, .cons e l m h', by simp [l']⟩
  | swap x y l =>
    intro qs h
    cases h with
    | cons e l m r =>
      cases r with
      | cons e2 l2 m2 r2 => exact ⟨_, .cons e2 l2 m2 (.cons e l m r2), rfl⟩
  | trans _ _ ih1 ih2 =>
    intro qs h
    obtain ⟨q1, h1, l1⟩ := ih1 h
    obtain ⟨q2, h2, l2⟩ := ih2 h1
    exact ⟨q2, h2, by omega⟩
/-- the rows so far -/
structure Nr (K : PySem.W.Frag) (p B pl : Addr) (os : List (Option Int)) (H1 : Hp) (m : Nat) (xs : List V) (qs : List (List V)) (H' : Hp) : Prop where
  hB : H' B = some (.lst xs)
  rk : RowsK K H' os.length xs qs
  hpl : H' pl = some (.lst (os.map vO))
  pot : Pot H' p m
  but : But p H1 H'
section
variable {K : PySem.W.Frag} {p B pl b : Addr} {os : List (Option Int)} {H1 H' Hd : Hp} {m m' : Nat} {xs r : List V} {qs : List (List V)}
theorem Nr.draw (h : Nr K p B pl os H1 m xs qs H') (Bp : B ≠ p) (plp : pl ≠ p) (pot : Pot Hd p m') (b : But p H' Hd) : Nr K p B pl os H1 m' xs qs Hd := ⟨b _ _ Bp h.hB, h.rk.but h.pot b, b _ _ plp h.hpl, pot, h.but.trans b⟩
theorem Nr.same (h : Nr K p B pl os H1 m xs qs H') (s : Same H' Hd) : Nr K p B pl os H1 m xs qs Hd := ⟨s _ _ h.hB, h.rk.same s, s _ _ h.hpl, h.pot.same s, h.but.same s⟩
theorem Nr.more (h : Nr K p B pl os H1 m xs qs H') (l : m ≤ m') : Nr K p B pl os H1 m' xs qs H' := ⟨h.hB, h.rk, h.hpl, h.pot.more l, h.but⟩
theorem Nr.add (h : Nr K p B pl os H1 m xs qs H') (Bp : B ≠ p) (Bl : B ≠ pl) (nB : H1 B = none) (hb : SqT K H' b r) (lr : r.length = os.length) (hc : ∀ v ∈ r, cellV v = true) : Nr K p B pl os H1 m (xs ++ [.ref b]) (qs ++ [r]) (upd H' B (.lst (xs ++ [.ref b]))) :=
  ⟨upd_same, (h.rk.snoc hb lr hc).butL h.hB But.upd1, by rw [upd_ne Bl.symm]; exact h.hpl, h.pot.upd Bp.symm, h.but.updN nB⟩
end
def MidR (K : PySem.W.Frag) (p t pl wa : Addr) (wide high n wd : Nat) (H1 : Hp) (σ : St) (H' : Hp) : Prop := ∃ (B : Addr) (o7 o8 o10 : Option V) (xs : List V) (qs : List (List V)), σ = [some (.ref p), some (.ref t), some (.int wide), some (.int high), some (.ref pl), some (.ref wa), some (.ref B), o7, o8, none, o10] ∧ H' B = some (.lst xs) ∧ RowsK K H' wd xs qs ∧ qs.length ≤ high ∧ Pot H' p n ∧ But p H1 H'
def spNear (K : PySem.W.Frag) (C : Addr) : Sp := fun vs H Q _ => ∃ (p t : Addr) (wide high n : Nat) (hs : List Str) (rs : List (List V)), vs = [.ref p, .ref t, .int wide, .int high] ∧ IsTab K C H t hs rs ∧ hs.length ≤ wide ∧ wide ≤ 3 ∧ rs.length ≤ high ∧ high ≤ 6 ∧ n + 120 ≤ 1000000 ∧ Pot H p n ∧
  ∀ a H' ks qs, IsTab K C H' a ks qs → ks.length ≤ wide → qs.length ≤ high → Pot H' p (n + 120) → But p H H' → Q (.ref a) H'
section
variable {P : Program} {w : World} {K : PySem.W.Frag} {mg : Str → Option Value} {base : Heap}
abbrev s_law_near : Stmt := top 43
theorem sc_law_near : FnScope ["_law_pot_here", "_law_table_here", "_law_wide", "_law_high", "_law_places", "_law_words", "_law_rows", "_law_line", "_law_cells", "_law_spot", "_law_turn"] ["_law_pot_here", "_law_table_here", "_law_wide", "_law_high"] (defScope s_law_near) := ⟨rfl, rfl, rfl, by decide +kernel, rfl, by decide +kernel, by decide +kernel⟩
theorem ok_near {f fD fM fC fV fI : Addr} {fd fdD fdM fdC fdV fdI : FuncData} (F : Fun K "_law_near" "_law_near" s_law_near f fd) (T : TxtH K mg) (M : Mk K T.C fI)
    (c_law_draw : ∀ base, Ca P w K mg base CX0 "_law_draw" 1 ["_law_pot_here", "_law_many"] spDraw fD fdD) (c_law_mixed : ∀ base, Ca P w K mg base CX0 "_law_mixed" 2 ["_law_pot_here", "_law_items"] (spMixed K) fM fdM) (c_law_cell : ∀ base, Ca P w K mg base CX0 "_law_cell" 3 ["_law_pot_here"] spACell fC fdC)
    (c_law_moved_columns : ∀ base, Ca P w K mg base CX0 "_law_moved_columns" 4 ["_law_pot_here", "_law_table_here", "_law_wide"] (spMovedC K T.C) fV fdV)
    (G : ∀ base, FnOk P w K mg base (L2.CX P w) 5 fI fdI ["self", "columns", "rows"] (spInit K T.C T.EK T.ER T.EW T.EM)) (hb : Binds K fdI ["self", "columns", "rows"] []) : FnOk P w K mg base CX0 7 f fd ["_law_pot_here", "_law_table_here", "_law_wide", "_law_high"] (spNear K T.C) := by
  have c_law_draw := c_law_draw base
  have c_law_mixed := c_law_mixed base
  have c_law_cell := c_law_cell base
  have c_law_moved_columns := c_law_moved_columns base
  have G := G base
  refine F.ok sc_law_near (fun vs H Q E h => ?_) (fun cdv A outer s H vs Q E hr h => ⟨_, (pss_cons (ps_asg (pe_call c_law_moved_columns.G (hr.mono (by first | decide | omega)) (by rfl) c_law_moved_columns.g c_law_moved_columns.k c_law_moved_columns.B .nil pass0 (pa_cons (pv 0) (pa_cons (pv 1) (pa_cons (pv 2) pa_nil)))) (pg_tupK K rfl rfl (pgs_cons (pg_name (i := 4) sc_law_near.nd rfl (Or.inl rfl)) (pgs_cons (pg_name (i := 5) sc_law_near.nd rfl (Or.inl rfl)) pgs_nil))))
    (pss_cons (ps_set (i := 6) sc_law_near.nd rfl (Or.inl rfl) (pe_lst pa_nil))
    (pss_cons (ps_for PassesOwn.never rfl (pi_tupK K rfl (pe_fldK K rfl (pv 1) rfl)) (pg_name (i := 7) sc_law_near.nd rfl (Or.inr rfl)) (pss_one (ps_if (pt_cmpR op_gt (pe_call c_law_draw.G (hr.mono (by first | decide | omega)) (by rfl) c_law_draw.g c_law_draw.k c_law_draw.B .nil pass0 (pa_cons (pv 0) (pa_cons pe_int pa_nil))) pe_int (nomark _)) (pss_cons (ps_setLc (i := 8) (own := [("_law_spot", 9)]) (g := gName 9) (tt := tYes) rfl sc_law_near.nd rfl rfl (sw_true rfl rfl rfl (by decide +kernel)) (pi_listK K rfl (pv 4)) (blkOk_by (N := ["_law_pot_here", "_law_table_here", "_law_wide", "_law_high", "_law_places", "_law_words", "_law_rows", "_law_line", "_law_cells", "_law_spot", "_law_turn"]) (sc := defScope s_law_near) (by decide +kernel)) (fun _ _ _ _ _ => (pg_name (i := 9) sc_law_near.nd rfl (Or.inl rfl))) (fun _ _ _ _ _ => pts_nil) (fun _ _ _ _ _ => (pe_ifExp (PW.pt (pw_or (pt_cmpR op_isN (pv 9) pe_non (nomark _)) (pw_or1 (pt_cmpR op_eq (pe_call c_law_draw.G (hr.mono (by first | decide | omega)) (by rfl) c_law_draw.g c_law_draw.k c_law_draw.B .nil pass0 (pa_cons (pv 0) (pa_cons pe_int pa_nil))) pe_int (nomark _))))) (pe_call c_law_cell.G (hr.mono (by first | decide | omega)) (by rfl) c_law_cell.g c_law_cell.k c_law_cell.B .nil pass0 (pa_cons (pv 0) pa_nil)) (pe_ix (ix_tupK K rfl) (pv 7) (pv 9) (fun _ _ => rfl)))))
    (pss_one (ps_expr (pe_bm PySem.F.plainAttrs_list PySem.F.slot_list_append PySem.F.type_list_append mt_append (pv 6) (pa_cons (pe_callTy (call_tupleK K rfl) (by rfl) T.b_tuple (by decide +kernel) (pa_cons (pv 8) pa_nil)) pa_nil))))) pss_nil)))
    (pss_cons (ps_for PassesOwn.never rfl (pi_range1 (by rfl) T.b_range (pa_cons (pe_callB (call_max2 rfl) (by rfl) T.b_max (by decide +kernel) (pa_cons pe_int (pa_cons (pe_op op_sub (pv 3) (pe_callB (call_lenK K rfl) (by rfl) T.b_len (by decide +kernel) (pa_cons (pv 6) pa_nil))) pa_nil))) pa_nil)) (pg_name (i := 10) sc_law_near.nd rfl (Or.inl rfl)) (pss_one (ps_if (pt_cmpR op_eq (pe_call c_law_draw.G (hr.mono (by first | decide | omega)) (by rfl) c_law_draw.g c_law_draw.k c_law_draw.B .nil pass0 (pa_cons (pv 0) (pa_cons pe_int pa_nil))) pe_int (nomark _)) (pss_one (ps_expr (pe_bm PySem.F.plainAttrs_list PySem.F.slot_list_append PySem.F.type_list_append mt_append (pv 6) (pa_cons (pe_callTy (call_tupleK K rfl) (by rfl) T.b_tuple (by decide +kernel) (pa_cons (pe_lc (own := [("_law_spot", 9)]) (g := gName 9) (tt := tYes) rfl sc_law_near.nd (pi_listK K rfl (pv 4)) (blkOk_by (N := ["_law_pot_here", "_law_table_here", "_law_wide", "_law_high", "_law_places", "_law_words", "_law_rows", "_law_line", "_law_cells", "_law_spot", "_law_turn"]) (sc := defScope s_law_near) (by decide +kernel)) (fun _ _ _ _ _ => (pg_name (i := 9) sc_law_near.nd rfl (Or.inl rfl))) (fun _ _ _ _ _ => pts_nil) (fun _ _ _ _ _ => (pe_call c_law_cell.G (hr.mono (by first | decide | omega)) (by rfl) c_law_cell.g c_law_cell.k c_law_cell.B .nil pass0 (pa_cons (pv 0) pa_nil)))) pa_nil)) pa_nil)))) pss_nil)))
    (Evl.pss_cut (ps_if (pt_cmpR op_eq (pe_call c_law_draw.G (hr.mono (by first | decide | omega)) (by rfl) c_law_draw.g c_law_draw.k c_law_draw.B .nil pass0 (pa_cons (pv 0) (pa_cons pe_int pa_nil))) pe_int (nomark _)) (pss_one (ps_set (i := 6) sc_law_near.nd rfl (Or.inl rfl) (pe_call c_law_mixed.G (hr.mono (by first | decide | omega)) (by rfl) c_law_mixed.g c_law_mixed.k c_law_mixed.B .nil pass0 (pa_cons (pv 0) (pa_cons (pv 6) pa_nil))))) pss_nil)
    (pss_one (ps_ret (pe_make M G (hr.mono (by decide)) (by rfl) T.g_Table hb .nil passL (pa_cons (pv 5) (pa_cons (pe_callTy (call_tupleK K rfl) (by rfl) T.b_tuple (by decide +kernel) (pa_cons (pv 6) pa_nil)) pa_nil)))))))))), ?_⟩)
  · obtain ⟨_, _, _, _, _, _, _, rfl, _⟩ := h
    rfl
  obtain ⟨p, t, wide, high, n, hs, rs, rfl, t1, hw, w3, hh, h6, hn, pot, k⟩ := h
  have sl : sizeLine = 16777216 := sizeLine_eq
  obtain ⟨l1, l2, l3⟩ := Tab.len t1
  refine ⟨_, rfl, _, rfl, _, rfl, p, t, wide, n, hs, rs, rfl, t1, hw, w3, by omega, pot, fun u pl wa H1 os ws hu hpl hwa plp lw os1 osw pls wnd wwd pot1 but1 => ?_⟩
  refine ⟨u, _, rfl, SqT.of hu, rfl, _, _, rfl, _, _, rfl, rfl, ?_⟩
  have t2 := t1.but pot but1
  obtain ⟨dx, ac, ar, xr, u1⟩ := id t2
  refine ⟨by show 0 ≤ sizeLine; decide, fun B nB => ?_⟩
  have Bp : B ≠ p := (pot1.ne nB).symm
  have Bl : B ≠ pl := fun z => by rw [z, hpl] at nB; cases nB
  have nr0 : Nr K p B pl os H1 (n + 40) [] [] (upd H1 B (.lst [])) := ⟨upd_same, .nil, Same.one nB _ _ hpl, pot1.new nB, But.of (Same.one nB)⟩
  have at0 := Same.one (o := .lst []) nB _ _ u1.at_
  generalize upd H1 B (.lst []) = H2 at nr0 at0 ⊢
  have lxr := u1.rows.len
  have lm : (os.map vO).length = os.length := List.length_map ..
  refine ⟨_, rfl, t, T.C, dx, _, _, rfl, at0, T.cl, T.n_rows, l_rows .., ar, rfl, ⟨_, seqBut u1.r pot1 nr0.but⟩, for_tup (K := K) (a := ar) (xs := xr) (fun i σ H' => ∃ (o7 o8 o10 : Option V) (xs : List V) (qs : List (List V)), σ = [some (.ref p), some (.ref t), some (.int wide), some (.int high), some (.ref pl), some (.ref wa), some (.ref B), o7, o8, none, o10] ∧ qs.length ≤ i ∧ Nr K p B pl os H1 (n + 40 + 7 * i) xs qs H')
    ⟨none, none, none, [], [], rfl, Nat.le_refl _, nr0⟩ (fun i σ H' _ ⟨_, _, _, _, _, _, _, z⟩ => seqBut u1.r pot1 z.but) ?_ ?_⟩
  · clear nr0 at0
    rintro i v σ H2 hi ⟨o7, o8, o10, xs, qs, rfl, lq, nr⟩
    have ilt := (List.getElem?_eq_some_iff.mp hi).1
    obtain ⟨b, r, rfl, hri, hb, lr, hc⟩ := u1.rows.get hi
    refine ⟨_, rfl, p, 6, n + 40 + 7 * i, rfl, ⟨by decide, by decide⟩, by omega, nr.pot, fun d H3 d0 d1 pot3 but3 => ⟨_, _, rfl, rfl, _, rfl, ite2 (fun _ => ?_) (fun _ => ?_)⟩⟩
    · have nr3 := nr.draw Bp plp pot3 but3
      clear nr pot3 but3
      refine ⟨_, rfl, pl, rfl, ⟨_, SqL.of nr3.hpl⟩, fun D nD => lc_list (K := K) (a := pl) (xs := os.map vO) (fun j H' => ∃ acc : List V, H' D = some (.lst acc) ∧ acc.length = j ∧ (∀ v ∈ acc, cellV v = true) ∧ Pot H' p (n + 40 + 7 * i + 1 + 2 * j) ∧ But p H3 H')
        ⟨[], upd_same, rfl, by simp, nr3.pot.new nD, But.of (Same.one nD)⟩ (fun j H' _ ⟨_, _, _, _, _, b⟩ => SqL.of (b _ _ plp nr3.hpl)) ?_ ?_⟩
      · rintro j x H4 hx ⟨acc, hD, la, hcs, pot4, but4⟩
        have jlt := (List.getElem?_eq_some_iff.mp hx).1
        have Dp : D ≠ p := (nr3.pot.ne nD).symm
        obtain ⟨o, ho, rfl⟩ : ∃ o, os[j]? = some o ∧ x = vO o := by
          rw [List.getElem?_map] at hx
          cases h : os[j]? with
          | none => rw [h] at hx; cases hx
          | some y =>
            rw [h] at hx
            injection hx with hx
            exact ⟨y, rfl, hx.symm⟩
        have put : ∀ {H5 : Hp} {v' : V}, H5 D = some (.lst acc) → cellV v' = true → Pot H5 p (n + 40 + 7 * i + 1 + 2 * (j + 1)) → But p H3 H5 → ∃ acc', H5 D = some (.lst acc') ∧ acc'.length < sizeLine ∧ ∃ acc2 : List V, (upd H5 D (.lst (acc' ++ [v']))) D = some (.lst acc2) ∧ acc2.length = j + 1 ∧ (∀ v ∈ acc2, cellV v = true) ∧ Pot (upd H5 D (.lst (acc' ++ [v']))) p (n + 40 + 7 * i + 1 + 2 * (j + 1)) ∧ But p H3 (upd H5 D (.lst (acc' ++ [v']))) := fun {H5 v'} q1 q2 q3 q4 =>
          ⟨acc, q1, by omega, acc ++ [v'], upd_same, by simp [la], fun u hu => by
            rcases List.mem_append.mp hu with hu | hu
            · exact hcs u hu
            · obtain rfl := List.mem_singleton.mp hu
              exact q2, q3.upd Dp.symm, q4.updN nD⟩
        refine ⟨rfl, _, rfl, rfl, _, rfl, ?_⟩
        cases o with
        | none => exact iteT ⟨_, rfl, p, _, rfl, by omega, pot4, fun v' H5 hv' pot5 but5 => put (but5 D _ Dp hD) (cells_cell v' hv') (pot5.more (by omega)) (but4.trans but5)⟩
        | some x =>
          refine iteF ⟨_, rfl, p, 5, _, rfl, ⟨by decide, by decide⟩, by omega, pot4, fun d' H5 e0 e1 pot5 but5 => ⟨rfl, _, rfl, ite2 (fun _ => ?_) (fun _ => ?_)⟩⟩
          · exact ⟨_, rfl, p, _, rfl, by omega, pot5, fun v' H6 hv' pot6 but6 => put (but6 D _ Dp (but5 D _ Dp hD)) (cells_cell v' hv') (pot6.more (by omega)) ((but4.trans but5).trans but6)⟩
          · have x0 := pls.i x (List.mem_of_getElem? ho)
            have hx : r[x.toNat]? = some r[x.toNat] := List.getElem?_eq_getElem (by omega)
            have hat : atI r x = some r[x.toNat] := by
              have := atI_nat hx
              rw [Int.toNat_of_nonneg x0.1] at this
              exact this
            exact ⟨_, rfl, _, rfl, b, r, x, _, rfl, rfl, seqBut hb pot1 ((nr3.but.trans but4).trans but5), hat, put (but5 D _ Dp hD) (hc _ (List.mem_of_getElem? hx)) (pot5.more (by omega)) (but4.trans but5)⟩
      rintro H4 ⟨acc, hD, la, hcs, pot4, but4⟩
      rw [lm] at la
      have nr4 := nr3.draw Bp plp (pot4.more (show _ ≤ n + 40 + 7 * (i + 1) by omega)) but4
      have lx := nr4.rk.len
      refine ⟨_, rfl, .inl ⟨rfl, _, SqL.of nr4.hB⟩, _, rfl, D, acc, rfl, .inl ⟨SqL.of hD, fun l nl => ?_⟩⟩
      have nr5 := nr4.same (Same.one (o := .tup acc) nl)
      exact ⟨B, xs, _, rfl, rfl, nr5.hB, by omega, _, _, _, _, _, rfl, by rw [List.length_append]; show qs.length + 1 ≤ i + 1; omega, nr5.add Bp Bl nB (SqT.of upd_same) la hcs⟩
    · exact ⟨_, _, _, xs, qs, rfl, by omega, nr.draw Bp plp (pot3.more (by omega)) but3⟩
  clear nr0 at0
  rintro σ H2 ⟨o7, o8, o10, xs, qs, rfl, lq, nr⟩
  have lx := nr.rk.len
  have nr := nr.more (show n + 40 + 7 * xr.length ≤ n + 82 by omega)
  have q6 : qs.length ≤ high := by omega
  have hN : (if ((high : Int) - (xs.length : Int)) > 0 then ((high : Int) - (xs.length : Int)) else 0) = ((high - xs.length : Nat) : Int) := by
    split <;> omega
  refine ⟨_, rfl, _, rfl, _, _, rfl, .inl ⟨_, SqL.of nr.hB, rfl⟩, _, _, rfl, rfl, _, _, rfl, ((high - xs.length : Nat) : Int), congrArg (fun z => [V.int z]) hN, by omega, by omega, for_range (lo := 0) (n := (((high - xs.length : Nat) : Int)).toNat) (fun i σ H' => ∃ (o7 o8 o10 : Option V) (ys : List V) (ks : List (List V)), σ = [some (.ref p), some (.ref t), some (.int wide), some (.int high), some (.ref pl), some (.ref wa), some (.ref B), o7, o8, none, o10] ∧ ks.length ≤ xs.length + i ∧ Nr K p B pl os H1 (n + 82 + 4 * i) ys ks H')
    ⟨o7, o8, o10, xs, qs, rfl, by omega, nr⟩ ?_ ?_⟩
  · clear nr
    rintro i σ H2 hi ⟨o7, o8, o10, ys, ks, rfl, lk, nr⟩
    refine ⟨_, rfl, p, 3, n + 82 + 4 * i, rfl, ⟨by decide, by decide⟩, by omega, nr.pot, fun d H3 d0 d1 pot3 but3 => ⟨rfl, _, rfl, ite2 (fun _ => ?_) (fun _ => ?_)⟩⟩
    · have nr3 := nr.draw Bp plp pot3 but3
      clear nr pot3 but3
      refine ⟨_, rfl, .inl ⟨rfl, _, SqL.of nr3.hB⟩, _, rfl, pl, rfl, ⟨_, SqL.of nr3.hpl⟩, fun D nD => lc_list (K := K) (a := pl) (xs := os.map vO) (fun j H' => ∃ acc : List V, H' D = some (.lst acc) ∧ acc.length = j ∧ (∀ v ∈ acc, cellV v = true) ∧ Pot H' p (n + 82 + 4 * i + 1 + j) ∧ But p H3 H')
        ⟨[], upd_same, rfl, by simp, nr3.pot.new nD, But.of (Same.one nD)⟩ (fun j H' _ ⟨_, _, _, _, _, b⟩ => SqL.of (b _ _ plp nr3.hpl)) ?_ ?_⟩
      · rintro j x H4 hx ⟨acc, hD, la, hcs, pot4, but4⟩
        have jlt := (List.getElem?_eq_some_iff.mp hx).1
        have Dp : D ≠ p := (nr3.pot.ne nD).symm
        refine ⟨rfl, _, rfl, p, _, rfl, by omega, pot4, fun v' H5 hv' pot5 but5 => ⟨acc, but5 D _ Dp hD, by omega, acc ++ [v'], upd_same, by simp [la], fun u hu => ?_, (pot5.more (by omega)).upd Dp.symm, (but4.trans but5).updN nD⟩⟩
        rcases List.mem_append.mp hu with hu | hu
        · exact hcs u hu
        · obtain rfl := List.mem_singleton.mp hu
          exact cells_cell _ hv'
      rintro H4 ⟨acc, hD, la, hcs, pot4, but4⟩
      rw [lm] at la
      have nr4 := nr3.draw Bp plp (pot4.more (show _ ≤ n + 82 + 4 * (i + 1) by omega)) but4
      have ly := nr4.rk.len
      refine ⟨D, acc, rfl, .inl ⟨SqL.of hD, fun l nl => ?_⟩⟩
      have nr5 := nr4.same (Same.one (o := .tup acc) nl)
      exact ⟨B, ys, _, rfl, rfl, nr5.hB, by omega, _, _, _, _, _, rfl, by rw [List.length_append]; show ks.length + 1 ≤ xs.length + (i + 1); omega, nr5.add Bp Bl nB (SqT.of upd_same) la hcs⟩
    · exact ⟨_, _, _, ys, ks, rfl, by omega, nr.draw Bp plp (pot3.more (by omega)) but3⟩
  clear nr
  rintro σ H2 ⟨o7, o8, o10, ys, ks, rfl, lk, nr⟩
  have ly := nr.rk.len
  have kh : ks.length ≤ high := by omega
  have nr := nr.more (show n + 82 + 4 * (((high - xs.length : Nat) : Int)).toNat ≤ n + 106 by omega)
  refine ⟨MidR K p t pl wa wide high (n + 119) os.length H1, ?_, ?_⟩
  · refine ⟨_, rfl, p, 2, n + 106, rfl, ⟨by decide, by decide⟩, by omega, nr.pot, fun d H3 d0 d1 pot3 but3 => ⟨rfl, _, rfl, ?_⟩⟩
    have nr3 := nr.draw Bp plp pot3 but3
    refine ite2 (fun _ => ?_) (fun _ => ?_)
    · refine ⟨_, rfl, _, rfl, p, B, ys, n + 107, rfl, SqL.of nr3.hB, by omega, by omega, pot3, fun B' H4 ms hB' pm ne' pot4 but4 => ?_⟩
      obtain ⟨ks', rk', l'⟩ := rowsK_perm pm.symm (nr3.rk.but pot3 but4)
      exact ⟨B', _, _, _, ms, ks', rfl, hB', rk', by omega, pot4, nr3.but.trans but4⟩
    · exact ⟨B, _, _, _, ys, ks, rfl, nr3.hB, nr3.rk, kh, pot3.more (by omega), nr3.but⟩
  clear nr kh lk ly
  rintro σ H3 ⟨B, o7, o8, o10, zs, js, rfl, hB, rk, lj, pot3, but3⟩
  refine ⟨_, rfl, _, rfl, B, zs, rfl, .inl ⟨SqL.of hB, fun l nl => ?_⟩⟩
  have s1 := Same.one (o := .tup zs) nl
  rw [← lw] at rk
  refine fun x dx nx ndx ne => mk_at ((SqT.of (tupBut hwa pot1 but3)).ext s1) (SqT.of upd_same) (rk.same s1) (by omega) (by omega) wwd wnd (by omega) nx ndx ne fun H' s2 ht => ?_
  exact k x H' ws js ht (by omega) (by omega) (((pot3.same s1).same s2).more (by omega)) (((but1.trans but3).same s1).same s2)
end
end K49

set_option Elab.async false
set_option linter.all false
set_option maxRecDepth 100000
set_option maxHeartbeats 8000000
namespace K49
open PySem L2 Xby
def spInitC (K : PySem.W.Frag) (CC : Addr) : Sp := fun vs H Q _ => ∃ (x dx : Addr) (b : Bill), vs = [.ref x, .int b.cell, .int b.row, .int b.column, .int b.name, .int b.move] ∧ H x = some (.ins CC dx []) ∧ BillOk b ∧ ∀ H', But x H H' → H' x = some (.ins CC dx (fldB b)) → Q .non H'
def billV (b : Bill) : List V := [.int b.cell, .int b.row, .int b.column, .int b.name, .int b.move]
def spMkT (K : PySem.W.Frag) (CC : Addr) : Sp := fun vs H Q _ => ∃ (l : Addr) (b : Bill), vs = [.ref l] ∧ SqT K H l (billV b) ∧ BillOk b ∧ ∀ x H', Same H H' → IsCosts CC H' x b → Q (.ref x) H'
/-- five costs -/
def spFive (K : PySem.W.Frag) : Sp := fun vs H Q _ => ∃ (p : Addr) (n : Nat), vs = [.ref p] ∧ n + 6 ≤ 1000000 ∧ Pot H p n ∧ ∀ l H' b, SqT K H' l (billV b) → BillOk b → Pot H' p (n + 6) → But p H H' → Q (.ref l) H'
theorem heapOf {H H' : Hp} (s : Same H H') : ∃ G, G = H' ∧ Same H G := ⟨H', rfl, s⟩
def Five (K : PySem.W.Frag) (H : Hp) (v : V) : Prop := ∃ l b, v = .ref l ∧ SqT K H l (billV b) ∧ BillOk b
theorem Five.same {K : PySem.W.Frag} {H H' : Hp} {v : V} (h : Five K H v) (s : Same H H') : Five K H' v := by
  obtain ⟨l, b, e, q, o⟩ := h
  exact ⟨l, b, e, q.ext s, o⟩
theorem Five.but {K : PySem.W.Frag} {H H' : Hp} {v : V} {p : Addr} {n : Nat} (h : Five K H v) (pot : Pot H p n) (s : But p H H') : Five K H' v := by
  obtain ⟨l, b, e, q, o⟩ := h
  exact ⟨l, b, e, seqBut q pot s, o⟩
theorem list5 {α : Type} {l : List α} (h : l.length = 5) : ∃ a b c d e, l = [a, b, c, d, e] := by
  match l, h with
  | [a, b, c, d, e], _ => exact ⟨a, b, c, d, e, rfl⟩
theorem okV_in {i : Int} (h : 1 ≤ i ∧ i ≤ 50) : okV 1 50 (.int i) = true := decide_eq_true h
section
variable {P : Program} {w : World} {K : PySem.W.Frag} {mg : Str → Option Value} {base : Heap}
abbrev s_Costs___init__ : Stmt := inClass (top 17) 0
theorem sc_Costs___init__ : FnScope ["self", "cell", "row", "column", "name", "move", "cost"] ["self", "cell", "row", "column", "name", "move"] (defScope s_Costs___init__) := ⟨rfl, rfl, rfl, by decide +kernel, rfl, by decide +kernel, by decide +kernel⟩
theorem ok_initC {f fW : Addr} {fd fdW : FuncData} {kws : List (Str × V)} (F : FunD K "__init__" "Costs.__init__" (defArgs s_Costs___init__) (defBody s_Costs___init__) (defScope s_Costs___init__) [] kws f fd) (T : TxtH K mg)
    (c_is_integer_within : ∀ base, Ca P w K mg base CX0 "is_integer_within" 2 ["value", "least", "most"] (spWithin K) fW fdW) : FnOk P w K mg base (L2.CX P w) 3 f fd ["self", "cell", "row", "column", "name", "move"] (spInitC K T.CC) := by
  have c_is_integer_within := c_is_integer_within base
  refine F.ok sc_Costs___init__ (fun vs H Q E h => ?_) (fun cdv A outer s H vs Q E hr h => ⟨_, (pss_cons (ps_for (passes_of rfl) rfl (pi_tupK K rfl (pe_tup (pa_cons (pv 1) (pa_cons (pv 2) (pa_cons (pv 3) (pa_cons (pv 4) (pa_cons (pv 5) pa_nil))))))) (pg_name (i := 6) sc_Costs___init__.nd rfl (Or.inl rfl)) (pss_one (ps_if (pt_not (pt_val (pe_call c_is_integer_within.G (hr.mono (by first | decide | omega)) (by rfl) c_is_integer_within.g c_is_integer_within.k c_is_integer_within.B .nil pass0 (pa_cons (pv 6) (pa_cons (pe_glob (v := .int 1) rfl T.c_LEAST_COST ⟨_, rfl⟩) (pa_cons (pe_glob (v := .int 50) rfl T.c_GREATEST_COST ⟨_, rfl⟩) pa_nil)))))) (pss_one (L2.LowV.ps_raiseLow rfl T.low hr (takes_of rfl rfl rfl rfl) (by exact (pa_cons (pv 6) pa_nil)))) pss_nil)))
    (pss_cons (ps_fld (pv 0) (pv 1) rfl)
    (pss_cons (ps_fld (pv 0) (pv 2) rfl)
    (pss_cons (ps_fld (pv 0) (pv 3) rfl)
    (pss_cons (ps_fld (pv 0) (pv 4) rfl)
    (pss_one (ps_fld (pv 0) (pv 5) rfl))))))), ?_⟩)
  · obtain ⟨_, _, _, rfl, _⟩ := h
    rfl
  obtain ⟨x, dx, b, rfl, hx, ok, kG⟩ := h
  obtain ⟨ok1, ok2, ok3, ok4, ok5⟩ := ok
  have all : ∀ v ∈ billV b, ∃ i : Int, v = .int i ∧ 1 ≤ i ∧ i ≤ 50 := by
    intro v hv
    simp only [billV, List.mem_cons, List.not_mem_nil, or_false] at hv
    rcases hv with rfl | rfl | rfl | rfl | rfl
    · exact ⟨_, rfl, ok1⟩
    · exact ⟨_, rfl, ok2⟩
    · exact ⟨_, rfl, ok3⟩
    · exact ⟨_, rfl, ok4⟩
    · exact ⟨_, rfl, ok5⟩
  refine ⟨_, rfl, _, rfl, _, rfl, _, rfl, _, rfl, by show 5 ≤ sizeLine; decide, fun t nt => ?_⟩
  have nxt : x ≠ t := ne_of_none hx nt
  have s1 : Same H (upd H t (.tup (billV b))) := Same.upd (Same.refl H) nt
  refine ⟨t, rfl, ⟨_, SqT.of upd_same⟩, for_tup (K := K) (a := t) (xs := billV b)
    (fun i σ H' => ∃ o, σ = [some (.ref x), some (.int b.cell), some (.int b.row), some (.int b.column), some (.int b.name), some (.int b.move), o] ∧ H' = upd H t (.tup (billV b)))
    ⟨none, rfl, rfl⟩ (fun i σ H' _ ⟨_, _, e2⟩ => by rw [e2]; exact SqT.of upd_same) ?_ ?_⟩
  · rintro i v σ H' hi ⟨o, rfl, rfl⟩
    obtain ⟨j, rfl, hj⟩ := all v (List.mem_of_getElem? hi)
    refine ⟨_, rfl, .int j, _, 1, 50, rfl, .int j, _, rfl, ?_⟩
    rw [okV_in hj]
    exact ⟨_, rfl, rfl⟩
  · rintro σ H' ⟨o, rfl, rfl⟩
    have hx1 : (upd H t (.tup (billV b))) x = some (.ins T.CC dx []) := by rw [upd_ne nxt]; exact hx
    refine ⟨_, rfl, _, rfl, x, T.CC, dx, _, rfl, hx1, T.clC, T.n_cell, by decide, ?_⟩
    refine ⟨_, rfl, _, rfl, x, T.CC, dx, _, rfl, upd_same, T.clC, T.n_row, by show 1 < 1000; decide, ?_⟩
    refine ⟨_, rfl, _, rfl, x, T.CC, dx, _, rfl, upd_same, T.clC, T.n_column, ?_, ?_⟩
    · exact Nat.lt_of_le_of_lt (Nat.le_trans (length_putF _ _ _) (Nat.succ_le_succ (length_putF _ _ _))) (by decide)
    refine ⟨_, rfl, _, rfl, x, T.CC, dx, _, rfl, upd_same, T.clC, T.n_name, ?_, ?_⟩
    · exact Nat.lt_of_le_of_lt (Nat.le_trans (length_putF _ _ _) (Nat.succ_le_succ (Nat.le_trans (length_putF _ _ _) (Nat.succ_le_succ (length_putF _ _ _))))) (by decide)
    refine ⟨_, rfl, _, rfl, x, T.CC, dx, _, rfl, upd_same, T.clC, T.n_move, ?_, ?_⟩
    · exact Nat.lt_of_le_of_lt (Nat.le_trans (length_putF _ _ _) (Nat.succ_le_succ (Nat.le_trans (length_putF _ _ _) (Nat.succ_le_succ (Nat.le_trans (length_putF _ _ _) (Nat.succ_le_succ (length_putF _ _ _))))))) (by decide)
    refine kG _ ?_ upd_same
    exact ((((((But.of s1).upd).upd).upd).upd).upd)
abbrev s_law_five : Stmt := top 44
theorem sc_law_five : FnScope ["_law_pot_here", "_law_usual", "_law_turn"] ["_law_pot_here"] (defScope s_law_five) := ⟨rfl, rfl, rfl, by decide +kernel, rfl, by decide +kernel, by decide +kernel⟩
theorem ok_five {f fD fA : Addr} {fd fdD fdA : FuncData} (F : Fun K "_law_five" "_law_five" s_law_five f fd) (T : TxtH K mg)
    (c_law_draw : ∀ base, Ca P w K mg base CX0 "_law_draw" 1 ["_law_pot_here", "_law_many"] spDraw fD fdD) (c_law_any : ∀ base, Ca P w K mg base CX0 "_law_any" 2 ["_law_pot_here", "_law_items"] spAny fA fdA) : FnOk P w K mg base CX0 3 f fd ["_law_pot_here"] (spFive K) := by
  have c_law_draw := c_law_draw base
  have c_law_any := c_law_any base
  refine F.ok sc_law_five (fun vs H Q E h => ?_) (fun cdv A outer s H vs Q E hr h => ⟨_, (pss_cons (ps_set (i := 1) sc_law_five.nd rfl (Or.inl rfl) (pe_lst (pa_cons (pe_tup (pa_cons pe_int (pa_cons pe_int (pa_cons pe_int (pa_cons pe_int (pa_cons pe_int pa_nil)))))) (pa_cons (pe_tup (pa_cons pe_int (pa_cons pe_int (pa_cons pe_int (pa_cons pe_int (pa_cons pe_int pa_nil)))))) (pa_cons (pe_tup (pa_cons pe_int (pa_cons pe_int (pa_cons pe_int (pa_cons pe_int (pa_cons pe_int pa_nil)))))) (pa_cons (pe_tup (pa_cons pe_int (pa_cons pe_int (pa_cons pe_int (pa_cons pe_int (pa_cons pe_int pa_nil)))))) (pa_cons (pe_tup (pa_cons pe_int (pa_cons pe_int (pa_cons pe_int (pa_cons pe_int (pa_cons pe_int pa_nil)))))) (pa_cons (pe_tup (pa_cons pe_int (pa_cons pe_int (pa_cons pe_int (pa_cons pe_int (pa_cons pe_int pa_nil)))))) pa_nil))))))))
    (pss_one (ps_ret (pe_call c_law_any.G (hr.mono (by first | decide | omega)) (by rfl) c_law_any.g c_law_any.k c_law_any.B .nil pass0 (pa_cons (pv 0) (pa_cons (pe_op op_cat (pv 1) (pe_lst (pa_cons (pe_callTy (call_tupleK K rfl) (by rfl) T.b_tuple (by decide +kernel) (pa_cons (pe_lc (own := [("_law_turn", 2)]) (g := gName 2) (tt := tYes) rfl sc_law_five.nd (pi_range1 (by rfl) T.b_range (pa_cons pe_int pa_nil)) (blkOk_by (N := ["_law_pot_here", "_law_usual", "_law_turn"]) (sc := defScope s_law_five) (by decide +kernel)) (fun _ _ _ _ _ => (pg_name (i := 2) sc_law_five.nd rfl (Or.inl rfl))) (fun _ _ _ _ _ => pts_nil) (fun _ _ _ _ _ => (pe_op op_add pe_int (pe_call c_law_draw.G (hr.mono (by first | decide | omega)) (by rfl) c_law_draw.g c_law_draw.k c_law_draw.B .nil pass0 (pa_cons (pv 0) (pa_cons pe_int pa_nil)))))) pa_nil)) pa_nil))) pa_nil)))))), ?_⟩)
  · obtain ⟨_, _, rfl, _⟩ := h
    rfl
  obtain ⟨p, n, rfl, hn, pot, k⟩ := h
  have sl : sizeLine = 16777216 := sizeLine_eq
  have t5 : 5 ≤ sizeLine := by omega
  refine ⟨t5, fun a1 n1 => ⟨t5, fun a2 n2 => ⟨t5, fun a3 n3 => ⟨t5, fun a4 n4 => ⟨t5, fun a5 n5 => ⟨t5, fun a6 n6 => ⟨by show 6 ≤ sizeLine; omega, fun L nL => ?_⟩⟩⟩⟩⟩⟩⟩
  have s1 := Same.one (o := .tup [.int 3, .int 4, .int 5, .int 1, .int 1]) n1
  have s2 := Same.one (o := .tup [.int 3, .int 4, .int 5, .int 1, .int 1]) n2
  have s3 := Same.one (o := .tup [.int 1, .int 1, .int 1, .int 1, .int 1]) n3
  have s4 := Same.one (o := .tup [.int 2, .int 3, .int 4, .int 1, .int 2]) n4
  have s5 := Same.one (o := .tup [.int 2, .int 1, .int 3, .int 1, .int 1]) n5
  have s6 := Same.one (o := .tup [.int 50, .int 50, .int 50, .int 50, .int 50]) n6
  have s7 := Same.one (o := .lst [.ref a1, .ref a2, .ref a3, .ref a4, .ref a5, .ref a6]) nL
  have sA := (((((s1.trans s2).trans s3).trans s4).trans s5).trans s6).trans s7
  obtain ⟨G, eG, sG⟩ := heapOf sA
  have okB : ∀ b : Bill, ((1 ≤ b.cell ∧ b.cell ≤ 50) ∧ (1 ≤ b.row ∧ b.row ≤ 50) ∧ (1 ≤ b.column ∧ b.column ≤ 50) ∧ (1 ≤ b.name ∧ b.name ≤ 50) ∧ (1 ≤ b.move ∧ b.move ≤ 50)) → BillOk b := fun b h => h
  have all : ∀ v ∈ [V.ref a1, .ref a2, .ref a3, .ref a4, .ref a5, .ref a6], Five K G v := fun v hv => by
    rw [eG]
    simp only [List.mem_cons, List.not_mem_nil, or_false] at hv
    rcases hv with rfl | rfl | rfl | rfl | rfl | rfl
    · exact Five.same ⟨a1, ⟨3, 4, 5, 1, 1⟩, rfl, SqT.of upd_same, okB _ (by decide)⟩ (((((s2.trans s3).trans s4).trans s5).trans s6).trans s7)
    · exact Five.same ⟨a2, ⟨3, 4, 5, 1, 1⟩, rfl, SqT.of upd_same, okB _ (by decide)⟩ ((((s3.trans s4).trans s5).trans s6).trans s7)
    · exact Five.same ⟨a3, ⟨1, 1, 1, 1, 1⟩, rfl, SqT.of upd_same, okB _ (by decide)⟩ (((s4.trans s5).trans s6).trans s7)
    · exact Five.same ⟨a4, ⟨2, 3, 4, 1, 2⟩, rfl, SqT.of upd_same, okB _ (by decide)⟩ ((s5.trans s6).trans s7)
    · exact Five.same ⟨a5, ⟨2, 1, 3, 1, 1⟩, rfl, SqT.of upd_same, okB _ (by decide)⟩ (s6.trans s7)
    · exact Five.same ⟨a6, ⟨50, 50, 50, 50, 50⟩, rfl, SqT.of upd_same, okB _ (by decide)⟩ s7
  have hL : G L = some (HO.lst [V.ref a1, .ref a2, .ref a3, .ref a4, .ref a5, .ref a6]) := by rw [eG]; exact upd_same
  have pot1 := pot.same sG
  have but1 : But p H G := But.of sG
  have Lp : L ≠ p := ((pot.same (((((s1.trans s2).trans s3).trans s4).trans s5).trans s6)).ne nL).symm
  rw [← eG]
  clear eG sA s1 s2 s3 s4 s5 s6 s7 nL n1 n2 n3 n4 n5 n6
  refine ⟨_, rfl, _, rfl, 5, rfl, by decide, by decide, fun D nD => lc_range (lo := 0) (n := 5) (fun j H' => ∃ acc : List V, H' D = some (.lst acc) ∧ acc.length = j ∧ (∀ v ∈ acc, ∃ i : Int, v = .int i ∧ 1 ≤ i ∧ i ≤ 50) ∧ Pot H' p (n + j) ∧ But p G H') ⟨[], upd_same, rfl, by simp, pot1.new nD, But.of (Same.one nD)⟩ ?_ ?_⟩
  · rintro j H2 hj ⟨acc, hD, la, hc, pot2, but2⟩
    have Dp : D ≠ p := (pot1.ne nD).symm
    refine ⟨rfl, _, rfl, p, 6, n + j, rfl, ⟨by decide, by decide⟩, by omega, pot2, fun r H3 r0 r1 pot3 but3 => ⟨_, _, rfl, rfl, acc, but3 D _ Dp hD, by omega, acc ++ [.int (1 + r)], upd_same, by simp [la], fun u hu => ?_, (pot3.more (by omega)).upd Dp.symm, (but2.trans but3).updN nD⟩⟩
    rcases List.mem_append.mp hu with hu | hu
    · exact hc u hu
    · obtain rfl := List.mem_singleton.mp hu
      exact ⟨_, rfl, by omega, by omega⟩
  rintro H2 ⟨acc, hD, la, hc, pot2, but2⟩
  obtain ⟨a, b, c, d, e, rfl⟩ := list5 la
  obtain ⟨a, rfl, ha⟩ := hc a (by simp)
  obtain ⟨b, rfl, hb⟩ := hc b (by simp)
  obtain ⟨c, rfl, hc'⟩ := hc c (by simp)
  obtain ⟨d, rfl, hd⟩ := hc d (by simp)
  obtain ⟨e, rfl, he⟩ := hc e (by simp)
  refine ⟨D, _, rfl, .inl ⟨SqL.of hD, fun l nl => ⟨by show 1 ≤ sizeLine; omega, fun M nM => ⟨L, M, [V.ref a1, .ref a2, .ref a3, .ref a4, .ref a5, .ref a6], [.ref l], rfl, rfl, ?_, upd_same, by show 6 + 1 ≤ sizeLine; omega, fun Z nZ => ?_⟩⟩⟩⟩
  · exact Same.one nM _ _ (Same.one nl _ _ (but2 L _ Lp hL))
  have q1 := Same.one (o := .tup [.int a, .int b, .int c, .int d, .int e]) nl
  have q2 := Same.one (o := .lst [.ref l]) nM
  have q3 := Same.one (o := .lst ([V.ref a1, .ref a2, .ref a3, .ref a4, .ref a5, .ref a6] ++ [.ref l])) nZ
  obtain ⟨Gz, eZ, q⟩ := heapOf ((q1.trans q2).trans q3)
  have potZ := pot2.same q
  have all2 : ∀ v ∈ [V.ref a1, .ref a2, .ref a3, .ref a4, .ref a5, .ref a6] ++ [.ref l], Five K Gz v := fun v hv => by
    rcases List.mem_append.mp hv with hv | hv
    · exact ((all v hv).but pot1 but2).same q
    · obtain rfl := List.mem_singleton.mp hv
      rw [eZ]
      exact Five.same ⟨l, ⟨a, b, c, d, e⟩, rfl, SqT.of upd_same, ⟨ha, hb, hc', hd, he⟩⟩ (q2.trans q3)
  refine ⟨p, Z, _, n + 5, rfl, upd_same, ((pot2.same (q1.trans q2)).ne nZ).symm, ⟨by show 1 ≤ 7; decide, by show 7 < 1000; decide⟩, by omega, by rw [← eZ]; exact potZ, fun x H' hx pot' but' => ?_⟩
  rw [← eZ] at but'
  obtain ⟨z, bz, rfl, hz, oz⟩ := (all2 x hx).but potZ but'
  exact k z H' bz hz oz pot' ((((but1.trans but2).same q)).trans but')
abbrev s_law_costs : Stmt := top 45
theorem sc_law_costs : FnScope ["_law_five_here"] ["_law_five_here"] (defScope s_law_costs) := ⟨rfl, rfl, rfl, by decide +kernel, rfl, by decide +kernel, by decide +kernel⟩
theorem ok_costs {f fI : Addr} {fd fdI : FuncData} (F : Fun K "_law_costs" "_law_costs" s_law_costs f fd) (T : TxtH K mg) (M : Mk K T.CC fI)
    (FI : FunD K "__init__" "Costs.__init__" (defArgs s_Costs___init__) (defBody s_Costs___init__) (defScope s_Costs___init__) [] [("cell", .int 3), ("row", .int 4), ("column", .int 5), ("name", .int 1), ("move", .int 1)] fI fdI)
    (G : ∀ base, FnOk P w K mg base (L2.CX P w) 3 fI fdI ["self", "cell", "row", "column", "name", "move"] (spInitC K T.CC)) : FnOk P w K mg base (L2.CX P w) 5 f fd ["_law_five_here"] (spMkT K T.CC) := by
  have G := G base
  obtain ⟨mv0, hb0⟩ := FI.kbinds0 (ps := ["self", "cell", "row", "column", "name", "move"]) 1 ["cell", "row", "column", "name", "move"] [] (fun {α} us _ ws => us ++ ws) (by simp) (by simp)
    (fun r1 r2 r3 => r1.append r3) (fun D doc pm an cdv ct us mv ws h1 h2 h3 => by
      obtain ⟨u, rfl⟩ := List.length_eq_one_iff.mp h1
      match mv, h2, ws, h3 with
      | [], _, [w1, w2, w3, w4, w5], _ => rfl)
  refine F.okX sc_law_costs (fun vs H Q E h => ?_) (fun cdv A outer s H vs Q E hr h => ⟨_, (pss_one (ps_ret (pe_makeK0 M G (hr.mono (by decide)) (by rfl) T.g_Costs hb0 (passes_call (takes_of rfl rfl rfl rfl) fun _ _ _ _ z => z) (pk_cons (pe_ix (ix_tupK K rfl) (pv 0) pe_int (fun _ _ => rfl)) (pk_cons (pe_ix (ix_tupK K rfl) (pv 0) pe_int (fun _ _ => rfl)) (pk_cons (pe_ix (ix_tupK K rfl) (pv 0) pe_int (fun _ _ => rfl)) (pk_cons (pe_ix (ix_tupK K rfl) (pv 0) pe_int (fun _ _ => rfl)) (pk_cons (pe_ix (ix_tupK K rfl) (pv 0) pe_int (fun _ _ => rfl)) pk_nil)))))))), ?_⟩)
  · obtain ⟨_, _, rfl, _⟩ := h
    rfl
  obtain ⟨l, b, rfl, hl, ok, kG⟩ := h
  refine ⟨_, rfl, l, _, _, _, rfl, rfl, hl, rfl, _, rfl, l, _, _, _, rfl, rfl, hl, rfl, _, rfl, l, _, _, _, rfl, rfl, hl, rfl, _, rfl, l, _, _, _, rfl, rfl, hl, rfl, _, rfl, l, _, _, _, rfl, rfl, hl, rfl, rfl, rfl, fun x dx nx ndx ne => ?_⟩
  have s1 : Same H (upd (upd H dx (.own x)) x (.ins T.CC dx [])) := Same.upd (Same.upd (Same.refl H) ndx) (by rw [upd_ne (Ne.symm ne)]; exact nx)
  exact ⟨x, dx, b, rfl, upd_same, ok, fun H' bt hx => ⟨rfl, kG x H' (fun p o e => bt p o (ne_of_none e nx) (s1 p o e)) ⟨dx, hx⟩⟩⟩
end
end K49

set_option Elab.async false
set_option linter.all false
set_option maxRecDepth 100000
set_option maxHeartbeats 8000000
namespace K49
open PySem L2 Xby
def spChkT (K : PySem.W.Frag) (C : Addr) : Sp := fun vs H Q _ => ∃ (a : Addr) (hs : List Str) (rs : List (List V)), vs = [.ref a] ∧ IsTab K C H a hs rs ∧ Q .non H
def spChkC (CC : Addr) : Sp := fun vs H Q _ => ∃ (a : Addr) (b : Bill), vs = [.ref a] ∧ IsCosts CC H a b ∧ Q .non H
def spChkV (EV : Addr) : Sp := fun vs H Q E => ∃ (i lo hi : Int), vs = [.int i, .int lo, .int hi] ∧ (okV lo hi (.int i) = true → Q .non H) ∧ (okV lo hi (.int i) = false → ∀ (e : Addr) H', Same H H' → H' e = some (.xd [(("value" : Str), .int i)]) → E (.ref EV) (some e) H')
section
variable {P : Program} {w : World} {K : PySem.W.Frag} {mg : Str → Option Value} {base : Heap}
abbrev s_check_table : Stmt := top 30
theorem sc_check_table : FnScope ["value"] ["value"] (defScope s_check_table) := ⟨rfl, rfl, rfl, by decide +kernel, rfl, by decide +kernel, by decide +kernel⟩
theorem ok_chkt {f : Addr} {fd : FuncData} (F : Fun K "check_table" "check_table" s_check_table f fd) (T : TxtH K mg) : FnOk P w K mg base (L2.CX P w) 1 f fd ["value"] (spChkT K T.C) := by
  refine F.okX sc_check_table (fun vs H Q E h => ?_) (fun cdv A outer s H vs Q E hr h => ⟨_, (pss_one (ps_if (pt_not (pt_val (pe_callB (call_isiK K rfl) (by rfl) T.b_isinstance (by decide +kernel) (pa_cons (pv 0) (pa_cons (pe_glob (v := .ref T.C) rfl T.g_Table rfl) pa_nil))))) (pss_one (L2.LowV.ps_raiseLow rfl T.eT hr (takes_of rfl rfl rfl rfl) (by exact (pa_cons (pv 0) pa_nil)))) pss_nil)), ?_⟩)
  · obtain ⟨_, _, _, rfl, _⟩ := h
    rfl
  obtain ⟨a, hs, rs, rfl, t1, k⟩ := h
  obtain ⟨dx, ac, ar, xr, u1⟩ := id t1
  refine ⟨_, rfl, _, _, _, _, _, rfl, .own T.C, .base (.ins u1.at_ T.cl T.oC.ca T.oC.cn T.oC.ct T.oC.cm), T.oC.kcc, _, rfl, ?_⟩
  exact iteF k
abbrev s_check_costs : Stmt := top 31
theorem sc_check_costs : FnScope ["value"] ["value"] (defScope s_check_costs) := ⟨rfl, rfl, rfl, by decide +kernel, rfl, by decide +kernel, by decide +kernel⟩
theorem ok_chkc {f : Addr} {fd : FuncData} (F : Fun K "check_costs" "check_costs" s_check_costs f fd) (T : TxtH K mg) : FnOk P w K mg base (L2.CX P w) 1 f fd ["value"] (spChkC T.CC) := by
  refine F.okX sc_check_costs (fun vs H Q E h => ?_) (fun cdv A outer s H vs Q E hr h => ⟨_, (pss_one (ps_if (pt_not (pt_val (pe_callB (call_isiK K rfl) (by rfl) T.b_isinstance (by decide +kernel) (pa_cons (pv 0) (pa_cons (pe_glob (v := .ref T.CC) rfl T.g_Costs rfl) pa_nil))))) (pss_one (L2.LowV.ps_raiseLow rfl T.eS hr (takes_of rfl rfl rfl rfl) (by exact (pa_cons (pv 0) pa_nil)))) pss_nil)), ?_⟩)
  · obtain ⟨_, _, rfl, _⟩ := h
    rfl
  obtain ⟨a, b, rfl, ⟨dx, hx⟩, k⟩ := h
  refine ⟨_, rfl, _, _, _, _, _, rfl, .own T.CC, .base (.ins hx T.clC T.oCC.ca T.oCC.cn T.oCC.ct T.oCC.cm), T.oCC.kcc, _, rfl, ?_⟩
  exact iteF k
abbrev s_check_version : Stmt := top 32
theorem sc_check_version : FnScope ["value", "least", "most"] ["value", "least", "most"] (defScope s_check_version) := ⟨rfl, rfl, rfl, by decide +kernel, rfl, by decide +kernel, by decide +kernel⟩
theorem ok_chkv {f fI : Addr} {fd fdI : FuncData} (F : Fun K "check_version" "check_version" s_check_version f fd) (T : TxtH K mg)
    (c_is_integer_within : ∀ base, Ca P w K mg base CX0 "is_integer_within" 2 ["value", "least", "most"] (spWithin K) fI fdI) : FnOk P w K mg base (L2.CX P w) 3 f fd ["value", "least", "most"] (spChkV T.EV) := by
  have c_is_integer_within := c_is_integer_within base
  refine F.okX sc_check_version (fun vs H Q E h => ?_) (fun cdv A outer s H vs Q E hr h => ⟨_, (pss_one (ps_if (pt_not (pt_val (pe_call c_is_integer_within.G (hr.mono (by first | decide | omega)) (by rfl) c_is_integer_within.g c_is_integer_within.k c_is_integer_within.B .nil pass0 (pa_cons (pv 0) (pa_cons (pv 1) (pa_cons (pv 2) pa_nil)))))) (pss_one (L2.LowV.ps_raiseLow rfl T.eV hr (takes_of rfl rfl rfl rfl) (by exact (pa_cons (pv 0) pa_nil)))) pss_nil)), ?_⟩)
  · obtain ⟨_, _, _, rfl, _⟩ := h
    rfl
  obtain ⟨i, lo, hi, rfl, k, kE⟩ := h
  refine ⟨_, rfl, _, rfl, _, rfl, .int i, _, lo, hi, rfl, .int i, _, rfl, ?_⟩
  cases ho : okV lo hi (.int i) with
  | true => exact iteF (k ho)
  | false => exact iteT ⟨_, rfl, _, rfl, fun d' nd => kE ho d' _ (Same.upd (Same.refl _) nd) upd_same⟩
end
end K49

set_option Elab.async false
set_option linter.all false
set_option maxRecDepth 100000
set_option maxHeartbeats 4000000
namespace Xby
open PySem PySem.Spec PyProof.Rows L2 StX
/-- *e among others, with K told -/
theorem pa_starK {X : Cx} {e : Expr} {es : List Expr} {te : TE} {t : TA} {p : Pos} (K : PySem.W.Frag) (hK : X.K = K) (he : PE X e te) (hr : PA X es t) (hs : starEach (.Starred e p :: es) X.env = (true, eval e X.env) :: starEach es X.env := by rfl) : PA X (.Starred e p :: es) (tStar K te t) := by
  subst hK
  exact pa_star he hr hs
end Xby

set_option Elab.async false
set_option linter.all false
set_option maxRecDepth 100000
set_option maxHeartbeats 8000000
namespace K49
open PySem L2 Xby StX
abbrev Tb := List Str × List (List V)
/-- tables, one behind another -/
inductive Tabs (K : PySem.W.Frag) (C : Addr) (H : Hp) : List V → List Tb → Prop
  | nil : Tabs K C H [] []
  | cons {a : Addr} {t : Tb} {xs : List V} {ts : List Tb} : IsTab K C H a t.1 t.2 → Tabs K C H xs ts → Tabs K C H (.ref a :: xs) (t :: ts)
def usual : Bill := ⟨3, 4, 5, 1, 1⟩
/-- a history: its tables, its costs; nothing said -/
structure HistF (K : PySem.W.Frag) (C CC HC : Addr) (H : Hp) (h dx : Addr) (fs : List (Str × V)) (tt c e : Addr) (xs : List V) (ts : List Tb) (b : Bill) : Prop where
  at_ : H h = some (.ins HC dx fs)
  tables : fs.lookup ("tables" : Str) = some (.ref tt)
  last : fs.lookup ("last" : Str) = some (.int ((ts.length : Int) - 1))
  costs : fs.lookup ("costs" : Str) = some (.ref c)
  sayings : fs.lookup ("sayings" : Str) = some (.ref e)
  tt : SqT K H tt xs
  tabs : Tabs K C H xs ts
  bill : IsCosts CC H c b
  none_ : SqT K H e []
  nt : fs.lookup ("columns" : Str) = none
  nc : fs.lookup ("cell" : Str) = none
  ma : fs.lookup ("add" : Str) = none
  mv : fs.lookup ("version" : Str) = none
  mr : fs.lookup ("recost" : Str) = none
def IsHist (K : PySem.W.Frag) (C CC HC : Addr) (m : Nat) (H : Hp) (h : Addr) (ts : List Tb) (b : Bill) : Prop := ∃ dx fs tt c e xs, fs.length ≤ m ∧ HistF K C CC HC H h dx fs tt c e xs ts b
section
variable {K : PySem.W.Frag} {C CC HC h dx tt c e p a : Addr} {H H' : Hp} {fs : List (Str × V)} {xs : List V} {ts : List Tb} {b : Bill} {m n : Nat}
theorem seqButI {y : Addr} {ys : List V} {D dy : Addr} {gs : List (Str × V)} (q : SqT K H y ys) (hx : H h = some (.ins D dy gs)) (s : But h H H') : SqT K H' y ys := by
  rcases q with (q | ⟨o, q⟩) | ⟨o, i, j, q⟩
  · exact .inl (.inl (s y _ (by rintro rfl; rw [q] at hx; cases hx) q))
  · exact .inl (.inr ⟨o, s y _ (by rintro rfl; rw [q] at hx; cases hx) q⟩)
  · exact .inr ⟨o, i, j, q⟩
theorem rowsButI {wd : Nat} {ys : List V} {rs : List (List V)} {D dy : Addr} {gs : List (Str × V)} (q : RowsK K H wd ys rs) (hx : H h = some (.ins D dy gs)) (s : But h H H') : RowsK K H' wd ys rs := by
  induction q with
  | nil => exact .nil
  | cons e l m _ ih => exact .cons (seqButI e hx s) l m ih
theorem tabButI {hs : List Str} {rs : List (List V)} {D dy : Addr} {gs : List (Str × V)} (t : IsTab K C H a hs rs) (hx : H h = some (.ins D dy gs)) (ng : gs.lookup ("columns" : Str) = none) (s : But h H H') : IsTab K C H' a hs rs := by
  obtain ⟨dx, ac, ar, xs, t⟩ := t
  have ne : a ≠ h := by
    rintro rfl
    have := t.at_.symm.trans hx
    injection this with this
    injection this with _ _ this
    rw [← this, l_columns] at ng
    cases ng
  exact ⟨dx, ac, ar, xs, s _ _ ne t.at_, seqButI t.c hx s, seqButI t.r hx s, rowsButI t.rows hx s, t.w1, t.w3, t.hw, t.nd, t.r6⟩
theorem billButI {D dy : Addr} {gs : List (Str × V)} (t : IsCosts CC H a b) (hx : H h = some (.ins D dy gs)) (ng : gs.lookup ("cell" : Str) = none) (s : But h H H') : IsCosts CC H' a b := by
  obtain ⟨dx, t⟩ := t
  refine ⟨dx, s _ _ ?_ t⟩
  rintro rfl
  have := t.symm.trans hx
  injection this with this
  injection this with _ _ this
  rw [← this] at ng
  unfold fldB at ng
  rw [l_cell] at ng
  cases ng
theorem Tabs.butI {D dy : Addr} {gs : List (Str × V)} (t : Tabs K C H xs ts) (hx : H h = some (.ins D dy gs)) (ng : gs.lookup ("columns" : Str) = none) (s : But h H H') : Tabs K C H' xs ts := by
  induction t with
  | nil => exact .nil
  | cons t _ ih => exact .cons (tabButI t hx ng s) ih
theorem Tabs.same (t : Tabs K C H xs ts) (s : Same H H') : Tabs K C H' xs ts := by
  induction t with
  | nil => exact .nil
  | cons t _ ih => exact .cons (t.same s) ih
theorem Tabs.but (t : Tabs K C H xs ts) (pot : Pot H p n) (s : But p H H') : Tabs K C H' xs ts := by
  induction t with
  | nil => exact .nil
  | cons t _ ih => exact .cons (t.but pot s) ih
theorem Tabs.len (t : Tabs K C H xs ts) : xs.length = ts.length := by
  induction t with
  | nil => rfl
  | cons _ _ ih => simp [ih]
theorem Tabs.snoc {t : Tb} (h : Tabs K C H xs ts) (ht : IsTab K C H a t.1 t.2) : Tabs K C H (xs ++ [.ref a]) (ts ++ [t]) := by
  induction h with
  | nil => exact .cons ht .nil
  | cons t _ ih => exact .cons t ih
end
def fsH (tt c e d : Addr) : List (Str × V) := putF "comparisons" (.ref d) (putF "open_trials" (.int 0) (putF "next_number" (.int 0) (putF "sayings" (.ref e) (putF "costs" (.ref c) (putF "last" (.int 0) (putF "tables" (.ref tt) []))))))
theorem hist_made {K : PySem.W.Frag} {C CC HC x dx t tt c e d : Addr} {H H' : Hp} {hs : List Str} {rs : List (List V)} {b : Bill} (hx : H x = some (.ins HC dx [])) (t1 : IsTab K C H t hs rs) (bf : But x H H') (h1 : H' x = some (.ins HC dx (fsH tt c e d))) (h2 : SqT K H' tt [.ref t]) (h3 : IsCosts CC H' c b) (h4 : SqT K H' e []) : IsHist K C CC HC 7 H' x [(hs, rs)] b :=
  ⟨dx, fsH tt c e d, tt, c, e, [.ref t], Nat.le_of_eq rfl, ⟨h1, by unfold fsH; rw [lookup_putF, if_neg (by decide +kernel), lookup_putF, if_neg (by decide +kernel), lookup_putF, if_neg (by decide +kernel), lookup_putF, if_neg (by decide +kernel), lookup_putF, if_neg (by decide +kernel), lookup_putF, if_neg (by decide +kernel), lookup_putF, if_pos rfl], by unfold fsH; rw [lookup_putF, if_neg (by decide +kernel), lookup_putF, if_neg (by decide +kernel), lookup_putF, if_neg (by decide +kernel), lookup_putF, if_neg (by decide +kernel), lookup_putF, if_neg (by decide +kernel), lookup_putF, if_pos rfl]; rfl, by unfold fsH; rw [lookup_putF, if_neg (by decide +kernel), lookup_putF, if_neg (by decide +kernel), lookup_putF, if_neg (by decide +kernel), lookup_putF, if_neg (by decide +kernel), lookup_putF, if_pos rfl], by unfold fsH; rw [lookup_putF, if_neg (by decide +kernel), lookup_putF, if_neg (by decide +kernel), lookup_putF, if_neg (by decide +kernel), lookup_putF, if_pos rfl], h2, .cons (tabButI t1 hx rfl bf) .nil, h3, h4, by unfold fsH; rw [lookup_putF, if_neg (by decide +kernel), lookup_putF, if_neg (by decide +kernel), lookup_putF, if_neg (by decide +kernel), lookup_putF, if_neg (by decide +kernel), lookup_putF, if_neg (by decide +kernel), lookup_putF, if_neg (by decide +kernel), lookup_putF, if_neg (by decide +kernel)]; rfl, by unfold fsH; rw [lookup_putF, if_neg (by decide +kernel), lookup_putF, if_neg (by decide +kernel), lookup_putF, if_neg (by decide +kernel), lookup_putF, if_neg (by decide +kernel), lookup_putF, if_neg (by decide +kernel), lookup_putF, if_neg (by decide +kernel), lookup_putF, if_neg (by decide +kernel)]; rfl, by unfold fsH; rw [lookup_putF, if_neg (by decide +kernel), lookup_putF, if_neg (by decide +kernel), lookup_putF, if_neg (by decide +kernel), lookup_putF, if_neg (by decide +kernel), lookup_putF, if_neg (by decide +kernel), lookup_putF, if_neg (by decide +kernel), lookup_putF, if_neg (by decide +kernel)]; rfl, by unfold fsH; rw [lookup_putF, if_neg (by decide +kernel), lookup_putF, if_neg (by decide +kernel), lookup_putF, if_neg (by decide +kernel), lookup_putF, if_neg (by decide +kernel), lookup_putF, if_neg (by decide +kernel), lookup_putF, if_neg (by decide +kernel), lookup_putF, if_neg (by decide +kernel)]; rfl, by unfold fsH; rw [lookup_putF, if_neg (by decide +kernel), lookup_putF, if_neg (by decide +kernel), lookup_putF, if_neg (by decide +kernel), lookup_putF, if_neg (by decide +kernel), lookup_putF, if_neg (by decide +kernel), lookup_putF, if_neg (by decide +kernel), lookup_putF, if_neg (by decide +kernel)]; rfl⟩⟩
def spInitH (K : PySem.W.Frag) (C CC HC : Addr) : Sp := fun vs H Q _ => ∃ (x dx t : Addr) (cv : V) (hs : List Str) (rs : List (List V)) (b : Bill), vs = [.ref x, .ref t, cv] ∧ H x = some (.ins HC dx []) ∧ IsTab K C H t hs rs ∧ ((cv = .non ∧ b = usual) ∨ ∃ c, cv = .ref c ∧ IsCosts CC H c b) ∧
  ∀ H', But x H H' → IsHist K C CC HC 7 H' x [(hs, rs)] b → Q .non H'
section
variable {P : Program} {w : World} {K : PySem.W.Frag} {mg : Str → Option Value} {base : Heap}
abbrev s_History___init__ : Stmt := inClass (top 33) 0
theorem sc_History___init__ : FnScope ["self", "table", "costs"] ["self", "table", "costs"] (defScope s_History___init__) := ⟨rfl, rfl, rfl, by decide +kernel, rfl, by decide +kernel, by decide +kernel⟩
theorem ok_inith {f fT fC fI : Addr} {fd fdT fdC fdI : FuncData} {g : List Value → List Value → List Value} (F : FunD K "__init__" "History.__init__" (defArgs s_History___init__) (defBody s_History___init__) (defScope s_History___init__) [.non] [] f fd) (T : TxtH K mg) (MC : Mk K T.CC fI)
    (GC : ∀ base, FnOk P w K mg base (L2.CX P w) 3 fI fdI ["self", "cell", "row", "column", "name", "move"] (spInitC K T.CC))
    (hbC : KBn K fdI ["self", "cell", "row", "column", "name", "move"] 1 [] g (fun vs zs => vs ++ [.int 3, .int 4, .int 5, .int 1, .int 1]))
    (c_check_table : ∀ base, Ca P w K mg base (L2.CX P w) "check_table" 1 ["value"] (spChkT K T.C) fT fdT) (c_check_costs : ∀ base, Ca P w K mg base (L2.CX P w) "check_costs" 1 ["value"] (spChkC T.CC) fC fdC) : FnOk P w K mg base (L2.CX P w) 5 f fd ["self", "table", "costs"] (spInitH K T.C T.CC T.HC) := by
  have c_check_table := c_check_table base
  have c_check_costs := c_check_costs base
  have GC := GC base
  refine F.ok sc_History___init__ (fun vs H Q E h => ?_) (fun cdv A outer s H vs Q E hr h => ⟨_, (pss_cons (ps_expr (pe_call c_check_table.G (hr.mono (by first | decide | omega)) (by rfl) c_check_table.g c_check_table.k c_check_table.B .nil (passes_call (takes_of rfl rfl rfl rfl) fun _ _ _ _ z => z) (pa_cons (pv 1) pa_nil)))
    (pss_cons (ps_if (pt_cmpR op_notN (pv 2) pe_non (nomark _)) (pss_one (ps_expr (pe_call c_check_costs.G (hr.mono (by first | decide | omega)) (by rfl) c_check_costs.g c_check_costs.k c_check_costs.B .nil (passes_call (takes_of rfl rfl rfl rfl) fun _ _ _ _ z => z) (pa_cons (pv 2) pa_nil)))) pss_nil)
    (pss_cons (ps_fld (pv 0) (pe_tup (pa_cons (pv 1) pa_nil)) rfl)
    (pss_cons (ps_fld (pv 0) pe_int rfl)
    (pss_cons (ps_fld (pv 0) (pe_ifExp (pt_cmpR op_isN (pv 2) pe_non (nomark _)) (pe_makeK0 MC GC (hr.mono (by decide)) (by rfl) T.g_Costs hbC (passes_call (takes_of rfl rfl rfl rfl) fun _ _ _ _ z => z) pk_nil) (pv 2)) rfl)
    (pss_cons (ps_fld (pv 0) (pe_tup pa_nil) rfl)
    (pss_cons (ps_fld (pv 0) pe_int rfl)
    (pss_cons (ps_fld (pv 0) pe_int rfl)
    (pss_one (ps_fld (pv 0) pe_dnewK rfl)))))))))), ?_⟩)
  · obtain ⟨_, _, _, _, _, _, _, rfl, _⟩ := h
    rfl
  obtain ⟨x, dx, t, cv, hs, rs, b, rfl, hx, t1, how, k⟩ := h
  refine ⟨_, rfl, t, hs, rs, rfl, t1, ?_⟩
  have sl : 1 ≤ sizeLine := by decide
  rcases how with ⟨rfl, rfl⟩ | ⟨c, rfl, ic⟩
  · refine ⟨_, rfl, rfl, _, rfl, iteF ?_⟩
    refine ⟨_, rfl, sl, fun tt nt => ⟨_, rfl, x, T.HC, dx, _, rfl, Same.one nt _ _ hx, T.oH.cl, T.n_tables, by show 0 < 1000; decide, ?_⟩⟩
    refine ⟨_, rfl, x, T.HC, dx, _, rfl, upd_same, T.oH.cl, T.n_last, by show 1 < 1000; decide, ?_⟩
    refine ⟨_, rfl, rfl, _, rfl, iteT ⟨rfl, rfl, fun y dy ny ndy nyd => ⟨y, dy, usual, rfl, upd_same, by unfold BillOk usual; decide, fun H4 bt hy => ⟨rfl, ?_⟩⟩⟩⟩
    have xy : x ≠ y := ne_of_none upd_same ny
    have xd : x ≠ dy := ne_of_none upd_same ndy
    have hx4 := bt x _ xy (by rw [upd_ne xy, upd_ne xd]; exact upd_same)
    refine ⟨_, rfl, x, T.HC, dx, _, rfl, hx4, T.oH.cl, T.n_hcosts, by show 2 < 1000; decide, ?_⟩
    refine ⟨by show 0 ≤ sizeLine; decide, fun e ne => ⟨_, rfl, x, T.HC, dx, _, rfl, Same.one ne _ _ upd_same, T.oH.cl, T.n_sayings, by show 3 < 1000; decide, ?_⟩⟩
    refine ⟨_, rfl, x, T.HC, dx, _, rfl, upd_same, T.oH.cl, T.n_next_number, by show 4 < 1000; decide, ?_⟩
    refine ⟨_, rfl, x, T.HC, dx, _, rfl, upd_same, T.oH.cl, T.n_open_trials, by show 5 < 1000; decide, ?_⟩
    refine fun d nd => ⟨_, rfl, x, T.HC, dx, _, rfl, Same.one nd _ _ upd_same, T.oH.cl, T.n_comparisons, by show 6 < 1000; decide, ?_⟩
    have xt : x ≠ tt := ne_of_none hx nt
    have xe : x ≠ e := ne_of_none upd_same ne
    have be := ((((((But.refl x _).upd (o := .ins T.HC dx (putF "sayings" (.ref e) (putF "costs" (.ref y) (putF "last" (.int 0) (putF "tables" (.ref tt) [])))))).upd (o := .ins T.HC dx (putF "next_number" (.int 0) (putF "sayings" (.ref e) (putF "costs" (.ref y) (putF "last" (.int 0) (putF "tables" (.ref tt) []))))))).upd (o := .ins T.HC dx (putF "open_trials" (.int 0) (putF "next_number" (.int 0) (putF "sayings" (.ref e) (putF "costs" (.ref y) (putF "last" (.int 0) (putF "tables" (.ref tt) [])))))))).new (o := .dK []) nd).upd (o := .ins T.HC dx (fsH tt y e d)))
    have b4 := ((But.refl x H4).upd (o := .ins T.HC dx (putF "costs" (.ref y) (putF "last" (.int 0) (putF "tables" (.ref tt) []))))).new (o := .tup []) ne
    have b1 : But x (upd H tt (.tup [.ref t])) H4 := fun p' o np e' => by
      have e1 : (upd (upd (upd H tt (.tup [.ref t])) x (.ins T.HC dx (putF "tables" (.ref tt) []))) x (.ins T.HC dx (putF "last" (.int 0) (putF "tables" (.ref tt) [])))) p' = some o := by
        rw [upd_ne np, upd_ne np]
        exact e'
      have np' : p' ≠ y := ne_of_none e1 ny
      have nd' : p' ≠ dy := ne_of_none e1 ndy
      exact bt p' o np' (by rw [upd_ne np', upd_ne nd']; exact e1)
    have b0 : But x H (upd H tt (.tup [.ref t])) := But.of (Same.one nt)
    have bF := (b4.trans be)
    exact k _ (b0.trans (b1.trans bF)) (hist_made hx t1 (b0.trans (b1.trans bF)) upd_same (SqT.of ((b1.trans bF) tt _ xt.symm upd_same)) ⟨dy, bF y _ xy.symm hy⟩ (SqT.of (be e _ xe.symm upd_same)))
  · refine ⟨_, rfl, rfl, _, rfl, iteT ⟨_, rfl, c, b, rfl, ic, ?_⟩⟩
    refine ⟨_, rfl, sl, fun tt nt => ⟨_, rfl, x, T.HC, dx, _, rfl, Same.one nt _ _ hx, T.oH.cl, T.n_tables, by show 0 < 1000; decide, ?_⟩⟩
    refine ⟨_, rfl, x, T.HC, dx, _, rfl, upd_same, T.oH.cl, T.n_last, by show 1 < 1000; decide, ?_⟩
    refine ⟨_, rfl, rfl, _, rfl, iteF ⟨_, rfl, ?_⟩⟩
    have hx4 : (upd (upd (upd H tt (.tup [.ref t])) x (.ins T.HC dx (putF "tables" (.ref tt) []))) x (.ins T.HC dx (putF "last" (.int 0) (putF "tables" (.ref tt) [])))) x = some (.ins T.HC dx (putF "last" (.int 0) (putF "tables" (.ref tt) []))) := upd_same
    refine ⟨_, rfl, x, T.HC, dx, _, rfl, hx4, T.oH.cl, T.n_hcosts, by show 2 < 1000; decide, ?_⟩
    refine ⟨by show 0 ≤ sizeLine; decide, fun e ne => ⟨_, rfl, x, T.HC, dx, _, rfl, Same.one ne _ _ upd_same, T.oH.cl, T.n_sayings, by show 3 < 1000; decide, ?_⟩⟩
    refine ⟨_, rfl, x, T.HC, dx, _, rfl, upd_same, T.oH.cl, T.n_next_number, by show 4 < 1000; decide, ?_⟩
    refine ⟨_, rfl, x, T.HC, dx, _, rfl, upd_same, T.oH.cl, T.n_open_trials, by show 5 < 1000; decide, ?_⟩
    refine fun d nd => ⟨_, rfl, x, T.HC, dx, _, rfl, Same.one nd _ _ upd_same, T.oH.cl, T.n_comparisons, by show 6 < 1000; decide, ?_⟩
    have xt : x ≠ tt := ne_of_none hx nt
    have xe : x ≠ e := ne_of_none upd_same ne
    have be := ((((((But.refl x _).upd (o := .ins T.HC dx (putF "sayings" (.ref e) (putF "costs" (.ref c) (putF "last" (.int 0) (putF "tables" (.ref tt) [])))))).upd (o := .ins T.HC dx (putF "next_number" (.int 0) (putF "sayings" (.ref e) (putF "costs" (.ref c) (putF "last" (.int 0) (putF "tables" (.ref tt) []))))))).upd (o := .ins T.HC dx (putF "open_trials" (.int 0) (putF "next_number" (.int 0) (putF "sayings" (.ref e) (putF "costs" (.ref c) (putF "last" (.int 0) (putF "tables" (.ref tt) [])))))))).new (o := .dK []) nd).upd (o := .ins T.HC dx (fsH tt c e d)))
    have b4 := ((But.refl x _).upd (o := .ins T.HC dx (putF "costs" (.ref c) (putF "last" (.int 0) (putF "tables" (.ref tt) []))))).new (o := .tup []) ne
    have b1 : But x (upd H tt (.tup [.ref t])) _ := ((But.refl x _).upd (o := .ins T.HC dx (putF "tables" (.ref tt) []))).upd (o := .ins T.HC dx (putF "last" (.int 0) (putF "tables" (.ref tt) [])))
    have b0 : But x H (upd H tt (.tup [.ref t])) := But.of (Same.one nt)
    have bF := (b1.trans (b4.trans be))
    have bA := b0.trans bF
    exact k _ bA (hist_made hx t1 bA upd_same (SqT.of (bF tt _ xt.symm upd_same)) (billButI ic hx rfl bA) (SqT.of (be e _ xe.symm upd_same)))
end
end K49

set_option Elab.async false
set_option linter.all false
set_option maxRecDepth 100000
set_option maxHeartbeats 8000000
namespace K49
open PySem L2 Xby StX
def spAdd (K : PySem.W.Frag) (C CC HC EM : Addr) : Sp := fun vs H Q E => ∃ (h t : Addr) (hs : List Str) (rs : List (List V)) (ts : List Tb) (b : Bill) (m : Nat), vs = [.ref h, .ref t] ∧ IsHist K C CC HC m H h ts b ∧ m ≤ 900 ∧ IsTab K C H t hs rs ∧ 1 ≤ ts.length ∧ ts.length ≤ 12 ∧
  (ts.length = 12 → ∀ (e : Addr) H', Same H H' → H' e = some (.xd [(("limit" : Str), .int 12)]) → E (.ref EM) (some e) H') ∧
  (ts.length < 12 → ∀ H', But h H H' → IsHist K C CC HC (m + 2) H' h (ts ++ [(hs, rs)]) b → Q (.int (ts.length : Int)) H')
def spVer (K : PySem.W.Frag) (C CC HC EV : Addr) : Sp := fun vs H Q E => ∃ (h : Addr) (i : Int) (ts : List Tb) (b : Bill) (m : Nat), vs = [.ref h, .int i] ∧ IsHist K C CC HC m H h ts b ∧
  (0 ≤ i → i < ts.length → ∀ a, IsTab K C H a (ts.getD i.toNat ([], [])).1 (ts.getD i.toNat ([], [])).2 → Q (.ref a) H) ∧
  (¬ (0 ≤ i ∧ i < ts.length) → ∀ (e : Addr) H', Same H H' → H' e = some (.xd [(("value" : Str), .int i)]) → E (.ref EV) (some e) H')
def spRec (K : PySem.W.Frag) (C CC HC : Addr) : Sp := fun vs H Q _ => ∃ (h c : Addr) (ts : List Tb) (b b' : Bill) (m : Nat), vs = [.ref h, .ref c] ∧ IsHist K C CC HC m H h ts b ∧ m ≤ 900 ∧ IsCosts CC H c b' ∧ ∀ H', But h H H' → IsHist K C CC HC (m + 1) H' h ts b' → Q .non H'
theorem Tabs.at_ {K : PySem.W.Frag} {C : Addr} {H : Hp} {xs : List V} {ts : List Tb} (h : Tabs K C H xs ts) : ∀ {i : Nat}, i < ts.length → ∃ a, xs[i]? = some (.ref a) ∧ IsTab K C H a (ts.getD i ([], [])).1 (ts.getD i ([], [])).2 := by
  induction h with
  | nil => exact fun lt => absurd lt (Nat.not_lt_zero _)
  | cons t _ ih =>
    intro i lt
    cases i with
    | zero => exact ⟨_, rfl, t⟩
    | succ i => exact ih (Nat.lt_of_succ_lt_succ lt)
section
variable {P : Program} {w : World} {K : PySem.W.Frag} {mg : Str → Option Value} {base : Heap}
abbrev s_History_add : Stmt := inClass (top 33) 2
theorem sc_History_add : FnScope ["self", "table"] ["self", "table"] (defScope s_History_add) := ⟨rfl, rfl, rfl, by decide +kernel, rfl, by decide +kernel, by decide +kernel⟩
theorem ok_add {f fT : Addr} {fd fdT : FuncData} (F : Fun K "add" "History.add" s_History_add f fd) (T : TxtH K mg)
    (c_check_table : ∀ base, Ca P w K mg base (L2.CX P w) "check_table" 1 ["value"] (spChkT K T.C) fT fdT) : FnOk P w K mg base (L2.CX P w) 2 f fd ["self", "table"] (spAdd K T.C T.CC T.HC T.EM) := by
  have c_check_table := c_check_table base
  refine F.okX sc_History_add (fun vs H Q E h => ?_) (fun cdv A outer s H vs Q E hr h => ⟨_, (pss_cons (ps_expr (pe_call c_check_table.G (hr.mono (by first | decide | omega)) (by rfl) c_check_table.g c_check_table.k c_check_table.B .nil (passes_call (takes_of rfl rfl rfl rfl) fun _ _ _ _ z => z) (pa_cons (pv 1) pa_nil)))
    (pss_cons (ps_if (pt_cmpR op_eq (pe_callB (call_lenK K rfl) (by rfl) T.b_len (by decide +kernel) (pa_cons (pe_fldK K rfl (pv 0) rfl) pa_nil)) (pe_glob (v := .int 12) rfl T.c_MOST_VERSIONS ⟨_, rfl⟩) (nomark _)) (pss_one (L2.LowL.ps_raiseLow rfl T.eM hr (takes_of rfl rfl rfl rfl) (by exact (pa_cons (pe_glob (v := .int 12) rfl T.c_MOST_VERSIONS ⟨_, rfl⟩) pa_nil)))) pss_nil)
    (pss_cons (ps_fld (pv 0) (pe_tup (pa_starK K rfl (pe_fldK K rfl (pv 0) rfl) (pa_cons (pv 1) pa_nil))) rfl)
    (pss_cons (ps_fld (pv 0) (pe_op op_add (pe_fldK K rfl (pv 0) rfl) pe_int) rfl)
    (pss_one (ps_ret (pe_fldK K rfl (pv 0) rfl))))))), ?_⟩)
  · obtain ⟨_, _, _, _, _, _, _, rfl, _⟩ := h
    rfl
  obtain ⟨h, t, hs, rs, ts, b, m, rfl, ih, hm, t1, l1, l2, kE, k⟩ := h
  obtain ⟨dx, fs, tt, c, e, xs, lf, hf⟩ := ih
  have lx := hf.tabs.len
  refine ⟨_, rfl, t, hs, rs, rfl, t1, ?_⟩
  refine ⟨_, rfl, h, T.HC, dx, _, _, rfl, hf.at_, T.oH.cl, T.n_tables, hf.tables, _, _, rfl, .inr ⟨_, hf.tt, rfl⟩, rfl, _, rfl, ite2 (fun h12 => ?_) (fun h12 => ?_)⟩
  · have : V.int ((xs.length : Nat) : Int) = V.int 12 := by simpa using h12
    have := V.int.inj this
    exact ⟨_, rfl, fun d' nd => kE (by omega) d' _ (Same.upd (Same.refl _) nd) upd_same⟩
  have n12 : ts.length < 12 := by
    rcases Nat.lt_or_ge ts.length 12 with z | z
    · exact z
    · exact absurd (decide_eq_true (by rw [show xs.length = 12 by omega]; rfl)) h12
  have sl : sizeLine = 16777216 := sizeLine_eq
  refine ⟨_, rfl, h, T.HC, dx, _, _, rfl, hf.at_, T.oH.cl, T.n_tables, hf.tables, tt, xs, rfl, .inl hf.tt, _, rfl, by rw [List.length_append]; show xs.length + 1 ≤ sizeLine; omega, fun tt' nt => ⟨_, rfl, h, T.HC, dx, fs, rfl, Same.one nt _ _ hf.at_, T.oH.cl, T.n_tables, by omega, ?_⟩⟩
  have e1 : (putF "tables" (.ref tt') fs).lookup ("last" : Str) = some (.int ((ts.length : Int) - 1)) := by
    rw [lookup_putF, if_neg (by decide +kernel)]
    exact hf.last
  have lp : (putF "tables" (.ref tt') fs).length ≤ m + 1 := Nat.le_trans (length_putF _ _ _) (by omega)
  refine ⟨_, rfl, h, T.HC, dx, _, _, rfl, upd_same, T.oH.cl, T.n_last, e1, _, _, rfl, rfl, _, rfl, h, T.HC, dx, _, rfl, upd_same, T.oH.cl, T.n_last, by omega, ?_⟩
  have e2 : (putF "last" (.int ((ts.length : Int) - 1 + 1)) (putF "tables" (.ref tt') fs)).lookup ("last" : Str) = some (.int (ts.length : Int)) := by
    rw [lookup_putF, if_pos rfl]
    congr 2
    omega
  refine ⟨_, rfl, h, T.HC, dx, _, _, rfl, upd_same, T.oH.cl, T.n_last, e2, ?_⟩
  have ht : h ≠ tt' := ne_of_none hf.at_ nt
  have b1 : But h (upd H tt' (.tup (xs ++ [.ref t]))) _ := ((But.refl h _).upd (o := .ins T.HC dx (putF "tables" (.ref tt') fs))).upd (o := .ins T.HC dx (putF "last" (.int ((ts.length : Int) - 1 + 1)) (putF "tables" (.ref tt') fs)))
  have bA := (But.of (Same.one (o := .tup (xs ++ [.ref t])) nt) (p := h)).trans b1
  refine k n12 _ bA ⟨dx, _, tt', c, e, xs ++ [.ref t], Nat.le_trans (length_putF _ _ _) (by omega), ⟨upd_same, ?_, ?_, ?_, ?_, SqT.of (b1 tt' _ ht.symm upd_same), (hf.tabs.butI hf.at_ hf.nt bA).snoc (tabButI t1 hf.at_ hf.nt bA), billButI hf.bill hf.at_ hf.nc bA, seqButI hf.none_ hf.at_ bA, ?_, ?_, ?_, ?_, ?_⟩⟩
  · rw [lookup_putF, if_neg (by decide +kernel), lookup_putF, if_pos rfl]
  · rw [e2, List.length_append]
    congr 2
    show (ts.length : Int) = ((ts.length + 1 : Nat) : Int) - 1
    omega
  · rw [lookup_putF, if_neg (by decide +kernel), lookup_putF, if_neg (by decide +kernel)]
    exact hf.costs
  · rw [lookup_putF, if_neg (by decide +kernel), lookup_putF, if_neg (by decide +kernel)]
    exact hf.sayings
  · rw [lookup_putF, if_neg (by decide +kernel), lookup_putF, if_neg (by decide +kernel)]
    exact hf.nt
  · rw [lookup_putF, if_neg (by decide +kernel), lookup_putF, if_neg (by decide +kernel)]
    exact hf.nc
  · rw [lookup_putF, if_neg (by decide +kernel), lookup_putF, if_neg (by decide +kernel)]
    exact hf.ma
  · rw [lookup_putF, if_neg (by decide +kernel), lookup_putF, if_neg (by decide +kernel)]
    exact hf.mv
  · rw [lookup_putF, if_neg (by decide +kernel), lookup_putF, if_neg (by decide +kernel)]
    exact hf.mr
abbrev s_History_version : Stmt := inClass (top 33) 3
theorem sc_History_version : FnScope ["self", "number"] ["self", "number"] (defScope s_History_version) := ⟨rfl, rfl, rfl, by decide +kernel, rfl, by decide +kernel, by decide +kernel⟩
theorem ok_ver {f fV : Addr} {fd fdV : FuncData} (F : Fun K "version" "History.version" s_History_version f fd) (T : TxtH K mg)
    (c_check_version : ∀ base, Ca P w K mg base (L2.CX P w) "check_version" 3 ["value", "least", "most"] (spChkV T.EV) fV fdV) : FnOk P w K mg base (L2.CX P w) 4 f fd ["self", "number"] (spVer K T.C T.CC T.HC T.EV) := by
  have c_check_version := c_check_version base
  refine F.okX sc_History_version (fun vs H Q E h => ?_) (fun cdv A outer s H vs Q E hr h => ⟨_, (pss_cons (ps_expr (pe_call c_check_version.G (hr.mono (by first | decide | omega)) (by rfl) c_check_version.g c_check_version.k c_check_version.B .nil (passes_call (takes_of rfl rfl rfl rfl) fun _ _ _ _ z => z) (pa_cons (pv 1) (pa_cons pe_int (pa_cons (pe_fldK K rfl (pv 0) rfl) pa_nil)))))
    (pss_one (ps_ret (pe_ix (ix_tupK K rfl) (pe_fldK K rfl (pv 0) rfl) (pv 1) (fun _ _ => rfl))))), ?_⟩)
  · obtain ⟨_, _, _, _, _, rfl, _⟩ := h
    rfl
  obtain ⟨h, i, ts, b, m, rfl, ih, k, kE⟩ := h
  obtain ⟨dx, fs, tt, c, e, xs, lf, hf⟩ := ih
  have lx := hf.tabs.len
  refine ⟨_, rfl, _, rfl, h, T.HC, dx, _, _, rfl, hf.at_, T.oH.cl, T.n_last, hf.last, i, 0, _, rfl, fun ho => ?_, fun ho => kE fun z => ?_⟩
  · have hi : 0 ≤ i ∧ i ≤ (ts.length : Int) - 1 := of_decide_eq_true ho
    obtain ⟨a, ha, ta⟩ := hf.tabs.at_ (i := i.toNat) (by omega)
    have hat : atI xs i = some (.ref a) := by
      have := atI_nat ha
      rw [Int.toNat_of_nonneg hi.1] at this
      exact this
    exact ⟨_, rfl, h, T.HC, dx, _, _, rfl, hf.at_, T.oH.cl, T.n_tables, hf.tables, _, rfl, tt, xs, i, _, rfl, rfl, hf.tt, hat, k hi.1 (by omega) a ta⟩
  · have ho : decide (0 ≤ i ∧ i ≤ (ts.length : Int) - 1) = false := ho
    exact absurd (show 0 ≤ i ∧ i ≤ (ts.length : Int) - 1 from ⟨z.1, by omega⟩) (of_decide_eq_false ho)
abbrev s_History_recost : Stmt := inClass (top 33) 4
theorem sc_History_recost : FnScope ["self", "costs"] ["self", "costs"] (defScope s_History_recost) := ⟨rfl, rfl, rfl, by decide +kernel, rfl, by decide +kernel, by decide +kernel⟩
theorem ok_rec {f fC : Addr} {fd fdC : FuncData} (F : Fun K "recost" "History.recost" s_History_recost f fd) (T : TxtH K mg)
    (c_check_costs : ∀ base, Ca P w K mg base (L2.CX P w) "check_costs" 1 ["value"] (spChkC T.CC) fC fdC) : FnOk P w K mg base (L2.CX P w) 2 f fd ["self", "costs"] (spRec K T.C T.CC T.HC) := by
  have c_check_costs := c_check_costs base
  refine F.okX sc_History_recost (fun vs H Q E h => ?_) (fun cdv A outer s H vs Q E hr h => ⟨_, (pss_cons (ps_expr (pe_call c_check_costs.G (hr.mono (by first | decide | omega)) (by rfl) c_check_costs.g c_check_costs.k c_check_costs.B .nil (passes_call (takes_of rfl rfl rfl rfl) fun _ _ _ _ z => z) (pa_cons (pv 1) pa_nil)))
    (pss_one (ps_fld (pv 0) (pv 1) rfl))), ?_⟩)
  · obtain ⟨_, _, _, _, _, _, rfl, _⟩ := h
    rfl
  obtain ⟨h, c', ts, b, b', m, rfl, ih, hm, ic, k⟩ := h
  obtain ⟨dx, fs, tt, c, e, xs, lf, hf⟩ := ih
  refine ⟨_, rfl, c', b', rfl, ic, ?_⟩
  refine ⟨_, rfl, _, rfl, h, T.HC, dx, fs, rfl, hf.at_, T.oH.cl, T.n_hcosts, by omega, ?_⟩
  have bf : But h H (upd H h (.ins T.HC dx (putF "costs" (.ref c') fs))) := (But.refl h H).upd
  refine k _ bf ⟨dx, _, tt, c', e, xs, Nat.le_trans (length_putF _ _ _) (by omega), ⟨upd_same, ?_, ?_, ?_, ?_, seqButI hf.tt hf.at_ bf, hf.tabs.butI hf.at_ hf.nt bf, billButI ic hf.at_ hf.nc bf, seqButI hf.none_ hf.at_ bf, ?_, ?_, ?_, ?_, ?_⟩⟩
  · rw [lookup_putF, if_neg (by decide +kernel)]; exact hf.tables
  · rw [lookup_putF, if_neg (by decide +kernel)]; exact hf.last
  · rw [lookup_putF, if_pos rfl]
  · rw [lookup_putF, if_neg (by decide +kernel)]; exact hf.sayings
  · rw [lookup_putF, if_neg (by decide +kernel)]; exact hf.nt
  · rw [lookup_putF, if_neg (by decide +kernel)]; exact hf.nc
  · rw [lookup_putF, if_neg (by decide +kernel)]; exact hf.ma
  · rw [lookup_putF, if_neg (by decide +kernel)]; exact hf.mv
  · rw [lookup_putF, if_neg (by decide +kernel)]; exact hf.mr
end
end K49

set_option Elab.async false
set_option linter.all false
set_option maxRecDepth 100000
set_option maxHeartbeats 8000000
namespace K49
open PySem L2 Xby StX
/-- a table is equal to itself -/
def spEqT (K : PySem.W.Frag) (C : Addr) : Sp := fun vs H Q _ => ∃ (a a' : Addr) (hs : List Str) (rs : List (List V)), vs = [.ref a, .ref a'] ∧ IsTab K C H a hs rs ∧ IsTab K C H a' hs rs ∧ Q (.bl true) H
/-- costs are equal where the numbers are -/
def spEqC (CC : Addr) : Sp := fun vs H Q _ => ∃ (x y : Addr) (b : Bill), vs = [.ref x, .ref y] ∧ IsCosts CC H x b ∧ IsCosts CC H y b ∧ Q (.bl true) H
theorem str_shp {x : Str} (h : wordS x = true) : Shp 0 (.str x) := by
  have low := word_low h
  refine ⟨?_, by simp [PyData.depth]⟩
  show PyData.canLay0 (.str x) = true
  simp only [PyData.canLay0, PyData.strOk]
  rw [← Array.all_toList, List.all_eq_true]
  intro c hc
  have := of_decide_eq_true (low c hc)
  exact decide_eq_true (by omega)
theorem shp_cell {v : V} (h : cellV v = true) : Shp 0 (datC v) := by
  cases v with
  | str x => exact str_shp (cell_str h)
  | _ => first | exact ⟨by simp [datC, PyData.canLay0], by simp [datC, PyData.depth]⟩ | cases h
theorem rows_dp {K : PySem.W.Frag} {H : Hp} {wd : Nat} {xs : List V} {rs : List (List V)} (h : RowsK K H wd xs rs) : DpAll K H xs (rs.map fun r => .tuple (r.map datC)) := by
  induction h with
  | nil => exact .nil
  | cons e l m _ ih => exact .cons (.tup e (DpAll.flat fun v hv => cellV_flat (m v hv))) ih
theorem shp_cols {hs : List Str} (hw : ∀ h ∈ hs, wordS h = true) : Shp 1 (.tuple ((hs.map V.str).map datC)) := Shp.tup fun d hd => by
  obtain ⟨v, hv, rfl⟩ := List.mem_map.mp hd
  obtain ⟨h, hh, rfl⟩ := List.mem_map.mp hv
  exact str_shp (hw h hh)
theorem rows_shp {K : PySem.W.Frag} {H : Hp} {wd : Nat} {xs : List V} {rs : List (List V)} (h : RowsK K H wd xs rs) : Shp 2 (.tuple (rs.map fun r => PyData.tuple (r.map datC))) := Shp.tup fun d hd => by
  obtain ⟨r, hr, rfl⟩ := List.mem_map.mp hd
  refine Shp.tup fun e he => ?_
  obtain ⟨v, hv, rfl⟩ := List.mem_map.mp he
  refine shp_cell ?_
  induction h with
  | nil => cases hr
  | cons e l m _ ih =>
    rcases List.mem_cons.mp hr with rfl | hr
    · exact m v hv
    · exact ih hr (List.mem_map.mpr ⟨r, hr, rfl⟩)
section
variable {P : Program} {w : World} {K : PySem.W.Frag} {mg : Str → Option Value} {base : Heap}
abbrev s_Costs___eq__ : Stmt := inClass (top 17) 1
theorem sc_Costs___eq__ : FnScope ["self", "other"] ["self", "other"] (defScope s_Costs___eq__) := ⟨rfl, rfl, rfl, by decide +kernel, rfl, by decide +kernel, by decide +kernel⟩
theorem ok_eqc {f : Addr} {fd : FuncData} (F : Fun K "__eq__" "Costs.__eq__" s_Costs___eq__ f fd) (T : TxtH K mg) : FnOk P w K mg base CX0 1 f fd ["self", "other"] (spEqC T.CC) := by
  refine F.ok sc_Costs___eq__ (fun vs H Q E h => ?_) (fun cdv A outer s H vs Q E hr h => ⟨_, (pss_one (ps_ret (pe_and (pe_callB (call_isiK K rfl) (by rfl) T.b_isinstance (by decide +kernel) (pa_cons (pv 1) (pa_cons (pe_glob (v := .ref T.CC) rfl T.g_Costs rfl) pa_nil))) (pe_and (pe_cmpR op_eq (pe_fldK K rfl (pv 0) rfl) (pe_fldK K rfl (pv 1) rfl) (nomark _)) (pe_and (pe_cmpR op_eq (pe_fldK K rfl (pv 0) rfl) (pe_fldK K rfl (pv 1) rfl) (nomark _)) (pe_and (pe_cmpR op_eq (pe_fldK K rfl (pv 0) rfl) (pe_fldK K rfl (pv 1) rfl) (nomark _)) (pe_and (pe_cmpR op_eq (pe_fldK K rfl (pv 0) rfl) (pe_fldK K rfl (pv 1) rfl) (nomark _)) (pe_one (pe_cmpR op_eq (pe_fldK K rfl (pv 0) rfl) (pe_fldK K rfl (pv 1) rfl) (nomark _)))))))))), ?_⟩)
  · obtain ⟨_, _, _, rfl, _⟩ := h
    rfl
  obtain ⟨x, y, b, rfl, ⟨dx, hx⟩, ⟨dy, hy⟩, k⟩ := h
  have eqi : ∀ i : Int, decide (V.int i = V.int i) = true := fun i => decide_eq_true rfl
  refine ⟨_, rfl, _, _, _, _, _, rfl, .own T.CC, .base (.ins hy T.clC T.oCC.ca T.oCC.cn T.oCC.ct T.oCC.cm), T.oCC.kcc, _, rfl, ?_⟩
  refine ⟨_, rfl, x, T.CC, dx, _, _, rfl, hx, T.clC, T.n_cell, l_cell .., _, rfl, y, T.CC, dy, _, _, rfl, hy, T.clC, T.n_cell, l_cell .., rfl, _, rfl, ?_⟩
  rw [eqi]
  refine iteT ⟨_, rfl, x, T.CC, dx, _, _, rfl, hx, T.clC, T.n_row, l_row .., _, rfl, y, T.CC, dy, _, _, rfl, hy, T.clC, T.n_row, l_row .., rfl, _, rfl, ?_⟩
  rw [eqi]
  refine iteT ⟨_, rfl, x, T.CC, dx, _, _, rfl, hx, T.clC, T.n_column, l_column .., _, rfl, y, T.CC, dy, _, _, rfl, hy, T.clC, T.n_column, l_column .., rfl, _, rfl, ?_⟩
  rw [eqi]
  refine iteT ⟨_, rfl, x, T.CC, dx, _, _, rfl, hx, T.clC, T.n_name, l_name .., _, rfl, y, T.CC, dy, _, _, rfl, hy, T.clC, T.n_name, l_name .., rfl, _, rfl, ?_⟩
  rw [eqi]
  refine iteT ⟨_, rfl, x, T.CC, dx, _, _, rfl, hx, T.clC, T.n_move, l_move .., _, rfl, y, T.CC, dy, _, _, rfl, hy, T.clC, T.n_move, l_move .., rfl, ?_⟩
  rw [eqi]
  exact k
abbrev s_Table___eq__ : Stmt := inClass (top 27) 1
theorem sc_Table___eq__ : FnScope ["self", "other"] ["self", "other"] (defScope s_Table___eq__) := ⟨rfl, rfl, rfl, by decide +kernel, rfl, by decide +kernel, by decide +kernel⟩
theorem ok_eqt {f : Addr} {fd : FuncData} (F : Fun K "__eq__" "Table.__eq__" s_Table___eq__ f fd) (T : TxtH K mg) : FnOk P w K mg base CX0 1 f fd ["self", "other"] (spEqT K T.C) := by
  refine F.ok sc_Table___eq__ (fun vs H Q E h => ?_) (fun cdv A outer s H vs Q E hr h => ⟨_, (pss_one (ps_ret (pe_and (pe_callB (call_isiK K rfl) (by rfl) T.b_isinstance (by decide +kernel) (pa_cons (pv 1) (pa_cons (pe_glob (v := .ref T.C) rfl T.g_Table rfl) pa_nil))) (pe_and (pe_cmpR (op_eqDK K rfl hr.units) (pe_fldK K rfl (pv 0) rfl) (pe_fldK K rfl (pv 1) rfl) (nomark _)) (pe_one (pe_cmpR (op_eqDK K rfl hr.units) (pe_fldK K rfl (pv 0) rfl) (pe_fldK K rfl (pv 1) rfl) (nomark _))))))), ?_⟩)
  · obtain ⟨_, _, _, _, rfl, _⟩ := h
    rfl
  obtain ⟨a, a', hs, rs, rfl, t1, t2, k⟩ := h
  obtain ⟨dx, ac, ar, xr, u1⟩ := id t1
  obtain ⟨dx', ac', ar', xr', u2⟩ := id t2
  refine ⟨_, rfl, _, _, _, _, _, rfl, .own T.C, .base (.ins u2.at_ T.cl T.oC.ca T.oC.cn T.oC.ct T.oC.cm), T.oC.kcc, _, rfl, ?_⟩
  have dc : ∀ {p}, SqT K H p (hs.map V.str) → Dp K H (.ref p) (.tuple ((hs.map V.str).map datC)) := fun q => .tup q (DpAll.flat fun v hv => by
    obtain ⟨h, _, rfl⟩ := List.mem_map.mp hv
    rfl)
  have dr : ∀ {p xs}, SqT K H p xs → RowsK K H hs.length xs rs → Dp K H (.ref p) (.tuple (rs.map fun r => .tuple (r.map datC))) := fun q r => .tup q (rows_dp r)
  have s1 := shp_cols u1.hw
  have s2 := (rows_shp u1.rows)
  refine iteT ⟨_, rfl, a, T.C, dx, _, _, rfl, u1.at_, T.cl, T.n_columns, l_columns .., _, rfl, a', T.C, dx', _, _, rfl, u2.at_, T.cl, T.n_columns, l_columns .., _, _, dc u1.c, dc u2.c, s1.shaped (by decide), s1.shaped (by decide), _, rfl, ?_⟩
  rw [SeqAt.eqv_refl _ s1.1]
  refine iteT ⟨_, rfl, a, T.C, dx, _, _, rfl, u1.at_, T.cl, T.n_rows, l_rows .., _, rfl, a', T.C, dx', _, _, rfl, u2.at_, T.cl, T.n_rows, l_rows .., _, _, dr u1.r u1.rows, dr u2.r u2.rows, s2.shaped (by decide), s2.shaped (by decide), ?_⟩
  rw [SeqAt.eqv_refl _ s2.1]
  exact k
end
end K49

set_option Elab.async false
set_option linter.all false
set_option maxRecDepth 100000
set_option maxHeartbeats 4000000
/-! # a method called under a try whose clauses read names -/
namespace Xby
open PySem PySem.Spec PyProof.Rows L2
section
variable {X : Cx} {CX : CXT} {k : Nat} {f C : Addr} {fd : FuncData} {ps : List Str} {sp : Sp} {E : L2.St → XK} {m : Str} {pos apos : Pos} {e o : Expr} {es : List Expr} {ta : TE} {t : TA}
def tMethT (C : Addr) (m : Str) (sp : Sp) (E : L2.St → XK) (ta : TE) (t : TA) : TE := fun σ H Q => ta σ H fun x H1 => ∃ a dx fs, x = .ref a ∧ H1 a = some (.ins C dx fs) ∧ fs.lookup m = none ∧ t σ H1 fun vs H2 => sp (x :: vs) H2 Q (E σ)
theorem pe_methT {pl : Sem Bool} (he : PE X o ta) (c : Cls X.K C) (hm : Meth X.K C m f) (F : FnOk X.prog X.w X.K X.mg X.base CX k f fd ps sp) (hr : Room k X.A) (hb : Binds X.K fd ps []) (hx : ∀ σ, PassesAt CX X σ (E σ)) (ha : PA X (e :: es) t)
    (hst : starEach (e :: es) X.env = (false, eval e X.env) :: starEach es X.env := by rfl) (hpl : (backTo pos (starEach es X.env)).any (·.1) = false := by rfl)
    (ht : eval (.Call (.Attribute o m apos) (e :: es) [] pos) X.env = (do
      let ov ← eval o X.env
      standAt apos.atName
      let (f, first) ← holding [ov] (getMethod ov m pl)
      callWith pos f first (backTo pos (starEach (e :: es) X.env)) (backToKw pos (keywordEach [] X.env))) := by rfl) :
    PE X (.Call (.Attribute o m apos) (e :: es) [] pos) (tMethT C m sp E ta t) := by
  refine ⟨fun pins s σ H Q I h => ?_⟩
  refine PySem.W.methodCall_KW (pl := pl) (thn (he.run pins s σ H _ I h) fun u s1 ⟨x, H1, I1, rx, a, dx, fs, ex, ea, l, q⟩ => ?_) ht
  subst ex
  obtain rfl : u = Value.ref a := rx
  refine getmeth_ok I1 ea c hm l ?_
  refine PySem.W.callWith_K (first := [.ref a]) (h₀ := X.base) I.ok.mod.kin hm.kp (thn (ha.run pos pins s1 σ H1 _ I1 q) fun us s2 ⟨vs, H2, I2, r, q2⟩ => ⟨I2.kIn, ?_⟩) hst hpl
  exact run_fnS (us := .ref a :: us) (vs := .ref a :: vs) F hr hb (hx σ) I2 (.cons rfl r) q2
end
end Xby

set_option Elab.async false
set_option linter.all false
set_option maxRecDepth 100000
set_option maxHeartbeats 1000000
/-! # isinstance of a caught error that has a dict of its own -/
namespace Xby
open PySem PySem.Spec PySem.Calls PySem.W PyProof.Rows
section
variable {pr : Program} {wd : World} {Ar : Around} {Ex : Value → Shared → Prop} {sh : Shared} {K : Frag} {y Dc : Addr} {oy oo : Obj}
theorem exc_class {R : Option Value → Shared → Prop} (c : L2.ExcC K Dc) (kin : K.In sh.heap) (inst : W.InstAt sh.heap y oy Dc (some oo))
    (fin : R (some (.ref Dc)) { sh with toks := sh.toks + 1 }) : wpAny (model pr wd) Ar (getAttr? (.ref y) "__class__") R Ex sh := by
  have some_ : (clsIn K Dc).isSome = true := by
    obtain ⟨cd, e, _⟩ := any_some c.hd
    rw [e]
    rfl
  have found := findObj_data (od := oo) some_ c.ha c.hn c.ht
  obtain ⟨h0, g0, d0, t0, o0⟩ := sh
  have a0 := inst.type (M := model pr wd)
  have a1 := looks_findIn (M := model pr wd) kin c.hg
  have a2 := looks_findIn (M := model pr wd) kin c.hk
  have a3 := looks_find (M := model pr wd) kin inst found
  have base : Looks (model pr wd) h0 (isInstance (.ref y) (.type "BaseException")) true := a0.andThen (looks_subIn kin c.hs)
  have no : (Value.builtin "BaseException.__getattribute__" ==
      Value.builtin "object.__getattribute__") = false := by
    decide +kernel
  have no1 : (onTheHeap (Value.ref Dc) &&
      (Value.builtin "BaseException.__getattribute__" == Value.builtin "object.__getattribute__")) = false := by
    rw [no, Bool.and_false]
  unfold getAttr?
  unfold getAttrBy?
  unfold getAttrBy
  refine wpAny_bind (wpAny_mkText ?_)
  refine wpAny_bind (wpAny_attempt ?_)
  refine wpAny_holding (wpAny_bind ?_)
  refine a0.at (wpAny_bind (a1.at ?_))
  show wpAny _ _ (ite ((onTheHeap (Value.ref Dc) && (Value.builtin "BaseException.__getattribute__" == Value.builtin "object.__getattribute__")) = true) _ _) _ _ _
  rw [no1, if_neg (by decide)]
  unfold getAttrByItsOwn
  unfold hookBefore
  refine wpAny_bind ?_
  have up : onTheHeap (Value.ref Dc) = true := rfl
  rw [if_pos up]
  refine a2.at (wpAny_bind ?_)
  refine wpAny_attempt (wpAny_holding ?_)
  unfold callGetattribute
  have up2 : (false && onTheHeap
      (Value.builtin "BaseException.__getattribute__")) = false := rfl
  rw [up2, if_neg (by decide)]
  unfold boundAndCalled
  have via := PySem.F.excAttr_ValueError.ga
  rw [via.bind (.ref y)]
  refine wpAny_bind (wpAny_pure ?_)
  show wpAny _ _ (call (.builtin "BaseException.__getattribute__") [.ref y, .str "__class__" t0]) _ _ _
  refine wpAny_call ?_
  refine codeAny_call_builtin via.plain PySem.F.entry_bexc_ga ?_
  refine @check_slot (model pr wd) _ _ ⟨h0, g0, d0, t0 + 1, o0⟩
    "BaseException.__getattribute__" "BaseException" "__getattribute__"
    (.ref y) [.str "__class__" t0] [] _
    (by decide +kernel) (by decide +kernel) base
    (PySem.F.args_bexc_ga (.ref y) (.str "__class__" t0)) ?_
  unfold Builtin.«object.__getattribute__»
  have args : slotArgs "__getattribute__" 1 ⟨[.ref y, .str "__class__" t0], []⟩ =
      pure ((Value.ref y : Value), [Value.str "__class__" t0]) := by
    first | rfl | (simp only [slotArgs]; rfl)
  refine wpAny_bind (wpAny_of_eq args ?_)
  refine wpAny_bind (wpAny_pure ?_)
  refine wpAny_bind (a0.at ?_)
  refine wpAny_bind (a3.at ?_)
  show wpAny _ _ (holding [Value.builtin "object.__class__"]
    (call (.builtin "getset_descriptor.__get__") [.builtin "object.__class__", .ref y, .ref Dc]) >>= ret) _ _ _
  refine wpAny_bind (wpAny_holding (wpAny_call ?_))
  refine class_get (s := ⟨h0, g0, d0, t0 + 1, o0⟩) (ox := oy) (od := some oo) kin inst c.hm ?_
  refine wpAny_pure ?_
  show wpAny _ _ (handedOut (.ref Dc)) _ _ _
  rw [handedOut_of (v := .ref Dc) rfl]
  first | exact wpAny_pure (wpAny_pure fin) | exact wpAny_pure fin
theorem exc_kitx (c : L2.ExcC K Dc) : KitX K (.ref y) (.ref Dc) (fun g => W.InstAt g y oy Dc (some oo)) where
  ty := fun _ _ _ inst => inst.type
  it := fun _ _ kin _ => by
    obtain ⟨cl, e, _⟩ := any_some c.hd
    unfold clsIn at e
    split at e
    case h_2 => cases e
    case h_1 found =>
      intro A1 Q1 E1 s1 keep q
      unfold isType
      unfold loadHead
      exact wpAny_bind (wpAny_loadPart (keep _ _ (kin _ _ found)) (wpAny_pure q))
  ne := fun g tp dd its n sl kin there => by
    obtain ⟨cl, e, _⟩ := any_some c.hd
    refine Bool.eq_false_iff.mpr fun same => ?_
    have eq : Dc = tp := Value.ref.inj (beq_iff_eq.mp same)
    subst eq
    unfold clsIn at e
    split at e
    case h_2 => cases e
    case h_1 found => cases (kin _ _ found).symm.trans there
  ca := fun kin inst fin => exc_class c kin inst fin
end
end Xby
namespace Xby
open PySem PySem.Spec PyProof.Rows L2
/-- isinstance(e, c), e the caught error (at a), with its dict -/
def rIsD (K : PySem.W.Frag) (D a : Addr) (cls : Value) (d : Option Addr) : List V → Hp → VK → Prop := fun xs H Q => ∃ (c : V) (cv : Value) (b : Bool) (dd : Addr) (f : Str) (v : V), xs = [.ref a, c] ∧ cls = .ref D ∧ d = some dd ∧ H dd = some (.xd [(f, v)]) ∧ (∀ u, RelV c u → u = cv) ∧ PySem.W.kitOne K (.ref D) cv = some b ∧ Q (.bl b) H
theorem call_isD {X : Cx} {a D : Addr} {oe : Obj} {cls : Value} {d : Option Addr} {pn : List (Addr × Obj)} (K : PySem.W.Frag) (hK : X.K = K) (C : ExcC K D) (hz : Zc cls d oe) (hf : ∃ vs, oe.data = .fields vs) : CallR (X.suite a ((a, oe) :: pn)) (.builtin "isinstance") (rIsD K D a cls d) := by
  subst hK
  rintro pins s σ H xs us Q I r ⟨c, cv, b, dd, f, v, rfl, rfl, rfl, hx, hcv, e, q⟩
  obtain ⟨u1, r⟩ : ∃ u1, us = [.ref a, u1] ∧ RelV c u1 := by
    cases r with
    | cons rx rr =>
      cases rr with
      | cons rt rr =>
        cases rr
        cases rx
        exact ⟨_, rfl, rt⟩
  obtain ⟨rfl, rt⟩ := r
  obtain rfl := hcv _ rt
  obtain ⟨there, _⟩ := I.pin (a, oe) (List.mem_append_left _ List.mem_cons_self)
  obtain ⟨vs, dat⟩ := hf
  obtain ⟨mA, hns, _⟩ := (I.hok dd _ hx : ObjOk X.prog X.w H s.heap dd (.xd [(f, v)]))
  obtain ⟨od, ho, _⟩ := lookIn_ns hns
  have J : PySem.W.InstAt s.heap a oe D (some od) := ⟨there, hz.1, by unfold PySem.W.notCls; rw [dat] <;> rfl, by rw [hz.2]; exact ho⟩
  exact PySem.W.kia_one (exc_kitx C) I.kIn J e (fun z => nomatch z) fun tk => ⟨.bl b, H, I.kept (t' := tk) fun _ _ z => z, rfl, q⟩
end Xby

set_option Elab.async false
set_option linter.all false
set_option maxRecDepth 100000
set_option maxHeartbeats 8000000
namespace K49
open PySem L2 Xby StX
/-- a history that is asked for a version that it has not -/
def spRef (K : PySem.W.Frag) (C CC HC : Addr) : Sp := fun vs H Q _ => ∃ (h : Addr) (i : Int) (ts : List Tb) (b : Bill) (m : Nat), vs = [.ref h, .int i] ∧ IsHist K C CC HC m H h ts b ∧ ¬ (0 ≤ i ∧ i < ts.length) ∧ -100 ≤ i ∧ i ≤ 100 ∧ ∀ H', Same H H' → Q (.bl true) H'
def spAdded (K : PySem.W.Frag) (C CC HC : Addr) : Sp := fun vs H Q _ => ∃ (h t : Addr) (hs : List Str) (rs : List (List V)) (ts : List Tb) (b : Bill) (m : Nat), vs = [.ref h, .ref t] ∧ IsHist K C CC HC m H h ts b ∧ m ≤ 900 ∧ IsTab K C H t hs rs ∧ 1 ≤ ts.length ∧ ts.length ≤ 12 ∧
  (ts.length = 12 → ∀ (q : Addr) H', Same H H' → SqT K H' q [.str "many", .int 12, .bl true] → Q (.ref q) H') ∧
  (ts.length < 12 → ∀ (q : Addr) H', But h H H' → IsHist K C CC HC (m + 2) H' h (ts ++ [(hs, rs)]) b → SqT K H' q [.str "number", .int (ts.length : Int)] → Q (.ref q) H')
theorem fine_int {n : Int} (h : -1000000 ≤ n ∧ n ≤ 1000000) : Fine (.int n) := by
  have hl : n.natAbs.log2 < 1920 := by
    by_cases z : n.natAbs = 0
    · rw [z]
      decide
    · rw [Nat.log2_lt z]
      have : (1000001 : Nat) ≤ 2 ^ 1920 := by decide +kernel
      omega
  refine ⟨by simp only [PyData.showable, hl, decide_true], ?_, by simp only [PyData.depth]; decide⟩
  simp only [PyData.shown]
  exact int_text_fits hl
theorem IsHist.same {K : PySem.W.Frag} {C CC HC h : Addr} {m : Nat} {H H' : Hp} {ts : List Tb} {b : Bill} (x : IsHist K C CC HC m H h ts b) (s : Same H H') : IsHist K C CC HC m H' h ts b := by
  obtain ⟨dx, fs, tt, c, e, xs, lf, hf⟩ := x
  exact ⟨dx, fs, tt, c, e, xs, lf, ⟨s _ _ hf.at_, hf.tables, hf.last, hf.costs, hf.sayings, hf.tt.ext s, hf.tabs.same s, hf.bill.same s, hf.none_.ext s, hf.nt, hf.nc, hf.ma, hf.mv, hf.mr⟩⟩
section
variable {P : Program} {w : World} {K : PySem.W.Frag} {mg : Str → Option Value} {base : Heap}
def t_ref (K : PySem.W.Frag) (EV : Addr) (HE : Addr) : Addr → Value → Option Addr → TS := fun a cls d => tRet (tAndV (tCB (rIsD K EV a cls d) (tCons (tVar 2) (tCons (tC (.ref HE)) tNil))) (tOp rEq (tCB (rRepr K) (tCons (L2.LowV.tByLow EV a cls d (tVar 2)) tNil)) (tCB (rRepr K) (tCons (tVar 1) tNil))))
def t_add (K : PySem.W.Frag) (EM : Addr) (HE : Addr) : Addr → Value → Option Addr → TS := fun a cls d => tRet (tTup (tCons (tC (.str "many")) (tCons (L2.LowL.tByLow EM a cls d (tVar 2)) (tCons (tCB (rIsD K EM a cls d) (tCons (tVar 2) (tCons (tC (.ref HE)) tNil))) tNil))))
abbrev s_law_added : Stmt := top 48
theorem sc_law_added : FnScope ["_law_history", "_law_table_here", "e"] ["_law_history", "_law_table_here"] (defScope s_law_added) := ⟨rfl, rfl, rfl, by decide +kernel, rfl, by decide +kernel, by decide +kernel⟩
theorem ok_added {f fA : Addr} {fd fdA : FuncData} (F : Fun K "_law_added" "_law_added" s_law_added f fd) (T : TxtH K mg) (MA : Meth K T.HC "add" fA) (hb : Binds K fdA ["self", "table"] [])
    (GA : ∀ base, FnOk P w K mg base (L2.CX P w) 2 fA fdA ["self", "table"] (spAdd K T.C T.CC T.HC T.EM)) : FnOk P w K mg base CX0 3 f fd ["_law_history", "_law_table_here"] (spAdded K T.C T.CC T.HC) := by
  have GA := GA base
  refine F.ok sc_law_added (fun vs H Q E h => ?_) (fun cdv A outer s H vs Q E hr h => ⟨_, (pss_one (ps_try_as (i := 2) (tb := fun W => tRet (tTup (tCons (tC (.str "number")) (tCons (tMethT T.HC "add" (spAdd K T.C T.CC T.HC T.EM) (WE W) (tVar 0) (tCons (tVar 1) tNil)) tNil)))) (ts := t_add K T.EM T.HE) (Wout := fun _ _ _ _ => False) rfl rfl sc_law_added.nd rfl rfl ⟨rfl, by decide, Or.inl T.eM.gC⟩ takes0 (fun W pn xe tk _ => pss_one (ps_ret (pe_tup (pa_cons pe_str (pa_cons (by exact (pe_methT (pv 0) T.oH.cl MA GA (hr.mono (by decide)) hb (fun σ => passAt tk σ) (by exact (pa_cons (pv 1) pa_nil)))) pa_nil))))) (fun a oe cls d pn hz hf => pss_one (ps_ret (pe_tup (pa_cons pe_str (pa_cons (L2.LowL.pe_byLow T.eM hz hf (pv 2)) (pa_cons (pe_callB (call_isD K rfl T.xM hz hf) (by rfl) T.b_isinstance (by decide +kernel) (pa_cons (pv 2) (pa_cons (pe_glob (v := .ref T.HE) rfl T.g_HeldError rfl) pa_nil))) pa_nil)))))))), ?_⟩)
  · obtain ⟨_, _, _, _, _, _, _, rfl, _⟩ := h
    rfl
  obtain ⟨h, t, hs, rs, ts, b, m, rfl, ih, hm, t1, l1, l2, k12, k⟩ := h
  obtain ⟨dx, fs, tt, c, e, xs, lf, hf⟩ := id ih
  refine ⟨_, rfl, h, dx, fs, rfl, hf.at_, hf.ma, _, rfl, h, t, hs, rs, ts, b, m, rfl, ih, hm, t1, l1, l2, fun e12 e' H' s' hx => ?_, fun lt H' bt ih' => ?_⟩
  · refine ⟨true, T.eM.te, fun _ a0 na => ?_, fun q => Bool.noConfusion q⟩
    refine ⟨_, rfl, rfl, rfl, e', _, rfl, hx, _, rfl, .ref T.HE, .ref T.HE, true, e', _, _, rfl, rfl, rfl, hx, fun u r => r, T.isM, by show 3 ≤ sizeLine; decide, fun p hp => ?_⟩
    exact k12 e12 p _ (Same.upd s' hp) (SqT.of upd_same)
  · refine ⟨by show 2 ≤ sizeLine; decide, fun p hp => ?_⟩
    exact k lt p _ (bt.new hp) (ih'.same (Same.one hp)) (SqT.of upd_same)
abbrev s_law_refused : Stmt := top 47
theorem sc_law_refused : FnScope ["_law_history", "_law_number", "e"] ["_law_history", "_law_number"] (defScope s_law_refused) := ⟨rfl, rfl, rfl, by decide +kernel, rfl, by decide +kernel, by decide +kernel⟩
theorem ok_refused {f fV : Addr} {fd fdV : FuncData} (F : Fun K "_law_refused" "_law_refused" s_law_refused f fd) (T : TxtH K mg) (MV : Meth K T.HC "version" fV) (hb : Binds K fdV ["self", "number"] [])
    (GV : ∀ base, FnOk P w K mg base (L2.CX P w) 4 fV fdV ["self", "number"] (spVer K T.C T.CC T.HC T.EV)) : FnG P w K mg base CX0 5 f fd ["_law_history", "_law_number"] (spRef K T.C T.CC T.HC) := by
  have GV := GV base
  refine okG F sc_law_refused (fun vs H Q E h => ?_) (fun cdv A outer s H vs Q E hg hr h => ⟨_, (pss_cons (ps_try_as (i := 2) (tb := fun W => tDrop (tMethT T.HC "version" (spVer K T.C T.CC T.HC T.EV) (WE W) (tVar 0) (tCons (tVar 1) tNil))) (ts := t_ref K T.EV T.HE) (Wout := fun _ _ _ _ => False) rfl rfl sc_law_refused.nd rfl rfl ⟨rfl, by decide, Or.inl T.eV.gC⟩ takes0 (fun W pn xe tk _ => pss_one (ps_expr (by exact (pe_methT (pv 0) T.oH.cl MV GV (hr.mono (by decide)) hb (fun σ => passAt tk σ) (by exact (pa_cons (pv 1) pa_nil)))))) (fun a oe cls d pn hz hf => pss_one (ps_ret (pe_and (pe_callB (call_isD K rfl T.xV hz hf) (by rfl) T.b_isinstance (by decide +kernel) (pa_cons (pv 2) (pa_cons (pe_glob (v := .ref T.HE) rfl T.g_HeldError rfl) pa_nil))) (pe_one (pe_cmpR op_eq (pe_callB (call_reprK K rfl hg hr.units) (by rfl) T.b_repr (by decide +kernel) (pa_cons (L2.LowV.pe_byLow T.eV hz hf (pv 2)) pa_nil)) (pe_callB (call_reprK K rfl hg hr.units) (by rfl) T.b_repr (by decide +kernel) (pa_cons (pv 1) pa_nil)) (nomark _)))))))
    (pss_one (ps_ret pe_bl))), ?_⟩)
  · obtain ⟨_, _, _, _, _, rfl, _⟩ := h
    rfl
  obtain ⟨h, i, ts, b, m, rfl, ih, ni, i0, i1, k⟩ := h
  obtain ⟨dx, fs, tt, c, e, xs, lf, hf⟩ := id ih
  refine ⟨_, rfl, h, dx, fs, rfl, hf.at_, hf.mv, _, rfl, h, i, ts, b, m, rfl, ih, fun i0 i1 => absurd ⟨i0, i1⟩ ni, fun _ e' H' s' hx => ?_⟩
  refine ⟨true, T.eV.te, fun _ a0 na => ?_, fun q => Bool.noConfusion q⟩
  refine ⟨_, rfl, .ref T.HE, .ref T.HE, true, e', _, _, rfl, rfl, rfl, hx, fun u r => r, T.isV, _, rfl, ?_⟩
  refine iteT ⟨_, rfl, rfl, rfl, e', _, rfl, hx, _, _, rfl, .int i, ?_, _, rfl, _, _, rfl, .int i, ?_, rfl, ?_⟩
  · exact fine_int ⟨by omega, by omega⟩
  · exact fine_int ⟨by omega, by omega⟩
  · show Q (.bl (decide (V.str _ = V.str _))) _
    rw [decide_eq_true (by simp only [PyData.shown])]
    exact k _ s'
end
end K49

set_option Elab.async false
set_option linter.all false
set_option maxRecDepth 100000
set_option maxHeartbeats 4000000
/-! # what a table's repr may be long -/
namespace Xby
open PySem L2
theorem kit_self {K : PySem.W.Frag} (a : Addr) : PySem.W.kitOne K (.ref a) (.ref a) = some true := by
  unfold PySem.W.kitOne
  simp
theorem kit_sub {K : PySem.W.Frag} {a c : Addr} (hs : PySem.W.subIn K (.ref a) (.ref c) = some true) (ic : PySem.W.isClsIn K c = true) (ty : PySem.W.typeIn K (.ref c) = some (.type "type")) : PySem.W.kitOne K (.ref a) (.ref c) = some true := by
  unfold PySem.W.kitOne
  split
  · rfl
  · have ic : (PySem.W.clsIn K c).isSome = true := ic
    show (if ((PySem.W.clsIn K c).isSome && PySem.W.typeIn K (.ref c) == some (.type "type")) = true then PySem.W.subIn K (.ref a) (.ref c) else none) = _
    rw [ic, ty, if_pos (by simp), hs]
theorem sz_word {x : Str} (h : wordS x = true) : Sz 8 0 (.str x) := by
  have low := word_low h
  unfold wordS at h
  rw [Bool.and_eq_true] at h
  have l := of_decide_eq_true h.1
  have e : x.length = x.cps.size := rfl
  refine ⟨?_, by simp only [PyData.weight]; omega, by simp [PyData.depth], by simp [PyData.showable]⟩
  simp only [PyData.leavesShort]
  rw [List.all_eq_true]
  intro c hc
  have := of_decide_eq_true (low c hc)
  exact decide_eq_true (by omega)
theorem small999 : ∀ m : Nat, m < 1000 → Sz 40 0 (.int m) ∧ Sz 40 0 (.int (-(m : Int))) := by decide +kernel
theorem sz_num {i : Int} (h : -999 ≤ i ∧ i ≤ 999) : Sz 40 0 (.int i) := by
  rcases Int.le_total 0 i with z | z
  · obtain ⟨n, rfl⟩ := Int.eq_ofNat_of_zero_le z
    exact (small999 n (by omega)).1
  · obtain ⟨n, e⟩ := Int.eq_ofNat_of_zero_le (show 0 ≤ -i by omega)
    obtain rfl : i = -(n : Int) := by omega
    exact (small999 n (by omega)).2
theorem sz_cell {v : V} (h : cellV v = true) : Sz 40 0 (datC v) := by
  have h0 := h
  unfold cellV at h
  rw [Bool.and_eq_true] at h
  obtain ⟨_, h⟩ := h
  cases v with
  | str x => exact (sz_word (cell_str h0)).more (by decide) (by decide)
  | int i => exact sz_num (by simpa [datC, cellD, wordD, intD, nonD] using h)
  | non => exact ⟨by simp [datC, PyData.leavesShort], by simp [datC, PyData.weight], by simp [datC, PyData.depth], by simp [datC, PyData.showable]⟩
  | _ => cases h0
theorem rows_sz {K : PySem.W.Frag} {H : Hp} {wd : Nat} {xs : List V} {rs : List (List V)} (h : RowsK K H wd xs rs) (w : wd ≤ 3) : ∀ r ∈ rs, Sz 123 1 (.tuple (r.map datC)) := by
  induction h with
  | nil => exact fun _ h => nomatch h
  | cons e l m _ ih =>
    intro r hr
    rcases List.mem_cons.mp hr with rfl | hr
    · refine (Sz.tup (w := 40) (k := 0) fun d hd => ?_).more (by rw [List.length_map]; omega) (by decide)
      obtain ⟨v, hv, rfl⟩ := List.mem_map.mp hd
      exact sz_cell (m v hv)
    · exact ih r hr
/-- the pair of a table's columns and rows -/
def tabD (hs : List Str) (rs : List (List V)) : PyData := .tuple [.tuple ((hs.map V.str).map datC), .tuple (rs.map fun r => .tuple (r.map datC))]
theorem tab_fine {K : PySem.W.Frag} {H : Hp} {C a : Addr} {hs : List Str} {rs : List (List V)} (t : IsTab K C H a hs rs) : Fine (tabD hs rs) := by
  obtain ⟨dx, ac, ar, xs, t⟩ := t
  have w3 := t.w3
  have r6 := t.r6
  refine (Sz.tup (w := 744) (k := 2) fun d hd => ?_).fine (show (744 + 1) * 2 ≤ 200000 by decide) (by decide)
  simp only [List.mem_cons, List.not_mem_nil, or_false] at hd
  rcases hd with rfl | rfl
  · refine (Sz.tup (w := 8) (k := 0) fun d hd => ?_).more (by simp only [List.length_map]; omega) (by decide)
    obtain ⟨v, hv, rfl⟩ := List.mem_map.mp hd
    obtain ⟨h, hh, rfl⟩ := List.mem_map.mp hv
    exact sz_word (t.hw h hh)
  · refine (Sz.tup (w := 123) (k := 1) fun d hd => ?_).more (by simp only [List.length_map]; omega) (by decide)
    obtain ⟨r, hr, rfl⟩ := List.mem_map.mp hd
    exact rows_sz t.rows w3 r hr
theorem rows_dq {K : PySem.W.Frag} {H : Hp} {wd : Nat} {xs : List V} {rs : List (List V)} (h : RowsK K H wd xs rs) : DqAll K H xs (rs.map fun r => .tuple (r.map datC)) := by
  induction h with
  | nil => exact .nil
  | cons e l m _ ih => exact .cons (.tup e (DqAll.flat fun v hv => cellV_flat (m v hv))) ih
theorem tab_dq {K : PySem.W.Frag} {H : Hp} {q ac ar : Addr} {xs : List V} {hs : List Str} {rs : List (List V)} {wd : Nat} (hq : SqT K H q [.ref ac, .ref ar]) (hc : SqT K H ac (hs.map V.str)) (hr : SqT K H ar xs) (rows : RowsK K H wd xs rs) : Dq K H (.ref q) (tabD hs rs) :=
  .tup hq (.cons (.tup hc (DqAll.flat fun v hv => by
    obtain ⟨h, _, rfl⟩ := List.mem_map.mp hv
    rfl)) (.cons (.tup hr (rows_dq rows)) .nil))
end Xby

set_option Elab.async false
set_option linter.all false
set_option maxRecDepth 100000
set_option maxHeartbeats 8000000
namespace K49
open PySem L2 Xby StX
structure CaQ (P : Program) (w : World) (K : PySem.W.Frag) (mg : Str → Option Value) (base : Heap) (C : Addr) (sp : Sp) (f : Addr) (fd : FuncData) : Prop where
  G : FnOk P w K mg base CX0 1 f fd ["self", "other"] sp
  B : Binds K fd ["self", "other"] []
  e : PySem.W.findIn K (.ref C) "__eq__" = some (some (.ref f))
  i : PySem.W.isFn K (.ref f) = true
def spStand (K : PySem.W.Frag) (C CC HC : Addr) : Sp := fun vs H Q _ => ∃ (h D l : Addr) (xs : List V) (ts : List Tb) (b : Bill) (m : Nat), vs = [.ref h, .ref D, .ref l] ∧ IsHist K C CC HC m H h ts b ∧ H D = some (.lst xs) ∧ Tabs K C H xs ts ∧ ts.length ≤ 12 ∧ SqT K H l (billV b) ∧ BillOk b ∧ ∀ H', Same H H' → Q (.bl true) H'
section
variable {P : Program} {w : World} {K : PySem.W.Frag} {mg : Str → Option Value} {base : Heap}
abbrev s_law_stands : Stmt := top 46
theorem sc_law_stands : FnScope ["_law_history", "_law_tables", "_law_five_here", "_law_number", "_law_table_here", "_law_there", "_law_shown", "_law_one"] ["_law_history", "_law_tables", "_law_five_here"] (defScope s_law_stands) := ⟨rfl, rfl, rfl, by decide +kernel, rfl, by decide +kernel, by decide +kernel⟩
theorem ok_stands {f fM fV fE fF : Addr} {fd fdM fdV fdE fdF : FuncData} (F : Fun K "_law_stands" "_law_stands" s_law_stands f fd) (T : TxtH K mg) (MV : Meth K T.HC "version" fV) (hb : Binds K fdV ["self", "number"] [])
    (GV : ∀ base, FnOk P w K mg base (L2.CX P w) 4 fV fdV ["self", "number"] (spVer K T.C T.CC T.HC T.EV)) (c_law_costs : ∀ base, Ca P w K mg base (L2.CX P w) "_law_costs" 5 ["_law_five_here"] (spMkT K T.CC) fM fdM)
    (c_eqc : ∀ base, CaQ P w K mg base T.CC (spEqC T.CC) fE fdE) (c_eqt : ∀ base, CaQ P w K mg base T.C (spEqT K T.C) fF fdF) : FnG P w K mg base CX0 6 f fd ["_law_history", "_law_tables", "_law_five_here"] (spStand K T.C T.CC T.HC) := by
  have GV := GV base
  have c_law_costs := c_law_costs base
  have c_eqc := c_eqc base
  have c_eqt := c_eqt base
  refine okG F sc_law_stands (fun vs H Q E h => ?_) (fun cdv A outer s H vs Q E hg hr h => ⟨_, (pss_cons (ps_if (PW.pt (pw_or (pt_cmpR op_ne (pe_fldK K rfl (pv 0) rfl) (pe_op op_sub (pe_callB (call_lenK K rfl) (by rfl) T.b_len (by decide +kernel) (pa_cons (pv 1) pa_nil)) pe_int) (nomark _)) (pw_or (pt_cmpR (op_ownNeK K mg base P w rfl rfl rfl rfl rfl c_eqc.G (hr.mono (by decide)) c_eqc.B c_eqc.e c_eqc.i T.oCC.ne T.oCC.cm) (pe_fldK K rfl (pv 0) rfl) (pe_call c_law_costs.G (hr.mono (by first | decide | omega)) (by rfl) c_law_costs.g c_law_costs.k c_law_costs.B .nil passL (pa_cons (pv 2) pa_nil)) (nomark _)) (pw_or1 (pt_cmpR (op_neNilT K rfl hr.units) (pe_fldK K rfl (pv 0) rfl) (pe_tup pa_nil) (nomark _)))))) (pss_one (ps_ret pe_bl)) pss_nil)
    (pss_cons (ps_for PassesOwn.never rfl (pi_enumK K rfl (by rfl) T.b_enumerate (pa_cons (pv 1) pa_nil)) (pg_tupK K rfl rfl (pgs_cons (pg_name (i := 3) sc_law_stands.nd rfl (Or.inl rfl)) (pgs_cons (pg_name (i := 4) sc_law_stands.nd rfl (Or.inl rfl)) pgs_nil))) (pss_cons (ps_set (i := 5) sc_law_stands.nd rfl (Or.inl rfl) (pe_meth (pv 0) T.oH.cl MV GV (hr.mono (by decide)) hb .nil passL (pa_cons (pv 3) pa_nil)))
    (pss_cons (ps_setLc (i := 6) (own := [("_law_one", 7)]) (g := gName 7) (tt := tYes) rfl sc_law_stands.nd rfl rfl (sw_true rfl rfl rfl (by decide +kernel)) (pi_tupK K rfl (pe_tup (pa_cons (pv 5) (pa_cons (pv 4) pa_nil)))) (blkOk_by (N := ["_law_history", "_law_tables", "_law_five_here", "_law_number", "_law_table_here", "_law_there", "_law_shown", "_law_one"]) (sc := defScope s_law_stands) (by decide +kernel)) (fun _ _ _ _ _ => (pg_name (i := 7) sc_law_stands.nd rfl (Or.inl rfl))) (fun _ _ _ _ _ => pts_nil) (fun _ _ _ _ _ => (pe_callB (call_reprK K rfl hg hr.units) (by rfl) T.b_repr (by decide +kernel) (pa_cons (pe_tup (pa_cons (pe_fldK K rfl (pv 7) rfl) (pa_cons (pe_fldK K rfl (pv 7) rfl) pa_nil))) pa_nil))))
    (pss_one (ps_if (PW.pt (pw_or (pt_cmpR (op_ownNeK K mg base P w rfl rfl rfl rfl rfl c_eqt.G (hr.mono (by decide)) c_eqt.B c_eqt.e c_eqt.i T.oC.ne T.oC.cm) (pv 5) (pv 4) (nomark _)) (pw_or1 (pt_cmpR op_ne (pe_ix (ix_listK K rfl) (pv 6) pe_int (fun _ _ => rfl)) (pe_ix (ix_listK K rfl) (pv 6) pe_int (fun _ _ => rfl)) (nomark _))))) (pss_one (ps_ret pe_bl)) pss_nil)))))
    (pss_one (ps_ret pe_bl)))), ?_⟩)
  · obtain ⟨_, _, _, _, _, _, _, rfl, _⟩ := h
    rfl
  obtain ⟨h, D, l, xs, ts, b, m, rfl, ih, hD, tb, l2, hl, ok, k⟩ := h
  obtain ⟨dx, fs, tt, c, e, ys, lf, hf⟩ := id ih
  have lx := tb.len
  have eqi : ∀ i : Int, decide (V.int i = V.int i) = true := fun i => decide_eq_true rfl
  refine ⟨_, rfl, h, T.HC, dx, _, _, rfl, hf.at_, T.oH.cl, T.n_last, hf.last, _, rfl, _, _, rfl, .inl ⟨_, SqL.of hD, rfl⟩, _, _, rfl, rfl, rfl, _, rfl, ?_⟩
  rw [lx, eqi]
  refine iteF ⟨_, rfl, h, T.HC, dx, _, _, rfl, hf.at_, T.oH.cl, T.n_hcosts, hf.costs, _, rfl, l, b, rfl, hl, ok, fun c' H1 s1 ic => ?_⟩
  obtain ⟨dc, ec⟩ := hf.bill.same s1
  obtain ⟨dc', ec'⟩ := id ic
  have nfC : PySem.W.notFirst K T.CC (.ref T.CC) = true := by simp [PySem.W.notFirst]
  have nfT : PySem.W.notFirst K T.C (.ref T.C) = true := by simp [PySem.W.notFirst]
  refine ⟨c, dc, _, _, rfl, ec, .base (.ins ec' T.clC T.oCC.ca T.oCC.cn T.oCC.ct T.oCC.cm), nfC, c, c', b, rfl, ⟨dc, ec⟩, ic, _, rfl, _, rfl, iteF ?_⟩
  refine ⟨_, rfl, h, T.HC, dx, _, _, rfl, s1 _ _ hf.at_, T.oH.cl, T.n_sayings, hf.sayings, by show 0 ≤ sizeLine; decide, fun e0 ne0 => ⟨e, e0, [], rfl, rfl, (hf.none_.ext s1).ext (Same.one ne0), SqT.of upd_same, _, rfl, iteF ?_⟩⟩
  have s2 := s1.trans (Same.one (o := .tup []) ne0)
  generalize upd H1 e0 (.tup []) = H2 at s2 ⊢
  have hD2 := s2 _ _ hD
  refine ⟨_, rfl, D, xs, rfl, SqL.of hD2, for_it walk_enum (fun i σ H' => ∃ o3 o4 o5 o6 o7, σ = [some (.ref h), some (.ref D), some (.ref l), o3, o4, o5, o6, o7] ∧ Same H H') ⟨none, none, none, none, none, rfl, s2⟩ (fun i σ H' _ ⟨_, _, _, _, _, _, z⟩ => SqL.of (z _ _ hD)) ?_ ?_⟩
  · rintro i x σ H3 H4 hi ⟨o3, o4, o5, o6, o7, rfl, s3⟩ ⟨t, y, z, rfl, nt, rfl, ey, ez⟩
    obtain rfl : V.int (i : Nat) = y := Option.some.inj ey
    obtain ⟨a, ha, ta⟩ := tb.at_ (i := i) (by omega)
    have ez : xs[i]? = some z := ez
    obtain rfl : V.ref a = z := Option.some.inj (ha.symm.trans ez)
    have few : ts.length ≤ 12 := l2
    have s4 := Same.upd s3 (o := .tup [.int (i : Nat), .ref a]) nt
    refine ⟨t, _, rfl, SqT.of upd_same, rfl, _, _, rfl, _, _, rfl, rfl, ?_⟩
    generalize upd H3 t (.tup [.int (i : Nat), .ref a]) = H4 at s4 ⊢
    refine ⟨_, rfl, h, dx, fs, rfl, s4 _ _ hf.at_, hf.mv, _, rfl, h, (i : Nat), ts, b, m, rfl, ih.same s4, fun _ _ a' ta' => ?_, fun ni => absurd ⟨by omega, by omega⟩ ni⟩
    have ta := ta.same s4
    rw [show ((i : Nat) : Int).toNat = i by omega] at ta'
    refine ⟨_, rfl, _, rfl, by show 2 ≤ sizeLine; decide, fun t2 nt2 => ⟨t2, rfl, ⟨_, SqT.of upd_same⟩, fun L nL => lc_growT (SqT.of upd_same) nL (by show 2 < sizeLine; decide) (fun _ => .str (tabD (ts.getD i ([], [])).1 (ts.getD i ([], [])).2).shown) (fun _ => true) (fun j x H5 Z N hj s5 kz _ => ?_) (fun H5 s5 hL => ?_)⟩⟩
    · have hx : ∃ a2, x = .ref a2 ∧ IsTab K T.C H4 a2 (ts.getD i ([], [])).1 (ts.getD i ([], [])).2 := by
        match j, hj with
        | 0, hj => exact ⟨a', (Option.some.inj hj).symm, ta'⟩
        | 1, hj => exact ⟨a, (Option.some.inj hj).symm, ta⟩
      obtain ⟨a2, rfl, t2'⟩ := hx
      have s5' := (Same.one (o := .tup [.ref a', .ref a]) nt2).trans s5
      have t2' := t2'.same s5'
      have fine := tab_fine t2'
      obtain ⟨dx2, ac, ar, xr, u⟩ := t2'
      refine ⟨rfl, _, rfl, a2, T.C, dx2, _, _, rfl, u.at_, T.cl, T.n_columns, l_columns .., _, rfl, a2, T.C, dx2, _, _, rfl, u.at_, T.cl, T.n_rows, l_rows .., by show 2 ≤ sizeLine; decide, fun q nq => ?_⟩
      have sq := Same.one (o := .tup [.ref ac, .ref ar]) nq
      exact ⟨_, _, rfl, tab_dq (SqT.of upd_same) (u.c.ext sq) (u.r.ext sq) (u.rows.same sq), fine, kz _ sq rfl⟩
    · have s6 := s4.trans ((Same.one (o := .tup [.ref a', .ref a]) nt2).trans s5)
      have sL := (Same.one (o := .tup [.ref a', .ref a]) nt2).trans s5
      have tx := ta'.same sL
      have ty := ta.same sL
      obtain ⟨dx3, ac3, ar3, xr3, u3⟩ := id tx
      obtain ⟨dx4, ac4, ar4, xr4, u4⟩ := id ty
      have k2 : ∀ z : V, kept (fun _ => z) (fun _ => true) 2 = [z, z] := fun z => rfl
      rw [show [V.ref a', V.ref a].length = 2 from rfl, k2] at hL
      refine ⟨_, rfl, _, rfl, a', dx3, _, _, rfl, u3.at_, .base (.ins u4.at_ T.cl T.oC.ca T.oC.cn T.oC.ct T.oC.cm), nfT, a', a, _, _, rfl, tx, ty, _, rfl, _, rfl, iteF ?_⟩
      refine ⟨_, rfl, L, _, _, _, rfl, rfl, SqL.of hL, rfl, _, rfl, L, _, _, _, rfl, rfl, SqL.of hL, rfl, rfl, _, rfl, ?_⟩
      rw [show ∀ z : V, decide (z = z) = true from fun z => decide_eq_true rfl]
      exact iteF ⟨_, _, _, _, _, rfl, s6⟩
  · rintro σ H3 ⟨o3, o4, o5, o6, o7, rfl, s3⟩
    exact k H3 s3
end
end K49

set_option Elab.async false
set_option linter.all false
set_option maxRecDepth 100000
set_option maxHeartbeats 8000000
namespace K49
open PySem L2 Xby StX
structure CaG (P : Program) (w : World) (K : PySem.W.Frag) (mg : Str → Option Value) (base : Heap) (x : Str) (k : Nat) (ps : List Str) (sp : Sp) (f : Addr) (fd : FuncData) : Prop where
  G : FnG P w K mg base CX0 k f fd ps sp
  g : mg x = some (.ref f)
  k : PySem.W.keepIn K (.ref f) = true
  B : Binds K fd ps []
section
variable {K : PySem.W.Frag} {C CC HC h p q : Addr} {H H' H1 : Hp} {ts : List Tb} {b : Bill} {m n : Nat} {xs : List V}
theorem IsHist.but (x : IsHist K C CC HC m H h ts b) (pot : Pot H p n) (s : But p H H') : IsHist K C CC HC m H' h ts b := by
  obtain ⟨dx, fs, tt, c, e, xs, lf, hf⟩ := x
  have ne : h ≠ p := by
    rintro rfl
    obtain ⟨_, _, _, z, _⟩ := pot
    rw [hf.at_] at z
    cases z
  exact ⟨dx, fs, tt, c, e, xs, lf, ⟨s _ _ ne hf.at_, hf.tables, hf.last, hf.costs, hf.sayings, seqBut hf.tt pot s, hf.tabs.but pot s, hf.bill.but pot s, seqBut hf.none_ pot s, hf.nt, hf.nc, hf.ma, hf.mv, hf.mr⟩⟩
theorem potButI (pot : Pot H p n) (x : IsHist K C CC HC m H h ts b) (s : But h H H') : Pot H' p n := by
  obtain ⟨dx, fs, tt, c, e, xs, lf, hf⟩ := x
  obtain ⟨a, m', c', z, r⟩ := pot
  refine ⟨a, m', c', s p _ ?_ z, r⟩
  rintro rfl
  rw [hf.at_] at z
  cases z
theorem butVia (a : But p H H1) (s : But q H1 H') (n : H q = none) : But p H H' := fun b o ne e => s b o (ne_of_none e n) (a b o ne e)
theorem Tabs.any (t : Tabs K C H xs ts) : ∀ x ∈ xs, ∃ a hs rs, x = .ref a ∧ IsTab K C H a hs rs := by
  induction t with
  | nil => exact fun _ h => nomatch h
  | cons t _ ih =>
    intro x hx
    rcases List.mem_cons.mp hx with rfl | hx
    · exact ⟨_, _, _, rfl, t⟩
    · exact ih x hx
theorem Tabs.last (t : Tabs K C H xs ts) (l : 1 ≤ ts.length) : ∃ a hs rs, atI xs (-1) = some (.ref a) ∧ IsTab K C H a hs rs := by
  have lx := t.len
  have ne : xs ≠ [] := fun e => by rw [e] at lx; simp at lx; omega
  have e := List.dropLast_concat_getLast ne
  obtain ⟨a, hs, rs, ex, ta⟩ := t.any _ (List.getLast_mem ne)
  refine ⟨a, hs, rs, ?_, ta⟩
  rw [← e, ex]
  exact atI_last _ _
/-- where a turn begins -/
structure Turn49 (K : PySem.W.Frag) (C CC HC p h : Addr) (H0 H : Hp) (D l : Addr) (xs : List V) (ts : List Tb) (b : Bill) (m n : Nat) : Prop where
  hist : IsHist K C CC HC m H h ts b
  lst : H D = some (.lst xs)
  tabs : Tabs K C H xs ts
  l1 : 1 ≤ ts.length
  l2 : ts.length ≤ 12
  five : SqT K H l (billV b)
  ok : BillOk b
  pot : Pot H p n
  but : But p H0 H
theorem Turn49.ne {H0 : Hp} {D l : Addr} (t : Turn49 K C CC HC p h H0 H D l xs ts b m n) : D ≠ p := by
  rintro rfl
  obtain ⟨a, m', c', z, _⟩ := t.pot
  have := t.lst.symm.trans z
  injection this with this
  injection this with this
  obtain ⟨a', ha', _⟩ := t.tabs.at_ (i := 0) t.l1
  rw [this] at ha'
  cases ha'
theorem Turn49.ofBut {H0 : Hp} {D l : Addr} {k : Nat} (t : Turn49 K C CC HC p h H0 H D l xs ts b m n) (pot : Pot H' p k) (s : But p H H') : Turn49 K C CC HC p h H0 H' D l xs ts b m k :=
  ⟨t.hist.but t.pot s, s D _ t.ne t.lst, t.tabs.but t.pot s, t.l1, t.l2, seqBut t.five t.pot s, t.ok, pot, t.but.trans s⟩
theorem Turn49.same {H0 : Hp} {D l : Addr} (t : Turn49 K C CC HC p h H0 H D l xs ts b m n) (s : Same H H') : Turn49 K C CC HC p h H0 H' D l xs ts b m n :=
  ⟨t.hist.same s, s D _ t.lst, t.tabs.same s, t.l1, t.l2, t.five.ext s, t.ok, t.pot.same s, t.but.same s⟩
/-- the history alone has changed -/
theorem Turn49.mut {H0 : Hp} {D l : Addr} (t : Turn49 K C CC HC p h H0 H D l xs ts b m n) (nh : H0 h = none) (s : But h H H') : H' D = some (.lst xs) ∧ Tabs K C H' xs ts ∧ (∀ z ys, SqT K H z ys → SqT K H' z ys) ∧ (∀ a hs rs, IsTab K C H a hs rs → IsTab K C H' a hs rs) ∧ Pot H' p n ∧ But p H0 H' := by
  obtain ⟨dx, fs, tt, c, e, ys, lf, hf⟩ := id t.hist
  have ne : D ≠ h := by
    rintro rfl
    have := t.lst.symm.trans hf.at_
    cases this
  exact ⟨s D _ ne t.lst, t.tabs.butI hf.at_ hf.nt s, fun z ys q => seqButI q hf.at_ s, fun a hs rs q => tabButI q hf.at_ hf.nt s, potButI t.pot t.hist s, butVia t.but s nh⟩
end
def spRight (K : PySem.W.Frag) : Sp := fun vs H Q _ => ∃ (p : Addr) (n : Nat), vs = [.ref p] ∧ n + 2000 ≤ 1000000 ∧ Pot H p n ∧ ∀ H', Pot H' p (n + 2000) → But p H H' → Q (.bl true) H'
section
variable {P : Program} {w : World} {K : PySem.W.Frag} {mg : Str → Option Value} {base : Heap}
abbrev s_law_right : Stmt := top 49
theorem sc_law_right : FnScope ["_law_pot_here", "_law_tables", "_law_five_here", "_law_history", "_law_turn", "_law_road", "_law_fresh", "_law_due"] ["_law_pot_here"] (defScope s_law_right) := ⟨rfl, rfl, rfl, by decide +kernel, rfl, by decide +kernel, by decide +kernel⟩
theorem ok_right {f fT fF fD fI fM fY fN fA fS fR fRc : Addr} {fd fdT fdF fdD fdI fdM fdY fdN fdA fdS fdR fdRc : FuncData} {ds1 : List Value} (F : Fun K "_law_right" "_law_right" s_law_right f fd) (T : TxtH K mg) (MH : Mk K T.HC fI)
    (hb0 : Binds K fdI ["self", "table", "costs"] []) (hb1 : Binds K fdI ["self", "table", "costs"] ds1) (hv1 : Vals [.non] ds1) (GH : ∀ base, FnOk P w K mg base (L2.CX P w) 5 fI fdI ["self", "table", "costs"] (spInitH K T.C T.CC T.HC))
    (MR : Meth K T.HC "recost" fRc) (hbR : Binds K fdRc ["self", "costs"] []) (GR : ∀ base, FnOk P w K mg base (L2.CX P w) 2 fRc fdRc ["self", "costs"] (spRec K T.C T.CC T.HC))
    (c_law_table : ∀ base, Ca P w K mg base CX0 "_law_table" 7 ["_law_pot_here", "_law_wide", "_law_high"] (spTable K T.C) fT fdT) (c_law_five : ∀ base, Ca P w K mg base CX0 "_law_five" 3 ["_law_pot_here"] (spFive K) fF fdF)
    (c_law_draw : ∀ base, Ca P w K mg base CX0 "_law_draw" 1 ["_law_pot_here", "_law_many"] spDraw fD fdD) (c_law_costs : ∀ base, Ca P w K mg base (L2.CX P w) "_law_costs" 5 ["_law_five_here"] (spMkT K T.CC) fM fdM)
    (c_law_any : ∀ base, Ca P w K mg base CX0 "_law_any" 2 ["_law_pot_here", "_law_items"] spAny fY fdY) (c_law_near : ∀ base, Ca P w K mg base CX0 "_law_near" 7 ["_law_pot_here", "_law_table_here", "_law_wide", "_law_high"] (spNear K T.C) fN fdN)
    (c_law_added : ∀ base, Ca P w K mg base CX0 "_law_added" 3 ["_law_history", "_law_table_here"] (spAdded K T.C T.CC T.HC) fA fdA) (c_law_stands : ∀ base, CaG P w K mg base "_law_stands" 6 ["_law_history", "_law_tables", "_law_five_here"] (spStand K T.C T.CC T.HC) fS fdS)
    (c_law_refused : ∀ base, CaG P w K mg base "_law_refused" 5 ["_law_history", "_law_number"] (spRef K T.C T.CC T.HC) fR fdR) : FnG P w K mg base CX0 9 f fd ["_law_pot_here"] (spRight K) := by
  have GH := GH base
  have GR := GR base
  have c_law_table := c_law_table base
  have c_law_five := c_law_five base
  have c_law_draw := c_law_draw base
  have c_law_costs := c_law_costs base
  have c_law_any := c_law_any base
  have c_law_near := c_law_near base
  have c_law_added := c_law_added base
  have c_law_stands := c_law_stands base
  have c_law_refused := c_law_refused base
  refine okG F sc_law_right (fun vs H Q E h => ?_) (fun cdv A outer s H vs Q E hg hr h => ⟨_, (pss_cons (ps_par (i := 1) (j := 2) (by rfl) sc_law_right.nd rfl rfl (by decide) rfl rfl (pa_cons (pe_lst (pa_cons (pe_call c_law_table.G (hr.mono (by first | decide | omega)) (by rfl) c_law_table.g c_law_table.k c_law_table.B .nil pass0 (pa_cons (pv 0) (pa_cons pe_int (pa_cons pe_int pa_nil)))) pa_nil)) (pa_cons (pe_call c_law_five.G (hr.mono (by first | decide | omega)) (by rfl) c_law_five.g c_law_five.k c_law_five.B .nil pass0 (pa_cons (pv 0) pa_nil)) pa_nil)) (by rfl))
    (Evl.pss_cut (ps_if (pt_cmpR op_eq (pe_call c_law_draw.G (hr.mono (by first | decide | omega)) (by rfl) c_law_draw.g c_law_draw.k c_law_draw.B .nil pass0 (pa_cons (pv 0) (pa_cons pe_int pa_nil))) pe_int (nomark _)) (pss_one (ps_par (i := 3) (j := 2) (by rfl) sc_law_right.nd rfl rfl (by decide) rfl rfl (pa_cons (pe_make MH GH (hr.mono (by decide)) (by rfl) T.g_History hb1 hv1 passL (pa_cons (pe_ix (ix_listK K rfl) (pv 1) pe_int (fun _ _ => rfl)) pa_nil)) (pa_cons (pe_tup (pa_cons pe_int (pa_cons pe_int (pa_cons pe_int (pa_cons pe_int (pa_cons pe_int pa_nil)))))) pa_nil)) (by rfl))) (pss_one (ps_set (i := 3) sc_law_right.nd rfl (Or.inl rfl) (pe_make MH GH (hr.mono (by decide)) (by rfl) T.g_History hb0 .nil passL (pa_cons (pe_ix (ix_listK K rfl) (pv 1) pe_int (fun _ _ => rfl)) (pa_cons (pe_call c_law_costs.G (hr.mono (by first | decide | omega)) (by rfl) c_law_costs.g c_law_costs.k c_law_costs.B .nil passL (pa_cons (pv 2) pa_nil)) pa_nil))))))
    (pss_cons (ps_for PassesOwn.never rfl (pi_range1 (by rfl) T.b_range (pa_cons pe_int pa_nil)) (pg_name (i := 4) sc_law_right.nd rfl (Or.inl rfl)) (pss_cons (ps_set (i := 5) sc_law_right.nd rfl (Or.inl rfl) (pe_call c_law_draw.G (hr.mono (by first | decide | omega)) (by rfl) c_law_draw.g c_law_draw.k c_law_draw.B .nil pass0 (pa_cons (pv 0) (pa_cons pe_int pa_nil))))
    (Evl.pss_cut (ps_if (pt_cmpR op_eq (pv 5) pe_int (nomark _)) (pss_cons (ps_set (i := 2) sc_law_right.nd rfl (Or.inl rfl) (pe_call c_law_five.G (hr.mono (by first | decide | omega)) (by rfl) c_law_five.g c_law_five.k c_law_five.B .nil pass0 (pa_cons (pv 0) pa_nil)))
    (pss_one (ps_if (pt_cmpR op_notN (pe_meth (pv 3) T.oH.cl MR GR (hr.mono (by decide)) hbR .nil passL (pa_cons (pe_call c_law_costs.G (hr.mono (by first | decide | omega)) (by rfl) c_law_costs.g c_law_costs.k c_law_costs.B .nil passL (pa_cons (pv 2) pa_nil)) pa_nil)) pe_non (nomark _)) (pss_one (ps_ret pe_bl)) pss_nil))) (Evl.pss_cut (ps_set (i := 6) sc_law_right.nd rfl (Or.inl rfl) (pe_ifExp (pt_cmpR op_eq (pv 5) pe_int (nomark _)) (pe_call c_law_any.G (hr.mono (by first | decide | omega)) (by rfl) c_law_any.g c_law_any.k c_law_any.B .nil pass0 (pa_cons (pv 0) (pa_cons (pv 1) pa_nil))) (pe_call c_law_near.G (hr.mono (by first | decide | omega)) (by rfl) c_law_near.g c_law_near.k c_law_near.B .nil pass0 (pa_cons (pv 0) (pa_cons (pe_ix (ix_listK K rfl) (pv 1) (pe_un un_neg pe_int) (fun _ _ => rfl)) (pa_cons pe_int (pa_cons pe_int pa_nil)))))))
    (Evl.pss_cut (ps_set (i := 7) sc_law_right.nd rfl (Or.inl rfl) (pe_ifExp (pt_cmpR op_lt (pe_callB (call_lenK K rfl) (by rfl) T.b_len (by decide +kernel) (pa_cons (pv 1) pa_nil)) pe_int (nomark _)) (pe_tup (pa_cons pe_str (pa_cons (pe_callB (call_lenK K rfl) (by rfl) T.b_len (by decide +kernel) (pa_cons (pv 1) pa_nil)) pa_nil))) (pe_tup (pa_cons pe_str (pa_cons pe_int (pa_cons pe_bl pa_nil))))))
    (pss_cons (ps_if (pt_cmpR op_ne (pe_callB (call_reprK K rfl hg hr.units) (by rfl) T.b_repr (by decide +kernel) (pa_cons (pe_call c_law_added.G (hr.mono (by first | decide | omega)) (by rfl) c_law_added.g c_law_added.k c_law_added.B .nil pass0 (pa_cons (pv 3) (pa_cons (pv 6) pa_nil))) pa_nil)) (pe_callB (call_reprK K rfl hg hr.units) (by rfl) T.b_repr (by decide +kernel) (pa_cons (pv 7) pa_nil)) (nomark _)) (pss_one (ps_ret pe_bl)) pss_nil)
    (pss_one (ps_set (i := 1) sc_law_right.nd rfl (Or.inl rfl) (pe_op op_cat (pv 1) (pe_op op_rep (pe_lst (pa_cons (pv 6) pa_nil)) (pe_callTy call_int1 (by rfl) T.b_int (by decide +kernel) (pa_cons (pe_cmpR op_lt (pe_callB (call_lenK K rfl) (by rfl) T.b_len (by decide +kernel) (pa_cons (pv 1) pa_nil)) pe_int (nomark _)) pa_nil))))))))))
    (pss_one (ps_if (PW.pt (pw_or (pt_not (pt_val (pe_callG c_law_stands.G hg (hr.mono (by decide)) (by rfl) c_law_stands.g c_law_stands.k c_law_stands.B (pa_cons (pv 3) (pa_cons (pv 1) (pa_cons (pv 2) pa_nil)))))) (pw_or1 (pt_not (pt_val (pe_callG c_law_refused.G hg (hr.mono (by decide)) (by rfl) c_law_refused.g c_law_refused.k c_law_refused.B (pa_cons (pv 3) (pa_cons (pe_callB (call_lenK K rfl) (by rfl) T.b_len (by decide +kernel) (pa_cons (pv 1) pa_nil)) pa_nil)))))))) (pss_one (ps_ret pe_bl)) pss_nil)))))
    (pss_one (ps_ret (pe_callG c_law_refused.G hg (hr.mono (by decide)) (by rfl) c_law_refused.g c_law_refused.k c_law_refused.B (pa_cons (pv 3) (pa_cons (pe_un un_neg pe_int) pa_nil)))))))), ?_⟩)
  · obtain ⟨_, _, rfl, _⟩ := h
    rfl
  obtain ⟨p, n, rfl, hn, pot, kk⟩ := h
  have sl : sizeLine = 16777216 := sizeLine_eq
  refine ⟨_, rfl, p, 3, 6, n, rfl, ⟨by decide, by decide⟩, by decide, by omega, pot, fun a1 H1 hs rs t1 _ _ pot1 but1 => ⟨by show 1 ≤ sizeLine; omega, fun D nD => ⟨_, rfl, p, n + 40, rfl, by omega, pot1.new nD, fun l H2 b hl ok pot2 but2 => ⟨_, _, rfl, ?_⟩⟩⟩⟩
  have Dp : D ≠ p := (pot1.ne nD).symm
  have hD2 : H2 D = some (.lst [.ref a1]) := but2 D _ Dp upd_same
  have t1 := (t1.same (Same.one (o := .lst [.ref a1]) nD)).but (pot1.new nD) but2
  have but2 := (but1.new (o := .lst [.ref a1]) nD).trans but2
  clear pot1 but1 nD
  refine ⟨fun σ H' => ∃ (h l : Addr) (b : Bill) (o4 o5 o6 o7 : Option V), σ = [some (.ref p), some (.ref D), some (.ref l), some (.ref h), o4, o5, o6, o7] ∧ H h = none ∧ Turn49 K T.C T.CC T.HC p h H H' D l [.ref a1] [(hs, rs)] b 7 (n + 47), ?_, ?_⟩
  · refine ⟨_, rfl, p, 3, n + 46, rfl, ⟨by decide, by decide⟩, by omega, pot2, fun r H3 r0 r3 pot3 but3 => ⟨rfl, _, rfl, ite2 (fun _ => ?_) (fun _ => ?_)⟩⟩
    · have t1 := t1.but pot2 but3
      have hD3 := but3 D _ Dp hD2
      have but3 := but2.trans but3
      refine ⟨_, rfl, D, _, _, _, rfl, rfl, SqL.of hD3, rfl, fun x dx nx ndx ne => ?_⟩
      have s5 : Same H3 (upd (upd H3 dx (.own x)) x (.ins T.HC dx [])) := Same.upd (Same.one ndx) (by rw [upd_ne ne.symm]; exact nx)
      refine ⟨x, dx, a1, .non, hs, rs, usual, rfl, upd_same, t1.same s5, .inl ⟨rfl, rfl⟩, fun H4 bt ih => ⟨rfl, by show 5 ≤ sizeLine; omega, fun q nq => ⟨_, _, rfl, ?_⟩⟩⟩
      have s4 : Same H3 H4 := fun p o e => bt p o (ne_of_none e nx) (s5 p o e)
      have s6 := s4.trans (Same.one (o := .tup [.int 3, .int 4, .int 5, .int 1, .int 1]) nq)
      exact ⟨x, q, usual, _, _, _, _, rfl, But.back but3 nx (pot3.ne nx).symm, ih.same (Same.one nq), s6 _ _ hD3, .cons (t1.same s6) .nil, Nat.le_refl 1, by show 1 ≤ 12; omega, SqT.of upd_same, by unfold BillOk usual; decide, pot3.same s6, but3.same s6⟩
    · have t1 := t1.but pot2 but3
      have hD3 := but3 D _ Dp hD2
      have hl := seqBut hl pot2 but3
      have but3 := but2.trans but3
      refine ⟨_, rfl, D, _, _, _, rfl, rfl, SqL.of hD3, rfl, _, rfl, l, b, rfl, hl, ok, fun c H4 s4 ic => fun x dx nx ndx ne => ?_⟩
      have s5 : Same H4 (upd (upd H4 dx (.own x)) x (.ins T.HC dx [])) := Same.upd (Same.one ndx) (by rw [upd_ne ne.symm]; exact nx)
      refine ⟨x, dx, a1, .ref c, hs, rs, b, rfl, upd_same, (t1.same s4).same s5, .inr ⟨c, rfl, ic.same s5⟩, fun H5 bt ih => ⟨rfl, ?_⟩⟩
      have s6 : Same H4 H5 := fun p o e => bt p o (ne_of_none e nx) (s5 p o e)
      have s7 := s4.trans s6
      exact ⟨x, l, b, _, _, _, _, rfl, But.back (but3.same s4) nx ((pot3.same s4).ne nx).symm, ih, s7 _ _ hD3, .cons (t1.same s7) .nil, Nat.le_refl 1, by show 1 ≤ 12; omega, hl.ext s7, ok, pot3.same s7, but3.same s7⟩
  clear t1 hD2 pot2 but2 Dp hl ok
  rintro σ H2 ⟨h, l, b, o4, o5, o6, o7, rfl, nh, t0⟩
  refine ⟨16, rfl, by decide, by decide, for_range (lo := 0) (n := 16) (fun i σ H' => ∃ (D l : Addr) (xs : List V) (ts : List Tb) (b : Bill) (m : Nat) (o4 o5 o6 o7 : Option V), σ = [some (.ref p), some (.ref D), some (.ref l), some (.ref h), o4, o5, o6, o7] ∧ m ≤ 7 + 2 * i ∧ Turn49 K T.C T.CC T.HC p h H H' D l xs ts b m (n + 47 + 121 * i)) ⟨D, l, _, _, b, 7, _, _, _, _, rfl, Nat.le_refl _, t0⟩ ?_ ?_⟩
  · clear t0 o4 o5 o6 o7
    rintro i σ H3 hi ⟨D, l, xs, ts, b, m, o4, o5, o6, o7, rfl, hm, t⟩
    refine ⟨_, rfl, p, 7, n + 47 + 121 * i, rfl, ⟨by decide, by decide⟩, by omega, t.pot, fun r H4 r0 r7 pot4 but4 => ?_⟩
    have t := t.ofBut pot4 but4
    clear pot4 but4
    refine ⟨fun σ H' => ∃ (D l : Addr) (xs : List V) (ts : List Tb) (b : Bill) (m : Nat) (o4 o5 o6 o7 : Option V), σ = [some (.ref p), some (.ref D), some (.ref l), some (.ref h), o4, o5, o6, o7] ∧ m ≤ 7 + 2 * (i + 1) ∧ Turn49 K T.C T.CC T.HC p h H H' D l xs ts b m (n + 47 + 121 * (i + 1)), ?_, ?_⟩
    · refine ⟨_, rfl, rfl, _, rfl, ite2 (fun _ => ?_) (fun _ => ?_)⟩
      · refine ⟨_, rfl, p, n + 47 + 121 * i + 1, rfl, by omega, t.pot, fun l' H5 b' hl' ok' pot5 but5 => ?_⟩
        have t := t.ofBut pot5 but5
        obtain ⟨dx, fs, tt, c0, e, ys, lf, hf⟩ := id t.hist
        refine ⟨_, rfl, h, dx, fs, rfl, hf.at_, hf.mr, _, rfl, l', b', rfl, hl', ok', fun c H6 s6 ic => ⟨h, c, ts, b, b', m, rfl, t.hist.same s6, by omega, ic, fun H7 bt ih => ⟨rfl, _, rfl, iteF ?_⟩⟩⟩
        obtain ⟨m1, m2, m3, m4, m5, m6⟩ := (t.same s6).mut nh bt
        exact ⟨D, l', xs, ts, b', m + 1, _, _, _, _, rfl, by omega, ih, m1, m2, t.l1, t.l2, m3 _ _ (hl'.ext s6), ok', m5.more (by omega), m6⟩
      · refine ⟨fun σ H' => ∃ (a : Addr) (hs : List Str) (rs : List (List V)) (o5 o7 : Option V), σ = [some (.ref p), some (.ref D), some (.ref l), some (.ref h), some (.int (0 + (i : Int))), o5, some (.ref a), o7] ∧ IsTab K T.C H' a hs rs ∧ Turn49 K T.C T.CC T.HC p h H H' D l xs ts b m (n + 47 + 121 * (i + 1)), ?_, ?_⟩
        · have lx := t.tabs.len
          have l1 := t.l1
          have l2 := t.l2
          refine ⟨_, rfl, rfl, _, rfl, ite2 (fun _ => ?_) (fun _ => ?_)⟩
          · refine ⟨_, rfl, _, rfl, p, D, xs, _, rfl, t.lst, t.ne, ⟨by omega, by omega⟩, by omega, t.pot, fun x H5 hx pot5 but5 => ?_⟩
            have t := t.ofBut (pot5.more (show _ ≤ n + 47 + 121 * (i + 1) by omega)) but5
            obtain ⟨a, hs, rs, rfl, ta⟩ := t.tabs.any x hx
            exact ⟨a, hs, rs, _, _, rfl, ta, t⟩
          · obtain ⟨a0, hs0, rs0, at0, ta0⟩ := t.tabs.last t.l1
            obtain ⟨q1, q2, q3⟩ := Tab.len ta0
            refine ⟨_, rfl, _, rfl, _, rfl, D, _, _, _, rfl, rfl, SqL.of t.lst, at0, p, a0, 3, 6, _, hs0, rs0, rfl, ta0, q2, by decide, q3, by decide, ?_, t.pot, fun a H5 ks qs ta _ _ pot5 but5 => ?_⟩
            · omega
            have t := t.ofBut (pot5.more (show _ ≤ n + 47 + 121 * (i + 1) by omega)) but5
            exact ⟨a, ks, qs, _, _, rfl, ta, t⟩
        rintro σ H5 ⟨a, hs, rs, o5, o7, rfl, ta, t⟩
        have lx := t.tabs.len
        have l1 := t.l1
        have l2 := t.l2
        refine ⟨fun σ H' => ∃ (q : Addr), σ = [some (.ref p), some (.ref D), some (.ref l), some (.ref h), some (.int (0 + (i : Int))), o5, some (.ref a), some (.ref q)] ∧ Same H5 H' ∧ (ts.length < 12 → SqT K H' q [.str "number", .int (ts.length : Int)]) ∧ (ts.length = 12 → SqT K H' q [.str "many", .int 12, .bl true]), ?_, ?_⟩
        · refine ⟨_, rfl, _, _, rfl, .inl ⟨_, SqL.of t.lst, rfl⟩, _, _, rfl, rfl, _, rfl, ite2 (fun z => ?_) (fun z => ?_)⟩
          · have z := of_decide_eq_true z
            refine ⟨_, rfl, _, _, rfl, .inl ⟨_, SqL.of t.lst, rfl⟩, by show 2 ≤ sizeLine; omega, fun q nq => ⟨q, rfl, Same.one nq, fun _ => by rw [← lx]; exact SqT.of upd_same, fun e => by omega⟩⟩
          · have z : ¬ ((xs.length : Int) < 12) := fun y => z (decide_eq_true y)
            refine ⟨by show 3 ≤ sizeLine; omega, fun q nq => ⟨q, rfl, Same.one nq, fun e => by omega, fun _ => SqT.of upd_same⟩⟩
        rintro σ H6 ⟨q, rfl, s6, q1, q2⟩
        have t := t.same s6
        have ta := ta.same s6
        have neS : ∀ z : Str, (!decide (V.str z = V.str z)) = false := fun z => by rw [decide_eq_true rfl]; rfl
        have fineN : Fine (.tuple [.str "number", .int (ts.length : Int)]) := by
          refine (Sz.tup (w := 40) (k := 0) fun d hd => ?_).fine (show (40 + 1) * 2 ≤ 200000 by decide) (by decide)
          simp only [List.mem_cons, List.not_mem_nil, or_false] at hd
          rcases hd with rfl | rfl
          · exact (show Sz 8 0 (.str "number") by decide +kernel).more (by decide) (by decide)
          · exact Sz.int50 (by omega) (by omega)
        have fineM : Fine (.tuple [.str "many", .int 12, .bool true]) := (show Sz 50 2 (.tuple [.str "many", .int 12, .bool true]) by decide +kernel).fine (by decide) (by decide)
        refine ⟨_, rfl, _, rfl, h, a, hs, rs, ts, b, m, rfl, t.hist, by omega, ta, l1, l2, fun e12 z H7 s7 hz => ?_, fun lt z H7 bt ih hz => ?_⟩
        · refine ⟨_, _, rfl, .tup hz (.cons (.str _) (.cons (.int _) (.cons (.bl _) .nil))), fineM, _, rfl, _, _, rfl, .tup ((q2 e12).ext s7) (.cons (.str _) (.cons (.int _) (.cons (.bl _) .nil))), fineM, rfl, _, rfl, ?_⟩
          rw [neS]
          have t := t.same s7
          have ek : (if decide ((xs.length : Int) < 12) = true then (1 : Int) else 0) = 0 := if_neg (by rw [decide_eq_true_eq]; omega)
          refine iteF ⟨_, rfl, _, rfl, by show 1 ≤ sizeLine; omega, fun L nL => ⟨_, rfl, _, _, rfl, .inl ⟨_, SqL.of (Same.one nL _ _ t.lst), rfl⟩, _, _, rfl, rfl, .inr ⟨_, rfl, L, 0, [.ref a], rfl, congrArg V.int ek, upd_same, by decide, by decide, by show 1 * 0 ≤ sizeLine; omega, fun M nM => ⟨D, M, xs, _, rfl, rfl, Same.one nM _ _ (Same.one nL _ _ t.lst), upd_same, by show xs.length + 0 ≤ sizeLine; omega, fun Z nZ => ?_⟩⟩⟩⟩
          have s8 := (Same.one (o := .lst [V.ref a]) nL).trans ((Same.one (o := .lst []) nM).trans (Same.one (o := .lst (xs ++ [])) nZ))
          have t := t.same s8
          exact ⟨Z, l, xs ++ [], ts, b, m, _, _, _, _, rfl, by omega, t.hist, upd_same, by rw [List.append_nil]; exact t.tabs, t.l1, t.l2, t.five, t.ok, t.pot, t.but⟩
        · refine ⟨_, _, rfl, .tup hz (.cons (.str _) (.cons (.int _) .nil)), fineN, _, rfl, _, _, rfl, .tup ?_ (.cons (.str _) (.cons (.int _) .nil)), fineN, rfl, _, rfl, ?_⟩
          · exact (t.mut nh bt).2.2.1 _ _ (q1 lt)
          rw [neS]
          obtain ⟨m1, m2, m3, m4, m5, m6⟩ := t.mut nh bt
          have ek : (if decide ((xs.length : Int) < 12) = true then (1 : Int) else 0) = 1 := if_pos (by rw [decide_eq_true_eq]; omega)
          refine iteF ⟨_, rfl, _, rfl, by show 1 ≤ sizeLine; omega, fun L nL => ⟨_, rfl, _, _, rfl, .inl ⟨_, SqL.of (Same.one nL _ _ m1), rfl⟩, _, _, rfl, rfl, .inr ⟨_, rfl, L, 1, [.ref a], rfl, congrArg V.int ek, upd_same, by decide, by decide, by show 1 * 1 ≤ sizeLine; omega, fun M nM => ⟨D, M, xs, _, rfl, rfl, Same.one nM _ _ (Same.one nL _ _ m1), upd_same, by show xs.length + 1 ≤ sizeLine; omega, fun Z nZ => ?_⟩⟩⟩⟩
          have s8 := (Same.one (o := .lst [V.ref a]) nL).trans ((Same.one (o := .lst [V.ref a]) nM).trans (Same.one (o := .lst (xs ++ [V.ref a])) nZ))
          exact ⟨Z, l, xs ++ [V.ref a], ts ++ [(hs, rs)], b, m + 2, _, _, _, _, rfl, by omega, ih.same s8, upd_same, (Tabs.snoc (t := (hs, rs)) (m2.same s8) ((m4 _ _ _ ta).same s8) : Tabs K T.C _ (xs ++ [V.ref a]) (ts ++ [(hs, rs)])), by rw [List.length_append]; omega, by rw [List.length_append]; show ts.length + 1 ≤ 12; omega, (m3 _ _ t.five).ext s8, t.ok, m5.same s8, m6.same s8⟩
    · rintro σ H5 ⟨D, l, xs, ts, b, m, o4, o5, o6, o7, rfl, hm, t⟩
      have lx := t.tabs.len
      have l2 := t.l2
      refine ⟨_, rfl, _, rfl, _, rfl, h, D, l, xs, ts, b, m, rfl, t.hist, t.lst, t.tabs, t.l2, t.five, t.ok, fun H6 s6 => ⟨_, rfl, iteF ?_⟩⟩
      refine ⟨_, rfl, _, rfl, _, _, rfl, .inl ⟨_, SqL.of (s6 _ _ t.lst), rfl⟩, h, xs.length, ts, b, m, rfl, t.hist.same s6, by omega, by omega, by omega, fun H7 s7 => ⟨_, rfl, iteF ?_⟩⟩
      exact ⟨D, l, xs, ts, b, m, _, _, _, _, rfl, hm, t.same (s6.trans s7)⟩
  · rintro σ H3 ⟨D, l, xs, ts, b, m, o4, o5, o6, o7, rfl, hm, t⟩
    refine ⟨_, rfl, _, rfl, h, -1, ts, b, m, rfl, t.hist, by omega, by decide, by decide, fun H4 s4 => ?_⟩
    exact kk H4 ((t.pot.same s4).more (by omega)) (t.but.same s4)
end
def spLaw (K : PySem.W.Frag) : Sp := fun vs H Q _ => ∃ (a : Addr) (ns : List Int), vs = [.ref a] ∧ SqL K H a (ns.map V.int) ∧ ns.length ≤ 63 ∧ ∀ H', Q (.bl true) H'
section
variable {P : Program} {w : World} {K : PySem.W.Frag} {mg : Str → Option Value} {base : Heap}
abbrev s_law : Stmt := top 50
theorem sc_law : FnScope ["_law_script", "_law_k"] ["_law_script"] (defScope s_law) := ⟨rfl, rfl, rfl, by decide +kernel, rfl, by decide +kernel, by decide +kernel⟩
theorem ok_law {f fP fR : Addr} {fd fdP fdR : FuncData} (F : Fun K "law" "law" s_law f fd) (T : TxtH K mg)
    (c_law_pot : ∀ base, Ca P w K mg base CX0 "_law_pot" 1 ["_law_script", "_law_k"] (spPot K) fP fdP) (c_law_right : ∀ base, CaG P w K mg base "_law_right" 9 ["_law_pot_here"] (spRight K) fR fdR) : FnG P w K mg base CX0 10 f fd ["_law_script"] (spLaw K) := by
  have c_law_pot := c_law_pot base
  have c_law_right := c_law_right base
  refine okG F sc_law (fun vs H Q E h => ?_) (fun cdv A outer s H vs Q E hg hr h => ⟨_, (pss_cons (ps_for PassesOwn.never rfl (pi_range1 (by rfl) T.b_range (pa_cons (pe_callB (call_max2 rfl) (by rfl) T.b_max (by decide +kernel) (pa_cons pe_int (pa_cons (pe_callB (call_min2 rfl) (by rfl) T.b_min (by decide +kernel) (pa_cons pe_int (pa_cons (pe_callB (call_lenK K rfl) (by rfl) T.b_len (by decide +kernel) (pa_cons (pv 0) pa_nil)) pa_nil))) pa_nil))) pa_nil)) (pg_name (i := 1) sc_law.nd rfl (Or.inl rfl)) (pss_one (ps_if (pt_not (pt_val (pe_callG c_law_right.G hg (hr.mono (by decide)) (by rfl) c_law_right.g c_law_right.k c_law_right.B (pa_cons (pe_call c_law_pot.G (hr.mono (by first | decide | omega)) (by rfl) c_law_pot.g c_law_pot.k c_law_pot.B .nil pass0 (pa_cons (pv 0) (pa_cons (pv 1) pa_nil))) pa_nil)))) (pss_one (ps_ret pe_bl)) pss_nil)))
    (pss_one (ps_ret pe_bl))), ?_⟩)
  · obtain ⟨_, _, rfl, _⟩ := h
    rfl
  obtain ⟨a, ns, rfl, hS, few, k⟩ := h
  have nb : 0 ≤ (if (if ((ns.map V.int).length : Int) < 3 then ((ns.map V.int).length : Int) else 3) > 1 then (if ((ns.map V.int).length : Int) < 3 then ((ns.map V.int).length : Int) else 3) else 1) ∧
      (if (if ((ns.map V.int).length : Int) < 3 then ((ns.map V.int).length : Int) else 3) > 1 then (if ((ns.map V.int).length : Int) < 3 then ((ns.map V.int).length : Int) else 3) else 1) ≤ 3 := by
    split <;> split <;> omega
  refine ⟨_, rfl, _, _, rfl, .inl ⟨_, hS, rfl⟩, _, _, rfl, _, _, rfl, _, rfl, Int.le_trans (by decide) nb.1, Int.lt_of_le_of_lt nb.2 (by decide), ?_⟩
  revert nb
  generalize (if (if ((ns.map V.int).length : Int) < 3 then ((ns.map V.int).length : Int) else 3) > 1 then (if ((ns.map V.int).length : Int) < 3 then ((ns.map V.int).length : Int) else 3) else 1) = N
  intro nb
  refine for_range (lo := 0) (n := N.toNat) (fun i σ H' => ∃ o1 : Option V, σ = [some (.ref a), o1] ∧ Same H H') ⟨none, rfl, Same.refl H⟩ ?_ ?_
  · rintro i σ H1 hi ⟨o1, rfl, s1⟩
    refine ⟨_, rfl, _, rfl, a, ns, 0 + (i : Int), rfl, s1.seq hS, few, ⟨by omega, by omega⟩, fun p H2 np s2 pot => ?_⟩
    refine ⟨p, 0, rfl, by omega, pot, fun H3 pot3 but3 => ⟨_, rfl, iteF ?_⟩⟩
    have np0 : H p = none := s1.free np
    exact ⟨_, rfl, fun b o e => but3 b o (ne_of_none e np0) (s2 b o (s1 b o e))⟩
  · rintro σ H1 ⟨o1, rfl, s1⟩
    exact k _
end
end K49

set_option Elab.async false
set_option linter.all false
set_option maxRecDepth 100000
set_option maxHeartbeats 8000000
namespace K49
open PySem L2 Xby
open PySem (excClassObj)
theorem all_mk {l : PySem.W.OpenLaw} {w : World} {K : PySem.W.Frag} {h : Heap} {mg : Str → Option Value} {fa : Addr} {C CH : Addr} {t1 t2 t3 t4 : Tok} {CC DK : Addr} {t6 t7 u0 u1 u2 u3 u4 : Tok} {HC DT : Addr} {t8 : Tok} {cDT : Value} {oDT : Option Addr} {nDT : Nat} {slDT : Array (Option Value)}
    {fis_integer : Addr} {ocis_integer dcis_integer pmis_integer cdis_integer ctis_integer : Value} {odis_integer anis_integer : Option Addr} {slis_integer : Array (Option Value)} {kVis_integer : Value}
    {fis_integer_within : Addr} {ocis_integer_within dcis_integer_within pmis_integer_within cdis_integer_within ctis_integer_within : Value} {odis_integer_within anis_integer_within : Option Addr} {slis_integer_within : Array (Option Value)} {kVis_integer_within : Value}
    {fis_word : Addr} {ocis_word dcis_word pmis_word cdis_word ctis_word : Value} {odis_word anis_word : Option Addr} {slis_word : Array (Option Value)} {kVis_word : Value}
    {fis_cell : Addr} {ocis_cell dcis_cell pmis_cell cdis_cell ctis_cell : Value} {odis_cell anis_cell : Option Addr} {slis_cell : Array (Option Value)} {kVis_cell : Value}
    {fare_columns : Addr} {ocare_columns dcare_columns pmare_columns cdare_columns ctare_columns : Value} {odare_columns anare_columns : Option Addr} {slare_columns : Array (Option Value)} {kVare_columns : Value}
    {fis_row : Addr} {ocis_row dcis_row pmis_row cdis_row ctis_row : Value} {odis_row anis_row : Option Addr} {slis_row : Array (Option Value)} {kVis_row : Value}
    {flaw_draw : Addr} {oclaw_draw dclaw_draw pmlaw_draw cdlaw_draw ctlaw_draw : Value} {odlaw_draw anlaw_draw : Option Addr} {sllaw_draw : Array (Option Value)} {kVlaw_draw : Value}
    {flaw_any : Addr} {oclaw_any dclaw_any pmlaw_any cdlaw_any ctlaw_any : Value} {odlaw_any anlaw_any : Option Addr} {sllaw_any : Array (Option Value)} {kVlaw_any : Value}
    {flaw_pot : Addr} {oclaw_pot dclaw_pot pmlaw_pot cdlaw_pot ctlaw_pot : Value} {odlaw_pot anlaw_pot : Option Addr} {sllaw_pot : Array (Option Value)} {kVlaw_pot : Value}
    {flaw_mixed : Addr} {oclaw_mixed dclaw_mixed pmlaw_mixed cdlaw_mixed ctlaw_mixed : Value} {odlaw_mixed anlaw_mixed : Option Addr} {sllaw_mixed : Array (Option Value)} {kVlaw_mixed : Value}
    {flaw_names : Addr} {oclaw_names dclaw_names pmlaw_names cdlaw_names ctlaw_names : Value} {odlaw_names anlaw_names : Option Addr} {sllaw_names : Array (Option Value)} {kVlaw_names : Value}
    {flaw_cell : Addr} {oclaw_cell dclaw_cell pmlaw_cell cdlaw_cell ctlaw_cell : Value} {odlaw_cell anlaw_cell : Option Addr} {sllaw_cell : Array (Option Value)} {kVlaw_cell : Value}
    {flaw_table : Addr} {oclaw_table dclaw_table pmlaw_table cdlaw_table ctlaw_table : Value} {odlaw_table anlaw_table : Option Addr} {sllaw_table : Array (Option Value)} {kVlaw_table : Value}
    {flaw_moved_columns : Addr} {oclaw_moved_columns dclaw_moved_columns pmlaw_moved_columns cdlaw_moved_columns ctlaw_moved_columns : Value} {odlaw_moved_columns anlaw_moved_columns : Option Addr} {sllaw_moved_columns : Array (Option Value)} {kVlaw_moved_columns : Value}
    {flaw_near : Addr} {oclaw_near dclaw_near pmlaw_near cdlaw_near ctlaw_near : Value} {odlaw_near anlaw_near : Option Addr} {sllaw_near : Array (Option Value)} {kVlaw_near : Value}
    {flaw_five : Addr} {oclaw_five dclaw_five pmlaw_five cdlaw_five ctlaw_five : Value} {odlaw_five anlaw_five : Option Addr} {sllaw_five : Array (Option Value)} {kVlaw_five : Value}
    {flaw_costs : Addr} {oclaw_costs dclaw_costs pmlaw_costs cdlaw_costs ctlaw_costs : Value} {odlaw_costs anlaw_costs : Option Addr} {sllaw_costs : Array (Option Value)} {kVlaw_costs : Value}
    {fcheck_table : Addr} {occheck_table dccheck_table pmcheck_table cdcheck_table ctcheck_table : Value} {odcheck_table ancheck_table : Option Addr} {slcheck_table : Array (Option Value)} {kVcheck_table : Value}
    {fcheck_costs : Addr} {occheck_costs dccheck_costs pmcheck_costs cdcheck_costs ctcheck_costs : Value} {odcheck_costs ancheck_costs : Option Addr} {slcheck_costs : Array (Option Value)} {kVcheck_costs : Value}
    {fcheck_version : Addr} {occheck_version dccheck_version pmcheck_version cdcheck_version ctcheck_version : Value} {odcheck_version ancheck_version : Option Addr} {slcheck_version : Array (Option Value)} {kVcheck_version : Value}
    {flaw_added : Addr} {oclaw_added dclaw_added pmlaw_added cdlaw_added ctlaw_added : Value} {odlaw_added anlaw_added : Option Addr} {sllaw_added : Array (Option Value)} {kVlaw_added : Value}
    {flaw_refused : Addr} {oclaw_refused dclaw_refused pmlaw_refused cdlaw_refused ctlaw_refused : Value} {odlaw_refused anlaw_refused : Option Addr} {sllaw_refused : Array (Option Value)} {kVlaw_refused : Value}
    {flaw_stands : Addr} {oclaw_stands dclaw_stands pmlaw_stands cdlaw_stands ctlaw_stands : Value} {odlaw_stands anlaw_stands : Option Addr} {sllaw_stands : Array (Option Value)} {kVlaw_stands : Value}
    {flaw_right : Addr} {oclaw_right dclaw_right pmlaw_right cdlaw_right ctlaw_right : Value} {odlaw_right anlaw_right : Option Addr} {sllaw_right : Array (Option Value)} {kVlaw_right : Value}
    {fTable___init__ : Addr} {ocTable___init__ dcTable___init__ pmTable___init__ cdTable___init__ ctTable___init__ : Value} {odTable___init__ anTable___init__ : Option Addr} {slTable___init__ : Array (Option Value)} {kVTable___init__ : Value}
    {flaw : Addr} {oclaw dclaw pmlaw cdlaw ctlaw : Value} {odlaw anlaw : Option Addr} {sllaw : Array (Option Value)} {kVlaw : Value}
    {fCosts___init__ : Addr} {ocCosts___init__ dcCosts___init__ pmCosts___init__ cdCosts___init__ ctCosts___init__ : Value} {odCosts___init__ anCosts___init__ : Option Addr} {slCosts___init__ : Array (Option Value)}
    {fHistory___init__ : Addr} {ocHistory___init__ dcHistory___init__ pmHistory___init__ cdHistory___init__ ctHistory___init__ : Value} {odHistory___init__ anHistory___init__ : Option Addr} {slHistory___init__ : Array (Option Value)}
    {fHistory_add : Addr} {ocHistory_add dcHistory_add pmHistory_add cdHistory_add ctHistory_add : Value} {odHistory_add anHistory_add : Option Addr} {slHistory_add : Array (Option Value)} {kVHistory_add : Value}
    {fHistory_version : Addr} {ocHistory_version dcHistory_version pmHistory_version cdHistory_version ctHistory_version : Value} {odHistory_version anHistory_version : Option Addr} {slHistory_version : Array (Option Value)} {kVHistory_version : Value}
    {fHistory_recost : Addr} {ocHistory_recost dcHistory_recost pmHistory_recost cdHistory_recost ctHistory_recost : Value} {odHistory_recost anHistory_recost : Option Addr} {slHistory_recost : Array (Option Value)} {kVHistory_recost : Value}
    {fTable___eq__ : Addr} {ocTable___eq__ dcTable___eq__ pmTable___eq__ cdTable___eq__ ctTable___eq__ : Value} {odTable___eq__ anTable___eq__ : Option Addr} {slTable___eq__ : Array (Option Value)} {kVTable___eq__ : Value}
    {fCosts___eq__ : Addr} {ocCosts___eq__ dcCosts___eq__ pmCosts___eq__ cdCosts___eq__ ctCosts___eq__ : Value} {odCosts___eq__ anCosts___eq__ : Option Addr} {slCosts___eq__ : Array (Option Value)} {kVCosts___eq__ : Value}
    
    {EK iK NK : Addr} {nmeK qqeK : Str} {bseK : List Value} {sneK : List Str} {subeK : List Value} {abeK : Bool} {coleK : Option Bool} {ddeK : Option Addr} {m0eK m1eK m2eK m3eK m5eK : Option Value} {oceK dceK pmeK cdeK cteK : Value} {odeK aneK : Option Addr} {sleK : Array (Option Value)} {p1eK p2eK p3eK p4eK p5eK p6eK : Pos}
    {ER iR NR : Addr} {nmeR qqeR : Str} {bseR : List Value} {sneR : List Str} {subeR : List Value} {abeR : Bool} {coleR : Option Bool} {ddeR : Option Addr} {m0eR m1eR m2eR m3eR m5eR : Option Value} {oceR dceR pmeR cdeR cteR : Value} {odeR aneR : Option Addr} {sleR : Array (Option Value)} {p1eR p2eR p3eR p4eR p5eR p6eR : Pos}
    {EW iW NW : Addr} {nmeW qqeW : Str} {bseW : List Value} {sneW : List Str} {subeW : List Value} {abeW : Bool} {coleW : Option Bool} {ddeW : Option Addr} {m0eW m1eW m2eW m3eW m5eW : Option Value} {oceW dceW pmeW cdeW cteW : Value} {odeW aneW : Option Addr} {sleW : Array (Option Value)} {p1eW p2eW p3eW p4eW p5eW p6eW : Pos}
    {EM iM NM : Addr} {nmeM qqeM : Str} {bseM : List Value} {sneM : List Str} {subeM : List Value} {abeM : Bool} {coleM : Option Bool} {ddeM : Option Addr} {m0eM m1eM m2eM m3eM m5eM : Option Value} {oceM dceM pmeM cdeM cteM : Value} {odeM aneM : Option Addr} {sleM : Array (Option Value)} {p1eM p2eM p3eM p4eM p5eM p6eM : Pos}
    {EB iB NB : Addr} {nmeB qqeB : Str} {bseB : List Value} {sneB : List Str} {subeB : List Value} {abeB : Bool} {coleB : Option Bool} {ddeB : Option Addr} {m0eB m1eB m2eB m3eB m5eB : Option Value} {oceB dceB pmeB cdeB cteB : Value} {odeB aneB : Option Addr} {sleB : Array (Option Value)} {p1eB p2eB p3eB p4eB p5eB p6eB : Pos}
    {ET iT NT : Addr} {nmeT qqeT : Str} {bseT : List Value} {sneT : List Str} {subeT : List Value} {abeT : Bool} {coleT : Option Bool} {ddeT : Option Addr} {m0eT m1eT m2eT m3eT m5eT : Option Value} {oceT dceT pmeT cdeT cteT : Value} {odeT aneT : Option Addr} {sleT : Array (Option Value)} {p1eT p2eT p3eT p4eT p5eT p6eT : Pos}
    {ES iS NS : Addr} {nmeS qqeS : Str} {bseS : List Value} {sneS : List Str} {subeS : List Value} {abeS : Bool} {coleS : Option Bool} {ddeS : Option Addr} {m0eS m1eS m2eS m3eS m5eS : Option Value} {oceS dceS pmeS cdeS cteS : Value} {odeS aneS : Option Addr} {sleS : Array (Option Value)} {p1eS p2eS p3eS p4eS p5eS p6eS : Pos}
    {EV iV NV : Addr} {nmeV qqeV : Str} {bseV : List Value} {sneV : List Str} {subeV : List Value} {abeV : Bool} {coleV : Option Bool} {ddeV : Option Addr} {m0eV m1eV m2eV m3eV m5eV : Option Value} {oceV dceV pmeV cdeV cteV : Value} {odeV aneV : Option Addr} {sleV : Array (Option Value)} {p1eV p2eV p3eV p4eV p5eV p6eV : Pos}
    (X : K.In h) (G : h.Ns mainGlobals mg) (hfa : mg "law" = some (.ref fa))
    (aC : PySem.W.nsIn K mainGlobals "Table" = some (some (.ref C)))
    (aCosts : PySem.W.nsIn K mainGlobals "Costs" = some (some (.ref CC)))
    (aHistory : PySem.W.nsIn K mainGlobals "History" = some (some (.ref HC)))
    (aHE : PySem.W.nsIn K mainGlobals "HeldError" = some (some (.ref CH)))
    (ais_integer : PySem.W.nsIn K mainGlobals "is_integer" = some (some (.ref fis_integer)))
    (lis_integer : K.lookup fis_integer = some ⟨ocis_integer, odis_integer, .func (PySem.W.fnOf "is_integer" "is_integer" (defArgs s_is_integer) (defBody s_is_integer) (defScope s_is_integer) .none kVis_integer dcis_integer pmis_integer anis_integer cdis_integer ctis_integer), slis_integer⟩)
    (cis_integer : PySem.W.codeIn K cdis_integer "is_integer" = true)
    (kis_integer : PySem.W.keepIn K (.ref fis_integer) = true)
    (ais_integer_within : PySem.W.nsIn K mainGlobals "is_integer_within" = some (some (.ref fis_integer_within)))
    (lis_integer_within : K.lookup fis_integer_within = some ⟨ocis_integer_within, odis_integer_within, .func (PySem.W.fnOf "is_integer_within" "is_integer_within" (defArgs s_is_integer_within) (defBody s_is_integer_within) (defScope s_is_integer_within) .none kVis_integer_within dcis_integer_within pmis_integer_within anis_integer_within cdis_integer_within ctis_integer_within), slis_integer_within⟩)
    (cis_integer_within : PySem.W.codeIn K cdis_integer_within "is_integer_within" = true)
    (kis_integer_within : PySem.W.keepIn K (.ref fis_integer_within) = true)
    (ais_word : PySem.W.nsIn K mainGlobals "is_word" = some (some (.ref fis_word)))
    (lis_word : K.lookup fis_word = some ⟨ocis_word, odis_word, .func (PySem.W.fnOf "is_word" "is_word" (defArgs s_is_word) (defBody s_is_word) (defScope s_is_word) .none kVis_word dcis_word pmis_word anis_word cdis_word ctis_word), slis_word⟩)
    (cis_word : PySem.W.codeIn K cdis_word "is_word" = true)
    (kis_word : PySem.W.keepIn K (.ref fis_word) = true)
    (ais_cell : PySem.W.nsIn K mainGlobals "is_cell" = some (some (.ref fis_cell)))
    (lis_cell : K.lookup fis_cell = some ⟨ocis_cell, odis_cell, .func (PySem.W.fnOf "is_cell" "is_cell" (defArgs s_is_cell) (defBody s_is_cell) (defScope s_is_cell) .none kVis_cell dcis_cell pmis_cell anis_cell cdis_cell ctis_cell), slis_cell⟩)
    (cis_cell : PySem.W.codeIn K cdis_cell "is_cell" = true)
    (kis_cell : PySem.W.keepIn K (.ref fis_cell) = true)
    (aare_columns : PySem.W.nsIn K mainGlobals "are_columns" = some (some (.ref fare_columns)))
    (lare_columns : K.lookup fare_columns = some ⟨ocare_columns, odare_columns, .func (PySem.W.fnOf "are_columns" "are_columns" (defArgs s_are_columns) (defBody s_are_columns) (defScope s_are_columns) .none kVare_columns dcare_columns pmare_columns anare_columns cdare_columns ctare_columns), slare_columns⟩)
    (care_columns : PySem.W.codeIn K cdare_columns "are_columns" = true)
    (kare_columns : PySem.W.keepIn K (.ref fare_columns) = true)
    (ais_row : PySem.W.nsIn K mainGlobals "is_row" = some (some (.ref fis_row)))
    (lis_row : K.lookup fis_row = some ⟨ocis_row, odis_row, .func (PySem.W.fnOf "is_row" "is_row" (defArgs s_is_row) (defBody s_is_row) (defScope s_is_row) .none kVis_row dcis_row pmis_row anis_row cdis_row ctis_row), slis_row⟩)
    (cis_row : PySem.W.codeIn K cdis_row "is_row" = true)
    (kis_row : PySem.W.keepIn K (.ref fis_row) = true)
    (alaw_draw : PySem.W.nsIn K mainGlobals "_law_draw" = some (some (.ref flaw_draw)))
    (llaw_draw : K.lookup flaw_draw = some ⟨oclaw_draw, odlaw_draw, .func (PySem.W.fnOf "_law_draw" "_law_draw" (defArgs s_law_draw) (defBody s_law_draw) (defScope s_law_draw) .none kVlaw_draw dclaw_draw pmlaw_draw anlaw_draw cdlaw_draw ctlaw_draw), sllaw_draw⟩)
    (claw_draw : PySem.W.codeIn K cdlaw_draw "_law_draw" = true)
    (klaw_draw : PySem.W.keepIn K (.ref flaw_draw) = true)
    (alaw_any : PySem.W.nsIn K mainGlobals "_law_any" = some (some (.ref flaw_any)))
    (llaw_any : K.lookup flaw_any = some ⟨oclaw_any, odlaw_any, .func (PySem.W.fnOf "_law_any" "_law_any" (defArgs s_law_any) (defBody s_law_any) (defScope s_law_any) .none kVlaw_any dclaw_any pmlaw_any anlaw_any cdlaw_any ctlaw_any), sllaw_any⟩)
    (claw_any : PySem.W.codeIn K cdlaw_any "_law_any" = true)
    (klaw_any : PySem.W.keepIn K (.ref flaw_any) = true)
    (alaw_pot : PySem.W.nsIn K mainGlobals "_law_pot" = some (some (.ref flaw_pot)))
    (llaw_pot : K.lookup flaw_pot = some ⟨oclaw_pot, odlaw_pot, .func (PySem.W.fnOf "_law_pot" "_law_pot" (defArgs s_law_pot) (defBody s_law_pot) (defScope s_law_pot) .none kVlaw_pot dclaw_pot pmlaw_pot anlaw_pot cdlaw_pot ctlaw_pot), sllaw_pot⟩)
    (claw_pot : PySem.W.codeIn K cdlaw_pot "_law_pot" = true)
    (klaw_pot : PySem.W.keepIn K (.ref flaw_pot) = true)
    (alaw_mixed : PySem.W.nsIn K mainGlobals "_law_mixed" = some (some (.ref flaw_mixed)))
    (llaw_mixed : K.lookup flaw_mixed = some ⟨oclaw_mixed, odlaw_mixed, .func (PySem.W.fnOf "_law_mixed" "_law_mixed" (defArgs s_law_mixed) (defBody s_law_mixed) (defScope s_law_mixed) .none kVlaw_mixed dclaw_mixed pmlaw_mixed anlaw_mixed cdlaw_mixed ctlaw_mixed), sllaw_mixed⟩)
    (claw_mixed : PySem.W.codeIn K cdlaw_mixed "_law_mixed" = true)
    (klaw_mixed : PySem.W.keepIn K (.ref flaw_mixed) = true)
    (alaw_names : PySem.W.nsIn K mainGlobals "_law_names" = some (some (.ref flaw_names)))
    (llaw_names : K.lookup flaw_names = some ⟨oclaw_names, odlaw_names, .func (PySem.W.fnOf "_law_names" "_law_names" (defArgs s_law_names) (defBody s_law_names) (defScope s_law_names) .none kVlaw_names dclaw_names pmlaw_names anlaw_names cdlaw_names ctlaw_names), sllaw_names⟩)
    (claw_names : PySem.W.codeIn K cdlaw_names "_law_names" = true)
    (klaw_names : PySem.W.keepIn K (.ref flaw_names) = true)
    (alaw_cell : PySem.W.nsIn K mainGlobals "_law_cell" = some (some (.ref flaw_cell)))
    (llaw_cell : K.lookup flaw_cell = some ⟨oclaw_cell, odlaw_cell, .func (PySem.W.fnOf "_law_cell" "_law_cell" (defArgs s_law_cell) (defBody s_law_cell) (defScope s_law_cell) .none kVlaw_cell dclaw_cell pmlaw_cell anlaw_cell cdlaw_cell ctlaw_cell), sllaw_cell⟩)
    (claw_cell : PySem.W.codeIn K cdlaw_cell "_law_cell" = true)
    (klaw_cell : PySem.W.keepIn K (.ref flaw_cell) = true)
    (alaw_table : PySem.W.nsIn K mainGlobals "_law_table" = some (some (.ref flaw_table)))
    (llaw_table : K.lookup flaw_table = some ⟨oclaw_table, odlaw_table, .func (PySem.W.fnOf "_law_table" "_law_table" (defArgs s_law_table) (defBody s_law_table) (defScope s_law_table) .none kVlaw_table dclaw_table pmlaw_table anlaw_table cdlaw_table ctlaw_table), sllaw_table⟩)
    (claw_table : PySem.W.codeIn K cdlaw_table "_law_table" = true)
    (klaw_table : PySem.W.keepIn K (.ref flaw_table) = true)
    (alaw_moved_columns : PySem.W.nsIn K mainGlobals "_law_moved_columns" = some (some (.ref flaw_moved_columns)))
    (llaw_moved_columns : K.lookup flaw_moved_columns = some ⟨oclaw_moved_columns, odlaw_moved_columns, .func (PySem.W.fnOf "_law_moved_columns" "_law_moved_columns" (defArgs s_law_moved_columns) (defBody s_law_moved_columns) (defScope s_law_moved_columns) .none kVlaw_moved_columns dclaw_moved_columns pmlaw_moved_columns anlaw_moved_columns cdlaw_moved_columns ctlaw_moved_columns), sllaw_moved_columns⟩)
    (claw_moved_columns : PySem.W.codeIn K cdlaw_moved_columns "_law_moved_columns" = true)
    (klaw_moved_columns : PySem.W.keepIn K (.ref flaw_moved_columns) = true)
    (alaw_near : PySem.W.nsIn K mainGlobals "_law_near" = some (some (.ref flaw_near)))
    (llaw_near : K.lookup flaw_near = some ⟨oclaw_near, odlaw_near, .func (PySem.W.fnOf "_law_near" "_law_near" (defArgs s_law_near) (defBody s_law_near) (defScope s_law_near) .none kVlaw_near dclaw_near pmlaw_near anlaw_near cdlaw_near ctlaw_near), sllaw_near⟩)
    (claw_near : PySem.W.codeIn K cdlaw_near "_law_near" = true)
    (klaw_near : PySem.W.keepIn K (.ref flaw_near) = true)
    (alaw_five : PySem.W.nsIn K mainGlobals "_law_five" = some (some (.ref flaw_five)))
    (llaw_five : K.lookup flaw_five = some ⟨oclaw_five, odlaw_five, .func (PySem.W.fnOf "_law_five" "_law_five" (defArgs s_law_five) (defBody s_law_five) (defScope s_law_five) .none kVlaw_five dclaw_five pmlaw_five anlaw_five cdlaw_five ctlaw_five), sllaw_five⟩)
    (claw_five : PySem.W.codeIn K cdlaw_five "_law_five" = true)
    (klaw_five : PySem.W.keepIn K (.ref flaw_five) = true)
    (alaw_costs : PySem.W.nsIn K mainGlobals "_law_costs" = some (some (.ref flaw_costs)))
    (llaw_costs : K.lookup flaw_costs = some ⟨oclaw_costs, odlaw_costs, .func (PySem.W.fnOf "_law_costs" "_law_costs" (defArgs s_law_costs) (defBody s_law_costs) (defScope s_law_costs) .none kVlaw_costs dclaw_costs pmlaw_costs anlaw_costs cdlaw_costs ctlaw_costs), sllaw_costs⟩)
    (claw_costs : PySem.W.codeIn K cdlaw_costs "_law_costs" = true)
    (klaw_costs : PySem.W.keepIn K (.ref flaw_costs) = true)
    (acheck_table : PySem.W.nsIn K mainGlobals "check_table" = some (some (.ref fcheck_table)))
    (lcheck_table : K.lookup fcheck_table = some ⟨occheck_table, odcheck_table, .func (PySem.W.fnOf "check_table" "check_table" (defArgs s_check_table) (defBody s_check_table) (defScope s_check_table) .none kVcheck_table dccheck_table pmcheck_table ancheck_table cdcheck_table ctcheck_table), slcheck_table⟩)
    (ccheck_table : PySem.W.codeIn K cdcheck_table "check_table" = true)
    (kcheck_table : PySem.W.keepIn K (.ref fcheck_table) = true)
    (acheck_costs : PySem.W.nsIn K mainGlobals "check_costs" = some (some (.ref fcheck_costs)))
    (lcheck_costs : K.lookup fcheck_costs = some ⟨occheck_costs, odcheck_costs, .func (PySem.W.fnOf "check_costs" "check_costs" (defArgs s_check_costs) (defBody s_check_costs) (defScope s_check_costs) .none kVcheck_costs dccheck_costs pmcheck_costs ancheck_costs cdcheck_costs ctcheck_costs), slcheck_costs⟩)
    (ccheck_costs : PySem.W.codeIn K cdcheck_costs "check_costs" = true)
    (kcheck_costs : PySem.W.keepIn K (.ref fcheck_costs) = true)
    (acheck_version : PySem.W.nsIn K mainGlobals "check_version" = some (some (.ref fcheck_version)))
    (lcheck_version : K.lookup fcheck_version = some ⟨occheck_version, odcheck_version, .func (PySem.W.fnOf "check_version" "check_version" (defArgs s_check_version) (defBody s_check_version) (defScope s_check_version) .none kVcheck_version dccheck_version pmcheck_version ancheck_version cdcheck_version ctcheck_version), slcheck_version⟩)
    (ccheck_version : PySem.W.codeIn K cdcheck_version "check_version" = true)
    (kcheck_version : PySem.W.keepIn K (.ref fcheck_version) = true)
    (alaw_added : PySem.W.nsIn K mainGlobals "_law_added" = some (some (.ref flaw_added)))
    (llaw_added : K.lookup flaw_added = some ⟨oclaw_added, odlaw_added, .func (PySem.W.fnOf "_law_added" "_law_added" (defArgs s_law_added) (defBody s_law_added) (defScope s_law_added) .none kVlaw_added dclaw_added pmlaw_added anlaw_added cdlaw_added ctlaw_added), sllaw_added⟩)
    (claw_added : PySem.W.codeIn K cdlaw_added "_law_added" = true)
    (klaw_added : PySem.W.keepIn K (.ref flaw_added) = true)
    (alaw_refused : PySem.W.nsIn K mainGlobals "_law_refused" = some (some (.ref flaw_refused)))
    (llaw_refused : K.lookup flaw_refused = some ⟨oclaw_refused, odlaw_refused, .func (PySem.W.fnOf "_law_refused" "_law_refused" (defArgs s_law_refused) (defBody s_law_refused) (defScope s_law_refused) .none kVlaw_refused dclaw_refused pmlaw_refused anlaw_refused cdlaw_refused ctlaw_refused), sllaw_refused⟩)
    (claw_refused : PySem.W.codeIn K cdlaw_refused "_law_refused" = true)
    (klaw_refused : PySem.W.keepIn K (.ref flaw_refused) = true)
    (alaw_stands : PySem.W.nsIn K mainGlobals "_law_stands" = some (some (.ref flaw_stands)))
    (llaw_stands : K.lookup flaw_stands = some ⟨oclaw_stands, odlaw_stands, .func (PySem.W.fnOf "_law_stands" "_law_stands" (defArgs s_law_stands) (defBody s_law_stands) (defScope s_law_stands) .none kVlaw_stands dclaw_stands pmlaw_stands anlaw_stands cdlaw_stands ctlaw_stands), sllaw_stands⟩)
    (claw_stands : PySem.W.codeIn K cdlaw_stands "_law_stands" = true)
    (klaw_stands : PySem.W.keepIn K (.ref flaw_stands) = true)
    (alaw_right : PySem.W.nsIn K mainGlobals "_law_right" = some (some (.ref flaw_right)))
    (llaw_right : K.lookup flaw_right = some ⟨oclaw_right, odlaw_right, .func (PySem.W.fnOf "_law_right" "_law_right" (defArgs s_law_right) (defBody s_law_right) (defScope s_law_right) .none kVlaw_right dclaw_right pmlaw_right anlaw_right cdlaw_right ctlaw_right), sllaw_right⟩)
    (claw_right : PySem.W.codeIn K cdlaw_right "_law_right" = true)
    (klaw_right : PySem.W.keepIn K (.ref flaw_right) = true)
    (aTable___init__ : PySem.W.findIn K (.ref C) "__init__" = some (some (.ref fTable___init__)))
    (iTable___init__ : PySem.W.isFn K (.ref fTable___init__) = true)
    (lTable___init__ : K.lookup fTable___init__ = some ⟨ocTable___init__, odTable___init__, .func (PySem.W.fnOf "__init__" "Table.__init__" (defArgs s_Table___init__) (defBody s_Table___init__) (defScope s_Table___init__) .none kVTable___init__ dcTable___init__ pmTable___init__ anTable___init__ cdTable___init__ ctTable___init__), slTable___init__⟩)
    (cTable___init__ : PySem.W.codeIn K cdTable___init__ "Table.__init__" = true)
    (kTable___init__ : PySem.W.keepIn K (.ref fTable___init__) = true)
    (alaw : PySem.W.nsIn K mainGlobals "law" = some (some (.ref flaw)))
    (llaw : K.lookup flaw = some ⟨oclaw, odlaw, .func (PySem.W.fnOf "law" "law" (defArgs s_law) (defBody s_law) (defScope s_law) .none kVlaw dclaw pmlaw anlaw cdlaw ctlaw), sllaw⟩)
    (claw : PySem.W.codeIn K cdlaw "law" = true)
    (klaw : PySem.W.keepIn K (.ref flaw) = true)
    (aCosts___init__ : PySem.W.findIn K (.ref CC) "__init__" = some (some (.ref fCosts___init__)))
    (iCosts___init__ : PySem.W.isFn K (.ref fCosts___init__) = true)
    (lCosts___init__ : K.lookup fCosts___init__ = some ⟨ocCosts___init__, odCosts___init__, .func (PySem.W.fnOf "__init__" "Costs.__init__" (defArgs s_Costs___init__) (defBody s_Costs___init__) (defScope s_Costs___init__) .none (.ref DK) dcCosts___init__ pmCosts___init__ anCosts___init__ cdCosts___init__ ctCosts___init__), slCosts___init__⟩)
    (cCosts___init__ : PySem.W.codeIn K cdCosts___init__ "Costs.__init__" = true)
    (kCosts___init__ : PySem.W.keepIn K (.ref fCosts___init__) = true)
    (aHistory___init__ : PySem.W.findIn K (.ref HC) "__init__" = some (some (.ref fHistory___init__)))
    (iHistory___init__ : PySem.W.isFn K (.ref fHistory___init__) = true)
    (lHistory___init__ : K.lookup fHistory___init__ = some ⟨ocHistory___init__, odHistory___init__, .func (PySem.W.fnOf "__init__" "History.__init__" (defArgs s_History___init__) (defBody s_History___init__) (defScope s_History___init__) (.ref DT) .none dcHistory___init__ pmHistory___init__ anHistory___init__ cdHistory___init__ ctHistory___init__), slHistory___init__⟩)
    (cHistory___init__ : PySem.W.codeIn K cdHistory___init__ "History.__init__" = true)
    (kHistory___init__ : PySem.W.keepIn K (.ref fHistory___init__) = true)
    (aHistory_add : PySem.W.findIn K (.ref HC) "add" = some (some (.ref fHistory_add)))
    (iHistory_add : PySem.W.isFn K (.ref fHistory_add) = true)
    (lHistory_add : K.lookup fHistory_add = some ⟨ocHistory_add, odHistory_add, .func (PySem.W.fnOf "add" "History.add" (defArgs s_History_add) (defBody s_History_add) (defScope s_History_add) .none kVHistory_add dcHistory_add pmHistory_add anHistory_add cdHistory_add ctHistory_add), slHistory_add⟩)
    (cHistory_add : PySem.W.codeIn K cdHistory_add "History.add" = true)
    (kHistory_add : PySem.W.keepIn K (.ref fHistory_add) = true)
    (aHistory_version : PySem.W.findIn K (.ref HC) "version" = some (some (.ref fHistory_version)))
    (iHistory_version : PySem.W.isFn K (.ref fHistory_version) = true)
    (lHistory_version : K.lookup fHistory_version = some ⟨ocHistory_version, odHistory_version, .func (PySem.W.fnOf "version" "History.version" (defArgs s_History_version) (defBody s_History_version) (defScope s_History_version) .none kVHistory_version dcHistory_version pmHistory_version anHistory_version cdHistory_version ctHistory_version), slHistory_version⟩)
    (cHistory_version : PySem.W.codeIn K cdHistory_version "History.version" = true)
    (kHistory_version : PySem.W.keepIn K (.ref fHistory_version) = true)
    (aHistory_recost : PySem.W.findIn K (.ref HC) "recost" = some (some (.ref fHistory_recost)))
    (iHistory_recost : PySem.W.isFn K (.ref fHistory_recost) = true)
    (lHistory_recost : K.lookup fHistory_recost = some ⟨ocHistory_recost, odHistory_recost, .func (PySem.W.fnOf "recost" "History.recost" (defArgs s_History_recost) (defBody s_History_recost) (defScope s_History_recost) .none kVHistory_recost dcHistory_recost pmHistory_recost anHistory_recost cdHistory_recost ctHistory_recost), slHistory_recost⟩)
    (cHistory_recost : PySem.W.codeIn K cdHistory_recost "History.recost" = true)
    (kHistory_recost : PySem.W.keepIn K (.ref fHistory_recost) = true)
    (aTable___eq__ : PySem.W.findIn K (.ref C) "__eq__" = some (some (.ref fTable___eq__)))
    (iTable___eq__ : PySem.W.isFn K (.ref fTable___eq__) = true)
    (lTable___eq__ : K.lookup fTable___eq__ = some ⟨ocTable___eq__, odTable___eq__, .func (PySem.W.fnOf "__eq__" "Table.__eq__" (defArgs s_Table___eq__) (defBody s_Table___eq__) (defScope s_Table___eq__) .none kVTable___eq__ dcTable___eq__ pmTable___eq__ anTable___eq__ cdTable___eq__ ctTable___eq__), slTable___eq__⟩)
    (cTable___eq__ : PySem.W.codeIn K cdTable___eq__ "Table.__eq__" = true)
    (kTable___eq__ : PySem.W.keepIn K (.ref fTable___eq__) = true)
    (aCosts___eq__ : PySem.W.findIn K (.ref CC) "__eq__" = some (some (.ref fCosts___eq__)))
    (iCosts___eq__ : PySem.W.isFn K (.ref fCosts___eq__) = true)
    (lCosts___eq__ : K.lookup fCosts___eq__ = some ⟨ocCosts___eq__, odCosts___eq__, .func (PySem.W.fnOf "__eq__" "Costs.__eq__" (defArgs s_Costs___eq__) (defBody s_Costs___eq__) (defScope s_Costs___eq__) .none kVCosts___eq__ dcCosts___eq__ pmCosts___eq__ anCosts___eq__ cdCosts___eq__ ctCosts___eq__), slCosts___eq__⟩)
    (cCosts___eq__ : PySem.W.codeIn K cdCosts___eq__ "Costs.__eq__" = true)
    (kCosts___eq__ : PySem.W.keepIn K (.ref fCosts___eq__) = true)
    (pg : PySem.W.plainGet K C Str.empty = true)
    (hd : PySem.W.hasDictIn K C = true)
    (po : PySem.W.plainOver K C = true)
    (sa : PySem.W.findIn K (.ref C) "__setattr__" = some (some (.builtin "object.__setattr__")))
    (mk : PySem.W.makesIn K C = true)
    (kc : PySem.W.keepIn K (.ref C) = true)
    (pgCosts : PySem.W.plainGet K CC Str.empty = true)
    (hdCosts : PySem.W.hasDictIn K CC = true)
    (poCosts : PySem.W.plainOver K CC = true)
    (saCosts : PySem.W.findIn K (.ref CC) "__setattr__" = some (some (.builtin "object.__setattr__")))
    (mkCosts : PySem.W.makesIn K CC = true)
    (kcCosts : PySem.W.keepIn K (.ref CC) = true)
    (pgHistory : PySem.W.plainGet K HC Str.empty = true)
    (hdHistory : PySem.W.hasDictIn K HC = true)
    (poHistory : PySem.W.plainOver K HC = true)
    (saHistory : PySem.W.findIn K (.ref HC) "__setattr__" = some (some (.builtin "object.__setattr__")))
    (mkHistory : PySem.W.makesIn K HC = true)
    (kcHistory : PySem.W.keepIn K (.ref HC) = true)
    (n_columns : PySem.W.findIn K (.ref C) "columns" = some none)
    (n_rows : PySem.W.findIn K (.ref C) "rows" = some none)
    (k1 : PySem.W.nsIn K mainGlobals "LONGEST_WORD" = some (some (.int 8 t1)))
    (k2 : PySem.W.nsIn K mainGlobals "GREATEST_NUMBER" = some (some (.int 999 t2)))
    (k3 : PySem.W.nsIn K mainGlobals "MOST_COLUMNS" = some (some (.int 3 t3)))
    (k4 : PySem.W.nsIn K mainGlobals "MOST_ROWS" = some (some (.int 6 t4)))
    (z_abs : PySem.W.nsIn K mainGlobals "abs" = some none)
    (z_all : PySem.W.nsIn K mainGlobals "all" = some none)
    (z_any : PySem.W.nsIn K mainGlobals "any" = some none)
    (z_bool : PySem.W.nsIn K mainGlobals "bool" = some none)
    (z_dict : PySem.W.nsIn K mainGlobals "dict" = some none)
    (z_enumerate : PySem.W.nsIn K mainGlobals "enumerate" = some none)
    (z_int : PySem.W.nsIn K mainGlobals "int" = some none)
    (z_isinstance : PySem.W.nsIn K mainGlobals "isinstance" = some none)
    (z_len : PySem.W.nsIn K mainGlobals "len" = some none)
    (z_list : PySem.W.nsIn K mainGlobals "list" = some none)
    (z_max : PySem.W.nsIn K mainGlobals "max" = some none)
    (z_min : PySem.W.nsIn K mainGlobals "min" = some none)
    (z_range : PySem.W.nsIn K mainGlobals "range" = some none)
    (z_repr : PySem.W.nsIn K mainGlobals "repr" = some none)
    (z_reversed : PySem.W.nsIn K mainGlobals "reversed" = some none)
    (z_set : PySem.W.nsIn K mainGlobals "set" = some none)
    (z_sorted : PySem.W.nsIn K mainGlobals "sorted" = some none)
    (z_str : PySem.W.nsIn K mainGlobals "str" = some none)
    (z_sum : PySem.W.nsIn K mainGlobals "sum" = some none)
    (z_tuple : PySem.W.nsIn K mainGlobals "tuple" = some none)
    (z_zip : PySem.W.nsIn K mainGlobals "zip" = some none)
    (aeK : PySem.W.nsIn K mainGlobals "BadColumns" = some (some (.ref EK)))
    (xeK : K.lookup EK = some (excClassObj nmeK qqeK EK NK bseK [.ref CH, .type "ValueError", .type "Exception", .type "BaseException", .type "object"] true sneK subeK abeK coleK ddeK m0eK m1eK m2eK m3eK m5eK "ValueError.__new__"))
    (saeK : PySem.W.findIn K (.ref EK) "__setattr__" = some (some (.builtin "object.__setattr__")))
    (gaeK : PySem.W.findIn K (.ref EK) "__getattribute__" = some (some (.builtin "BaseException.__getattribute__")))
    (ggeK : PySem.W.findIn K (.ref EK) "__getattr__" = some none)
    (nbeK : PySem.W.findIn K (.ref EK) "value" = some none)
    (ieK : PySem.W.findIn K (.ref EK) "__init__" = some (some (.ref iK)))
    (teK : PySem.W.typeIn K (.ref iK) = some (.type "function"))
    (leK : K.lookup iK = some ⟨oceK, odeK, .func (PySem.W.fnOf "__init__" "BadColumns.__init__" (PySem.LowV.iA p1eK p2eK) (PySem.LowV.iB p3eK p4eK p5eK p6eK) PySem.LowV.iS .none .none dceK pmeK aneK cdeK cteK), sleK⟩)
    (ceK : PySem.W.codeIn K cdeK "BadColumns.__init__" = true)
    (keK : PySem.W.keepIn K (.ref EK) = true)
    (eeK : PySem.W.subIn K (.ref EK) (.type "BaseException") = some true)
    (tyeK : PySem.W.typeIn K (.ref EK) = some (.type "type"))
    (heK : PySem.W.hasDictIn K EK = true)
    (iceK : PySem.W.isClsIn K EK = true)
    (seK : PySem.W.subIn K (.ref EK) (.ref EK) = some true)
    (aeR : PySem.W.nsIn K mainGlobals "BadRows" = some (some (.ref ER)))
    (xeR : K.lookup ER = some (excClassObj nmeR qqeR ER NR bseR [.ref CH, .type "ValueError", .type "Exception", .type "BaseException", .type "object"] true sneR subeR abeR coleR ddeR m0eR m1eR m2eR m3eR m5eR "ValueError.__new__"))
    (saeR : PySem.W.findIn K (.ref ER) "__setattr__" = some (some (.builtin "object.__setattr__")))
    (gaeR : PySem.W.findIn K (.ref ER) "__getattribute__" = some (some (.builtin "BaseException.__getattribute__")))
    (ggeR : PySem.W.findIn K (.ref ER) "__getattr__" = some none)
    (nbeR : PySem.W.findIn K (.ref ER) "value" = some none)
    (ieR : PySem.W.findIn K (.ref ER) "__init__" = some (some (.ref iR)))
    (teR : PySem.W.typeIn K (.ref iR) = some (.type "function"))
    (leR : K.lookup iR = some ⟨oceR, odeR, .func (PySem.W.fnOf "__init__" "BadRows.__init__" (PySem.LowV.iA p1eR p2eR) (PySem.LowV.iB p3eR p4eR p5eR p6eR) PySem.LowV.iS .none .none dceR pmeR aneR cdeR cteR), sleR⟩)
    (ceR : PySem.W.codeIn K cdeR "BadRows.__init__" = true)
    (keR : PySem.W.keepIn K (.ref ER) = true)
    (eeR : PySem.W.subIn K (.ref ER) (.type "BaseException") = some true)
    (tyeR : PySem.W.typeIn K (.ref ER) = some (.type "type"))
    (heR : PySem.W.hasDictIn K ER = true)
    (iceR : PySem.W.isClsIn K ER = true)
    (seR : PySem.W.subIn K (.ref ER) (.ref ER) = some true)
    (aeW : PySem.W.nsIn K mainGlobals "BadRow" = some (some (.ref EW)))
    (xeW : K.lookup EW = some (excClassObj nmeW qqeW EW NW bseW [.ref CH, .type "ValueError", .type "Exception", .type "BaseException", .type "object"] true sneW subeW abeW coleW ddeW m0eW m1eW m2eW m3eW m5eW "ValueError.__new__"))
    (saeW : PySem.W.findIn K (.ref EW) "__setattr__" = some (some (.builtin "object.__setattr__")))
    (gaeW : PySem.W.findIn K (.ref EW) "__getattribute__" = some (some (.builtin "BaseException.__getattribute__")))
    (ggeW : PySem.W.findIn K (.ref EW) "__getattr__" = some none)
    (nbeW : PySem.W.findIn K (.ref EW) "value" = some none)
    (ieW : PySem.W.findIn K (.ref EW) "__init__" = some (some (.ref iW)))
    (teW : PySem.W.typeIn K (.ref iW) = some (.type "function"))
    (leW : K.lookup iW = some ⟨oceW, odeW, .func (PySem.W.fnOf "__init__" "BadRow.__init__" (PySem.LowV.iA p1eW p2eW) (PySem.LowV.iB p3eW p4eW p5eW p6eW) PySem.LowV.iS .none .none dceW pmeW aneW cdeW cteW), sleW⟩)
    (ceW : PySem.W.codeIn K cdeW "BadRow.__init__" = true)
    (keW : PySem.W.keepIn K (.ref EW) = true)
    (eeW : PySem.W.subIn K (.ref EW) (.type "BaseException") = some true)
    (tyeW : PySem.W.typeIn K (.ref EW) = some (.type "type"))
    (heW : PySem.W.hasDictIn K EW = true)
    (iceW : PySem.W.isClsIn K EW = true)
    (seW : PySem.W.subIn K (.ref EW) (.ref EW) = some true)
    (aeM : PySem.W.nsIn K mainGlobals "TooMany" = some (some (.ref EM)))
    (xeM : K.lookup EM = some (excClassObj nmeM qqeM EM NM bseM [.ref CH, .type "ValueError", .type "Exception", .type "BaseException", .type "object"] true sneM subeM abeM coleM ddeM m0eM m1eM m2eM m3eM m5eM "ValueError.__new__"))
    (saeM : PySem.W.findIn K (.ref EM) "__setattr__" = some (some (.builtin "object.__setattr__")))
    (gaeM : PySem.W.findIn K (.ref EM) "__getattribute__" = some (some (.builtin "BaseException.__getattribute__")))
    (ggeM : PySem.W.findIn K (.ref EM) "__getattr__" = some none)
    (nbeM : PySem.W.findIn K (.ref EM) "limit" = some none)
    (ieM : PySem.W.findIn K (.ref EM) "__init__" = some (some (.ref iM)))
    (teM : PySem.W.typeIn K (.ref iM) = some (.type "function"))
    (leM : K.lookup iM = some ⟨oceM, odeM, .func (PySem.W.fnOf "__init__" "TooMany.__init__" (PySem.LowL.iA p1eM p2eM) (PySem.LowL.iB p3eM p4eM p5eM p6eM) PySem.LowL.iS .none .none dceM pmeM aneM cdeM cteM), sleM⟩)
    (ceM : PySem.W.codeIn K cdeM "TooMany.__init__" = true)
    (keM : PySem.W.keepIn K (.ref EM) = true)
    (eeM : PySem.W.subIn K (.ref EM) (.type "BaseException") = some true)
    (tyeM : PySem.W.typeIn K (.ref EM) = some (.type "type"))
    (heM : PySem.W.hasDictIn K EM = true)
    (iceM : PySem.W.isClsIn K EM = true)
    (seM : PySem.W.subIn K (.ref EM) (.ref EM) = some true)
    (aeB : PySem.W.nsIn K mainGlobals "BadCost" = some (some (.ref EB)))
    (xeB : K.lookup EB = some (excClassObj nmeB qqeB EB NB bseB [.ref CH, .type "ValueError", .type "Exception", .type "BaseException", .type "object"] true sneB subeB abeB coleB ddeB m0eB m1eB m2eB m3eB m5eB "ValueError.__new__"))
    (saeB : PySem.W.findIn K (.ref EB) "__setattr__" = some (some (.builtin "object.__setattr__")))
    (gaeB : PySem.W.findIn K (.ref EB) "__getattribute__" = some (some (.builtin "BaseException.__getattribute__")))
    (ggeB : PySem.W.findIn K (.ref EB) "__getattr__" = some none)
    (nbeB : PySem.W.findIn K (.ref EB) "value" = some none)
    (ieB : PySem.W.findIn K (.ref EB) "__init__" = some (some (.ref iB)))
    (teB : PySem.W.typeIn K (.ref iB) = some (.type "function"))
    (leB : K.lookup iB = some ⟨oceB, odeB, .func (PySem.W.fnOf "__init__" "BadCost.__init__" (PySem.LowV.iA p1eB p2eB) (PySem.LowV.iB p3eB p4eB p5eB p6eB) PySem.LowV.iS .none .none dceB pmeB aneB cdeB cteB), sleB⟩)
    (ceB : PySem.W.codeIn K cdeB "BadCost.__init__" = true)
    (keB : PySem.W.keepIn K (.ref EB) = true)
    (eeB : PySem.W.subIn K (.ref EB) (.type "BaseException") = some true)
    (tyeB : PySem.W.typeIn K (.ref EB) = some (.type "type"))
    (heB : PySem.W.hasDictIn K EB = true)
    (iceB : PySem.W.isClsIn K EB = true)
    (seB : PySem.W.subIn K (.ref EB) (.ref EB) = some true)
    (aeT : PySem.W.nsIn K mainGlobals "BadTable" = some (some (.ref ET)))
    (xeT : K.lookup ET = some (excClassObj nmeT qqeT ET NT bseT [.ref CH, .type "ValueError", .type "Exception", .type "BaseException", .type "object"] true sneT subeT abeT coleT ddeT m0eT m1eT m2eT m3eT m5eT "ValueError.__new__"))
    (saeT : PySem.W.findIn K (.ref ET) "__setattr__" = some (some (.builtin "object.__setattr__")))
    (gaeT : PySem.W.findIn K (.ref ET) "__getattribute__" = some (some (.builtin "BaseException.__getattribute__")))
    (ggeT : PySem.W.findIn K (.ref ET) "__getattr__" = some none)
    (nbeT : PySem.W.findIn K (.ref ET) "value" = some none)
    (ieT : PySem.W.findIn K (.ref ET) "__init__" = some (some (.ref iT)))
    (teT : PySem.W.typeIn K (.ref iT) = some (.type "function"))
    (leT : K.lookup iT = some ⟨oceT, odeT, .func (PySem.W.fnOf "__init__" "BadTable.__init__" (PySem.LowV.iA p1eT p2eT) (PySem.LowV.iB p3eT p4eT p5eT p6eT) PySem.LowV.iS .none .none dceT pmeT aneT cdeT cteT), sleT⟩)
    (ceT : PySem.W.codeIn K cdeT "BadTable.__init__" = true)
    (keT : PySem.W.keepIn K (.ref ET) = true)
    (eeT : PySem.W.subIn K (.ref ET) (.type "BaseException") = some true)
    (tyeT : PySem.W.typeIn K (.ref ET) = some (.type "type"))
    (heT : PySem.W.hasDictIn K ET = true)
    (iceT : PySem.W.isClsIn K ET = true)
    (seT : PySem.W.subIn K (.ref ET) (.ref ET) = some true)
    (aeS : PySem.W.nsIn K mainGlobals "BadCosts" = some (some (.ref ES)))
    (xeS : K.lookup ES = some (excClassObj nmeS qqeS ES NS bseS [.ref CH, .type "ValueError", .type "Exception", .type "BaseException", .type "object"] true sneS subeS abeS coleS ddeS m0eS m1eS m2eS m3eS m5eS "ValueError.__new__"))
    (saeS : PySem.W.findIn K (.ref ES) "__setattr__" = some (some (.builtin "object.__setattr__")))
    (gaeS : PySem.W.findIn K (.ref ES) "__getattribute__" = some (some (.builtin "BaseException.__getattribute__")))
    (ggeS : PySem.W.findIn K (.ref ES) "__getattr__" = some none)
    (nbeS : PySem.W.findIn K (.ref ES) "value" = some none)
    (ieS : PySem.W.findIn K (.ref ES) "__init__" = some (some (.ref iS)))
    (teS : PySem.W.typeIn K (.ref iS) = some (.type "function"))
    (leS : K.lookup iS = some ⟨oceS, odeS, .func (PySem.W.fnOf "__init__" "BadCosts.__init__" (PySem.LowV.iA p1eS p2eS) (PySem.LowV.iB p3eS p4eS p5eS p6eS) PySem.LowV.iS .none .none dceS pmeS aneS cdeS cteS), sleS⟩)
    (ceS : PySem.W.codeIn K cdeS "BadCosts.__init__" = true)
    (keS : PySem.W.keepIn K (.ref ES) = true)
    (eeS : PySem.W.subIn K (.ref ES) (.type "BaseException") = some true)
    (tyeS : PySem.W.typeIn K (.ref ES) = some (.type "type"))
    (heS : PySem.W.hasDictIn K ES = true)
    (iceS : PySem.W.isClsIn K ES = true)
    (seS : PySem.W.subIn K (.ref ES) (.ref ES) = some true)
    (aeV : PySem.W.nsIn K mainGlobals "NoVersion" = some (some (.ref EV)))
    (xeV : K.lookup EV = some (excClassObj nmeV qqeV EV NV bseV [.ref CH, .type "ValueError", .type "Exception", .type "BaseException", .type "object"] true sneV subeV abeV coleV ddeV m0eV m1eV m2eV m3eV m5eV "ValueError.__new__"))
    (saeV : PySem.W.findIn K (.ref EV) "__setattr__" = some (some (.builtin "object.__setattr__")))
    (gaeV : PySem.W.findIn K (.ref EV) "__getattribute__" = some (some (.builtin "BaseException.__getattribute__")))
    (ggeV : PySem.W.findIn K (.ref EV) "__getattr__" = some none)
    (nbeV : PySem.W.findIn K (.ref EV) "value" = some none)
    (ieV : PySem.W.findIn K (.ref EV) "__init__" = some (some (.ref iV)))
    (teV : PySem.W.typeIn K (.ref iV) = some (.type "function"))
    (leV : K.lookup iV = some ⟨oceV, odeV, .func (PySem.W.fnOf "__init__" "NoVersion.__init__" (PySem.LowV.iA p1eV p2eV) (PySem.LowV.iB p3eV p4eV p5eV p6eV) PySem.LowV.iS .none .none dceV pmeV aneV cdeV cteV), sleV⟩)
    (ceV : PySem.W.codeIn K cdeV "NoVersion.__init__" = true)
    (keV : PySem.W.keepIn K (.ref EV) = true)
    (eeV : PySem.W.subIn K (.ref EV) (.type "BaseException") = some true)
    (tyeV : PySem.W.typeIn K (.ref EV) = some (.type "type"))
    (heV : PySem.W.hasDictIn K EV = true)
    (iceV : PySem.W.isClsIn K EV = true)
    (seV : PySem.W.subIn K (.ref EV) (.ref EV) = some true)
    (q0 : PySem.W.nsIn K DK "cell" = some (some (.int 3 u0)))
    (q1 : PySem.W.nsIn K DK "row" = some (some (.int 4 u1)))
    (q2 : PySem.W.nsIn K DK "column" = some (some (.int 5 u2)))
    (q3 : PySem.W.nsIn K DK "name" = some (some (.int 1 u3)))
    (q4 : PySem.W.nsIn K DK "move" = some (some (.int 1 u4)))
    (n_cell : PySem.W.findIn K (.ref CC) "cell" = some none)
    (n_row : PySem.W.findIn K (.ref CC) "row" = some none)
    (n_column : PySem.W.findIn K (.ref CC) "column" = some none)
    (n_name : PySem.W.findIn K (.ref CC) "name" = some none)
    (n_move : PySem.W.findIn K (.ref CC) "move" = some none)
    (k6 : PySem.W.nsIn K mainGlobals "LEAST_COST" = some (some (.int 1 t6)))
    (k7 : PySem.W.nsIn K mainGlobals "GREATEST_COST" = some (some (.int 50 t7)))
    (k8 : PySem.W.nsIn K mainGlobals "MOST_VERSIONS" = some (some (.int 12 t8)))
    (lDT : K.lookup DT = some ⟨cDT, oDT, .seq #[.none] nDT, slDT⟩)
    (nh_tables : PySem.W.findIn K (.ref HC) "tables" = some none)
    (nh_last : PySem.W.findIn K (.ref HC) "last" = some none)
    (nh_costs : PySem.W.findIn K (.ref HC) "costs" = some none)
    (nh_sayings : PySem.W.findIn K (.ref HC) "sayings" = some none)
    (nh_next_number : PySem.W.findIn K (.ref HC) "next_number" = some none)
    (nh_open_trials : PySem.W.findIn K (.ref HC) "open_trials" = some none)
    (nh_comparisons : PySem.W.findIn K (.ref HC) "comparisons" = some none)
    (tyH : PySem.W.typeIn K (.ref CH) = some (.type "type"))
    (icH : PySem.W.isClsIn K CH = true)
    (ocn : PySem.W.specialIn K (.builtin "object.__class__") "__get__" = some (some (.builtin "getset_descriptor.__get__")))
    (octk : PySem.W.takesIn K (.builtin "object.__class__") = some true)
    (oaTable : PySem.W.findIn K (.ref C) "__class__" = some (some (.builtin "object.__class__")))
    (omTable : PySem.W.mroIn K C (.type "object") = some true)
    (onTable : PySem.W.findIn K (.ref C) "__ne__" = some (some (.builtin "object.__ne__")))
    (oaCosts : PySem.W.findIn K (.ref CC) "__class__" = some (some (.builtin "object.__class__")))
    (omCosts : PySem.W.mroIn K CC (.type "object") = some true)
    (onCosts : PySem.W.findIn K (.ref CC) "__ne__" = some (some (.builtin "object.__ne__")))
    (oaHistory : PySem.W.findIn K (.ref HC) "__class__" = some (some (.builtin "object.__class__")))
    (omHistory : PySem.W.mroIn K HC (.type "object") = some true)
    (onHistory : PySem.W.findIn K (.ref HC) "__ne__" = some (some (.builtin "object.__ne__")))
    (oaEV : PySem.W.findIn K (.ref EV) "__class__" = some (some (.builtin "object.__class__")))
    (omEV : PySem.W.mroIn K EV (.type "object") = some true)
    (isEV : PySem.W.subIn K (.ref EV) (.ref CH) = some true)
    (oaEM : PySem.W.findIn K (.ref EM) "__class__" = some (some (.builtin "object.__class__")))
    (omEM : PySem.W.mroIn K EM (.type "object") = some true)
    (isEM : PySem.W.subIn K (.ref EM) (.ref CH) = some true) :
    ∃ fd : FuncData, (∀ (s : Shared) (v : Value), BindsTo s fd ⟨[v], []⟩ [("_law_script", v)]) ∧ ∀ base : Heap, K.In base → base.Ns mainGlobals mg → FnG l.prog w K mg base CX0 10 fa fd ["_law_script"] (spLaw K) := by
  have e := hfa.symm.trans (PySem.W.mg_of X G alaw)
  cases e
  have loweK : PySem.LowV.LowTxt K mg "BadColumns" "BadColumns.__init__" EK iK :=
    { gC := PySem.W.mg_of X G aeK
      cls := ⟨nmeK, qqeK, NK, bseK, _, sneK, subeK, abeK, coleK, ddeK, m0eK, m1eK, m2eK, m3eK, m5eK, xeK, rfl⟩
      sa := saeK
      ga := gaeK
      gg := ggeK
      noN := nbeK
      iC := ieK
      tC := teK
      kC := keK
      exC := eeK
      tyC := tyeK
      hdC := heK
      te := exm_of eeK iceK tyeK seK
      fn := ⟨_, _, _, _, _, _, _, _, _, _, _, _, _, _, leK, ceK⟩ }
  have loweR : PySem.LowV.LowTxt K mg "BadRows" "BadRows.__init__" ER iR :=
    { gC := PySem.W.mg_of X G aeR
      cls := ⟨nmeR, qqeR, NR, bseR, _, sneR, subeR, abeR, coleR, ddeR, m0eR, m1eR, m2eR, m3eR, m5eR, xeR, rfl⟩
      sa := saeR
      ga := gaeR
      gg := ggeR
      noN := nbeR
      iC := ieR
      tC := teR
      kC := keR
      exC := eeR
      tyC := tyeR
      hdC := heR
      te := exm_of eeR iceR tyeR seR
      fn := ⟨_, _, _, _, _, _, _, _, _, _, _, _, _, _, leR, ceR⟩ }
  have loweW : PySem.LowV.LowTxt K mg "BadRow" "BadRow.__init__" EW iW :=
    { gC := PySem.W.mg_of X G aeW
      cls := ⟨nmeW, qqeW, NW, bseW, _, sneW, subeW, abeW, coleW, ddeW, m0eW, m1eW, m2eW, m3eW, m5eW, xeW, rfl⟩
      sa := saeW
      ga := gaeW
      gg := ggeW
      noN := nbeW
      iC := ieW
      tC := teW
      kC := keW
      exC := eeW
      tyC := tyeW
      hdC := heW
      te := exm_of eeW iceW tyeW seW
      fn := ⟨_, _, _, _, _, _, _, _, _, _, _, _, _, _, leW, ceW⟩ }
  have loweM : PySem.LowL.LowTxt K mg "TooMany" "TooMany.__init__" EM iM :=
    { gC := PySem.W.mg_of X G aeM
      cls := ⟨nmeM, qqeM, NM, bseM, _, sneM, subeM, abeM, coleM, ddeM, m0eM, m1eM, m2eM, m3eM, m5eM, xeM, rfl⟩
      sa := saeM
      ga := gaeM
      gg := ggeM
      noN := nbeM
      iC := ieM
      tC := teM
      kC := keM
      exC := eeM
      tyC := tyeM
      hdC := heM
      te := exm_of eeM iceM tyeM seM
      fn := ⟨_, _, _, _, _, _, _, _, _, _, _, _, _, _, leM, ceM⟩ }
  have loweB : PySem.LowV.LowTxt K mg "BadCost" "BadCost.__init__" EB iB :=
    { gC := PySem.W.mg_of X G aeB
      cls := ⟨nmeB, qqeB, NB, bseB, _, sneB, subeB, abeB, coleB, ddeB, m0eB, m1eB, m2eB, m3eB, m5eB, xeB, rfl⟩
      sa := saeB
      ga := gaeB
      gg := ggeB
      noN := nbeB
      iC := ieB
      tC := teB
      kC := keB
      exC := eeB
      tyC := tyeB
      hdC := heB
      te := exm_of eeB iceB tyeB seB
      fn := ⟨_, _, _, _, _, _, _, _, _, _, _, _, _, _, leB, ceB⟩ }
  have loweT : PySem.LowV.LowTxt K mg "BadTable" "BadTable.__init__" ET iT :=
    { gC := PySem.W.mg_of X G aeT
      cls := ⟨nmeT, qqeT, NT, bseT, _, sneT, subeT, abeT, coleT, ddeT, m0eT, m1eT, m2eT, m3eT, m5eT, xeT, rfl⟩
      sa := saeT
      ga := gaeT
      gg := ggeT
      noN := nbeT
      iC := ieT
      tC := teT
      kC := keT
      exC := eeT
      tyC := tyeT
      hdC := heT
      te := exm_of eeT iceT tyeT seT
      fn := ⟨_, _, _, _, _, _, _, _, _, _, _, _, _, _, leT, ceT⟩ }
  have loweS : PySem.LowV.LowTxt K mg "BadCosts" "BadCosts.__init__" ES iS :=
    { gC := PySem.W.mg_of X G aeS
      cls := ⟨nmeS, qqeS, NS, bseS, _, sneS, subeS, abeS, coleS, ddeS, m0eS, m1eS, m2eS, m3eS, m5eS, xeS, rfl⟩
      sa := saeS
      ga := gaeS
      gg := ggeS
      noN := nbeS
      iC := ieS
      tC := teS
      kC := keS
      exC := eeS
      tyC := tyeS
      hdC := heS
      te := exm_of eeS iceS tyeS seS
      fn := ⟨_, _, _, _, _, _, _, _, _, _, _, _, _, _, leS, ceS⟩ }
  have loweV : PySem.LowV.LowTxt K mg "NoVersion" "NoVersion.__init__" EV iV :=
    { gC := PySem.W.mg_of X G aeV
      cls := ⟨nmeV, qqeV, NV, bseV, _, sneV, subeV, abeV, coleV, ddeV, m0eV, m1eV, m2eV, m3eV, m5eV, xeV, rfl⟩
      sa := saeV
      ga := gaeV
      gg := ggeV
      noN := nbeV
      iC := ieV
      tC := teV
      kC := keV
      exC := eeV
      tyC := tyeV
      hdC := heV
      te := exm_of eeV iceV tyeV seV
      fn := ⟨_, _, _, _, _, _, _, _, _, _, _, _, _, _, leV, ceV⟩ }
  let T : Txt K mg :=
    { C := C, EK := EK, ER := ER, EW := EW, EM := EM, iK := iK, iR := iR, iW := iW, iM := iM, t1 := t1, t2 := t2, t3 := t3, t4 := t4
      eK := loweK
      eR := loweR
      eW := loweW
      eM := loweM
      cl := ⟨pg, hd, po, sa⟩
      n_columns := n_columns
      n_rows := n_rows
      g_Table := PySem.W.mg_of X G aC
      c_LONGEST_WORD := PySem.W.mg_of X G k1
      c_GREATEST_NUMBER := PySem.W.mg_of X G k2
      c_MOST_COLUMNS := PySem.W.mg_of X G k3
      c_MOST_ROWS := PySem.W.mg_of X G k4
      b_abs := PySem.W.mg_none_of X G z_abs
      b_all := PySem.W.mg_none_of X G z_all
      b_any := PySem.W.mg_none_of X G z_any
      b_bool := PySem.W.mg_none_of X G z_bool
      b_dict := PySem.W.mg_none_of X G z_dict
      b_enumerate := PySem.W.mg_none_of X G z_enumerate
      b_int := PySem.W.mg_none_of X G z_int
      b_isinstance := PySem.W.mg_none_of X G z_isinstance
      b_len := PySem.W.mg_none_of X G z_len
      b_list := PySem.W.mg_none_of X G z_list
      b_max := PySem.W.mg_none_of X G z_max
      b_min := PySem.W.mg_none_of X G z_min
      b_range := PySem.W.mg_none_of X G z_range
      b_repr := PySem.W.mg_none_of X G z_repr
      b_reversed := PySem.W.mg_none_of X G z_reversed
      b_set := PySem.W.mg_none_of X G z_set
      b_sorted := PySem.W.mg_none_of X G z_sorted
      b_str := PySem.W.mg_none_of X G z_str
      b_sum := PySem.W.mg_none_of X G z_sum
      b_tuple := PySem.W.mg_none_of X G z_tuple
      b_zip := PySem.W.mg_none_of X G z_zip }
  let TK : TxtK K mg :=
    { toTxt := T, CC := CC, CB := EB, iC := iB, t6 := t6, t7 := t7
      low := loweB
      clC := ⟨pgCosts, hdCosts, poCosts, saCosts⟩
      n_cell := n_cell
      n_row := n_row
      n_column := n_column
      n_name := n_name
      n_move := n_move
      g_Costs := PySem.W.mg_of X G aCosts
      c_LEAST_COST := PySem.W.mg_of X G k6
      c_GREATEST_COST := PySem.W.mg_of X G k7 }
  let TA : TxtH K mg :=
    { toTxtK := TK, HC := HC, oC := ⟨⟨pg, hd, po, sa⟩, kit_self _, oaTable, ocn, octk, omTable, onTable⟩, oCC := ⟨⟨pgCosts, hdCosts, poCosts, saCosts⟩, kit_self _, oaCosts, ocn, octk, omCosts, onCosts⟩, oH := ⟨⟨pgHistory, hdHistory, poHistory, saHistory⟩, kit_self _, oaHistory, ocn, octk, omHistory, onHistory⟩
      ET := ET, iT := iT, eT := loweT, ES := ES, iS := iS, eS := loweS, EV := EV, iV := iV, eV := loweV, t8 := t8
      c_MOST_VERSIONS := PySem.W.mg_of X G k8
      g_History := PySem.W.mg_of X G aHistory
      n_tables := nh_tables
      n_last := nh_last
      n_hcosts := nh_costs
      n_sayings := nh_sayings
      n_next_number := nh_next_number
      n_open_trials := nh_open_trials
      n_comparisons := nh_comparisons
      HE := CH, g_HeldError := PySem.W.mg_of X G aHE
      xV := ⟨gaeV, ggeV, eeV, heV, oaEV, ocn, octk, omEV⟩, xM := ⟨gaeM, ggeM, eeM, heM, oaEM, ocn, octk, omEM⟩, isV := kit_sub isEV icH tyH, isM := kit_sub isEM icH tyH }
  have FI : FunD K "__init__" "Costs.__init__" (defArgs s_Costs___init__) (defBody s_Costs___init__) (defScope s_Costs___init__) [] [("cell", .int 3), ("row", .int 4), ("column", .int 5), ("name", .int 1), ("move", .int 1)] fCosts___init__ _ :=
    ⟨⟨_, _, _, _, _, _, _, _, _, _, rfl, lCosts___init__, cCosts___init__, .inl ⟨rfl, rfl⟩, .inr ⟨DK, rfl, fun q hq => by
      simp only [List.mem_cons, List.not_mem_nil, or_false] at hq
      rcases hq with rfl | rfl | rfl | rfl | rfl
      · exact ⟨_, q0, _, rfl⟩
      · exact ⟨_, q1, _, rfl⟩
      · exact ⟨_, q2, _, rfl⟩
      · exact ⟨_, q3, _, rfl⟩
      · exact ⟨_, q4, _, rfl⟩⟩⟩, kCosts___init__⟩
  have FH : FunD K "__init__" "History.__init__" (defArgs s_History___init__) (defBody s_History___init__) (defScope s_History___init__) [.non] [] fHistory___init__ _ :=
    ⟨⟨_, _, _, _, _, _, _, _, _, _, rfl, lHistory___init__, cHistory___init__, .inr ⟨by simp, DT, _, [.none], nDT, rfl, lDT, rfl, .cons rfl .nil⟩, .inl rfl⟩, kHistory___init__⟩
  obtain ⟨ds1, hv1, hb1⟩ := FH.binds1 (ps := ["self", "table", "costs"]) 2 0 (by simp) rfl (fun T kV doc pm an cdv ct us its h1 h2 => by
    match us, h1, its, h2 with
    | [u1, u2], _, [d1], _ => exact ⟨_, rfl, rfl⟩)
  obtain ⟨ds0, hv0, hb0⟩ := FH.binds1 (ps := ["self", "table", "costs"]) 3 1 (by simp) rfl (fun T kV doc pm an cdv ct us its h1 h2 => by
    match us, h1, its, h2 with
    | [u1, u2, u3], _, [d1], _ => exact ⟨_, rfl, rfl⟩)
  cases hv0
  obtain ⟨mvC, hbC⟩ := FI.kbinds0 (ps := ["self", "cell", "row", "column", "name", "move"]) 1 [] [("cell", .int 3), ("row", .int 4), ("column", .int 5), ("name", .int 1), ("move", .int 1)] (fun {α} us ms _ => us ++ ms) (by simp) (by simp)
    (fun r1 r2 r3 => r1.append r2) (fun D doc pm an cdv ct us mv ws h1 h2 h3 => by
      obtain ⟨u, rfl⟩ := List.length_eq_one_iff.mp h1
      match mv, h2, ws, h3 with
      | [m1, m2, m3, m4, m5], _, [], _ =>
        refine ⟨_, _, _, _, _, _, rfl, rfl, _, _, _, _, _, _, rfl, rfl, _, _, _, _, _, _, rfl, rfl, _, _, _, _, _, _, rfl, rfl, _, _, _, _, _, _, rfl, rfl, ?_⟩
        rfl)
  have Fis_integer := fun_mk (st := s_is_integer) lis_integer cis_integer kis_integer
  have bis_integer := Fis_integer.binds (ps := ["value"]) fun _ _ _ _ _ _ us hl => match us, hl with | [_], _ => rfl
  have Fis_integer_within := fun_mk (st := s_is_integer_within) lis_integer_within cis_integer_within kis_integer_within
  have bis_integer_within := Fis_integer_within.binds (ps := ["value", "least", "most"]) fun _ _ _ _ _ _ us hl => match us, hl with | [_, _, _], _ => rfl
  have Fis_word := fun_mk (st := s_is_word) lis_word cis_word kis_word
  have bis_word := Fis_word.binds (ps := ["value"]) fun _ _ _ _ _ _ us hl => match us, hl with | [_], _ => rfl
  have Fis_cell := fun_mk (st := s_is_cell) lis_cell cis_cell kis_cell
  have bis_cell := Fis_cell.binds (ps := ["value"]) fun _ _ _ _ _ _ us hl => match us, hl with | [_], _ => rfl
  have Fare_columns := fun_mk (st := s_are_columns) lare_columns care_columns kare_columns
  have bare_columns := Fare_columns.binds (ps := ["value"]) fun _ _ _ _ _ _ us hl => match us, hl with | [_], _ => rfl
  have Fis_row := fun_mk (st := s_is_row) lis_row cis_row kis_row
  have bis_row := Fis_row.binds (ps := ["value", "width"]) fun _ _ _ _ _ _ us hl => match us, hl with | [_, _], _ => rfl
  have Flaw_draw := fun_mk (st := s_law_draw) llaw_draw claw_draw klaw_draw
  have blaw_draw := Flaw_draw.binds (ps := ["_law_pot_here", "_law_many"]) fun _ _ _ _ _ _ us hl => match us, hl with | [_, _], _ => rfl
  have Flaw_any := fun_mk (st := s_law_any) llaw_any claw_any klaw_any
  have blaw_any := Flaw_any.binds (ps := ["_law_pot_here", "_law_items"]) fun _ _ _ _ _ _ us hl => match us, hl with | [_, _], _ => rfl
  have Flaw_pot := fun_mk (st := s_law_pot) llaw_pot claw_pot klaw_pot
  have blaw_pot := Flaw_pot.binds (ps := ["_law_script", "_law_k"]) fun _ _ _ _ _ _ us hl => match us, hl with | [_, _], _ => rfl
  have Flaw_mixed := fun_mk (st := s_law_mixed) llaw_mixed claw_mixed klaw_mixed
  have blaw_mixed := Flaw_mixed.binds (ps := ["_law_pot_here", "_law_items"]) fun _ _ _ _ _ _ us hl => match us, hl with | [_, _], _ => rfl
  have Flaw_names := fun_mk (st := s_law_names) llaw_names claw_names klaw_names
  have blaw_names := Flaw_names.binds (ps := ["_law_pot_here", "_law_many"]) fun _ _ _ _ _ _ us hl => match us, hl with | [_, _], _ => rfl
  have Flaw_cell := fun_mk (st := s_law_cell) llaw_cell claw_cell klaw_cell
  have blaw_cell := Flaw_cell.binds (ps := ["_law_pot_here"]) fun _ _ _ _ _ _ us hl => match us, hl with | [_], _ => rfl
  have Flaw_table := fun_mk (st := s_law_table) llaw_table claw_table klaw_table
  have blaw_table := Flaw_table.binds (ps := ["_law_pot_here", "_law_wide", "_law_high"]) fun _ _ _ _ _ _ us hl => match us, hl with | [_, _, _], _ => rfl
  have Flaw_moved_columns := fun_mk (st := s_law_moved_columns) llaw_moved_columns claw_moved_columns klaw_moved_columns
  have blaw_moved_columns := Flaw_moved_columns.binds (ps := ["_law_pot_here", "_law_table_here", "_law_wide"]) fun _ _ _ _ _ _ us hl => match us, hl with | [_, _, _], _ => rfl
  have Flaw_near := fun_mk (st := s_law_near) llaw_near claw_near klaw_near
  have blaw_near := Flaw_near.binds (ps := ["_law_pot_here", "_law_table_here", "_law_wide", "_law_high"]) fun _ _ _ _ _ _ us hl => match us, hl with | [_, _, _, _], _ => rfl
  have Flaw_five := fun_mk (st := s_law_five) llaw_five claw_five klaw_five
  have blaw_five := Flaw_five.binds (ps := ["_law_pot_here"]) fun _ _ _ _ _ _ us hl => match us, hl with | [_], _ => rfl
  have Flaw_costs := fun_mk (st := s_law_costs) llaw_costs claw_costs klaw_costs
  have blaw_costs := Flaw_costs.binds (ps := ["_law_five_here"]) fun _ _ _ _ _ _ us hl => match us, hl with | [_], _ => rfl
  have Fcheck_table := fun_mk (st := s_check_table) lcheck_table ccheck_table kcheck_table
  have bcheck_table := Fcheck_table.binds (ps := ["value"]) fun _ _ _ _ _ _ us hl => match us, hl with | [_], _ => rfl
  have Fcheck_costs := fun_mk (st := s_check_costs) lcheck_costs ccheck_costs kcheck_costs
  have bcheck_costs := Fcheck_costs.binds (ps := ["value"]) fun _ _ _ _ _ _ us hl => match us, hl with | [_], _ => rfl
  have Fcheck_version := fun_mk (st := s_check_version) lcheck_version ccheck_version kcheck_version
  have bcheck_version := Fcheck_version.binds (ps := ["value", "least", "most"]) fun _ _ _ _ _ _ us hl => match us, hl with | [_, _, _], _ => rfl
  have Flaw_added := fun_mk (st := s_law_added) llaw_added claw_added klaw_added
  have blaw_added := Flaw_added.binds (ps := ["_law_history", "_law_table_here"]) fun _ _ _ _ _ _ us hl => match us, hl with | [_, _], _ => rfl
  have Flaw_refused := fun_mk (st := s_law_refused) llaw_refused claw_refused klaw_refused
  have blaw_refused := Flaw_refused.binds (ps := ["_law_history", "_law_number"]) fun _ _ _ _ _ _ us hl => match us, hl with | [_, _], _ => rfl
  have Flaw_stands := fun_mk (st := s_law_stands) llaw_stands claw_stands klaw_stands
  have blaw_stands := Flaw_stands.binds (ps := ["_law_history", "_law_tables", "_law_five_here"]) fun _ _ _ _ _ _ us hl => match us, hl with | [_, _, _], _ => rfl
  have Flaw_right := fun_mk (st := s_law_right) llaw_right claw_right klaw_right
  have blaw_right := Flaw_right.binds (ps := ["_law_pot_here"]) fun _ _ _ _ _ _ us hl => match us, hl with | [_], _ => rfl
  have FTable___init__ := fun_mk (st := s_Table___init__) lTable___init__ cTable___init__ kTable___init__
  have bTable___init__ := FTable___init__.binds (ps := ["self", "columns", "rows"]) fun _ _ _ _ _ _ us hl => match us, hl with | [_, _, _], _ => rfl
  have Flaw := fun_mk (st := s_law) llaw claw klaw
  have blaw := Flaw.binds (ps := ["_law_script"]) fun _ _ _ _ _ _ us hl => match us, hl with | [_], _ => rfl
  have FCosts___init__ := fun_mk (st := s_Costs___init__) lCosts___init__ cCosts___init__ kCosts___init__
  have FHistory_add := fun_mk (st := s_History_add) lHistory_add cHistory_add kHistory_add
  have bHistory_add := FHistory_add.binds (ps := ["self", "table"]) fun _ _ _ _ _ _ us hl => match us, hl with | [_, _], _ => rfl
  have FHistory_version := fun_mk (st := s_History_version) lHistory_version cHistory_version kHistory_version
  have bHistory_version := FHistory_version.binds (ps := ["self", "number"]) fun _ _ _ _ _ _ us hl => match us, hl with | [_, _], _ => rfl
  have FHistory_recost := fun_mk (st := s_History_recost) lHistory_recost cHistory_recost kHistory_recost
  have bHistory_recost := FHistory_recost.binds (ps := ["self", "costs"]) fun _ _ _ _ _ _ us hl => match us, hl with | [_, _], _ => rfl
  have FTable___eq__ := fun_mk (st := s_Table___eq__) lTable___eq__ cTable___eq__ kTable___eq__
  have bTable___eq__ := FTable___eq__.binds (ps := ["self", "other"]) fun _ _ _ _ _ _ us hl => match us, hl with | [_, _], _ => rfl
  have FCosts___eq__ := fun_mk (st := s_Costs___eq__) lCosts___eq__ cCosts___eq__ kCosts___eq__
  have bCosts___eq__ := FCosts___eq__.binds (ps := ["self", "other"]) fun _ _ _ _ _ _ us hl => match us, hl with | [_, _], _ => rfl
  have mg_ : ∀ {n : Str} {v : Value}, PySem.W.nsIn K mainGlobals n = some (some v) → mg n = some v := fun e => PySem.W.mg_of X G e
  have cis_integer : ∀ base, Ca l.prog w K mg base CX0 "is_integer" 1 _ (spInteger K) fis_integer _ := fun base => ⟨ok_integer Fis_integer T, mg_ ais_integer, kis_integer, bis_integer⟩
  have cis_integer_within : ∀ base, Ca l.prog w K mg base CX0 "is_integer_within" 2 _ (spWithin K) fis_integer_within _ := fun base => ⟨ok_within Fis_integer_within T cis_integer, mg_ ais_integer_within, kis_integer_within, bis_integer_within⟩
  have cis_word : ∀ base, Ca l.prog w K mg base CX0 "is_word" 1 _ (spWord K) fis_word _ := fun base => ⟨ok_word Fis_word T, mg_ ais_word, kis_word, bis_word⟩
  have cis_cell : ∀ base, Ca l.prog w K mg base CX0 "is_cell" 3 _ (spCell K) fis_cell _ := fun base => ⟨ok_cell Fis_cell T cis_integer_within cis_word, mg_ ais_cell, kis_cell, bis_cell⟩
  have care_columns : ∀ base, Ca l.prog w K mg base CX0 "are_columns" 2 _ (spCols K) fare_columns _ := fun base => ⟨ok_cols Fare_columns T cis_word, mg_ aare_columns, kare_columns, bare_columns⟩
  have cis_row : ∀ base, Ca l.prog w K mg base CX0 "is_row" 4 _ (spRow K) fis_row _ := fun base => ⟨ok_row Fis_row T cis_cell, mg_ ais_row, kis_row, bis_row⟩
  have gI : ∀ base, FnOk l.prog w K mg base (L2.CX l.prog w) 5 fTable___init__ _ _ (spInit K T.C T.EK T.ER T.EW T.EM) := fun base => ok_init FTable___init__ T care_columns cis_row
  have MT : Mk K T.C fTable___init__ := ⟨mk, aTable___init__, iTable___init__, kc⟩
  have claw_draw : ∀ base, Ca l.prog w K mg base CX0 "_law_draw" 1 _ spDraw flaw_draw _ := fun base => ⟨ok_draw Flaw_draw T, mg_ alaw_draw, klaw_draw, blaw_draw⟩
  have claw_any : ∀ base, Ca l.prog w K mg base CX0 "_law_any" 2 _ spAny flaw_any _ := fun base => ⟨ok_any Flaw_any T claw_draw, mg_ alaw_any, klaw_any, blaw_any⟩
  have claw_anyS : ∀ base, Ca l.prog w K mg base CX0 "_law_any" 2 _ spAnyS flaw_any _ := fun base => ⟨ok_anyS Flaw_any T claw_draw, mg_ alaw_any, klaw_any, blaw_any⟩
  have claw_pot : ∀ base, Ca l.prog w K mg base CX0 "_law_pot" 1 _ (spPot K) flaw_pot _ := fun base => ⟨ok_pot Flaw_pot T, mg_ alaw_pot, klaw_pot, blaw_pot⟩
  have claw_mixed : ∀ base, Ca l.prog w K mg base CX0 "_law_mixed" 2 _ (spMixed K) flaw_mixed _ := fun base => ⟨ok_mixed Flaw_mixed TA claw_draw, mg_ alaw_mixed, klaw_mixed, blaw_mixed⟩
  have claw_names : ∀ base, Ca l.prog w K mg base CX0 "_law_names" 3 _ spNames flaw_names _ := fun base => ⟨ok_names Flaw_names TA claw_draw claw_anyS, mg_ alaw_names, klaw_names, blaw_names⟩
  have claw_cell : ∀ base, Ca l.prog w K mg base CX0 "_law_cell" 3 _ spACell flaw_cell _ := fun base => ⟨ok_acell Flaw_cell TA claw_any, mg_ alaw_cell, klaw_cell, blaw_cell⟩
  have claw_table : ∀ base, Ca l.prog w K mg base CX0 "_law_table" 7 _ (spTable K T.C) flaw_table _ := fun base => ⟨ok_table Flaw_table TA MT claw_draw claw_names claw_cell gI bTable___init__, mg_ alaw_table, klaw_table, blaw_table⟩
  have claw_moved_columns : ∀ base, Ca l.prog w K mg base CX0 "_law_moved_columns" 4 _ (spMovedC K T.C) flaw_moved_columns _ := fun base => ⟨ok_movedc Flaw_moved_columns TA claw_draw claw_mixed claw_names, mg_ alaw_moved_columns, klaw_moved_columns, blaw_moved_columns⟩
  have claw_near : ∀ base, Ca l.prog w K mg base CX0 "_law_near" 7 _ (spNear K T.C) flaw_near _ := fun base => ⟨ok_near Flaw_near TA MT claw_draw claw_mixed claw_cell claw_moved_columns gI bTable___init__, mg_ alaw_near, klaw_near, blaw_near⟩
  have gC : ∀ base, FnOk l.prog w K mg base (L2.CX l.prog w) 3 fCosts___init__ _ _ (spInitC K TA.CC) := fun base => ok_initC FI TA cis_integer_within
  have MC : Mk K TA.CC fCosts___init__ := ⟨mkCosts, aCosts___init__, iCosts___init__, kcCosts⟩
  have claw_five : ∀ base, Ca l.prog w K mg base CX0 "_law_five" 3 _ (spFive K) flaw_five _ := fun base => ⟨ok_five Flaw_five TA claw_draw claw_any, mg_ alaw_five, klaw_five, blaw_five⟩
  have claw_costs : ∀ base, Ca l.prog w K mg base (L2.CX l.prog w) "_law_costs" 5 _ (spMkT K TA.CC) flaw_costs _ := fun base => ⟨ok_costs Flaw_costs TA MC FI gC, mg_ alaw_costs, klaw_costs, blaw_costs⟩
  have ccheck_table : ∀ base, Ca l.prog w K mg base (L2.CX l.prog w) "check_table" 1 _ (spChkT K T.C) fcheck_table _ := fun base => ⟨ok_chkt Fcheck_table TA, mg_ acheck_table, kcheck_table, bcheck_table⟩
  have ccheck_costs : ∀ base, Ca l.prog w K mg base (L2.CX l.prog w) "check_costs" 1 _ (spChkC TA.CC) fcheck_costs _ := fun base => ⟨ok_chkc Fcheck_costs TA, mg_ acheck_costs, kcheck_costs, bcheck_costs⟩
  have ccheck_version : ∀ base, Ca l.prog w K mg base (L2.CX l.prog w) "check_version" 3 _ (spChkV TA.EV) fcheck_version _ := fun base => ⟨ok_chkv Fcheck_version TA cis_integer_within, mg_ acheck_version, kcheck_version, bcheck_version⟩
  have gH : ∀ base, FnOk l.prog w K mg base (L2.CX l.prog w) 5 fHistory___init__ _ _ (spInitH K T.C TA.CC TA.HC) := fun base => ok_inith FH TA MC gC hbC ccheck_table ccheck_costs
  have MH : Mk K TA.HC fHistory___init__ := ⟨mkHistory, aHistory___init__, iHistory___init__, kcHistory⟩
  have MA : Meth K TA.HC "add" fHistory_add := ⟨aHistory_add, iHistory_add, kHistory_add⟩
  have MV : Meth K TA.HC "version" fHistory_version := ⟨aHistory_version, iHistory_version, kHistory_version⟩
  have MR : Meth K TA.HC "recost" fHistory_recost := ⟨aHistory_recost, iHistory_recost, kHistory_recost⟩
  have gA : ∀ base, FnOk l.prog w K mg base (L2.CX l.prog w) 2 fHistory_add _ _ (spAdd K T.C TA.CC TA.HC TA.EM) := fun base => ok_add FHistory_add TA ccheck_table
  have gV : ∀ base, FnOk l.prog w K mg base (L2.CX l.prog w) 4 fHistory_version _ _ (spVer K T.C TA.CC TA.HC TA.EV) := fun base => ok_ver FHistory_version TA ccheck_version
  have gR : ∀ base, FnOk l.prog w K mg base (L2.CX l.prog w) 2 fHistory_recost _ _ (spRec K T.C TA.CC TA.HC) := fun base => ok_rec FHistory_recost TA ccheck_costs
  have qC : ∀ base, CaQ l.prog w K mg base TA.CC (spEqC TA.CC) fCosts___eq__ _ := fun base => ⟨ok_eqc FCosts___eq__ TA, bCosts___eq__, aCosts___eq__, iCosts___eq__⟩
  have qT : ∀ base, CaQ l.prog w K mg base TA.C (spEqT K TA.C) fTable___eq__ _ := fun base => ⟨ok_eqt FTable___eq__ TA, bTable___eq__, aTable___eq__, iTable___eq__⟩
  have claw_added : ∀ base, Ca l.prog w K mg base CX0 "_law_added" 3 _ (spAdded K T.C TA.CC TA.HC) flaw_added _ := fun base => ⟨ok_added Flaw_added TA MA bHistory_add gA, mg_ alaw_added, klaw_added, blaw_added⟩
  have claw_refused : ∀ base, CaG l.prog w K mg base "_law_refused" 5 _ (spRef K T.C TA.CC TA.HC) flaw_refused _ := fun base => ⟨ok_refused Flaw_refused TA MV bHistory_version gV, mg_ alaw_refused, klaw_refused, blaw_refused⟩
  have claw_stands : ∀ base, CaG l.prog w K mg base "_law_stands" 6 _ (spStand K T.C TA.CC TA.HC) flaw_stands _ := fun base => ⟨ok_stands Flaw_stands TA MV bHistory_version gV claw_costs qC qT, mg_ alaw_stands, klaw_stands, blaw_stands⟩
  have claw_right : ∀ base, CaG l.prog w K mg base "_law_right" 9 _ (spRight K) flaw_right _ := fun base => ⟨ok_right Flaw_right TA MH hb0 hb1 hv1 gH MR bHistory_recost gR claw_table claw_five claw_draw claw_costs claw_any claw_near claw_added claw_stands claw_refused, mg_ alaw_right, klaw_right, blaw_right⟩
  exact ⟨_, fun s v => .of_eq rfl, fun base _ _ => ok_law Flaw TA claw_pot claw_right⟩

end K49
open PySem PySem.W PyProof.Rows in
set_option maxRecDepth 100000 in
set_option maxHeartbeats 0 in
theorem PySem.Challenge.cw_tableheld_k49_versions_of_histories_holds : PySem.Challenge.rw_tableheld_k49_versions_of_histories.Holds := by
  w_on; o_law; k_head; (case hw => w_witness2)
  k_fill
  refine Xby.walkG (l := PySem.Challenge.rw_tableheld_k49_versions_of_histories) (n := 63) (k := 10) (x := "_law_script") (sp := K49.spLaw) rfl (by decide) rfl ⟨rfl, by decide, by decide⟩ (fun w h Y => PySem.W.kIn_of Y) ?F (fun K H a ns hl hS ho => ⟨a, ns, rfl, hS, hl, fun _ => rfl⟩)
  case F =>
    intro w mg fa h KX G hmg
    refine' K49.all_mk KX G hmg ?aC ?aCosts ?aHistory ?aHE ?ais_integer ?lis_integer ?cis_integer ?kis_integer ?ais_integer_within ?lis_integer_within ?cis_integer_within ?kis_integer_within ?ais_word ?lis_word ?cis_word ?kis_word ?ais_cell ?lis_cell ?cis_cell ?kis_cell ?aare_columns ?lare_columns ?care_columns ?kare_columns ?ais_row ?lis_row ?cis_row ?kis_row ?alaw_draw ?llaw_draw ?claw_draw ?klaw_draw ?alaw_any ?llaw_any ?claw_any ?klaw_any ?alaw_pot ?llaw_pot ?claw_pot ?klaw_pot ?alaw_mixed ?llaw_mixed ?claw_mixed ?klaw_mixed ?alaw_names ?llaw_names ?claw_names ?klaw_names ?alaw_cell ?llaw_cell ?claw_cell ?klaw_cell ?alaw_table ?llaw_table ?claw_table ?klaw_table ?alaw_moved_columns ?llaw_moved_columns ?claw_moved_columns ?klaw_moved_columns ?alaw_near ?llaw_near ?claw_near ?klaw_near ?alaw_five ?llaw_five ?claw_five ?klaw_five ?alaw_costs ?llaw_costs ?claw_costs ?klaw_costs ?acheck_table ?lcheck_table ?ccheck_table ?kcheck_table ?acheck_costs ?lcheck_costs ?ccheck_costs ?kcheck_costs ?acheck_version ?lcheck_version ?ccheck_version ?kcheck_version ?alaw_added ?llaw_added ?claw_added ?klaw_added ?alaw_refused ?llaw_refused ?claw_refused ?klaw_refused ?alaw_stands ?llaw_stands ?claw_stands ?klaw_stands ?alaw_right ?llaw_right ?claw_right ?klaw_right ?aTable___init__ ?iTable___init__ ?lTable___init__ ?cTable___init__ ?kTable___init__ ?alaw ?llaw ?claw ?klaw ?aCosts___init__ ?iCosts___init__ ?lCosts___init__ ?cCosts___init__ ?kCosts___init__ ?aHistory___init__ ?iHistory___init__ ?lHistory___init__ ?cHistory___init__ ?kHistory___init__ ?aHistory_add ?iHistory_add ?lHistory_add ?cHistory_add ?kHistory_add ?aHistory_version ?iHistory_version ?lHistory_version ?cHistory_version ?kHistory_version ?aHistory_recost ?iHistory_recost ?lHistory_recost ?cHistory_recost ?kHistory_recost ?aTable___eq__ ?iTable___eq__ ?lTable___eq__ ?cTable___eq__ ?kTable___eq__ ?aCosts___eq__ ?iCosts___eq__ ?lCosts___eq__ ?cCosts___eq__ ?kCosts___eq__ ?pg ?hd ?po ?sa ?mk ?kc ?pgCosts ?hdCosts ?poCosts ?saCosts ?mkCosts ?kcCosts ?pgHistory ?hdHistory ?poHistory ?saHistory ?mkHistory ?kcHistory ?n_columns ?n_rows ?k1 ?k2 ?k3 ?k4 ?z_abs ?z_all ?z_any ?z_bool ?z_dict ?z_enumerate ?z_int ?z_isinstance ?z_len ?z_list ?z_max ?z_min ?z_range ?z_repr ?z_reversed ?z_set ?z_sorted ?z_str ?z_sum ?z_tuple ?z_zip ?aeK ?xeK ?saeK ?gaeK ?ggeK ?nbeK ?ieK ?teK ?leK ?ceK ?keK ?eeK ?tyeK ?heK ?iceK ?seK ?aeR ?xeR ?saeR ?gaeR ?ggeR ?nbeR ?ieR ?teR ?leR ?ceR ?keR ?eeR ?tyeR ?heR ?iceR ?seR ?aeW ?xeW ?saeW ?gaeW ?ggeW ?nbeW ?ieW ?teW ?leW ?ceW ?keW ?eeW ?tyeW ?heW ?iceW ?seW ?aeM ?xeM ?saeM ?gaeM ?ggeM ?nbeM ?ieM ?teM ?leM ?ceM ?keM ?eeM ?tyeM ?heM ?iceM ?seM ?aeB ?xeB ?saeB ?gaeB ?ggeB ?nbeB ?ieB ?teB ?leB ?ceB ?keB ?eeB ?tyeB ?heB ?iceB ?seB ?aeT ?xeT ?saeT ?gaeT ?ggeT ?nbeT ?ieT ?teT ?leT ?ceT ?keT ?eeT ?tyeT ?heT ?iceT ?seT ?aeS ?xeS ?saeS ?gaeS ?ggeS ?nbeS ?ieS ?teS ?leS ?ceS ?keS ?eeS ?tyeS ?heS ?iceS ?seS ?aeV ?xeV ?saeV ?gaeV ?ggeV ?nbeV ?ieV ?teV ?leV ?ceV ?keV ?eeV ?tyeV ?heV ?iceV ?seV ?q0 ?q1 ?q2 ?q3 ?q4 ?n_cell ?n_row ?n_column ?n_name ?n_move ?k6 ?k7 ?k8 ?lDT ?nh_tables ?nh_last ?nh_costs ?nh_sayings ?nh_next_number ?nh_open_trials ?nh_comparisons ?tyH ?icH ?ocn ?octk ?oaTable ?omTable ?onTable ?oaCosts ?omCosts ?onCosts ?oaHistory ?omHistory ?onHistory ?oaEV ?omEV ?isEV ?oaEM ?omEM ?isEM
    (case aC => k_is)
    (case aCosts => k_is)
    (case aHistory => k_is)
    (case aHE => k_is)
    (case ais_integer => k_is)
    (case lis_integer => k_is)
    (case cis_integer => k_is)
    (case kis_integer => k_is)
    (case ais_integer_within => k_is)
    (case lis_integer_within => k_is)
    (case cis_integer_within => k_is)
    (case kis_integer_within => k_is)
    (case ais_word => k_is)
    (case lis_word => k_is)
    (case cis_word => k_is)
    (case kis_word => k_is)
    (case ais_cell => k_is)
    (case lis_cell => k_is)
    (case cis_cell => k_is)
    (case kis_cell => k_is)
    (case aare_columns => k_is)
    (case lare_columns => k_is)
    (case care_columns => k_is)
    (case kare_columns => k_is)
    (case ais_row => k_is)
    (case lis_row => k_is)
    (case cis_row => k_is)
    (case kis_row => k_is)
    (case alaw_draw => k_is)
    (case llaw_draw => k_is)
    (case claw_draw => k_is)
    (case klaw_draw => k_is)
    (case alaw_any => k_is)
    (case llaw_any => k_is)
    (case claw_any => k_is)
    (case klaw_any => k_is)
    (case alaw_pot => k_is)
    (case llaw_pot => k_is)
    (case claw_pot => k_is)
    (case klaw_pot => k_is)
    (case alaw_mixed => k_is)
    (case llaw_mixed => k_is)
    (case claw_mixed => k_is)
    (case klaw_mixed => k_is)
    (case alaw_names => k_is)
    (case llaw_names => k_is)
    (case claw_names => k_is)
    (case klaw_names => k_is)
    (case alaw_cell => k_is)
    (case llaw_cell => k_is)
    (case claw_cell => k_is)
    (case klaw_cell => k_is)
    (case alaw_table => k_is)
    (case llaw_table => k_is)
    (case claw_table => k_is)
    (case klaw_table => k_is)
    (case alaw_moved_columns => k_is)
    (case llaw_moved_columns => k_is)
    (case claw_moved_columns => k_is)
    (case klaw_moved_columns => k_is)
    (case alaw_near => k_is)
    (case llaw_near => k_is)
    (case claw_near => k_is)
    (case klaw_near => k_is)
    (case alaw_five => k_is)
    (case llaw_five => k_is)
    (case claw_five => k_is)
    (case klaw_five => k_is)
    (case alaw_costs => k_is)
    (case llaw_costs => k_is)
    (case claw_costs => k_is)
    (case klaw_costs => k_is)
    (case acheck_table => k_is)
    (case lcheck_table => k_is)
    (case ccheck_table => k_is)
    (case kcheck_table => k_is)
    (case acheck_costs => k_is)
    (case lcheck_costs => k_is)
    (case ccheck_costs => k_is)
    (case kcheck_costs => k_is)
    (case acheck_version => k_is)
    (case lcheck_version => k_is)
    (case ccheck_version => k_is)
    (case kcheck_version => k_is)
    (case alaw_added => k_is)
    (case llaw_added => k_is)
    (case claw_added => k_is)
    (case klaw_added => k_is)
    (case alaw_refused => k_is)
    (case llaw_refused => k_is)
    (case claw_refused => k_is)
    (case klaw_refused => k_is)
    (case alaw_stands => k_is)
    (case llaw_stands => k_is)
    (case claw_stands => k_is)
    (case klaw_stands => k_is)
    (case alaw_right => k_is)
    (case llaw_right => k_is)
    (case claw_right => k_is)
    (case klaw_right => k_is)
    (case aTable___init__ => k_is)
    (case iTable___init__ => k_is)
    (case lTable___init__ => k_is)
    (case cTable___init__ => k_is)
    (case kTable___init__ => k_is)
    (case alaw => k_is)
    (case llaw => k_is)
    (case claw => k_is)
    (case klaw => k_is)
    (case aCosts___init__ => k_is)
    (case iCosts___init__ => k_is)
    (case lCosts___init__ => k_is)
    (case cCosts___init__ => k_is)
    (case kCosts___init__ => k_is)
    (case aHistory___init__ => k_is)
    (case iHistory___init__ => k_is)
    (case lHistory___init__ => k_is)
    (case cHistory___init__ => k_is)
    (case kHistory___init__ => k_is)
    (case aHistory_add => k_is)
    (case iHistory_add => k_is)
    (case lHistory_add => k_is)
    (case cHistory_add => k_is)
    (case kHistory_add => k_is)
    (case aHistory_version => k_is)
    (case iHistory_version => k_is)
    (case lHistory_version => k_is)
    (case cHistory_version => k_is)
    (case kHistory_version => k_is)
    (case aHistory_recost => k_is)
    (case iHistory_recost => k_is)
    (case lHistory_recost => k_is)
    (case cHistory_recost => k_is)
    (case kHistory_recost => k_is)
    (case aTable___eq__ => k_is)
    (case iTable___eq__ => k_is)
    (case lTable___eq__ => k_is)
    (case cTable___eq__ => k_is)
    (case kTable___eq__ => k_is)
    (case aCosts___eq__ => k_is)
    (case iCosts___eq__ => k_is)
    (case lCosts___eq__ => k_is)
    (case cCosts___eq__ => k_is)
    (case kCosts___eq__ => k_is)
    (case pg => k_is)
    (case hd => k_is)
    (case po => k_is)
    (case sa => k_is)
    (case mk => k_is)
    (case kc => k_is)
    (case pgCosts => k_is)
    (case hdCosts => k_is)
    (case poCosts => k_is)
    (case saCosts => k_is)
    (case mkCosts => k_is)
    (case kcCosts => k_is)
    (case pgHistory => k_is)
    (case hdHistory => k_is)
    (case poHistory => k_is)
    (case saHistory => k_is)
    (case mkHistory => k_is)
    (case kcHistory => k_is)
    (case n_columns => k_is)
    (case n_rows => k_is)
    (case k1 => k_is)
    (case k2 => k_is)
    (case k3 => k_is)
    (case k4 => k_is)
    (case z_abs => k_is)
    (case z_all => k_is)
    (case z_any => k_is)
    (case z_bool => k_is)
    (case z_dict => k_is)
    (case z_enumerate => k_is)
    (case z_int => k_is)
    (case z_isinstance => k_is)
    (case z_len => k_is)
    (case z_list => k_is)
    (case z_max => k_is)
    (case z_min => k_is)
    (case z_range => k_is)
    (case z_repr => k_is)
    (case z_reversed => k_is)
    (case z_set => k_is)
    (case z_sorted => k_is)
    (case z_str => k_is)
    (case z_sum => k_is)
    (case z_tuple => k_is)
    (case z_zip => k_is)
    (case aeK => k_is)
    (case xeK => k_is)
    (case saeK => k_is)
    (case gaeK => k_is)
    (case ggeK => k_is)
    (case nbeK => k_is)
    (case ieK => k_is)
    (case teK => k_is)
    (case leK => k_is)
    (case ceK => k_is)
    (case keK => k_is)
    (case eeK => k_is)
    (case tyeK => k_is)
    (case heK => k_is)
    (case iceK => k_is)
    (case seK => k_is)
    (case aeR => k_is)
    (case xeR => k_is)
    (case saeR => k_is)
    (case gaeR => k_is)
    (case ggeR => k_is)
    (case nbeR => k_is)
    (case ieR => k_is)
    (case teR => k_is)
    (case leR => k_is)
    (case ceR => k_is)
    (case keR => k_is)
    (case eeR => k_is)
    (case tyeR => k_is)
    (case heR => k_is)
    (case iceR => k_is)
    (case seR => k_is)
    (case aeW => k_is)
    (case xeW => k_is)
    (case saeW => k_is)
    (case gaeW => k_is)
    (case ggeW => k_is)
    (case nbeW => k_is)
    (case ieW => k_is)
    (case teW => k_is)
    (case leW => k_is)
    (case ceW => k_is)
    (case keW => k_is)
    (case eeW => k_is)
    (case tyeW => k_is)
    (case heW => k_is)
    (case iceW => k_is)
    (case seW => k_is)
    (case aeM => k_is)
    (case xeM => k_is)
    (case saeM => k_is)
    (case gaeM => k_is)
    (case ggeM => k_is)
    (case nbeM => k_is)
    (case ieM => k_is)
    (case teM => k_is)
    (case leM => k_is)
    (case ceM => k_is)
    (case keM => k_is)
    (case eeM => k_is)
    (case tyeM => k_is)
    (case heM => k_is)
    (case iceM => k_is)
    (case seM => k_is)
    (case aeB => k_is)
    (case xeB => k_is)
    (case saeB => k_is)
    (case gaeB => k_is)
    (case ggeB => k_is)
    (case nbeB => k_is)
    (case ieB => k_is)
    (case teB => k_is)
    (case leB => k_is)
    (case ceB => k_is)
    (case keB => k_is)
    (case eeB => k_is)
    (case tyeB => k_is)
    (case heB => k_is)
    (case iceB => k_is)
    (case seB => k_is)
    (case aeT => k_is)
    (case xeT => k_is)
    (case saeT => k_is)
    (case gaeT => k_is)
    (case ggeT => k_is)
    (case nbeT => k_is)
    (case ieT => k_is)
    (case teT => k_is)
    (case leT => k_is)
    (case ceT => k_is)
    (case keT => k_is)
    (case eeT => k_is)
    (case tyeT => k_is)
    (case heT => k_is)
    (case iceT => k_is)
    (case seT => k_is)
    (case aeS => k_is)
    (case xeS => k_is)
    (case saeS => k_is)
    (case gaeS => k_is)
    (case ggeS => k_is)
    (case nbeS => k_is)
    (case ieS => k_is)
    (case teS => k_is)
    (case leS => k_is)
    (case ceS => k_is)
    (case keS => k_is)
    (case eeS => k_is)
    (case tyeS => k_is)
    (case heS => k_is)
    (case iceS => k_is)
    (case seS => k_is)
    (case aeV => k_is)
    (case xeV => k_is)
    (case saeV => k_is)
    (case gaeV => k_is)
    (case ggeV => k_is)
    (case nbeV => k_is)
    (case ieV => k_is)
    (case teV => k_is)
    (case leV => k_is)
    (case ceV => k_is)
    (case keV => k_is)
    (case eeV => k_is)
    (case tyeV => k_is)
    (case heV => k_is)
    (case iceV => k_is)
    (case seV => k_is)
    (case q0 => k_is)
    (case q1 => k_is)
    (case q2 => k_is)
    (case q3 => k_is)
    (case q4 => k_is)
    (case n_cell => k_is)
    (case n_row => k_is)
    (case n_column => k_is)
    (case n_name => k_is)
    (case n_move => k_is)
    (case k6 => k_is)
    (case k7 => k_is)
    (case k8 => k_is)
    (case lDT => k_is)
    (case nh_tables => k_is)
    (case nh_last => k_is)
    (case nh_costs => k_is)
    (case nh_sayings => k_is)
    (case nh_next_number => k_is)
    (case nh_open_trials => k_is)
    (case nh_comparisons => k_is)
    (case tyH => k_is)
    (case icH => k_is)
    (case ocn => k_is)
    (case octk => k_is)
    (case oaTable => k_is)
    (case omTable => k_is)
    (case onTable => k_is)
    (case oaCosts => k_is)
    (case omCosts => k_is)
    (case onCosts => k_is)
    (case oaHistory => k_is)
    (case omHistory => k_is)
    (case onHistory => k_is)
    (case oaEV => k_is)
    (case omEV => k_is)
    (case isEV => k_is)
    (case oaEM => k_is)
    (case omEM => k_is)
    (case isEM => k_is)
