import PyProof.Rows.All
import Wide.All
import OpenK.AllK
import Wide.FinOn
import HandS.ForMost
import HandS.Wide
import HandS.SortKw
import HandS.List
import HandS.More
import HandS.Conv
import HandS.Lambda
import PyProof.TypeEq
import PyProof.InstEq
import HandS.Zip0
import HandS.OwnEq
import KE.KUnpackStar
import HandS.Base
import HandS.SetKeys
import HandS.Defaults
import HandS.IsInst
import HandS.Codes
import HandS.Comp
import HandS.Dict
import PyProof.ReprRoads
import HandS.FStrTup
import HandS.Words
import HandS.EndTab
import HandS.Text
import HandS.SetTxt0
import HandS.FStr
import HandS.Walk
import HandS.Iter
import HandS.Steps
import HandS.StrMore
import HandS.Style
import HandS.Head0
import HandS.Head1
import HandS.Head2
import HandS.HeadEnd
import HandS.HeadHook1
import HandS.HeadHook2
import HandS.HeadHook3
import HandS.HeadHook4
import PySem.Challenge.RW_turnless_k06_texts_of_problems
set_option Elab.async false
set_option linter.all false
set_option maxRecDepth 100000
set_option maxHeartbeats 0
-- part: A0
namespace Toy
open PySem L2
/-! ### readings, evaluated -/
section
variable {D : Ends} {σ : St} {H : Hp} {Q : VK}
theorem e_seq {t u : TS} : tSeq t u D σ H = t { D with nx := u D } σ H := rfl
theorem e_asg {te : TE} {i : Nat} : tAsg te (gName i) D σ H = te σ H fun x H1 => D.nx (σ.set i (some x)) H1 := rfl
theorem e_asgS {te to ti : TE} {t : TSet} : tAsg te (gSub to ti t) D σ H = te σ H fun v H1 => to σ H1 fun o H2 => ti σ H2 fun i H3 => t o i v H3 fun H4 => D.nx σ H4 := rfl
theorem e_ret {te : TE} : tRet te D σ H = te σ H D.rt := rfl
theorem e_ifS {c : TT} {t u : TS} : tIfS c t u D σ H = c σ H fun b H1 => if b = true then t D σ H1 else u D σ H1 := rfl
theorem e_c {v : V} : tC v σ H Q = Q v H := rfl
theorem e_op {r : R2} {ta tb : TE} : tOp r ta tb σ H Q = ta σ H fun x H1 => tb σ H1 fun y H2 => r x y H2 Q := rfl
theorem e_test {te : TE} {q : Bool → Hp → Prop} : tTest te σ H q = te σ H fun x H1 => ∃ c, x = .bl c ∧ q c H1 := rfl
theorem e_rI0 {g : Int → Int → V} {i j : Int} : rI0 g (.int i) (.int j) H Q = Q (g i j) H := by
  refine propext ⟨?_, fun h => ⟨_, _, rfl, rfl, h⟩⟩
  rintro ⟨a, b, e1, e2, h⟩; cases e1; cases e2; exact h
theorem e_rI {C : Int → Int → Prop} {g : Int → Int → V} {i j : Int} : rI C g (.int i) (.int j) H Q = (C i j ∧ Q (g i j) H) := by
  refine propext ⟨?_, fun h => ⟨_, _, rfl, rfl, h⟩⟩
  rintro ⟨a, b, e1, e2, h⟩; cases e1; cases e2; exact h
theorem e_var0 {v : V} {s : List (Option V)} : tVar 0 (some v :: s) H Q = Q v H := by
  refine propext ⟨?_, fun h => ⟨_, rfl, h⟩⟩
  rintro ⟨a, e, h⟩; cases e; exact h
theorem e_varS {o : Option V} {n : Nat} {s : List (Option V)} : tVar (n + 1) (o :: s) H Q = tVar n s H Q := rfl
theorem e_bl {b : Bool} {q : Bool → Prop} : (∃ c, V.bl b = V.bl c ∧ q c) = q b := by
  refine propext ⟨?_, fun h => ⟨_, rfl, h⟩⟩
  rintro ⟨a, e, h⟩; cases e; exact h
theorem e_nil {q : List V → Hp → Prop} : tNil σ H q = q [] H := rfl
theorem e_cons {ta : TE} {t : TA} {q : List V → Hp → Prop} : tCons ta t σ H q = ta σ H fun x H1 => t σ H1 fun xs H2 => q (x :: xs) H2 := rfl
theorem e_call {sp : Sp} {dvs : List V} {E : XK} {t : TA} : tCall sp dvs E t σ H Q = t σ H fun vs H1 => sp (vs ++ dvs) H1 Q E := rfl
theorem e_cb {r : List V → Hp → VK → Prop} {t : TA} : tCB r t σ H Q = t σ H fun vs H1 => r vs H1 Q := rfl
theorem e_next : tNext D σ H = D.nx σ H := rfl
theorem e_bl2 {b : Bool} {q : Bool → Hp → Prop} : (∃ c, V.bl b = V.bl c ∧ q c H) = q b H := by
  refine propext ⟨?_, fun h => ⟨_, rfl, h⟩⟩
  rintro ⟨a, e, h⟩; cases e; exact h
end
section
variable {D : Ends} {σ : St} {H : Hp} {Q : VK}
theorem e_and {a b : TE} : tAndV a b σ H Q = a σ H fun x H1 => ∃ c, x = .bl c ∧ if c = true then b σ H1 Q else Q (.bl false) H1 := rfl
theorem e_chain {r r' : R2} {a b c : TE} : tChain r r' a b c σ H Q = a σ H fun x H1 => b σ H1 fun y H2 => r x y H2 fun z H3 => ∃ k, z = .bl k ∧ (if k = true then c σ H3 fun w' H4 => r' y w' H4 Q else Q (.bl false) H3) := rfl
theorem e_tif {t : TT} {a b : TE} : tIf t a b σ H Q = t σ H fun c H1 => if c = true then a σ H1 Q else b σ H1 Q := rfl
theorem e_not {t : TT} {q : Bool → Hp → Prop} : tNot t σ H q = t σ H fun c H1 => q (!c) H1 := rfl
theorem e_tb {t : TE} {q : Bool → Hp → Prop} : tB t σ H q = t σ H fun x H1 => ∃ c, x = .bl c ∧ q c H1 := rfl
theorem e_drop {te : TE} : tDrop te D σ H = te σ H fun _ H1 => D.nx σ H1 := rfl
theorem e_or {t u : TT} {q : Bool → Hp → Prop} : tOr t u σ H q = t σ H fun c H1 => if c = true then q true H1 else u σ H1 q := rfl
theorem e_andT {t u : TT} {q : Bool → Hp → Prop} : tAnd t u σ H q = t σ H fun c H1 => if c = true then u σ H1 q else q false H1 := rfl
theorem e_din {ty td : TE} : tDIn ty td σ H Q = ty σ H fun y H1 => td σ H1 fun x H2 => ∃ a o, x = .ref a ∧ DGet H2 a y o ∧ Q (.bl o.isSome) H2 := rfl
theorem e_dnotin {ty td : TE} : tDNotIn ty td σ H Q = ty σ H fun y H1 => td σ H1 fun x H2 => ∃ a o, x = .ref a ∧ DGet H2 a y o ∧ Q (.bl (!o.isSome)) H2 := rfl
theorem e_un {r : V → Hp → VK → Prop} {ta : TE} : tUn r ta σ H Q = ta σ H fun x H1 => r x H1 Q := rfl
theorem e_rU {g : Int → V} {i : Int} : rU g (.int i) H Q = Q (g i) H := by
  refine propext ⟨?_, fun h => ⟨_, rfl, h⟩⟩
  rintro ⟨a, e, h⟩; cases e; exact h
theorem e_dput {td ty tv : TE} : sDPut td ty tv D σ H = tv σ H fun v H1 => td σ H1 fun x H2 => ty σ H2 fun y H3 => ∃ a H4, x = .ref a ∧ DPut H3 a y v H4 ∧ D.nx σ H4 := rfl
theorem e_x1 {v : V} {q : V → Prop} : (∃ x, [v] = [x] ∧ q x) = q v := by
  refine propext ⟨?_, fun h => ⟨_, rfl, h⟩⟩
  rintro ⟨i, e, h⟩; cases e; exact h
theorem e_notV {a : TE} : tNotV a σ H Q = a σ H fun x H1 => ∃ c, x = .bl c ∧ Q (.bl (!c)) H1 := rfl
theorem e_orV {a b : TE} : tOrV a b σ H Q = a σ H fun x H1 => ∃ c, x = .bl c ∧ if c = true then Q (.bl true) H1 else b σ H1 Q := rfl
theorem e_fld {K : PySem.W.Frag} {ta tv : TE} {f : Str} : sFld K ta tv f D σ H = tv σ H fun y H1 => ta σ H1 fun x H2 => ∃ a C dx fs, x = .ref a ∧ H2 a = some (.ins C dx fs) ∧ Cls K C ∧ NoAttr K C f ∧ fs.length < 1000 ∧ D.nx σ (upd H2 a (.ins C dx (putF f y fs))) := rfl
theorem e_par {i j : Nat} {ta : TA} : tPar i j ta D σ H = ta σ H fun vs H1 => ∃ v w, vs = [v, w] ∧ D.nx ((σ.set i (some v)).set j (some w)) H1 := rfl
theorem e_vw {a b : V} {q : V → V → Prop} : (∃ v w, [a, b] = [v, w] ∧ q v w) = q a b := by
  refine propext ⟨?_, fun h => ⟨_, _, rfl, h⟩⟩
  rintro ⟨i, j, e, h⟩; cases e; exact h
theorem e_dnewK : tDNewK σ H Q = ∀ p, H p = none → Q (.ref p) (upd H p (.dK [])) := rfl
theorem e_gName {i : Nat} {v : V} {q : St → Hp → Prop} : gName i v σ H q = q (σ.set i (some v)) H := rfl
theorem e_bm {K : PySem.W.Frag} {T : String} {r : V → List V → Hp → VK → Prop} {to : TE} {t : TA} : tBM K T r to t σ H Q = to σ H fun x H1 => tyV K T x H1 ∧ t σ H1 fun xs H2 => r x xs H2 Q := rfl
theorem e_i1 {a : Int} {q : Int → Prop} : (∃ i, [V.int a] = [V.int i] ∧ q i) = q a := by
  refine propext ⟨?_, fun h => ⟨_, rfl, h⟩⟩
  rintro ⟨i, e, h⟩; cases e; exact h
end
theorem p_ix {K : PySem.W.Frag} {H : Hp} {Q : VK} {p : Addr} {xs : List V} {i : Int} {v : V} (h : SqL K H p xs) (e : atI xs i = some v) (q : Q v H) : rIxL K (.ref p) (.int i) H Q := ⟨p, xs, i, v, rfl, rfl, h, e, q⟩
theorem p_set {H : Hp} {Q : Hp → Prop} {p : Addr} {xs : List V} {i : Int} {j : Nat} {v : V} (h : H p = some (.lst xs)) (e : ixN xs.length i = some j) (q : Q (upd H p (.lst (xs.set j v)))) : rSetL (.ref p) (.int i) v H Q := ⟨p, xs, i, j, rfl, rfl, h, e, q⟩
theorem e_cxK {CX : CXT} {P : Program} {w : World} {K : PySem.W.Frag} {mg : Str → Option Value} {base : Heap} {N : List Str} {qual : Str} {sc : Scope} {f : Addr} {cdv : Value} {A : Around} {outer : List Env} {s : Shared} {H : Hp} {E : XK} : (cxOf CX P w K mg base N qual sc f cdv A outer s H E).K = K := rfl
theorem e_ii {a b : Int} {q : Int → Int → Prop} : (∃ i j, [V.int a, V.int b] = [V.int i, V.int j] ∧ q i j) = q a b := by
  refine propext ⟨?_, fun h => ⟨_, _, rfl, h⟩⟩
  rintro ⟨i, j, e, h⟩; cases e; exact h
theorem e_lst {t : TA} {σ : St} {H : Hp} {Q : VK} : tLst t σ H Q = t σ H fun xs H1 => xs.length ≤ sizeLine ∧ ∀ p, H1 p = none → Q (.ref p) (upd H1 p (.lst xs)) := rfl
theorem e_tup {t : TA} {σ : St} {H : Hp} {Q : VK} : tTup t σ H Q = t σ H fun xs H1 => xs.length ≤ sizeLine ∧ ∀ p, H1 p = none → Q (.ref p) (upd H1 p (.tup xs)) := rfl
theorem p_neD {K : PySem.W.Frag} {H : Hp} {Q : VK} {x y : V} {d e : PyData} (hd : Dp K H x d) (he : Dp K H y e) (sd : SeqAt.shaped d = true) (se : SeqAt.shaped e = true) (q : Q (.bl (!PyData.eqv d e)) H) : rNeD K x y H Q := ⟨d, e, hd, he, sd, se, q⟩
theorem p_eqD {K : PySem.W.Frag} {H : Hp} {Q : VK} {x y : V} {d e : PyData} (hd : Dp K H x d) (he : Dp K H y e) (sd : SeqAt.shaped d = true) (se : SeqAt.shaped e = true) (q : Q (.bl (PyData.eqv d e)) H) : rEqD K x y H Q := ⟨d, e, hd, he, sd, se, q⟩
theorem at_ints {ns : List Int} {i : Int} (h0 : 0 ≤ i) (h1 : i < ns.length) : ∃ z, atI (ns.map V.int) i = some (V.int z) := by
  obtain ⟨j, rfl⟩ := Int.eq_ofNat_of_zero_le h0
  have hj : j < ns.length := by omega
  refine ⟨ns[j], atI_nat ?_⟩
  rw [List.getElem?_map, List.getElem?_eq_getElem hj]
  rfl
theorem p_app {H : Hp} {Q : VK} {l : Addr} {xs : List V} {y : V} (h : H l = some (.lst xs)) (z : xs.length < sizeLine) (q : Q .non (upd H l (.lst (xs ++ [y])))) : rAppend (.ref l) [y] H Q := ⟨l, xs, y, rfl, rfl, h, z, q⟩
/-! ### what stands but for one object -/
def Ex (d : Addr) (H H' : Hp) : Prop := ∀ b o, H b = some o → b ≠ d → H' b = some o
theorem Ex.refl (d : Addr) (H : Hp) : Ex d H H := fun _ _ h _ => h
theorem Ex.trans {d : Addr} {H H1 H2 : Hp} (a : Ex d H H1) (b : Ex d H1 H2) : Ex d H H2 := fun c o h n => b c o (a c o h n) n
theorem Ex.new {d p : Addr} {H : Hp} {o : HO} (h : H p = none) : Ex d H (upd H p o) := fun b u e _ => by rw [upd_ne (ne_of_none e h)]; exact e
theorem Ex.at {d : Addr} {H : Hp} {o : HO} : Ex d H (upd H d o) := fun b u e n => by rw [upd_ne n]; exact e
theorem Ex.same {d : Addr} {H H' : Hp} (e : Same H H') : Ex d H H' := fun b o h _ => e b o h
theorem Ex.sql {d : Addr} {K : PySem.W.Frag} {H H' : Hp} {a : Addr} {xs : List V} (e : Ex d H H') (n : a ≠ d) (h : SqL K H a xs) : SqL K H' a xs := by
  rcases h with (h | ⟨o, h⟩) | h
  · exact .inl (.inl (e _ _ h n))
  · exact .inl (.inr ⟨o, e _ _ h n⟩)
  · exact .inr h
theorem Same.new {p : Addr} {H : Hp} {o : HO} (h : H p = none) : Same H (upd H p o) := fun b u e => by rw [upd_ne (ne_of_none e h)]; exact e
/-- the draws: a list of the script and a count -/
structure Dr (K : PySem.W.Frag) (H : Hp) (d sc : Addr) (ns : List Int) (n : Int) : Prop where
  dr : H d = some (.lst [.ref sc, .int n])
  sq : SqL K H sc (ns.map V.int)
  len : ns.length ≤ 63
  pos : 0 ≤ n
def DrOk (K : PySem.W.Frag) (H : Hp) (d : Addr) : Prop := ∃ sc ns n, Dr K H d sc ns n
theorem DrOk.same {K : PySem.W.Frag} {H H' : Hp} {d : Addr} (e : Same H H') : DrOk K H d → DrOk K H' d := fun ⟨sc, ns, n, h⟩ => ⟨sc, ns, n, e _ _ h.dr, Same.seq e h.sq, h.len, h.pos⟩
theorem DrOk.nd {K : PySem.W.Frag} {H : Hp} {d p : Addr} (h : DrOk K H d) (hp : H p = none) : p ≠ d := fun e => by
  obtain ⟨sc, ns, n, D⟩ := h
  rw [e, D.dr] at hp
  cases hp
theorem ne_ints {sc : Addr} {n : V} {ns : List Int} {r : List V} : ns.map V.int ≠ V.ref sc :: r := fun e => by
  cases ns with
  | nil => cases e
  | cons a l => cases e
theorem Dr.sqx {K : PySem.W.Frag} {H H' : Hp} {d sc : Addr} {ns : List Int} {n : Int} (D : Dr K H d sc ns n) (e : Ex d H H') : SqL K H' sc (ns.map V.int) := by
  have h := D.sq
  have hd := D.dr
  rcases h with (h | ⟨o, h⟩) | h
  · exact .inl (.inl (e _ _ h fun z => by
      rw [z, hd] at h
      exact ne_ints (n := .non) (HO.lst.inj (Option.some.inj h)).symm))
  · exact .inl (.inr ⟨o, e _ _ h fun z => by
      rw [z, hd] at h
      cases h⟩)
  · exact .inr h
def DrA (K : PySem.W.Frag) (sc : Addr) (ns : List Int) (H : Hp) (d : Addr) : Prop := ∃ n, Dr K H d sc ns n
theorem DrA.same {K : PySem.W.Frag} {sc : Addr} {ns : List Int} {H H' : Hp} {d : Addr} (e : Same H H') : DrA K sc ns H d → DrA K sc ns H' d := fun ⟨n, h⟩ => ⟨n, e _ _ h.dr, Same.seq e h.sq, h.len, h.pos⟩
theorem DrA.nd {K : PySem.W.Frag} {sc : Addr} {ns : List Int} {H : Hp} {d p : Addr} (h : DrA K sc ns H d) (hp : H p = none) : p ≠ d := DrOk.nd ⟨_, _, h⟩ hp
/-- a write to an object that was made since -/
theorem DrA.up {K : PySem.W.Frag} {sc : Addr} {ns : List Int} {H0 H : Hp} {d p : Addr} {o : HO} (h0 : DrA K sc ns H0 d) (h : DrA K sc ns H d) (e : Ex d H0 H) (hp : H0 p = none) : DrA K sc ns (upd H p o) d := by
  obtain ⟨n0, D0⟩ := h0
  obtain ⟨n, D⟩ := h
  have nd := DrA.nd ⟨n0, D0⟩ hp
  exact ⟨n, by rw [upd_ne (Ne.symm nd)]; exact D.dr, Dr.sqx D0 (fun b o hb n => by rw [upd_ne (ne_of_none hb hp)]; exact e b o hb n), D.len, D.pos⟩
theorem Ex.up {d p : Addr} {H0 H : Hp} {o : HO} (e : Ex d H0 H) (hp : H0 p = none) : Ex d H0 (upd H p o) := fun b o hb n => by rw [upd_ne (ne_of_none hb hp)]; exact e b o hb n
theorem can_ints : ∀ (l : List Int), PyData.canLayAll0 (l.map PyData.int) = true
  | [] => by simp [PyData.canLayAll0]
  | i :: r => by simp [PyData.canLayAll0, PyData.canLay0, can_ints r]
theorem dep_ints : ∀ (l : List Int), PyData.depthAll (l.map PyData.int) ≤ 1
  | [] => by simp [PyData.depthAll]
  | i :: r => by
    have h := dep_ints r
    simp [PyData.depthAll, PyData.depth] <;> omega
theorem shaped_lints (l : List Int) : SeqAt.shaped (.list (l.map PyData.int)) = true := by
  have h := dep_ints l
  unfold SeqAt.shaped
  rw [Bool.and_eq_true]
  refine ⟨by simp [PyData.canLay0, can_ints], decide_eq_true ?_⟩
  simp only [PyData.depth]
  omega
theorem dp_ints {K : PySem.W.Frag} {H : Hp} : ∀ (l : List Int), DpAll K H (l.map V.int) (l.map PyData.int)
  | [] => .nil
  | i :: r => .cons (.int i) (dp_ints r)
end Toy

-- part: SK1
namespace SrtQ
open PySem PyProof.Rows Srt SrtO
section
variable {prog : Program} {w : World} {A : Around} {E : Value → Shared → Prop} {s : Shared} {a kS : Addr} {e1 : Nat} {vs : List Value}
/-- what runs behind the keys: out is made of the pairs (key, item) in order -/
def Good (ltk : Value → Value → Bool) (ks vs out : List Value) : Prop := ∃ ps : List Keyed, Srtd (lt2 ltk) ps ∧ Stb (lt2 ltk) ps (ks.zip vs) ∧ out = ps.map (·.2)
def endH (h : Heap) (a kS : Addr) (out : List Value) : Heap := (h.update kS (Obj.mapSeq fun _ => (#[] : Array Value))).update a (Obj.mapSeq fun _ => out.toArray)
theorem zip_arr (ks vs : List Value) : (ks.toArray.zip vs.toArray).toList = ks.zip vs := by
  rw [ksk_zip]
theorem tail_ {ltk : Value → Value → Bool} {ks : List Value} {e : Nat} {st : SortSt} {R : PySem.Fin → Shared → Prop} (hka : kS ≠ a) (hk : s.heap.get? kS = some (seqObj "list" ks.toArray e)) (ha : s.heap.get? a = some (seqObj "list" #[] e1))
    (hl : ks.length = vs.length) (hz : vs.length ≤ sizeLine) (h1 : Srtd (lt2 ltk) (arrOf st).toList) (h2 : Stb (lt2 ltk) (arrOf st).toList (ks.zip vs)) (hf : failedOf st = none)
    (h : ∀ out tk, Good ltk ks vs out → R (.done (.ret .none)) { s with heap := endH s.heap a kS out, toks := tk }) :
    wpAny (model prog w) A (ksk_tail a false e1 (.ref kS) st) R E s := by
  have s1 := Heap.SameBut.update s.heap kS (Obj.mapSeq fun _ => (#[] : Array Value))
  have na1 : (s.heap.update kS (Obj.mapSeq fun _ => (#[] : Array Value))).get? a = some (seqObj "list" #[] e1) := (s1.2 a hka.symm).trans ha
  have hsz : (arrOf st).size = vs.length := by
    have q := h2.len
    rw [Array.length_toList, List.length_zip, hl, Nat.min_self] at q
    exact q
  unfold ksk_tail
  try dsimp only
  refine wpAny_bind (listUpdate_at hk rfl ?_ (by rw [List.size_toArray, hl]; exact hz) (Nat.zero_le _))
  refine wpAny_bind (wpAny_letGo ?_)
  refine wpAny_bind (seqEpoch_at na1 rfl ?_)
  refine wpAny_bind (listUpdate_at na1 rfl ?_ (Nat.zero_le _) ?_)
  · rw [hf]
    simp only [bne_self_eq_false, Bool.false_eq_true, if_false]
    have q := h ((arrOf st).toList.map (·.2)) s.toks ⟨_, h1, h2, rfl⟩
    have e2 : ((arrOf st).toList.map (·.2)).toArray = (arrOf st).map (·.2) := by
      apply Array.ext'
      simp
    unfold endH at q
    rw [e2] at q
    exact wpAny_pure q
  · simp only [Bool.false_eq_true, if_false, Array.size_map]
    omega
theorem end_ {ltk : Value → Value → Bool} {ks : List Value} {e : Nat} {R : PySem.Fin → Shared → Prop} (O : Swo ltk) (hka : kS ≠ a) (hk : s.heap.get? kS = some (seqObj "list" ks.toArray e)) (ha : s.heap.get? a = some (seqObj "list" #[] e1))
    (hl : ks.length = vs.length) (hz : vs.length ≤ sizeLine)
    (hS : 2 ≤ vs.length → ∃ κ, (∀ (Q : SortKind → Shared → Prop) (E : Value → Shared → Prop), Q κ s → wpAny (model prog w) A (keyKind' ks.toArray) Q E s) ∧ Cmp prog w A s κ (fun p => p.1 ∈ ks) (lt2 ltk))
    (h : ∀ out tk, Good ltk ks vs out → R (.done (.ret .none)) { s with heap := endH s.heap a kS out, toks := tk }) :
    wpAny (model prog w) A (ksk_end a false vs.toArray e1 (.ref kS) ks.toArray) R E s := by
  unfold ksk_end
  try dsimp only
  simp only [Bool.false_eq_true, if_false]
  by_cases h2 : vs.toArray.size < 2
  · rw [if_pos h2, if_pos h2]
    refine wpAny_bind (wpAny_pure ?_)
    rw [StateT.run_pure]
    refine wpAny_bind (wpAny_pure ?_)
    try dsimp only
    refine tail_ (st := SortSt.mk' general' (ks.toArray.zip vs.toArray) #[] 7 none) hka hk ha hl hz ?_ ?_ rfl h
    · show Srtd (lt2 ltk) (ks.toArray.zip vs.toArray).toList
      rw [zip_arr]
      rw [List.size_toArray] at h2
      match ks, vs, hl, h2 with
      | [], [], _, _ => exact List.Pairwise.nil
      | [k], [v], _, _ => exact List.pairwise_singleton _ _
      | _ :: _ :: _, _, hl, h2 => exact absurd h2 (by rw [← hl, List.length_cons, List.length_cons]; omega)
    · show Stb (lt2 ltk) (ks.toArray.zip vs.toArray).toList _
      rw [zip_arr]
      exact Stb.refl _
  · rw [if_neg h2, if_neg h2]
    rw [List.size_toArray] at h2
    obtain ⟨κ, hkind, hT⟩ := hS (by omega)
    refine wpAny_bind (hkind _ _ ?_)
    have hall : AllL (fun p : Keyed => p.1 ∈ ks) (ks.toArray.zip vs.toArray).toList := fun p hm => by
      rw [zip_arr] at hm
      exact (List.of_mem_zip hm).1
    refine wpAny_bind (wpAny_mono (wpS_sortO (st0 := SortSt.mk' κ (ks.toArray.zip vs.toArray) #[] 7 none)
      (Q := fun _ st' => Srtd (lt2 ltk) (arrOf st').toList ∧ Stb (lt2 ltk) (arrOf st').toList (ks.toArray.zip vs.toArray).toList ∧ failedOf st' = none) (swo2 O) hT rfl hall rfl rfl fun st' a1 a2 a3 => ⟨a1, a2, a3⟩) ?_ fun _ _ e => e)
    rintro ⟨⟨⟩, st'⟩ s' ⟨rfl, hp1, hp2, hf⟩
    try dsimp only
    rw [zip_arr] at hp2
    exact tail_ hka hk ha hl hz hp1 hp2 hf h
/-- the keys are asked one by one; J: what is kept meanwhile, of the keys so far and of the list that takes them -/
theorem rest_ {f : Value} {R : PySem.Fin → Shared → Prop} (J : List Value → Obj → Shared → Prop) (hka : kS ≠ a)
    (hJ : ∀ ks o s', J ks o s' → s'.heap.get? kS = some o ∧ s'.heap.get? a = some (seqObj "list" #[] e1))
    (up : ∀ ks o s' ks' c, J ks o s' → (s'.heap.update kS (Obj.mapSeq fun x => x.push ks')).get? kS = some c → c.cls = .type "list" → (∀ v, c.data ≠ .cell v) → J ks c { s' with heap := s'.heap.update kS (Obj.mapSeq fun x => x.push ks') })
    (step : ∀ i x ks o s', vs[i]? = some x → ks.length = i → J ks o s' → wpAny (model prog w) A (call f [x]) (fun k s'' => J (ks ++ [k]) o s'') (fun _ _ => False) s')
    (hz : vs.length ≤ sizeLine) (h0 : J [] (seqObj "list" #[] 0) s)
    (fin : ∀ ks e s', J ks (seqObj "list" ks.toArray e) s' → ks.length = vs.length → ∃ ltk : Value → Value → Bool, Swo ltk ∧
      (2 ≤ vs.length → ∃ κ, (∀ (Q : SortKind → Shared → Prop) (E : Value → Shared → Prop), Q κ s' → wpAny (model prog w) A (keyKind' ks.toArray) Q E s') ∧ Cmp prog w A s' κ (fun p => p.1 ∈ ks) (lt2 ltk)) ∧
      ∀ out tk, Good ltk ks vs out → R (.done (.ret .none)) { s' with heap := endH s'.heap a kS out, toks := tk }) :
    wpAny (model prog w) A (ksk_rest a f false vs.toArray e1 (.ref kS)) R E s := by
  unfold ksk_rest
  refine wpAny_bind (wpAny_rule ?_)
  first
    | rw [List.forIn_toArray]
    | (rw [← Array.forIn_toList]; simp only [List.toList_toArray])
    | rw [← Array.forIn_toList]
  refine wpAny_bind (ksk_fold (fun i s' => ∃ ks e, ks.length = i ∧ J ks (seqObj "list" ks.toArray e) s') vs 0 s ⟨[], 0, rfl, h0⟩ ?step ?done)
  case step =>
    rintro j x s' hx ⟨ks, e, hl, hj⟩
    simp only [Nat.zero_add] at hl ⊢
    have hlt : j < vs.length := (List.getElem?_eq_some_iff.mp hx).1
    refine wpAny_bind (wpAny_attempt (wpAny_mono (step j x ks _ s' hx hl hj) (fun k s'' he => ?_) fun _ _ hF => hF.elim))
    have nk := (hJ _ _ _ he).1
    obtain ⟨c2, hc2⟩ : ∃ c2, (s''.heap.update kS (Obj.mapSeq (·.push k))).get? kS = some (seqObj "list" (ks.toArray.push k) c2) := ⟨_, get?_update_seq nk (·.push k)⟩
    try dsimp only
    refine wpAny_bind (listUpdate_at nk rfl ?_ (by rw [List.size_toArray]; omega) (by rw [Array.size_push, List.size_toArray]; omega))
    refine wpAny_pure ⟨rfl, ks ++ [k], c2, by rw [List.length_append, hl]; rfl, ?_⟩
    have q := up _ _ _ k _ he hc2 rfl (fun v z => by cases z)
    have e3 : (ks ++ [k]).toArray = ks.toArray.push k := by simp
    rw [e3]
    exact q
  case done =>
    rintro s' ⟨ks, e, hl, hj⟩
    simp only [Nat.zero_add] at hl
    obtain ⟨nk, na⟩ := hJ _ _ _ hj
    try dsimp only
    refine wpAny_bind (listItems_at nk rfl ?_)
    obtain ⟨ltk, O, h1, h2⟩ := fin _ _ _ hj hl
    exact end_ O hka nk na hl hz h1 h2
end
end SrtQ

-- part: SK2
namespace L2
open PySem PySem.Spec PyProof.Rows SrtO SrtQ
/-- a value without its token -/
def toV : Value → V
  | .none => .non
  | .bool b => .bl b
  | .int i _ => .int i
  | .str x _ => .str x
  | .bytes b _ => .byt b
  | .float b _ => .flt b
  | .ref a => .ref a
  | .type n => .ty n
  | _ => .non
theorem toV_of {x : V} {u : Value} (r : RelV x u) : toV u = x := by
  cases x with
  | non => cases r; rfl
  | bl b => cases r; rfl
  | int i => obtain ⟨t, rfl⟩ := r; rfl
  | str x => obtain ⟨t, rfl⟩ := r; rfl
  | byt b => obtain ⟨t, rfl⟩ := r; rfl
  | flt b => obtain ⟨t, rfl⟩ := r; rfl
  | ref a => cases r; rfl
  | ty n => cases r; rfl
theorem vals_toV : ∀ {xs : List V} {us : List Value}, Vals xs us → xs = us.map toV
  | _, _, .nil => rfl
  | _, _, .cons r t => by rw [List.map_cons, toV_of r, ← vals_toV t]
theorem vals_mem : ∀ {xs : List V} {us : List Value}, Vals xs us → ∀ u ∈ us, RelV (toV u) u
  | _, _, .cons r t, u, h => by
    rcases List.mem_cons.mp h with e | h
    · rw [e, toV_of r]; exact r
    · exact vals_mem t u h
theorem vals_of : ∀ {us : List Value}, (∀ u ∈ us, RelV (toV u) u) → Vals (us.map toV) us
  | [], _ => .nil
  | u :: us, h => .cons (h u List.mem_cons_self) (vals_of fun v hv => h v (List.mem_cons_of_mem _ hv))
/-- an untracked object of ours is tracked from here on -/
theorem Inv.track {X : Cx} {pins : List (Addr × Obj)} {σ : St} {H : Hp} {s : Shared} {D : Addr} {o : HO} (I : Inv X pins σ H s) (fD : FpOk X pins H D) (new : ObjOk X.prog X.w (upd H D o) s.heap D o) : Inv X pins σ (upd H D o) s := by
  have hok : HOk X.prog X.w (upd H D o) s.heap := fun b u e => by
    by_cases hb : b = D
    · subst hb; rw [upd_same] at e; cases e; exact new
    · rw [upd_ne hb] at e
      exact (I.hok b u e).stay (fun c v _ q => q) (fun c q => by rw [upd_ne (ne_of_none q fD.1)]; exact q) fun c xs q => by rw [upd_ne (ne_of_none q fD.1)]; exact q
  have q := I.step (g' := s.gens) (d' := s.drawn) (t' := s.toks) (h' := s.heap) (H' := upd H D o) (ch := [D]) (fun b hb => by
      rw [List.mem_singleton.mp hb]
      exact ⟨fD.2.2.2.1, fD.2.1, fD.2.2.2.2.1, fD.2.2.2.2.2⟩)
    (fun b o _ _ _ e _ => e) (fun b o _ _ _ e _ => ⟨o.slots, e⟩) (fun b o hc e n => by rw [upd_ne fun z => hc (by rw [z]; exact List.mem_singleton.mpr rfl)]; exact n) (fun b o _ e => ⟨o, e⟩)
    (fun b xs e => by rw [upd_ne (ne_of_none e fD.1)]; exact e) (fun b o u e => by rw [upd_ne (ne_of_none e fD.1)]; exact e) (fun b ps e => ⟨#[], by rw [upd_ne (ne_of_none e fD.1), e]; simp⟩) (fun m h => h) hok I.bare
  exact q
section
variable {X : Cx} {pins : List (Addr × Obj)} {σ : St} {H : Hp} {s : Shared} {f : Value} {its : List Value} {xs : List V} {R : Result → Shared → Prop} {Q : VK}
/-- what is left of sorted once the items are gathered -/
def sortRest (its : List Value) (kw : List (Str × Value)) : Sem PySem.Fin := do
  let l ← newList its
  let _ ← holding [l] (call (.builtin "list.sort") [l] kw)
  ret l
/-- the pairs (key, item) in order -/
def GoodP (ltk : Value → Value → Bool) (ks its : List Value) (ps : List (Value × Value)) : Prop := Srtd (lt2 ltk) ps ∧ ps.Perm (ks.zip its)
theorem sort_part {E : Value → Shared → Prop} {Z : PySem.Fin → Shared → Prop} (I : Inv X pins σ H s) (rv : Vals xs its) (hz : its.length ≤ sizeLine) (W : List V → Hp → Prop) (w0 : W [] H)
    (ht : ∀ a : Addr, Builtin.«list.sort» ⟨[.ref a], [(Str.ofString "key", f)]⟩ = ksk_tree a f false) (ha2 : ∀ a, argsOk "list.sort" ⟨[a], [(Str.ofString "key", f)]⟩)
    (step : ∀ (pins' : List (Addr × Obj)) (s' : Shared) (H' : Hp) (i : Nat) (x : V) (u : Value) (kv : List V), (∀ p ∈ pins, p ∈ pins') → Inv X pins' σ H' s' → RelV x u → xs[i]? = some x → kv.length = i → W kv H' →
      wpAny (model X.prog X.w) X.A.in1.in1 (call f [u]) (fun k s'' => ∃ kx H'', RelV kx k ∧ Inv X pins' σ H'' s'' ∧ W (kv ++ [kx]) H'') (fun _ _ => False) s')
    (fin : ∀ (pins : List (Addr × Obj)) (kv : List V) (ks : List Value) (H' : Hp) (s' : Shared), Inv X pins σ H' s' → Vals kv ks → W kv H' → kv.length = xs.length → ∃ ltk : Value → Value → Bool, Swo ltk ∧
      (2 ≤ its.length → ∃ κ, (∀ (Q : SortKind → Shared → Prop) (E : Value → Shared → Prop), Q κ s' → wpAny (model X.prog X.w) X.A.in1.in1 (keyKind' ks.toArray) Q E s') ∧ Cmp X.prog X.w X.A.in1.in1 s' κ (fun p => p.1 ∈ ks) (lt2 ltk)) ∧
      ∀ ps : List (Value × Value), GoodP ltk ks its ps → ∀ p, H' p = none → Q (.ref p) (upd H' p (.lst (ps.map fun q => toV q.2))))
    (hZ : ∀ v s', EP X pins σ Q v s' → Z (.done (.ret v)) s') :
    wpAny (model X.prog X.w) X.A.in1 (sortRest its [(Str.ofString "key", f)]) Z E s := by
  unfold sortRest
  refine wpAny_bind (wpAny_newList ?_ hz)
  have ho : (s.heap.push (seqObj "list" its.toArray 0)).get? s.heap.objs.size = some (seqObj "list" its.toArray 0) := Heap.get?_push_size _ rfl
  generalize hD : s.heap.objs.size = D at *
  show wpAny _ _ _ _ _ { s with heap := s.heap.push (seqObj "list" its.toArray 0) }
  refine wpAny_bind (wpAny_holding (wpAny_call_entry_kw slot_list_sort ⟨_, ho, rfl⟩ entry_list_sort ?body (ha2 _)))
  case body =>
    show wpAny (model X.prog X.w) X.A.in1.in1 (Builtin.«list.sort» ⟨[.ref D], [(Str.ofString "key", f)]⟩) _ _ _
    rw [ht]
    unfold ksk_tree
    refine wpAny_bind (listItems_at ho rfl ?_)
    refine wpAny_bind (listUpdate_at ho rfl ?_ (by rw [List.size_toArray]; exact hz) (Nat.zero_le _))
    obtain ⟨e1, ho1⟩ : ∃ e1, ((s.heap.push (seqObj "list" its.toArray 0)).update D (Obj.mapSeq fun _ => (#[] : Array Value))).get? D = some (seqObj "list" #[] e1) := ⟨_, get?_update_seq ho fun _ => #[]⟩
    refine wpAny_bind (seqEpoch_at ho1 rfl ?_)
    refine wpAny_bind (wpAny_newTuple ?_ (by show its.length ≤ _; exact hz))
    refine wpAny_bind (wpAny_newList ?_ (Nat.zero_le _))
    refine wpAny_holding ?_
    have z1 : ((s.heap.push (seqObj "list" its.toArray 0)).update D (Obj.mapSeq fun _ => (#[] : Array Value))).objs.size = D + 1 := by rw [Heap.size_update, size_push', hD]
    have z2 : (((s.heap.push (seqObj "list" its.toArray 0)).update D (Obj.mapSeq fun _ => (#[] : Array Value))).push (seqObj "tuple" its.toArray 0)).objs.size = D + 2 := by rw [size_push', z1]
    have hk0 : ((((s.heap.push (seqObj "list" its.toArray 0)).update D (Obj.mapSeq fun _ => (#[] : Array Value))).push (seqObj "tuple" its.toArray 0)).push (seqObj "list" #[] 0)).get? (D + 2) = some (seqObj "list" #[] 0) := by
      rw [← z2]; exact Heap.get?_push_size _ rfl
    have hD0 : ((((s.heap.push (seqObj "list" its.toArray 0)).update D (Obj.mapSeq fun _ => (#[] : Array Value))).push (seqObj "tuple" its.toArray 0)).push (seqObj "list" #[] 0)).get? D = some (seqObj "list" #[] e1) :=
      Heap.get?_push_of_some _ (Heap.get?_push_of_some _ ho1)
    have keep : ∀ b o, s.heap.get? b = some o → ((((s.heap.push (seqObj "list" its.toArray 0)).update D (Obj.mapSeq fun _ => (#[] : Array Value))).push (seqObj "tuple" its.toArray 0)).push (seqObj "list" #[] 0)).get? b = some o := fun b o q => by
      have hlt : b < D := by rw [← hD]; exact Heap.lt_size q
      refine Heap.get?_push_of_some _ (Heap.get?_push_of_some _ ?_)
      rw [Heap.get?_update_ne _ _ _ _ (Nat.ne_of_lt hlt)]
      exact Heap.get?_push_of_some _ q
    rw [z2]
    have hl : its.length = xs.length := rv.length.symm
    generalize hG : ((((s.heap.push (seqObj "list" its.toArray 0)).update D (Obj.mapSeq fun _ => (#[] : Array Value))).push (seqObj "tuple" its.toArray 0)).push (seqObj "list" #[] 0)) = G at hk0 hD0 keep
    show wpAny _ _ (ksk_rest D f false its.toArray e1 (.ref (D + 2))) _ _ { s with heap := G }
    have I0 : Inv X pins σ H { s with heap := G } := I.kept (t' := s.toks) keep
    have fD : FpOk X pins H D := I.fpOk (Nat.le_of_eq hD) (I.hok.fresh (Nat.le_of_eq hD))
    have fS : FpOk X pins H (D + 2) := I.fpOk (by omega) (I.hok.fresh (by omega))
    -- the pins of the two lists
    have pin2 : ∀ {H' : Hp} {s' : Shared} {o : Obj}, Inv X pins σ H' s' → H' D = none → H' (D + 2) = none → s'.heap.get? (D + 2) = some o → o.cls = .type "list" → (∀ v, o.data ≠ .cell v) → s'.heap.get? D = some (seqObj "list" #[] e1) → Inv X (((D + 2, o) : Addr × Obj) :: (D, seqObj "list" #[] e1) :: pins) σ H' s' := by
      intro H' s' o I' n1 n2 h2 _ nc h1
      refine I'.pins_of fun p hp => ?_
      rcases List.mem_cons.mp hp with rfl | hp
      · exact ⟨h2, n2, fS.2.1, fS.2.2.1, nc⟩
      · rcases List.mem_cons.mp hp with rfl | hp
        · exact ⟨h1, n1, fD.2.1, fD.2.2.1, fun v z => by cases z⟩
        · exact I'.pin p (List.mem_append_right _ hp)
    have unp : ∀ {H' : Hp} {s' : Shared} {o : Obj}, Inv X (((D + 2, o) : Addr × Obj) :: (D, seqObj "list" #[] e1) :: pins) σ H' s' → Inv X pins σ H' s' := fun I' => I'.pins_of fun p hp => I'.pin p (List.mem_append_right _ (List.mem_cons_of_mem _ (List.mem_cons_of_mem _ hp)))
    have atp : ∀ {H' : Hp} {s' : Shared} {o : Obj}, Inv X (((D + 2, o) : Addr × Obj) :: (D, seqObj "list" #[] e1) :: pins) σ H' s' → (s'.heap.get? (D + 2) = some o ∧ H' (D + 2) = none ∧ ∀ v, o.data ≠ .cell v) ∧ s'.heap.get? D = some (seqObj "list" #[] e1) ∧ H' D = none := fun I' => by
      have a1 := I'.pin _ (List.mem_append_right _ List.mem_cons_self)
      have a2 := I'.pin _ (List.mem_append_right _ (List.mem_cons_of_mem _ List.mem_cons_self))
      exact ⟨⟨a1.1, a1.2.1, a1.2.2.2.2⟩, a2.1, a2.2.1⟩
    refine rest_ (s := { s with heap := G }) (fun ks o s' => o.cls = .type "list" ∧ ∃ kv H', Vals kv ks ∧ W kv H' ∧ Inv X (((D + 2, o) : Addr × Obj) :: (D, seqObj "list" #[] e1) :: pins) σ H' s') (show (D + 2 : Nat) ≠ D by omega)
      (fun ks o s' ⟨_, kv, H', _, _, I'⟩ => ⟨(atp I').1.1, (atp I').2.1⟩) ?up ?step hz ⟨rfl, [], H, .nil, w0, pin2 I0 fD.1 fS.1 hk0 rfl (fun v z => by cases z) hD0⟩ ?fin
    case up =>
      rintro ks o s' k c ⟨_, kv, H', rk, wk, I'⟩ hc hcl hcd
      obtain ⟨⟨a1, a2, a3⟩, b1, b2⟩ := atp I'
      refine ⟨hcl, kv, H', rk, wk, ?_⟩
      have fS' : FpOk X pins H' (D + 2) := ⟨a2, fS.2⟩
      have I2 : Inv X pins σ H' { s' with heap := s'.heap.update (D + 2) (Obj.mapSeq fun x => x.push k), toks := s'.toks } := (unp I').turnedL (ch := [D + 2]) (fun b u hb hu => by
        have nb : b ≠ D + 2 := fun z => hb (by rw [z]; exact List.mem_singleton.mpr rfl)
        rw [Heap.get?_update_ne _ _ _ _ nb]
        exact hu) fun b hb => by rw [List.mem_singleton.mp hb]; exact fS'
      refine pin2 I2 b2 a2 hc hcl (fun v z => ?_) ?_
      · exact hcd v z
      · show (s'.heap.update (D + 2) _).get? D = _
        rw [Heap.get?_update_ne _ _ _ _ (show (D : Nat) ≠ D + 2 by omega)]
        exact b1
    case step =>
      rintro i u ks o s' hu hl' ⟨hcl, kv, H', rk, wk, I'⟩
      obtain ⟨x, hx, rx⟩ : ∃ x, xs[i]? = some x ∧ RelV x u := by
        have hi : i < xs.length := by rw [← hl]; exact (List.getElem?_eq_some_iff.mp hu).1
        obtain ⟨u', e1, e2⟩ := rv.get (List.getElem?_eq_getElem hi)
        rw [hu] at e1; cases e1
        exact ⟨_, List.getElem?_eq_getElem hi, e2⟩
      refine wpAny_mono (step _ s' H' i x u kv (fun p hp => List.mem_cons_of_mem _ (List.mem_cons_of_mem _ hp)) I' rx hx (by rw [rk.length, hl']) wk) (fun k s'' ⟨kx, H'', rk2, I2, w2⟩ => ?_) fun _ _ e => e
      exact ⟨hcl, kv ++ [kx], H'', rk.append (.cons rk2 .nil), w2, I2⟩
    case fin =>
      rintro ks e s' ⟨_, kv, H', rk, wk, I'⟩ hkl
      obtain ⟨⟨a1, a2, a3⟩, b1, b2⟩ := atp I'
      obtain ⟨ltk, O, h1, h2⟩ := fin _ kv ks H' s' I' rk wk (by rw [rk.length, hkl, hl])
      refine ⟨ltk, O, h1, ?_⟩
      rintro out tk ⟨ps, g1, g2, rfl⟩
      have hp2 : (ps.map (·.2)).Perm its := by
        have q := g2.perm.map (·.2)
        rw [List.map_snd_zip (by omega)] at q
        exact q
      have I2 : Inv X pins σ H' { s' with heap := endH s'.heap D (D + 2) (ps.map (·.2)), toks := tk } := (unp I').turnedL (ch := [D + 2, D]) (fun b u hb hu => by
        unfold endH
        rw [Heap.get?_update_ne _ _ _ _ (fun z => hb (by rw [z]; exact List.mem_cons_of_mem _ (List.mem_singleton.mpr rfl))), Heap.get?_update_ne _ _ _ _ (fun z => hb (by rw [z]; exact List.mem_cons_self))]
        exact hu) fun b hb => by
          rcases List.mem_cons.mp hb with rfl | hb
          · exact ⟨a2, fS.2⟩
          · rw [List.mem_singleton.mp hb]; exact ⟨b2, fD.2⟩
      obtain ⟨c2, hc2⟩ : ∃ c2, (endH s'.heap D (D + 2) (ps.map (·.2))).get? D = some (seqObj "list" (ps.map (·.2)).toArray c2) := by
        have b3 : (s'.heap.update (D + 2) (Obj.mapSeq fun _ => (#[] : Array Value))).get? D = some (seqObj "list" #[] e1) := by
          rw [Heap.get?_update_ne _ _ _ _ (show (D : Nat) ≠ D + 2 by omega)]; exact b1
        exact ⟨_, get?_update_seq b3 fun _ => (ps.map fun x : Keyed => x.2).toArray⟩
      refine ⟨_, rfl, wpAny_pure (hZ _ _ ?_)⟩
      have hv : Vals (ps.map fun q => toV q.2) (ps.map (·.2)) := by
        have q := vals_of (us := ps.map (·.2)) fun u hu => vals_mem rv u (hp2.mem_iff.mp hu)
        rw [List.map_map] at q
        exact q
      refine ⟨.ref D, upd H' D (.lst (ps.map fun q => toV q.2)), ?_, rfl, h2 ps ⟨g1, g2.perm⟩ D b2⟩
      refine I2.track ⟨b2, fD.2⟩ ⟨?_, ps.map (·.2), c2, hv, hc2⟩
      rw [List.length_map, ← List.length_map (f := fun x : Keyed => x.2), hp2.length_eq]
      exact hz
end
end L2

-- part: SK3
namespace L2
open PySem PySem.Spec PyProof.Rows SrtO SrtQ
/-! ### the order of the keys -/
def numV : Value → Int
  | .int i _ => i
  | _ => 0
theorem swo_of {α : Type} (k : Value → α) {lt : α → α → Bool} (O : Swo lt) : Swo fun u v => lt (k u) (k v) := ⟨fun _ _ => O.asym _ _, fun _ _ _ => O.tr _ _ _⟩
theorem swo_int : Swo (fun a b : Int => decide (a < b)) := by
  refine ⟨fun x y h => ?_, fun x y z h1 h2 => ?_⟩
  · have := of_decide_eq_true h
    exact decide_eq_false (by omega)
  · have a := of_decide_eq_false h1
    have b := of_decide_eq_false h2
    exact decide_eq_false (by omega)
section
variable {prog : Program} {w : World} {A : Around} {s : Shared}
theorem ints_kind {ks : List Value} {kz : List Int} (hk : IntsAre ks kz) (h2 : 2 ≤ ks.length) : ∃ κ, (∀ (Q : SortKind → Shared → Prop) (E : Value → Shared → Prop), Q κ s → wpAny (model prog w) A (keyKind' ks.toArray) Q E s) ∧
    Cmp prog w A s κ (fun p => p.1 ∈ ks) (lt2 fun u v => decide (numV u < numV v)) := by
  refine ⟨oneType', fun Q E q => ?_, fun p q hp hq => ?_⟩
  · rw [ksk_kind (kz := kz) (by simpa using hk) (by rw [List.size_toArray]; exact h2)]
    exact wpAny_pure q
  · have at_ : ∀ u ∈ ks, ∃ i t, u = Value.int i t := by
      clear h2 hp hq
      induction hk with
      | nil => intro u hu; exact nomatch hu
      | cons _ _ _ ih =>
        intro u hu
        rcases List.mem_cons.mp hu with rfl | hu
        · exact ⟨_, _, rfl⟩
        · exact ih u hu
    obtain ⟨i, t, e1⟩ := at_ _ hp
    obtain ⟨j, t', e2⟩ := at_ _ hq
    show wpAny _ _ (keyLt' oneType' p.1 q.1) (fun r s' => s' = s ∧ r = decide (numV p.1 < numV q.1)) _ _
    rw [e1, e2]
    exact PySem.W.kat_lt_int ⟨rfl, rfl⟩
end
/-- the tuple at v is (n, c), c a tuple of ints -/
def KeyT (K : PySem.W.Frag) (H : Hp) (v : V) (k : Int × List Int) : Prop := ∃ t c, v = .ref t ∧ SqT K H t [.int k.1, .ref c] ∧ SqT K H c (k.2.map V.int)
def ltKT (a b : Int × List Int) : Bool := if a.1 = b.1 then HT.lexLt a.2 b.2 else decide (a.1 < b.1)
theorem lex_irrefl : ∀ a : List Int, HT.lexLt a a = false
  | [] => rfl
  | x :: a => by rw [HT.lexLt_cons, if_pos rfl]; exact lex_irrefl a
theorem lex_asym : ∀ a b : List Int, HT.lexLt a b = true → HT.lexLt b a = false
  | [], [], h => by cases h
  | [], y :: b, _ => rfl
  | x :: a, [], h => by cases h
  | x :: a, y :: b, h => by
    rw [HT.lexLt_cons] at h ⊢
    by_cases e : x = y
    · rw [if_pos e] at h; rw [if_pos e.symm]; exact lex_asym a b h
    · rw [if_neg e] at h; rw [if_neg (Ne.symm e)]
      have := of_decide_eq_true h
      exact decide_eq_false (by omega)
theorem lex_tr : ∀ a b c : List Int, HT.lexLt a b = false → HT.lexLt c a = false → HT.lexLt c b = false
  | [], [], [], _, _ => rfl
  | [], [], z :: c, _, _ => rfl
  | [], y :: b, _, h, _ => by cases h
  | x :: a, b, [], _, h => by cases h
  | x :: a, [], z :: c, _, _ => rfl
  | x :: a, y :: b, z :: c, h1, h2 => by
    rw [HT.lexLt_cons] at h1 h2 ⊢
    by_cases e1 : x = y
    · rw [if_pos e1] at h1
      by_cases e2 : z = x
      · rw [if_pos e2] at h2
        rw [if_pos (e2.trans e1)]
        exact lex_tr a b c h1 h2
      · rw [if_neg e2] at h2
        rw [if_neg (by rw [← e1]; exact e2)]
        have := of_decide_eq_false h2
        exact decide_eq_false (by omega)
    · rw [if_neg e1] at h1
      have d1 := of_decide_eq_false h1
      by_cases e2 : z = x
      · rw [if_neg (by rw [e2]; exact e1)]
        exact decide_eq_false (by omega)
      · rw [if_neg e2] at h2
        have d2 := of_decide_eq_false h2
        rw [if_neg (by omega)]
        exact decide_eq_false (by omega)
theorem lex_total : ∀ a b : List Int, HT.lexLt a b = false → HT.lexLt b a = false → a = b
  | [], [], _, _ => rfl
  | [], y :: b, h, _ => by cases h
  | x :: a, [], _, h => by cases h
  | x :: a, y :: b, h1, h2 => by
    rw [HT.lexLt_cons] at h1 h2
    by_cases e : x = y
    · rw [if_pos e] at h1; rw [if_pos e.symm] at h2
      rw [e, lex_total a b h1 h2]
    · rw [if_neg e] at h1; rw [if_neg (Ne.symm e)] at h2
      have d1 := of_decide_eq_false h1
      have d2 := of_decide_eq_false h2
      omega
theorem swo_KT : Swo ltKT := by
  refine ⟨fun x y h => ?_, fun x y z h1 h2 => ?_⟩
  · unfold ltKT at *
    by_cases e : x.1 = y.1
    · rw [if_pos e] at h; rw [if_pos e.symm]; exact lex_asym _ _ h
    · rw [if_neg e] at h; rw [if_neg (Ne.symm e)]
      have := of_decide_eq_true h
      exact decide_eq_false (by omega)
  · unfold ltKT at *
    by_cases e1 : y.1 = x.1
    · rw [if_pos e1] at h1
      by_cases e2 : z.1 = y.1
      · rw [if_pos e2] at h2
        rw [if_pos (e2.trans e1)]
        exact lex_tr _ _ _ h1 h2
      · rw [if_neg e2] at h2
        rw [if_neg (by rw [← e1]; exact e2)]
        have := of_decide_eq_false h2
        exact decide_eq_false (by omega)
    · rw [if_neg e1] at h1
      have d1 := of_decide_eq_false h1
      by_cases e2 : z.1 = y.1
      · rw [if_neg (by rw [e2]; exact e1)]
        exact decide_eq_false (by omega)
      · rw [if_neg e2] at h2
        have d2 := of_decide_eq_false h2
        rw [if_neg (by omega)]
        exact decide_eq_false (by omega)
theorem can_intsD : ∀ (l : List Int), PyData.canLayAll0 (l.map PyData.int) = true
  | [] => by simp [PyData.canLayAll0]
  | i :: r => by simp [PyData.canLayAll0, PyData.canLay0, can_intsD r]
theorem dep_intsD : ∀ (l : List Int), PyData.depthAll (l.map PyData.int) ≤ 1
  | [] => by simp [PyData.depthAll]
  | i :: r => by
    have h := dep_intsD r
    simp [PyData.depthAll, PyData.depth] <;> omega
theorem dpAll_ints {K : PySem.W.Frag} {H : Hp} : ∀ (l : List Int), DpAll K H (l.map V.int) (l.map PyData.int)
  | [] => .nil
  | i :: r => .cons (.int i) (dpAll_ints r)
theorem eqvAll_ints : ∀ a b : List Int, PyData.eqvAll (a.map PyData.int) (b.map PyData.int) = decide (a = b)
  | [], [] => by simp [PyData.eqvAll]
  | [], y :: b => by simp [PyData.eqvAll]
  | x :: a, [] => by simp [PyData.eqvAll]
  | x :: a, y :: b => by
    simp only [List.map_cons, PyData.eqvAll, PyData.eqv, eqvAll_ints a b]
    by_cases h : x = y <;> by_cases h2 : a = b <;> simp [h, h2]
section
variable {X : Cx} {pins : List (Addr × Obj)} {σ : St} {H : Hp} {s : Shared} {A : Around}
theorem kt_cmp (I : Inv X pins σ H s) (hu : A.units + 64 < cLine) {u u' : Value} {v v' : V} {k k' : Int × List Int} (ru : RelV v u) (ru' : RelV v' u') (h : KeyT X.K H v k) (h' : KeyT X.K H v' k') :
    wpAny (model X.prog X.w) A (keyLt' (tuples' true) u u') (fun r s' => s' = s ∧ r = ltKT k k') (fun _ _ => False) s := by
  obtain ⟨t, c, rfl, ht, hc⟩ := h
  obtain ⟨t', c', rfl, ht', hc'⟩ := h'
  cases ru
  cases ru'
  obtain ⟨i1, r1, ⟨o1, ho1, hcl1, n1, hd1⟩, _⟩ := I.tuple ht
  obtain ⟨i2, r2, ⟨o2, ho2, hcl2, n2, hd2⟩, _⟩ := I.tuple ht'
  obtain ⟨a1, b1, rfl, ⟨ta, rfl⟩, rb⟩ := vals2 r1
  obtain ⟨a2, b2, rfl, ⟨tb, rfl⟩, rb'⟩ := vals2 r2
  obtain rfl : b1 = Value.ref c := rb
  obtain rfl : b2 = Value.ref c' := rb'
  refine PySem.W.kat_lt ho1 hd1 ho2 hd2 ?_
  show PySem.W.KatLex X.prog X.w A true (decide (2 < 2)) _ [(.int k.1 ta, .int k'.1 tb), (.ref c, .ref c')] 0 s
  unfold ltKT
  refine PySem.W.kat_cons (SeqAt.EqAt.int_int k.1 ta k'.1 tb X.prog X.w _ _ ?_)
  refine PySem.W.kat_go (fun e1 => ?_) (fun e1 => ?_)
  · have ex : k.1 = k'.1 := by simpa using e1
    rw [if_pos ex]
    obtain ⟨as, q1⟩ := Dp.reads I (.tuple (k.2.map .int)) (.ref c) (.ref c) (.tup hc (dpAll_ints _)) rfl
    obtain ⟨bs, q2⟩ := Dp.reads I (.tuple (k'.2.map .int)) (.ref c') (.ref c') (.tup hc' (dpAll_ints _)) rfl
    have cl : ∀ l : List Int, (PyData.tuple (l.map .int)).canLay0 = true := fun l => by simp [PyData.canLay0, can_intsD]
    have dl : ∀ l : List Int, (PyData.tuple (l.map .int)).depth ≤ 2 := fun l => by have := dep_intsD l; simp only [PyData.depth]; omega
    refine PySem.W.kat_yes (PySem.W.kat_cons (PySem.SeqAt.eqBoolOverData X.prog X.w A _ s _ _ _ _ as bs _ q1 q2 (cl _) (cl _) (by have := dl k.2; omega) ?_))
    have ev : PyData.eqv (.tuple (k.2.map .int)) (.tuple (k'.2.map .int)) = decide (k.2 = k'.2) := by
      simp only [PyData.eqv]
      exact eqvAll_ints _ _
    rw [ev]
    refine PySem.W.kat_go (fun e2 => ?_) (fun e2 => ?_)
    · have ey : k.2 = k'.2 := of_decide_eq_true e2
      rw [ey, lex_irrefl]
      exact PySem.W.kat_yes (PySem.W.kat_nil ⟨rfl, rfl⟩)
    · obtain ⟨j1, s1, p1, _⟩ := I.tuple hc
      obtain ⟨j2, s2, p2, _⟩ := I.tuple hc'
      have g1 : IntsAre j1.toArray.toList k.2 := intsAre_of s1
      have g2 : IntsAre j2.toArray.toList k'.2 := intsAre_of s2
      refine PySem.W.kat_no (PySem.W.kat_one _ _ (HT.lt_tupInts p1 p2 g1 g2 (by omega) ?_))
      exact (show s = s ∧ HT.lexLt k.2 k'.2 = HT.lexLt k.2 k'.2 from ⟨rfl, rfl⟩)
  · have ex : ¬ k.1 = k'.1 := by simpa using e1
    rw [if_neg ex]
    exact PySem.W.kat_no (oneLt_int ⟨rfl, rfl⟩)
/-- the kind of such keys -/
theorem kt_kind (I : Inv X pins σ H s) : ∀ {kv : List V} {ks : List Value} {kz : List (Int × List Int)}, Vals kv ks → Paired (KeyT X.K H) kv kz → ∃ fs, PySem.W.KatTups s.heap ks fs ∧ fs.length = ks.length ∧ ∀ v ∈ fs, ∃ i t, v = Value.int i t
  | _, _, _, .nil, .nil => ⟨[], .nil, rfl, fun v h => nomatch h⟩
  | _, _, _, .cons r rs, .cons h hs => by
    obtain ⟨t, c, rfl, ht, hc⟩ := h
    cases r
    obtain ⟨i1, r1, ⟨o1, ho1, hcl1, n1, hd1⟩, _⟩ := I.tuple ht
    obtain ⟨a1, b1, rfl, ⟨ta, rfl⟩, rb⟩ := vals2 r1
    obtain ⟨fs, q1, q2, q3⟩ := kt_kind I rs hs
    refine ⟨_ :: fs, .cons ho1 hcl1 hd1 (f := .int _ ta) rfl q1, by rw [List.length_cons, List.length_cons, q2], fun v hv => ?_⟩
    rcases List.mem_cons.mp hv with rfl | hv
    · exact ⟨_, _, rfl⟩
    · exact q3 v hv
theorem paired_mem {α β : Type} {F : α → β → Prop} : ∀ {l : List α} {m : List β}, Paired F l m → ∀ x ∈ l, ∃ y ∈ m, F x y
  | _, _, .cons h t, x, hx => by
    rcases List.mem_cons.mp hx with rfl | hx
    · exact ⟨_, List.mem_cons_self, h⟩
    · obtain ⟨y, hy, q⟩ := paired_mem t x hx
      exact ⟨y, List.mem_cons_of_mem _ hy, q⟩
theorem KeyT.inj (I : Inv X pins σ H s) {v : V} {k k' : Int × List Int} (h : KeyT X.K H v k) (h' : KeyT X.K H v k') : k = k' := by
  obtain ⟨t, c, rfl, ht, hc⟩ := h
  obtain ⟨t', c', e, ht', hc'⟩ := h'
  cases e
  have e1 := I.tuple_inj ht ht'
  cases k with | mk n l => cases k' with | mk n' l' =>
  simp only [List.cons.injEq, V.int.injEq, V.ref.injEq, and_true] at e1
  obtain ⟨rfl, rfl⟩ := e1
  have e2 := I.tuple_inj hc hc'
  have e3 : l = l' := by
    have : ∀ a b : List Int, a.map V.int = b.map V.int → a = b := fun a b h => (List.map_inj_right (fun x y h => by cases h; rfl)).mp h
    exact this _ _ e2
  rw [e3]
/-- the key of a value, by what stands -/
noncomputable def keyOfV (K : PySem.W.Frag) (H : Hp) (u : Value) : Int × List Int := by
  classical exact if h : ∃ k, KeyT K H (toV u) k then h.choose else (0, [])
theorem keyOfV_eq (I : Inv X pins σ H s) {v : V} {u : Value} {k : Int × List Int} (r : RelV v u) (h : KeyT X.K H v k) : keyOfV X.K H u = k := by
  unfold keyOfV
  have e : ∃ k, KeyT X.K H (toV u) k := ⟨k, by rw [toV_of r]; exact h⟩
  rw [dif_pos e]
  have q : ∀ x, x = v → KeyT X.K H x e.choose → e.choose = k := fun x hx q => KeyT.inj I (hx ▸ q) h
  exact q (toV u) (toV_of r) e.choose_spec
theorem kt_all (I : Inv X pins σ H s) (hu : A.units + 64 < cLine) {kv : List V} {ks : List Value} {kz : List (Int × List Int)} (r : Vals kv ks) (p : Paired (KeyT X.K H) kv kz) (h2 : 2 ≤ ks.length) :
    ∃ κ, (∀ (Q : SortKind → Shared → Prop) (E : Value → Shared → Prop), Q κ s → wpAny (model X.prog X.w) A (keyKind' ks.toArray) Q E s) ∧ Cmp X.prog X.w A s κ (fun p => p.1 ∈ ks) (lt2 fun u v => ltKT (keyOfV X.K H u) (keyOfV X.K H v)) := by
  refine ⟨tuples' true, fun Q E q => ?_, fun a b ha hb => ?_⟩
  · obtain ⟨fs, q1, q2, q3⟩ := kt_kind I r p
    refine PySem.W.kat_kind (T := .type "int") q1 (by omega) (fun f hm => ?_) (by rfl) ?_
    · obtain ⟨x, t, rfl⟩ := q3 f hm
      exact PySem.W.Looks.now
    · have e : (Value.type "int" != Value.type "tuple") = true := by first | decide +kernel | rfl | decide
      rw [e]
      exact q
  · have at_ : ∀ u ∈ ks, ∃ v k, RelV v u ∧ KeyT X.K H v k := fun u hu => by
      have hv := vals_mem r u hu
      have hm : toV u ∈ kv := by rw [vals_toV r]; exact List.mem_map.mpr ⟨u, hu, rfl⟩
      obtain ⟨k, _, q⟩ := paired_mem p _ hm
      exact ⟨_, k, hv, q⟩
    obtain ⟨v, k, r1, q1⟩ := at_ _ ha
    obtain ⟨v', k', r2, q2⟩ := at_ _ hb
    show wpAny _ _ (keyLt' (tuples' true) a.1 b.1) (fun r s' => s' = s ∧ r = ltKT (keyOfV X.K H a.1) (keyOfV X.K H b.1)) _ _
    rw [keyOfV_eq I r1 q1, keyOfV_eq I r2 q2]
    exact kt_cmp I hu r1 r2 q1 q2
end
end L2

-- part: SK4
namespace L2
open PySem PySem.Spec PyProof.Rows SrtO SrtQ
/-- the keys, one by one, then the items by their keys -/
def SortGo (K : PySem.W.Frag) (rel : V → Hp → VK → Prop) (xs : List V) (H1 : Hp) (Q : VK) : Prop := ∃ W : List V → Hp → Prop, W [] H1 ∧
  (∀ i v kv H', xs[i]? = some v → kv.length = i → W kv H' → rel v H' fun k H'' => W (kv ++ [k]) H'') ∧
  ∀ kv H', W kv H' → kv.length = xs.length →
    (∃ kz : List Int, kv = kz.map V.int ∧ ∀ zs : List (Int × V), zs.Perm (kz.zip xs) → zs.Pairwise (fun p q => p.1 ≤ q.1) → ∀ p, H' p = none → Q (.ref p) (upd H' p (.lst (zs.map (·.2))))) ∨
    (∃ kz : List (Int × List Int), Paired (KeyT K H') kv kz ∧ ∀ zs : List ((Int × List Int) × V), zs.Perm (kz.zip xs) → zs.Pairwise (fun p q => ltKT q.1 p.1 = false) → ∀ p, H' p = none → Q (.ref p) (upd H' p (.lst (zs.map (·.2)))))
/-- f is a key: what a call of it promises -/
def KeyRel (X : Cx) (P : List (Addr × Obj)) (f : Value) (rel : V → Hp → VK → Prop) : Prop := ∀ (pins : List (Addr × Obj)) (s : Shared) (σ : St) (H : Hp) (x : V) (u : Value) (Q : VK), (∀ p ∈ P, p ∈ pins) → Inv X pins σ H s → RelV x u → rel x H Q →
  wpAny (model X.prog X.w) X.A.in1.in1 (call f [u]) (EP X pins σ Q) (fun _ _ => False) s
theorem KeyRel.mono {X : Cx} {P P' : List (Addr × Obj)} {f : Value} {rel : V → Hp → VK → Prop} (h : KeyRel X P f rel) (hp : ∀ p ∈ P, p ∈ P') : KeyRel X P' f rel := fun pins s σ H x u Q z => h pins s σ H x u Q fun p q => z p (hp p q)
theorem nums_of {ks : List Value} {kz : List Int} (h : IntsAre ks kz) : ks.map numV = kz := by
  induction h with
  | nil => rfl
  | cons _ _ _ ih => rw [List.map_cons, ih]; rfl
theorem paired_len {α β : Type} {F : α → β → Prop} : ∀ {l : List α} {m : List β}, Paired F l m → l.length = m.length
  | _, _, .nil => rfl
  | _, _, .cons _ t => by rw [List.length_cons, List.length_cons, paired_len t]
theorem vals_at : ∀ {xs : List V} {us : List Value}, xs.length = us.length → (∀ (j : Nat) (u : Value), us[j]? = some u → ∃ x, xs[j]? = some x ∧ RelV x u) → Vals xs us
  | [], [], _, _ => .nil
  | [], _ :: _, h, _ => by simp at h
  | _ :: _, [], h, _ => by simp at h
  | x :: xs, u :: us, h, q => by
    obtain ⟨x', e, r⟩ := q 0 u rfl
    cases e
    exact .cons r (vals_at (by simpa using h) fun j u' hu => q (j + 1) u' hu)
section
variable {X : Cx} {pins : List (Addr × Obj)} {σ : St} {H : Hp} {s : Shared} {f : Value} {its : List Value} {xs : List V} {Q : VK} {rel : V → Hp → VK → Prop}
theorem keys_of {H' : Hp} {s' : Shared} (I : Inv X pins σ H' s') : ∀ {kv : List V} {ks : List Value} {kz : List (Int × List Int)}, Vals kv ks → Paired (KeyT X.K H') kv kz → ks.map (keyOfV X.K H') = kz
  | _, _, _, .nil, .nil => rfl
  | _, _, _, .cons r rs, .cons h hs => by rw [List.map_cons, keyOfV_eq I r h, keys_of I rs hs]
theorem sort_go {E : Value → Shared → Prop} {Z : PySem.Fin → Shared → Prop} (hu : X.A.units + 100 < cLine) (I : Inv X pins σ H s) (rv : Vals xs its) (hz : its.length ≤ sizeLine) (g : SortGo X.K rel xs H Q) (hf : KeyRel X pins f rel)
    (ht : ∀ a : Addr, Builtin.«list.sort» ⟨[.ref a], [(Str.ofString "key", f)]⟩ = ksk_tree a f false) (hZ : ∀ v s', EP X pins σ Q v s' → Z (.done (.ret v)) s') :
    wpAny (model X.prog X.w) X.A.in1 (sortRest its [(Str.ofString "key", f)]) Z E s := by
  obtain ⟨W, w0, w1, w2⟩ := g
  refine sort_part I rv hz W w0 ht (fun a => ksk_l1 _ _) (fun pins' s' H' i x u kv hp I' rx hx hl wk => ?_) (fun pins kv ks H' s' I' rk wk hl => ?_) hZ
  · refine wpAny_mono (hf pins' s' σ H' x u _ hp I' rx (w1 i x kv H' hx hl wk)) (fun k s'' ⟨kx, H'', a, b, c⟩ => ⟨kx, H'', b, a, c⟩) fun _ _ e => e
  · have lk : ks.length = its.length := by rw [← rk.length, hl, rv.length]
    rcases w2 kv H' wk hl with ⟨kz, rfl, q⟩ | ⟨kz, pk, q⟩
    · have ik := intsAre_of rk
      refine ⟨fun u v => decide (numV u < numV v), swo_of numV swo_int, fun h2 => ints_kind ik (by omega), fun ps g p hp => ?_⟩
      have e1 : (ps.map fun z => (numV z.1, toV z.2)).Perm (kz.zip xs) := by
        have q := g.2.map fun z : Value × Value => (numV z.1, toV z.2)
        have e : (ks.zip its).map (fun z : Value × Value => (numV z.1, toV z.2)) = kz.zip xs := by
          rw [vals_toV rv, ← nums_of ik, List.zip_map]
          rfl
        rw [e] at q
        exact q
      have e2 : (ps.map fun z => (numV z.1, toV z.2)).Pairwise (fun p q => p.1 ≤ q.1) := by
        refine List.pairwise_map.mpr (g.1.imp fun h => ?_)
        have := of_decide_eq_false h
        show numV _ ≤ numV _
        omega
      have z := q _ e1 e2 p hp
      rw [List.map_map] at z
      exact z
    · refine ⟨fun u v => ltKT (keyOfV X.K H' u) (keyOfV X.K H' v), swo_of (keyOfV X.K H') swo_KT, fun h2 => kt_all I' (by show X.A.units + 1 + 1 + 64 < _; omega) rk pk (by omega), fun ps g p hp => ?_⟩
      have e1 : (ps.map fun z => (keyOfV X.K H' z.1, toV z.2)).Perm (kz.zip xs) := by
        have q := g.2.map fun z : Value × Value => (keyOfV X.K H' z.1, toV z.2)
        have e : (ks.zip its).map (fun z : Value × Value => (keyOfV X.K H' z.1, toV z.2)) = kz.zip xs := by
          rw [vals_toV rv, ← keys_of I' rk pk, List.zip_map]
          rfl
        rw [e] at q
        exact q
      have e2 : (ps.map fun z => (keyOfV X.K H' z.1, toV z.2)).Pairwise (fun p q => ltKT q.1 p.1 = false) := List.pairwise_map.mpr (g.1.imp fun h => h)
      have z := q _ e1 e2 p hp
      rw [List.map_map] at z
      exact z
/-- the key's function: what the expression gives -/
def KeyOf (X : Cx) (ke : Expr) (f : Value) : Prop := ∀ (pins : List (Addr × Obj)) (s : Shared) (σ : St) (H : Hp) (R : Value → Shared → Prop), Inv X pins σ H s → R f s → wpAny (model X.prog X.w) X.A (eval ke X.env) R X.xe s
theorem key_abs {p : Pos} (hg : Gl X "abs") (hm : X.mg "abs" = none) : KeyOf X (.Name "abs" p) (.builtin "abs") := fun pins s σ H R I h => ld_blt I hg hm (by decide +kernel) h (by decide)
theorem key_def {x : Str} {p : Pos} {q : Addr} (hg : Gl X x) (hm : X.mg x = some (.ref q)) (hd : (x == ("__debug__" : Str)) = false := by decide) : KeyOf X (.Name x p) (.ref q) := fun pins s σ H R I h => ld_glob I hg hm h hd
theorem rel_abs {P : List (Addr × Obj)} : KeyRel X P (.builtin "abs") (fun x H Q => ∃ i, x = .int i ∧ Q (.int (if i < 0 then -i else i)) H) := by
  intro pins s σ H x u Q _ I r h
  obtain ⟨i, rfl, q⟩ := h
  obtain ⟨t, rfl⟩ := r
  exact call_abs_int fun u tk => ⟨.int (if i < 0 then -i else i), H, I.tok _, ⟨_, rfl⟩, q⟩
theorem rel_def {P : List (Addr × Obj)} {k : Nat} {q : Addr} {fd : FuncData} {x : Str} {sp : Sp} (F : FnOk X.prog X.w X.K X.mg X.base CX0 k q fd [x] sp) (hr : Room (k + 2) X.A) (hb : Binds X.K fd [x] []) : KeyRel X P (.ref q) (fun x H Q => sp [x] H Q E0) := by
  intro pins s σ H x u Q _ I r h
  have hl : ([u] ++ ([] : List Value)).length = 1 := rfl
  refine wpAny_call (codeAny_mono (F.run X.A.in1.in1 X.stack s H ⟨[u], []⟩ [u] [x] Q E0 hr.in1.in1 I.env0.in1.in1 (by have := hb s [u] I.kIn (by rfl); exact this) (.cons r .nil) h) fun r s' hq => ?_)
  cases r with
  | error e => exact hq.elim
  | ok fl =>
    cases fl with
    | ret u => exact I.after hq
    | next => exact False.elim hq
    | brk => exact False.elim hq
    | cont => exact False.elim hq
/-! ### sorted(e, key=ke) -/
/-- of a list; of a dict with ints and texts as keys; of one with tuples -/
def rSortL (K : PySem.W.Frag) (rel : V → Hp → VK → Prop) : V → Hp → VK → Prop := fun x H Q => ∃ a xs, x = .ref a ∧ SqL K H a xs ∧ SortGo K rel xs H Q
def rSortD (K : PySem.W.Frag) (rel : V → Hp → VK → Prop) : V → Hp → VK → Prop := fun x H Q => ∃ a kvs, x = .ref a ∧ Rd H a (.dK kvs) ∧ SortGo K rel (kvs.map fun z => kV z.1) H Q
def rSortT (K : PySem.W.Frag) (rel : V → Hp → VK → Prop) : V → Hp → VK → Prop := fun x H Q => ∃ a kvs, x = .ref a ∧ Rd H a (.dT kvs) ∧ ∀ bs, IsKeys H kvs bs → SortGo K rel (bs.map V.ref) H Q
def tSorted (r : V → Hp → VK → Prop) (t : TA) : TE := fun σ H Q => t σ H fun vs H1 => ∃ x, vs = [x] ∧ r x H1 Q
def RunS (X : Cx) (P : List (Addr × Obj)) (f : Value) (r : V → Hp → VK → Prop) : Prop := ∀ (pins : List (Addr × Obj)) (s : Shared) (σ : St) (H : Hp) (x : V) (u : Value) (Q : VK), (∀ p ∈ P, p ∈ pins) → Inv X pins σ H s → RelV x u → r x H Q →
  wpAny (model X.prog X.w) X.A (call (.builtin "sorted") [u] [(Str.ofString "key", f)]) (EP X pins σ Q) X.xe s
theorem pe_sorted {e ke : Expr} {t : TA} {p pos kpos : Pos} {r : V → Hp → VK → Prop} (run : RunS X [] f r) (hk : KeyOf X ke f) (hg : Gl X "sorted") (hm : X.mg "sorted" = none) (ha : PA X [e] t)
    (h1 : backTo pos (starEach [e] X.env) = (false, eval e X.env) :: backTo pos (starEach [] X.env) := by rfl) (hpl : (backTo pos (starEach [e] X.env)).any (·.1) = false := by rfl)
    (hall : (backToKw pos (keywordEach [⟨some "key", ke, kpos⟩] X.env)).all (·.1.isSome) = true := by rfl) (hnone : (backToKw pos (keywordEach [⟨some "key", ke, kpos⟩] X.env)).any (·.1.isNone) = false := by rfl) :
    PE X (.Call (.Name "sorted" p) [e] [⟨some "key", ke, kpos⟩] pos) (tSorted r t) := by
  refine ⟨fun pins s σ H Q I h => ?_⟩
  refine wpAny_Call_Name_kw (ld_blt I hg hm (u := .builtin "sorted") (by decide +kernel) ?_ (by decide))
  refine PyProof.Rows.callWith_kw (thn (ha.run pos pins s σ H _ I h) fun us s1 ⟨vs, H1, I1, r1, x, ex, q1⟩ => ?_) h1 hpl hall hnone
  subst ex
  obtain ⟨u, rfl, ru⟩ := vals1 r1
  show wpAny _ _ (evalAll ((do let v ← eval ke X.env; standAt pos; pure v) :: [])) _ _ s1
  refine wpAny_evalAll_cons (wpAny_bind (hk pins s1 σ H1 _ I1 (wpAny_bind (wpAny_standAt (wpAny_pure ?_)))))
  refine wpAny_evalAll_nil ?_
  exact run pins s1 σ H1 x u Q (fun _ z => nomatch z) I1 ru q1
theorem run_list {P : List (Addr × Obj)} (hu : X.A.units + 100 < cLine) (hf : KeyRel X P f rel) (ht : ∀ a : Addr, Builtin.«list.sort» ⟨[.ref a], [(Str.ofString "key", f)]⟩ = ksk_tree a f false) : RunS X P f (rSortL X.K rel) := by
  intro pins s σ H x u Q hP I r h
  obtain ⟨a, xs, rfl, hs, g⟩ := h
  cases r
  obtain ⟨its, rv, hl, hz⟩ := I.list hs
  have hz' : its.length ≤ sizeLine := by rw [← rv.length]; exact hz
  refine call_function_entry_kw kind_sorted plain_sorted entry_sorted (ksk_s1 _ _) ?_
  unfold Builtin.«sorted»
  refine wpAny_bind (m := checkCount "sorted" 1 1 _) (wpAny_pure ?_)
  refine wpAny_bind (collect_list hl.isList ?_ hz')
  have I1 : Inv X pins σ H { s with heap := (s.heap.push (seqObj "list" #[] 0)).update s.heap.objs.size (Obj.mapSeq (· ++ its.toArray)) } := I.kept (t' := s.toks) fun b o e => by
    rw [Heap.get?_update_ne _ _ _ _ (Nat.ne_of_lt (Heap.lt_size e))]
    exact Heap.get?_push_of_some _ e
  exact sort_go hu I1 rv hz' g (hf.mono hP) ht fun v s' h => ⟨v, rfl, h⟩
theorem run_dict {P : List (Addr × Obj)} (hcalm : X.calm = true) (hu : X.A.units + 100 < cLine) (hf : KeyRel X P f rel) (ht : ∀ a : Addr, Builtin.«list.sort» ⟨[.ref a], [(Str.ofString "key", f)]⟩ = ksk_tree a f false) : RunS X P f (rSortD X.K rel) := by
  intro pins s σ H x u Q hP I r h
  obtain ⟨a, kvs, rfl, hd, g⟩ := h
  cases r
  obtain ⟨z, lo, vs, rel', dd⟩ := dk_rd I.hok hd
  obtain ⟨ep, hat⟩ := dd.dictAt
  have hkeys : vs.map (·.1) = kvs.map (·.1) := rel'.keys.symm
  have hl : vs.length = kvs.length := by
    have e := congrArg List.length hkeys
    rw [List.length_map, List.length_map] at e
    exact e
  refine call_function_entry_kw kind_sorted plain_sorted entry_sorted (ksk_s1 _ _) ?_
  unfold Builtin.«sorted»
  refine wpAny_bind (m := checkCount "sorted" 1 1 _) (wpAny_pure ?_)
  refine wpAny_bind (PySem.W.kdu_collect (A := X.A.in1) (PySem.W.kdl_dict (knd := mixKind X.prog X.w) (kvs := vs) (ep := ep) lo) (I.ok.hd hcalm) hat (by rw [hl]; exact z) fun h' tk acc hk hacc => ?_)
  have hal : acc.toList.length = kvs.length := by rw [Array.length_toList, hacc.1, hl]
  have rv : Vals (kvs.map fun z => kV z.1) acc.toList := vals_at (by rw [List.length_map, hal]) fun j v e => by
    obtain ⟨k, x, e1, e2⟩ := hacc.2 j v (by rw [← Array.getElem?_toList]; exact e)
    have e3 : (vs.map (·.1))[j]? = some k := by rw [List.getElem?_map, e1]; rfl
    rw [hkeys, List.getElem?_map] at e3
    rw [List.getElem?_map]
    cases e4 : kvs[j]? with
    | none => rw [e4] at e3; cases e3
    | some y =>
      rw [e4] at e3
      have e5 : y.1 = k := Option.some.inj e3
      refine ⟨kV y.1, rfl, ?_⟩
      rw [e5]
      exact keyIs_rel e2
  have I1 : Inv X pins σ H { s with heap := h', toks := tk } := I.kept hk
  exact sort_go hu I1 rv (by rw [hal]; exact z) g (hf.mono hP) ht fun v s' h => ⟨v, rfl, h⟩
theorem run_dictT {P : List (Addr × Obj)} (hcalm : X.calm = true) (hu : X.A.units + 100 < cLine) (hf : KeyRel X P f rel) (ht : ∀ a : Addr, Builtin.«list.sort» ⟨[.ref a], [(Str.ofString "key", f)]⟩ = ksk_tree a f false) : RunS X P f (rSortT X.K rel) := by
  intro pins s σ H x u Q hP I r h
  obtain ⟨d, kvs, rfl, hd, g⟩ := h
  cases r
  obtain ⟨z, hs, ks, pr, o, es, ep, ho, hx, hdt, he, hn⟩ := (show ObjOk X.prog X.w H s.heap d (.dT kvs) from hd.ok I.hok)
  have l1 : es.size = ks.length := size_of_entries he
  have l2 : kvs.length = ks.length := Paired.length pr
  refine call_function_entry_kw kind_sorted plain_sorted entry_sorted (ksk_s1 _ _) ?_
  unfold Builtin.«sorted»
  refine wpAny_bind (m := checkCount "sorted" 1 1 _) (wpAny_pure ?_)
  refine wpAny_bind (PySem.W.kdu_collect (A := X.A.in1) (kdl_raw hs hx hdt) (I.ok.hd hcalm) ho (by omega) fun h' tk acc' kp it => ?_)
  have ea : acc'.toList = ks.map fun x => Value.ref x.2.1 := by
    have hl : acc'.toList.length = ks.length := by rw [Array.length_toList, it.1]; exact l1
    apply List.ext_getElem?
    intro j
    rw [List.getElem?_map]
    cases hj : acc'.toList[j]? with
    | none =>
      have h1 := List.getElem?_eq_none_iff.mp hj
      rw [List.getElem?_eq_none (by omega)]
      all_goals rfl
    | some v =>
      obtain ⟨en, hen, hv⟩ := it.2 j v (by rw [← Array.getElem?_toList]; exact hj)
      have qe := entry_at he j
      rw [hen] at qe
      cases hb : ks[j]? with
      | none =>
        rw [hb] at qe
        exact nomatch (show some en = none from qe)
      | some b =>
        rw [hb] at qe
        have e2 : en = entryOfKey (tupleKind (mixKind X.prog X.w)) b := Option.some.inj qe
        rw [hv, e2]
        all_goals rfl
  have eb : acc'.toList = (ks.map fun x => x.2.1).map Value.ref := by rw [ea, List.map_map]; all_goals rfl
  have rv : Vals ((ks.map fun x => x.2.1).map V.ref) acc'.toList := by rw [eb]; exact vals_refs _
  have I1 : Inv X pins σ H { s with heap := h', toks := tk } := I.kept kp
  exact sort_go hu I1 rv (by rw [ea, List.length_map]; omega) (g _ (isKeys_of pr)) (hf.mono hP) ht fun v s' h => ⟨v, rfl, h⟩
end
end L2

-- part: SK5
namespace L2
open PySem PySem.Spec PyProof.Rows SrtO SrtQ LamX
section
variable {X : Cx} {pins : List (Addr × Obj)} {σ : St} {H : Hp} {s : Shared} {xs : List V} {Q : VK}
abbrev lamQ (X : Cx) : Str := X.env.qual ++ "<lambda>"
/-- a lambda of one parameter, no captured names: its call -/
theorem rel_lam {k : Nat} {f c' : Addr} {x : Str} {params : Arguments} {body : Expr} {scope : Scope} {pm ctv : Value} {tb : TE} (S : FnScope [x] [x] scope) (hr : Room (k + 3) X.A)
    (hbind : ∀ u : Value, bindArgs (PySem.W.kla_fn "<lambda>" (lamQ X) params body scope [] pm (.ref c') ctv) ⟨[u], []⟩ = pure [(x, u)])
    (hbody : ∀ (A : Around) (outer : List Env) (s : Shared) (H : Hp), Room k (A.deeper (envOfC (lamQ X) scope s.heap.objs.size f (.ref c'))) → PE (cxOf CX0 X.prog X.w X.K X.mg X.base [x] (lamQ X) scope f (.ref c') A outer s H E0) body tb) :
    KeyRel X [(f, PySem.W.kla_obj "<lambda>" (lamQ X) params body scope [] pm c' ctv)] (.ref f) (fun v H Q => H c' = some (CodeO c' (lamQ X)) ∧ tb [some v] H Q) := by
  intro pins s σ H v u Q hP I r ⟨hc, ht⟩
  have hf : s.heap.get? f = some (PySem.W.kla_obj "<lambda>" (lamQ X) params body scope [] pm c' ctv) := (I.pin _ (List.mem_append_right _ (hP _ List.mem_cons_self))).1
  obtain ⟨⟨oc, vs, t, hoc, hdc, hvc⟩, _, _⟩ := I.hok c' _ hc
  have hr2 : Room (k + 1) X.A.in1.in1 := hr.in1.in1
  have rc : codeAny (model X.prog X.w) X.A.in1.in1 (.call (.ref f) ⟨[u], []⟩) (CR CX0 X.stack X.prog X.w H s Q E0) s := by
    refine PySem.W.kla_callFunE hr2.depth hf rfl S.co S.gen rfl ⟨c', oc, vs, t, rfl, hoc, hdc, hvc⟩ ?_
    rw [hbind]
    have hkind : ∀ y ∈ [x].zip [u], scope.names.lookup y.1 = some .local ∨ (scope.names.lookup y.1 = some .cell ∧ ((cellsFrom (s.heap.objs.size + 1) scope.names []).lookup y.1).isSome = true) := fun ⟨n, v⟩ hy => by
      rcases S.par n (List.of_mem_zip hy).1 with q | q
      · exact .inl q
      · exact .inr ⟨q, PySem.W.cellsFrom_some _ _ _ (.inl q)⟩
    refine wpAny_pure (wpAny_newFunctionEnv_cells S.kind hkind fun env he s1 z => ?_)
    subst he
    refine ⟨I.nolimit.keeps z.toInCall.keep, ?_⟩
    have J : Inv (cxOf CX0 X.prog X.w X.K X.mg X.base [x] (lamQ X) scope f (.ref c') X.A.in1.in1 X.stack s H E0) [] (start [x] [v]) H s1 := inv_start S hr2.hd I.env0.in1.in1 rfl (.cons r .nil) z
    refine PySem.W.kla_codeExpr (wpAny_mono ((hbody _ _ s H (hr2.deeper _)).run [] _ _ H Q J ht) (fun v' s' hq => ?_) fun e s' hq => hq)
    obtain ⟨w', H', J', rv, q⟩ := hq
    exact ⟨w', H', J'.os, J'.bare, J'.base, J'.hok, rv, q⟩
  refine wpAny_call (codeAny_mono rc fun r s' hq => ?_)
  cases r with
  | error e => exact hq.elim
  | ok fl =>
    cases fl with
    | ret u => exact I.after hq
    | next => exact False.elim hq
    | brk => exact False.elim hq
    | cont => exact False.elim hq
/-- sorted(e, key=lambda x: body) -/
def tSortedLam (X : Cx) (T : List (Addr × Str)) (r : Addr → V → Hp → VK → Prop) (t : TA) : TE := fun σ H Q => t σ H fun vs H1 => ∃ x, vs = [x] ∧ Tabs T H1 ∧ ∀ c' H2, ExtN H1 H2 → Tabs T H2 → H2 c' = some (CodeO c' (lamQ X)) → r c' x H2 Q
theorem pe_sortedLam {e : Expr} {t : TA} {p pos kpos lpos : Pos} {r : Addr → V → Hp → VK → Prop} {T : List (Addr × Str)} {c P : Addr} {params : Arguments} {body : Expr} {scope : Scope}
    (run : ∀ (f c' : Addr) (pm ctv : Value), RunS X [(f, PySem.W.kla_obj "<lambda>" (lamQ X) params body scope [] pm c' ctv)] (.ref f) (r c')) (TB : TabB X.base X.mg c P) (hcode : X.env.code = .ref c)
    (hT : (P, lamQ X) ∈ T) (hu : ∀ p ∈ T, p.1 = P → p.2 = lamQ X) (hcl : cloFrom X.env.cells scope.names [] = []) (hfree : ∀ y ∈ scope.names, y.2 ≠ .free)
    (hg : Gl X "sorted") (hm : X.mg "sorted" = none) (ha : PA X [e] t) (hdef : defaultsOf params X.env = ([], []) := by rfl)
    (h1 : backTo pos (starEach [e] X.env) = (false, eval e X.env) :: backTo pos (starEach [] X.env) := by rfl) (hpl : (backTo pos (starEach [e] X.env)).any (·.1) = false := by rfl)
    (hall : (backToKw pos (keywordEach [⟨some "key", .Lambda params body scope lpos, kpos⟩] X.env)).all (·.1.isSome) = true := by rfl) (hnone : (backToKw pos (keywordEach [⟨some "key", .Lambda params body scope lpos, kpos⟩] X.env)).any (·.1.isNone) = false := by rfl) :
    PE X (.Call (.Name "sorted" p) [e] [⟨some "key", .Lambda params body scope lpos, kpos⟩] pos) (tSortedLam X T r t) := by
  refine ⟨fun pins s σ H Q I h => ?_⟩
  refine wpAny_Call_Name_kw (ld_blt I hg hm (u := .builtin "sorted") (by decide +kernel) ?_ (by decide))
  refine PyProof.Rows.callWith_kw (thn (ha.run pos pins s σ H _ I h) fun us s1 ⟨vs, H1, I1, r1, x, ex, hTab, q1⟩ => ?_) h1 hpl hall hnone
  subst ex
  obtain ⟨u, rfl, ru⟩ := vals1 r1
  show wpAny _ _ (evalAll ((do let v ← eval (.Lambda params body scope lpos) X.env; standAt pos; pure v) :: [])) _ _ s1
  refine wpAny_evalAll_cons (wpAny_bind (lam_make2 I1 TB hcode hT hu hTab hdef (fun y hy e => absurd e (hfree y hy)) fun f c' pm ctv H2 s2 I2 e2 t2 hf nf nfr hc => wpAny_bind (wpAny_standAt (wpAny_pure ?_))))
  refine wpAny_evalAll_nil ?_
  rw [hcl] at hf
  have nL : f ≠ X.env.locals := fun z => by
    obtain ⟨m, ⟨o, es, ep, ho, hd, _⟩, _⟩ := I2.loc
    rw [z, ho] at hf; cases hf
    cases hd
  have nF : f ∉ X.fs := fun z => nfr (by
    rcases I2.ok.stk with e | ⟨e, hfr⟩
    · rw [e]; exact z
    · rw [e]
      show f ∈ frs (X.env :: X.outer)
      unfold frs
      rw [List.filterMap_cons, hfr]
      exact List.mem_cons_of_mem _ z)
  have I3 : Inv X ((f, PySem.W.kla_obj "<lambda>" (lamQ X) params body scope [] pm c' ctv) :: pins) σ H2 s2 := I2.pins_of fun p hp => by
    rcases List.mem_cons.mp hp with rfl | hp
    · exact ⟨hf, nf, nL, nF, fun v z => by cases z⟩
    · exact I2.pin p (List.mem_append_right _ hp)
  refine thn (run f c' pm ctv _ s2 σ H2 x u Q (fun p hp => by rw [List.mem_singleton.mp hp]; exact List.mem_cons_self) I3 ru (q1 c' H2 e2 t2 hc)) fun v s3 ⟨y, H3, I4, r4, q4⟩ => ?_
  exact ⟨y, H3, I4.pins_of fun p hp => I4.pin p (List.mem_append_right _ (List.mem_cons_of_mem _ hp)), r4, q4⟩
end
end L2

-- part: TY1
namespace L2
open PySem PySem.Spec PyProof.Rows
/-- the built-in classes that are compared -/
def Kn (n : String) : Prop := n = "int" ∨ n = "str" ∨ n = "bool" ∨ n = "NoneType" ∨ n = "list" ∨ n = "tuple" ∨ n = "dict" ∨ n = "bytes"
theorem Kn.is {n : String} (h : Kn n) (s : Shared) : s.TypeIs (.type n) "type" := by
  rcases h with rfl | rfl | rfl | rfl | rfl | rfl | rfl | rfl
  · exact TypeEq.meta_int s
  · exact TypeEq.meta_str s
  · exact TypeEq.meta_bool s
  · exact TypeEq.meta_NoneType s
  · exact TypeEq.meta_list s
  · exact TypeEq.meta_tuple s
  · exact TypeEq.meta_dict s
  · exact TypeEq.meta_bytes s
theorem Kn.ty {K : PySem.W.Frag} {H : Hp} {x : V} {T : String} (t : TyB K H x T) : Kn T := by cases t <;> simp [Kn]
theorem eqAt_ty {a b : String} (ha : Kn a) (hb : Kn b) (A : Around) (s : Shared) : SeqAt.EqAt A s (.type a) (.type b) (decide (a = b)) := by
  intro prog w E Q q
  by_cases e : a = b
  · subst e
    rw [decide_eq_true rfl] at q
    unfold eqBool
    refine wpAny_holding ?_
    rw [if_pos (by simp)]
    exact wpAny_bind (wpAny_rule (wpAny_pure q))
  · rw [decide_eq_false e] at q
    have hb' : (Value.type a == Value.type b) = false := by rw [ty_beq]; exact decide_eq_false e
    unfold eqBool
    refine wpAny_holding ?_
    rw [if_neg (by rw [hb']; decide)]
    refine wpAny_bind (wpAny_mono (TypeEq.eq_type_other (fun s' => ha.is s') (fun s' => hb.is s') hb' (Q := fun v s' => v = .bool false ∧ Q false s') ⟨rfl, q⟩) (fun v s' hv => ?_) fun _ _ x => x)
    obtain ⟨rfl, q⟩ := hv
    exact wpAny_truthy_bool q
section
variable {X : Cx}
theorem op_eqTy : OpR X (compareOp .Eq) (fun x y H Q => ∃ a b, x = .ty a ∧ y = .ty b ∧ Kn a ∧ Kn b ∧ Q (.bl (decide (a = b))) H) := by
  intro pins s σ H x y v u Q I rx ry h
  obtain ⟨a, b, rfl, rfl, ka, kb, q⟩ := h
  cases rx
  cases ry
  by_cases e : a = b
  · subst e
    rw [decide_eq_true rfl] at q
    exact TypeEq.eq_type_same (fun s' => ka.is s') ⟨.bl true, H, I, rfl, q⟩
  · rw [decide_eq_false e] at q
    exact TypeEq.eq_type_other (fun s' => ka.is s') (fun s' => kb.is s') (by rw [ty_beq]; exact decide_eq_false e) ⟨.bl false, H, I, rfl, q⟩
theorem op_neTy : OpR X (compareOp .NotEq) (fun x y H Q => False) := fun _ _ _ _ _ _ _ _ _ _ _ _ h => h.elim
theorem vals_tys : ∀ {bs : List String} {us : List Value}, Vals (bs.map V.ty) us → us = bs.map Value.type
  | [], _, .nil => rfl
  | b :: bs, _, .cons r t => by
    cases r
    rw [vals_tys t]; rfl
theorem op_inTy : OpR X (compareOp .In) (fun x y H Q => ∃ (a : String) (p : Addr) (bs : List String), x = .ty a ∧ y = .ref p ∧ SqT X.K H p (bs.map V.ty) ∧ Kn a ∧ (∀ b ∈ bs, Kn b) ∧ Q (.bl (bs.contains a)) H) := by
  intro pins s σ H x y v u Q I rx ry h
  obtain ⟨a, p, bs, rfl, rfl, hq, ka, kb, q⟩ := h
  cases rx
  cases ry
  obtain ⟨its, r, pl, hz⟩ := I.tuple hq
  have e := vals_tys r
  subst e
  refine SeqAt.in_tupleAt (fun y => match y with | .type n => decide (n = a) | _ => false) pl (fun y hy => ?_) ⟨.bl _, H, I, rfl, ?_⟩
  · have hy' : y ∈ bs.map Value.type := by simpa using hy
    obtain ⟨b, hb, rfl⟩ := List.mem_map.mp hy'
    exact eqAt_ty (kb b hb) ka _ _
  · have e2 : ((bs.map Value.type).toArray.any fun y => match y with | .type n => decide (n = a) | _ => false) = bs.contains a := by
      rw [List.any_toArray, List.any_map]
      rw [List.contains_eq_any_beq]
      congr 1
      funext n
      show decide (n = a) = (a == n)
      by_cases h : n = a
      · simp [h]
      · rw [decide_eq_false h]
        exact (beq_eq_false_iff_ne.mpr (Ne.symm h)).symm
    rw [e2]
    exact q
end
/-- walked as this or as that -/
def iOr (w1 w2 : TI) : TI := fun σ H R => w1 σ H R ∨ w2 σ H R
theorem pi_or {X : Cx} {tg it : Expr} {w1 w2 : TI} (h1 : PI X tg it w1) (h2 : PI X tg it w2) : PI X tg it (iOr w1 w2) :=
  ⟨fun pins s σ H R I h => h.elim (fun h => h1.run pins s σ H R I h) fun h => h2.run pins s σ H R I h⟩
end L2

-- part: TN1
namespace L2
open PySem PySem.Spec PySem.Calls PyProof.Rows
theorem slot_type_ne : Slot "type" (cmpInfo .NotEq).2.1 "object.__ne__" :=
  .of (owner := "object") (n := "__ne__") (by rw [typeLookup_type, builtinLookup_eq_fast]; kernel_rfl) (by decide +kernel) (by decide +kernel) (by decide +kernel)
    (by first | exact .inl (by decide +kernel) | exact .inr (by decide +kernel)) (by rw [isSubtype_type]; kernel_rfl)
theorem slot_type_ne_refl : Slot "type" (cmpInfo .NotEq).2.2 "object.__ne__" :=
  .of (owner := "object") (n := "__ne__") (by rw [typeLookup_type, builtinLookup_eq_fast]; kernel_rfl) (by decide +kernel) (by decide +kernel) (by decide +kernel)
    (by first | exact .inl (by decide +kernel) | exact .inr (by decide +kernel)) (by rw [isSubtype_type]; kernel_rfl)
theorem slot_type_eq1 : Slot "type" "__eq__" "object.__eq__" := TypeEq.slot_type_eq
section
variable {prog : Program} {w : World} {A : Around} {E : Value → Shared → Prop} {s : Shared}
theorem ne_same_entry {a : String} (ha : ∀ s' : Shared, s'.TypeIs (.type a) "type") {Q : Fin → Shared → Prop} (q : Q (.done (.ret (.bool false))) s) :
    wpAny (model prog w) A (Builtin.«object.__ne__» ⟨[.type a, .type a], []⟩) Q E s := by
  unfold Builtin.«object.__ne__»
  repeat (first
    | with_reducible refine wpAny_cRoomFor_byValue rfl ?_
    | (refine wpAny_bind (m := callSpecialIfBound? (.type a) (Str.ofString "__eq__") [.type a]) (wpAny_callSpecialIfBound?_slot (ha s) slot_type_eq1
        (call_gives slot_type_eq1 (ha s) F.entry_object_eq (F.args_object_eq_2 _ _) (TypeEq.object_eq_same rfl (by simp)) ?_)); try dsimp only [Made.post])
    | (refine wpAny_bind (m := truthy (.bool _)) (wpAny_truthy_bool ?_))
    | wp_step)
  exact q
theorem ne_other_entry {a b : String} (ha : ∀ s' : Shared, s'.TypeIs (.type a) "type") (hne : (Value.type a == Value.type b) = false) {Q : Fin → Shared → Prop} (q : Q (.done (.ret .notImplemented)) s) :
    wpAny (model prog w) A (Builtin.«object.__ne__» ⟨[.type a, .type b], []⟩) Q E s := by
  unfold Builtin.«object.__ne__»
  repeat (first
    | with_reducible refine wpAny_cRoomFor_byValue rfl ?_
    | (refine wpAny_bind (m := callSpecialIfBound? (.type a) (Str.ofString "__eq__") [.type b]) (wpAny_callSpecialIfBound?_slot (ha s) slot_type_eq1
        (call_gives slot_type_eq1 (ha s) F.entry_object_eq (F.args_object_eq_2 _ _) (TypeEq.object_eq_other rfl hne) ?_)); try dsimp only [Made.post])
    | wp_step)
  exact q
theorem ne_type_same {a : String} (ha : ∀ s' : Shared, s'.TypeIs (.type a) "type") {Q : Value → Shared → Prop} (q : Q (.bool false) s) : wpAny (model prog w) A (compareOp .NotEq (.type a) (.type a)) Q E s := by
  show wpAny _ A (richCompare .NotEq _ _) Q E s
  exact wpAny_richCompare_same (T := "type") (ha s) (ha s) slot_type_ne (wpAny_call_entry slot_type_ne (ha s) F.cmpEntry_ne (ne_same_entry ha ⟨_, rfl, (by intro e; cases e), q⟩) (F.cmpArgs_ne _ _))
theorem ne_type_other {a b : String} (ha : ∀ s' : Shared, s'.TypeIs (.type a) "type") (hb : ∀ s' : Shared, s'.TypeIs (.type b) "type") (hne : (Value.type a == Value.type b) = false) {Q : Value → Shared → Prop} (q : Q (.bool true) s) :
    wpAny (model prog w) A (compareOp .NotEq (.type a) (.type b)) Q E s := by
  have hne' : (Value.type b == Value.type a) = false := by
    rw [Bool.eq_false_iff] at hne ⊢
    intro e
    exact hne (by rw [beq_iff_eq] at e ⊢; exact e.symm)
  show wpAny _ A (richCompare .NotEq _ _) Q E s
  rcases hi : cmpInfo CmpOp.NotEq with ⟨sym, f, r⟩
  have h1 : Slot "type" f "object.__ne__" := by have := slot_type_ne; rw [hi] at this; exact this
  have h2 : Slot "type" r "object.__ne__" := by have := slot_type_ne_refl; rw [hi] at this; exact this
  simp only [richCompare, hi, (ha s).oneThing_none]
  try with_reducible refine wpAny_holding ?_
  refine wpAny_bind (wpAny_cRoomFor_byValue rfl ?_)
  refine wpAny_bind (wpAny_typeOf (ha s) (wpAny_bind (wpAny_typeOf (hb s) ?_)))
  simp only [bne_self_eq_false, Bool.false_eq_true, if_false, pure_bind, Bool.not_false, if_true]
  refine wpAny_bind (m := tryCompare (.type a) _ (.type b)) (wpAny_tryCompare_declines (ha s) h1 (wpAny_call_entry h1 (ha s) F.cmpEntry_ne (ne_other_entry ha hne ⟨_, rfl, rfl, ?_⟩) (F.cmpArgs_ne _ _)))
  refine wpAny_bind (m := tryCompare (.type b) _ (.type a)) (wpAny_tryCompare_declines (hb s) h2 (wpAny_call_entry h2 (hb s) F.cmpEntry_ne (ne_other_entry hb hne' ⟨_, rfl, rfl, ?_⟩) (F.cmpArgs_ne _ _)))
  have hk : isSame (.type a) (.type b) = pure false := by rw [isSame_plain rfl, hne]
  exact wpAny_bind (wpAny_rule (wpAny_bind (wpAny_of_eq hk (wpAny_pure q))))
end
section
variable {X : Cx}
theorem op_neT : OpR X (compareOp .NotEq) (fun x y H Q => ∃ a b, x = .ty a ∧ y = .ty b ∧ Kn a ∧ Kn b ∧ Q (.bl (!decide (a = b))) H) := by
  intro pins s σ H x y v u Q I rx ry h
  obtain ⟨a, b, rfl, rfl, ka, kb, q⟩ := h
  cases rx
  cases ry
  by_cases e : a = b
  · subst e
    rw [decide_eq_true rfl] at q
    exact ne_type_same (fun s' => ka.is s') ⟨.bl false, H, I, rfl, q⟩
  · rw [decide_eq_false e] at q
    exact ne_type_other (fun s' => ka.is s') (fun s' => kb.is s') (by rw [ty_beq]; exact decide_eq_false e) ⟨.bl true, H, I, rfl, q⟩
end
end L2

-- part: EN1
/-! enumerate of a tuple -/
namespace EnT
open PySem
open PySem.AutoSeq1 (wpAny_loadPart')
theorem made (l : Addr) (items : Array Value) (n : Nat) (dct : Option Addr) (sl : Array (Option Value)) :
    Meets (Builtin.«enumerate.__new__» ⟨[.type "enumerate", .ref l], []⟩) (fun _ R s => s.heap.get? l = some { cls := .type "tuple", dict := dct, data := .seq items n, slots := sl } ∧
      R (.ok (.ret (.ref (s.heap.push { cls := .type "tuple_iterator", data := .fields #[.ref l, .int 0 0] }).objs.size)))
        { s with heap := (s.heap.push { cls := .type "tuple_iterator", data := .fields #[.ref l, .int 0 0] }).push { cls := .type "enumerate", data := .fields #[.none, .bool false, .ref s.heap.objs.size, rawInt 0, .none, .none] } }) :=
  .of_wp fun prog w A R s h => by
    obtain ⟨hp, g, d, tk, os⟩ := s
    obtain ⟨hl, h⟩ := h
    have hsub := sub_enumerate
    have hL : Heap.IsTuple (Shared.heap ⟨hp, g, d, tk, os⟩) l items := ⟨_, hl, rfl, n, rfl⟩
    wp_walk using wpAny_loadPart' hl
    refine wpAny_stack_any fun st => wpAny_pure ?_
    split
    · rename_i c _ _ _ _ _
      cases (c == Value.type "enumerate")
      · wp_walk using wpAny_loadPart' hl, wpAny_pyIter_tuple hL
        exact ⟨_, rfl, h⟩
      · wp_walk using wpAny_loadPart' hl, wpAny_pyIter_tuple hL
        exact ⟨_, rfl, h⟩
    · wp_walk using wpAny_loadPart' hl, wpAny_pyIter_tuple hL
      exact ⟨_, rfl, h⟩
section
variable {prog : Program} {w : World} {A : Around} {E : Value → Shared → Prop} {s : Shared}
theorem call_enum {l : Addr} {items : Array Value} {Q : Value → Shared → Prop} (hL : s.heap.IsTuple l items)
    (h : ∀ h', IsEnum h' (s.heap.objs.size + 1) s.heap.objs.size 0 .none → h'.IsTupleIter s.heap.objs.size l 0 → (∀ b o, s.heap.get? b = some o → h'.get? b = some o) → Q (.ref (s.heap.objs.size + 1)) { s with heap := h' }) :
    wpAny (model prog w) A (call (.type "enumerate") [.ref l]) Q E s := by
  obtain ⟨⟨c, dct, dt, sl⟩, hl, hc, n, hd⟩ := hL
  obtain rfl : c = .type "tuple" := hc
  obtain rfl : dt = .seq items n := hd
  refine callType_new F.called_enumerate (by decide) (F.typeCall_enumerate_1 _) (F.newCall_enumerate_1 _) (fun obj => F.args_object_init_2 obj _) F.entry_enumerate_new (made l items n dct sl) ⟨hl, ?_⟩
  have hz : (s.heap.push { cls := .type "tuple_iterator", data := .fields #[.ref l, .int 0 0] }).objs.size = s.heap.objs.size + 1 := Heap.size_push ..
  have q := Heap.get?_push_size (s.heap.push { cls := .type "tuple_iterator", data := .fields #[.ref l, .int 0 0] }) (o := { cls := .type "enumerate", data := .fields #[.none, .bool false, .ref s.heap.objs.size, rawInt 0, .none, .none] }) rfl
  rw [hz] at q
  show _ ∧ _
  rw [hz]
  exact ⟨⟨_, q, rfl⟩, h _ q ⟨_, Heap.get?_push_of_some _ (Heap.get?_push_size _ rfl), rfl, rfl⟩ fun b o x => Heap.get?_push_of_some _ (Heap.get?_push_of_some _ x)⟩
/-- one turn: y, the iterator below, hands out x -/
theorem next_item {e it l : Addr} {i : Nat} {items : Array Value} {x old : Value} {Q : Option Value → Shared → Prop}
    (he : IsEnum s.heap e it i old) (hit : s.heap.IsTupleIter it l i) (hl : s.heap.IsTuple l items) (hx : items[i]? = some x) (hne : e ≠ it)
    (hQ : ∀ h', IsEnumOut h' e it ((i : Int) + 1) x s.heap.objs.size → h'.IsTupleIter it l (i + 1) → h'.get? s.heap.objs.size = some { cls := .type "tuple", data := .seq #[.int i s.toks, x] } →
      (∀ b o, b ≠ e → b ≠ it → s.heap.get? b = some o → h'.get? b = some o) → Q (some (.ref s.heap.objs.size)) { s with heap := h', toks := s.toks + 1 }) :
    wpAny (model prog w) A (pyNext (.ref e)) Q E s := by
  have hT : s.TypeIs (.ref e) "enumerate" := ⟨_, he, rfl⟩
  unfold pyNext
  refine wpAny_bind (wpAny_attempt (wpAny_callSpecial?_slot (name := Str.ofString "__next__") hT F.slot_enumerate_next (wpAny_call_entry F.slot_enumerate_next hT F.entry_enumerate_next ?_ (F.args_enumerate_next_1 _))))
  obtain ⟨hp, g, d, tk, os⟩ := s
  show wpAny _ _ (field (.ref e) 2 >>= _) _ _ _
  refine wpAny_bind (wpAny_field he rfl (x := .ref it) rfl (wpAny_bind (RZ.nextOf_tuple_item hit hl hx fun h1 hit1 k1 => ?_)))
  have k1 : Heap.SameBut it hp h1 := k1
  have he1 : IsEnum h1 e it i old := (k1.2 e hne).trans he
  show wpAny _ _ (field (.ref e) 3 >>= _) _ _ ⟨h1, g, d, tk, os⟩
  refine wpAny_bind (wpAny_field he1 rfl (x := rawInt i) rfl ?_)
  show wpAny _ _ (field (.ref e) 4 >>= _) _ _ ⟨h1, g, d, tk, os⟩
  refine wpAny_bind (wpAny_field he1 rfl (x := .none) rfl ?_)
  show wpAny _ _ (mkInt i >>= _) _ _ ⟨h1, g, d, tk, os⟩
  refine wpAny_bind (wpAny_mkInt ?_)
  refine wpAny_bind (wpAny_setField_rec (s := ⟨h1, g, d, tk + 1, os⟩) he1 (by simp) fun h2 he2 k2 => ?_)
  have k2 : Heap.SameBut e h1 h2 := k2
  have he2 : IsEnum h2 e it ((i : Int) + 1) old := he2
  refine wpAny_bind (wpAny_setField_rec (s := ⟨h2, g, d, tk + 1, os⟩) he2 (by simp) fun h3 he3 k3 => ?_)
  have k3 : Heap.SameBut e h2 h3 := k3
  have he3 : IsEnum h3 e it ((i : Int) + 1) old := he3
  have z3 : h3.objs.size = hp.objs.size := by rw [k3.1, k2.1, k1.1]
  have hel : e < hp.objs.size := Heap.lt_size he
  show wpAny _ _ (newTuple [.int i tk, x] >>= _) _ _ ⟨h3, g, d, tk + 1, os⟩
  refine wpAny_bind (wpAny_newTuple ?_)
  have he4 : IsEnum (h3.push { cls := .type "tuple", data := .seq #[.int i tk, x] }) e it ((i : Int) + 1) old := Heap.get?_push_of_some _ he3
  have ht4 : (h3.push { cls := .type "tuple", data := .seq #[.int i tk, x] }).get? hp.objs.size = some { cls := .type "tuple", data := .seq #[.int i tk, x] } := by rw [← z3]; exact Heap.get?_push_size _ rfl
  have kk : ∀ b o, b ≠ e → b ≠ it → hp.get? b = some o → (h3.push { cls := .type "tuple", data := .seq #[.int i tk, x] }).get? b = some o := fun b o n1 n2 q =>
    Heap.get?_push_of_some _ (k3.extBut b o n1 (k2.extBut b o n1 (k1.extBut b o n2 q)))
  have hit4 : (h3.push { cls := .type "tuple", data := .seq #[.int i tk, x] }).IsTupleIter it l (i + 1) := by
    obtain ⟨o, ho, r⟩ := (hit1.extBut k2.extBut (Ne.symm hne)).extBut k3.extBut (Ne.symm hne)
    exact ⟨o, Heap.get?_push_of_some _ ho, r⟩
  rw [z3]
  generalize h3.push { cls := .type "tuple", data := .seq #[.int i tk, x] } = h4 at he4 ht4 kk hit4
  show wpAny _ _ (Builtin.SmallTypes.ownedTupleIsFree (.ref e) >>= _) _ _ ⟨h4, g, d, tk + 1, os⟩
  refine wpAny_bind ?_
  unfold Builtin.SmallTypes.ownedTupleIsFree
  refine wpAny_bind (wpAny_field he4 rfl (x := .none) rfl (wpAny_pure ?_))
  simp only [if_true]
  refine wpAny_bind (wpAny_rule (wpAny_bind (wpAny_field he4 rfl (x := old) rfl ?_)))
  refine wpAny_bind (wpAny_setField_rec (s := ⟨h4, g, d, tk + 1, os⟩) he4 (by simp) fun h5 he5 k5 => ?_)
  have k5 : Heap.SameBut e h4 h5 := k5
  have he5 : IsEnum h5 e it ((i : Int) + 1) x := he5
  show wpAny _ _ (Builtin.SmallTypes.ownedTupleHandOut (.ref e) (.ref hp.objs.size) >>= _) _ _ ⟨h5, g, d, tk + 1, os⟩
  refine wpAny_bind ?_
  unfold Builtin.SmallTypes.ownedTupleHandOut
  refine wpAny_bind (wpAny_setField_rec he5 (by simp) fun h6 he6 k6 => ?_)
  have k6 : Heap.SameBut e h5 h6 := k6
  have he6 : IsEnumOut h6 e it ((i : Int) + 1) x hp.objs.size := he6
  refine wpAny_setField_rec he6 (by simp) fun h7 he7 k7 => ?_
  have k7 : Heap.SameBut e h6 h7 := k7
  have he7 : IsEnumOut h7 e it ((i : Int) + 1) x hp.objs.size := he7
  refine wpAny_bind (wpAny_letGo (wpAny_pure ⟨_, rfl, wpAny_pure (hQ h7 he7 ?_ ?_ ?_)⟩))
  · exact ((hit4.extBut k5.extBut (Ne.symm hne)).extBut k6.extBut (Ne.symm hne)).extBut k7.extBut (Ne.symm hne)
  · exact k7.extBut _ _ (Nat.ne_of_gt hel) (k6.extBut _ _ (Nat.ne_of_gt hel) (k5.extBut _ _ (Nat.ne_of_gt hel) ht4))
  · exact fun b o n1 n2 q => k7.extBut b o n1 (k6.extBut b o n1 (k5.extBut b o n1 (kk b o n1 n2 q)))
theorem next_end {e it l : Addr} {i : Nat} {items : Array Value} {old : Value} {Q : Option Value → Shared → Prop} (hh : A.handled = none)
    (he : IsEnum s.heap e it i old) (hit : s.heap.IsTupleIter it l i) (hl : s.heap.IsTuple l items) (hx : items[i]? = none)
    (hQ : ∀ h', Heap.ExtBut it s.heap h' → Q none { s with heap := h' }) : wpAny (model prog w) A (pyNext (.ref e)) Q E s := by
  have hT : s.TypeIs (.ref e) "enumerate" := ⟨_, he, rfl⟩
  unfold pyNext
  refine wpAny_bind (wpAny_attempt (wpAny_callSpecial?_slot (name := Str.ofString "__next__") hT F.slot_enumerate_next (wpAny_call_entry F.slot_enumerate_next hT F.entry_enumerate_next ?_ (F.args_enumerate_next_1 _))))
  show wpAny _ _ (field (.ref e) 2 >>= _) _ _ _
  refine wpAny_bind (wpAny_field he rfl (x := .ref it) rfl (wpAny_bind (RZ.nextOf_tuple_end hh hit hl hx fun h' y ke hy => ?_)))
  obtain ⟨o, ho, hc⟩ := hy
  exact wpAny_bind (wpAny_isInstance (T := "StopIteration") (b := true) ⟨o, ho, hc⟩ isSubtype_stop (wpAny_pure (hQ _ ke)))
end
end EnT
namespace L2
open PySem PySem.Spec PyProof.Rows
/-- the tuple at a, each item in a new pair -/
def IteT (K : PySem.W.Frag) (a : Addr) : It :=
  ⟨fun i H => ∃ (xs : List V) (x : V), SqT K H a xs ∧ xs[i]? = some x, fun i H v H' => ∃ T x, v = .ref T ∧ H T = none ∧ H' = upd H T (.tup [.int (i : Nat), x]) ∧ ∀ xs, SqT K H a xs → xs[i]? = some x, fun i H => ∃ xs : List V, SqT K H a xs ∧ xs.length ≤ i⟩
theorem turn_enumT {P : Program} {w : World} {K : PySem.W.Frag} {elts : List Expr} {kk : Nat} {tpos : Pos} (a e it : Addr) :
    Turn P w K (.Tuple elts kk tpos) (IteT K a) [e, it] e (fun i h => (∃ old, IsEnum h e it ((i : Nat) : Int) old) ∧ h.IsTupleIter it a i ∧ e ≠ it) where
  mem := by simp
  obj := fun i h ⟨⟨old, he⟩, ⟨o, ho, hc, hd⟩, _⟩ b hb => by
    rcases (show b = e ∨ b = it by simpa using hb) with z | z
    · rw [z]; exact ⟨_, he, fun v q => nomatch q⟩
    · rw [z]; exact ⟨o, ho, fun v q => by rw [hd] at q; cases q⟩
  keep := fun i h h' st k => let ⟨⟨old, he⟩, hi, hne⟩ := st; ⟨⟨old, k e (by simp) _ he⟩, hi.at fun o q => k it (by simp) o q, hne⟩
  item := by
    intro X hP hw hK hc i pins s σ H E I hf st hg
    subst hP hw hK
    obtain ⟨⟨old, he⟩, hit, hne⟩ := st
    obtain ⟨xs, x, hq, hx⟩ := hg
    obtain ⟨its, rv, p, hz⟩ := I.tuple hq
    obtain ⟨u, hu, ru⟩ := rv.get hx
    have hel : e < s.heap.objs.size := Heap.lt_size he
    have hil : it < s.heap.objs.size := by obtain ⟨_, q, _⟩ := hit; exact Heap.lt_size q
    refine EnT.next_item he hit p (x := u) (by simpa using hu) hne fun h' ho hit' hT hk => ?_
    refine ⟨_, rfl, wpAny_letOwnedTupleGo_enum (s := { s with heap := h', toks := s.toks + 1 }) ho fun h2 he2 sb => ?_⟩
    have hT2 : h2.get? s.heap.objs.size = some { cls := .type "tuple", data := .seq #[.int i s.toks, u] } := (sb.2 _ (Nat.ne_of_gt hel)).trans hT
    have I1 : Inv X pins σ (upd H s.heap.objs.size (.tup [.int (i : Nat), x])) { s with heap := h2, toks := s.toks + 1 } :=
      I.turnedNew (ch := [e, it]) (fun b ob hb q => (sb.2 b (fun z => hb (by simp [z]))).trans (hk b ob (fun z => hb (by simp [z])) (fun z => hb (by simp [z])) q)) hf (Nat.le_refl _)
        ⟨by show 2 ≤ sizeLine; decide, [.int i s.toks, u], .cons ⟨_, rfl⟩ (.cons ru .nil), ⟨_, hT2, rfl, _, rfl⟩⟩
    refine ⟨.ref s.heap.objs.size, _, I1, rfl, ⟨_, x, rfl, I.hok.fresh (Nat.le_refl _), rfl, fun ys hy => by rw [I.tuple_inj hy hq]; exact hx⟩, ⟨⟨u, ?_⟩, hit'.at fun o q => (sb.2 it (Ne.symm hne)).trans q, hne⟩, fun b hb => ?_⟩
    · rw [show ((i + 1 : Nat) : Int) = (i : Int) + 1 by omega]
      exact he2
    · have hb' : b < s.heap.objs.size := by
        rcases (show b = e ∨ b = it by simpa using hb) with z | z
        · rw [z]; exact hel
        · rw [z]; exact hil
      rw [upd_ne (Nat.ne_of_lt hb')]
      exact (hf b hb).1
  done := by
    intro X hP hw hK hc i pins s σ H E I hf st hg
    subst hP hw hK
    obtain ⟨⟨old, he⟩, hit, hne⟩ := st
    obtain ⟨xs, hq, hx⟩ := hg
    obtain ⟨its, rv, p, hz⟩ := I.tuple hq
    obtain ⟨f0, f1, f2, f3, f4, f5⟩ := hf it (by simp)
    have hl := rv.length
    exact EnT.next_end (I.ok.hd hc) he hit p (by simp; omega) fun h' eb => ⟨rfl, I.turned (t' := s.toks) (fun b o hb q => eb b o hb q) f0 f1 f3 f4 f5⟩
  self := fun A i s Q E st h => let ⟨⟨_, he⟩, _⟩ := st; wpAny_pyIter_enum he h
def iEnumT (K : PySem.W.Frag) (ta : TA) : TI := fun σ H R => ta σ H fun vs H1 => ∃ a xs, vs = [.ref a] ∧ SqT K H1 a xs ∧ R (IteT K a) H1
theorem pi_enumT {X : Cx} {e : Expr} {ta : TA} {p pos tpos : Pos} {elts : List Expr} {kk : Nat} (hg : Gl X "enumerate") (hm : X.mg "enumerate" = none) (ha : PA X [e] ta) (hs : starEach [e] X.env = [(false, eval e X.env)] := by rfl) :
    PI X (.Tuple elts kk tpos) (.Call (.Name "enumerate" p) [e] [] pos) (iEnumT X.K ta) := by
  refine ⟨fun pins s σ H R I h => ?_⟩
  refine Call_ (ld_blt I hg hm boot_enumerate (PyProof.Rows.callWith_type1 (thn (ha.run pos pins s σ H _ I h) fun us s1 ⟨vs, H1, I1, r1, a, xs, ex, hq, q⟩ => ?_) hs rfl))
  subst ex
  obtain ⟨u, rfl, ru⟩ := vals1 r1
  cases ru
  obtain ⟨its, rv, p', hz⟩ := I1.tuple hq
  refine EnT.call_enum p' fun h' he hit hk => wpAny_pyIter_enum he ?_
  refine ⟨s1.heap.objs.size + 1, [s1.heap.objs.size + 1, s1.heap.objs.size], _, _, H1, rfl, I1.kept (t' := s1.toks) hk, turn_enumT a (s1.heap.objs.size + 1) s1.heap.objs.size, ⟨⟨.none, he⟩, hit, Nat.succ_ne_self _⟩, fun b hb => ?_, q⟩
  have hle : s1.heap.objs.size ≤ b := by
    rcases (show b = s1.heap.objs.size + 1 ∨ b = s1.heap.objs.size by simpa using hb) with z | z
    · rw [z]; exact Nat.le_add_right _ _
    · rw [z]; exact Nat.le_refl _
  exact I1.fpOk hle (I1.hok.fresh hle)
/-- for the loop over such pairs: the turn -/
theorem for_enumA {xs : List V} {J : It} {g : TG} {tb : TS} {D : Ends} {σ : St} {H : Hp} (S : Hp → Prop) (hgo : ∀ i H, S H → i < xs.length → J.go i H) (hst : ∀ H, S H → J.stop xs.length H)
    (hy : ∀ i H y H', S H → J.yld i H y H' → ∃ T x, y = V.ref T ∧ H T = none ∧ H' = upd H T (.tup [.int (i : Nat), x]) ∧ xs[i]? = some x)
    (Pv : Nat → St → Hp → Prop) (h0 : Pv 0 σ H) (hl : ∀ i σ H, i ≤ xs.length → Pv i σ H → S H)
    (hs : ∀ i x T σ H, xs[i]? = some x → Pv i σ H → H T = none → g (.ref T) σ (upd H T (.tup [.int (i : Nat), x])) fun σ2 H2 => tb { D with nx := Pv (i + 1), ct := Pv (i + 1), bk := D.nx } σ2 H2) (hd : ∀ σ H, Pv xs.length σ H → D.nx σ H) :
    ∃ W : Nat → Nat → St → Hp → Prop, (∃ m, W 0 m σ H) ∧ ∀ i m σ H, W i m σ H →
      (J.stop i H ∧ D.nx σ H) ∨ (J.go i H ∧ ∃ N : St → Hp → Prop, (∀ σ' H', N σ' H' → ∃ m', m' < m ∧ W (i + 1) m' σ' H') ∧ ∀ x H', J.yld i H x H' → g x σ H' fun σ2 H2 => tb { D with nx := N, ct := N, bk := D.nx } σ2 H2) := by
  refine ⟨fun i m σ H => m = xs.length - i ∧ i ≤ xs.length ∧ Pv i σ H, ⟨xs.length, by simp, Nat.zero_le _, h0⟩, ?_⟩
  rintro i m σ H ⟨rfl, hi, p⟩
  have st := hl i σ H hi p
  by_cases hlt : i < xs.length
  · refine .inr ⟨hgo i H st hlt, Pv (i + 1), fun σ' H' q => ⟨xs.length - (i + 1), by omega, rfl, by omega, q⟩, fun y H' h => ?_⟩
    obtain ⟨T, x, rfl, hT, rfl, hx⟩ := hy i H y H' st h
    exact hs i x T σ H hx p hT
  · have e : i = xs.length := by omega
    subst e
    exact .inl ⟨hst H st, hd σ H p⟩
section
variable {K : PySem.W.Frag} {a : Addr} {xs : List V} {g : TG} {tb : TS} {D : Ends} {σ : St} {H : Hp} (Pv : Nat → St → Hp → Prop) (h0 : Pv 0 σ H)
  (hs : ∀ i x T σ H, xs[i]? = some x → Pv i σ H → H T = none → g (.ref T) σ (upd H T (.tup [.int (i : Nat), x])) fun σ2 H2 => tb { D with nx := Pv (i + 1), ct := Pv (i + 1), bk := D.nx } σ2 H2) (hd : ∀ σ H, Pv xs.length σ H → D.nx σ H)
include h0 hs hd
theorem for_enumL (hl : ∀ i σ H, i ≤ xs.length → Pv i σ H → SqL K H a xs) : ∃ W : Nat → Nat → St → Hp → Prop, (∃ m, W 0 m σ H) ∧ ∀ i m σ H, W i m σ H →
      ((Ite K a).stop i H ∧ D.nx σ H) ∨ ((Ite K a).go i H ∧ ∃ N : St → Hp → Prop, (∀ σ' H', N σ' H' → ∃ m', m' < m ∧ W (i + 1) m' σ' H') ∧ ∀ x H', (Ite K a).yld i H x H' → g x σ H' fun σ2 H2 => tb { D with nx := N, ct := N, bk := D.nx } σ2 H2) :=
  for_enumA (J := Ite K a) (fun H => SqL K H a xs) (fun i H h hi => ⟨xs, _, h, List.getElem?_eq_getElem hi⟩) (fun H h => ⟨xs, h, Nat.le_refl _⟩) (fun i H y H' h ⟨T, x, e, hT, e2, q⟩ => ⟨T, x, e, hT, e2, q xs h⟩) Pv h0 hl hs hd
theorem for_enumT (hl : ∀ i σ H, i ≤ xs.length → Pv i σ H → SqT K H a xs) : ∃ W : Nat → Nat → St → Hp → Prop, (∃ m, W 0 m σ H) ∧ ∀ i m σ H, W i m σ H →
      ((IteT K a).stop i H ∧ D.nx σ H) ∨ ((IteT K a).go i H ∧ ∃ N : St → Hp → Prop, (∀ σ' H', N σ' H' → ∃ m', m' < m ∧ W (i + 1) m' σ' H') ∧ ∀ x H', (IteT K a).yld i H x H' → g x σ H' fun σ2 H2 => tb { D with nx := N, ct := N, bk := D.nx } σ2 H2) :=
  for_enumA (J := IteT K a) (fun H => SqT K H a xs) (fun i H h hi => ⟨xs, _, h, List.getElem?_eq_getElem hi⟩) (fun H h => ⟨xs, h, Nat.le_refl _⟩) (fun i H y H' h ⟨T, x, e, hT, e2, q⟩ => ⟨T, x, e, hT, e2, q xs h⟩) Pv h0 hl hs hd
end
end L2

-- part: OQ1
namespace L2
open PySem PySem.Spec PyProof.Rows
/-- what stands on the right of an own ==: a built-in thing, or an instance of the class itself -/
inductive RightOf (K : PySem.W.Frag) (H : Hp) (C : Addr) : V → Prop where
  | bi {y : V} {T : String} (t : TyB K H y T) (n : PySem.W.notFirst K C (.type T) = true) : RightOf K H C y
  | ins {b dy : Addr} {gs : List (Str × V)} (h : H b = some (.ins C dy gs)) : RightOf K H C (.ref b)
def rEqIns (K : PySem.W.Frag) (C : Addr) (sp : Sp) : R2 := fun x y H Q => ∃ a dx fs, x = .ref a ∧ H a = some (.ins C dx fs) ∧ RightOf K H C y ∧ sp [x, y] H (fun v H' => ∃ b, v = .bl b ∧ Q v H') E0
section
variable {X : Cx}
theorem op_eqIns {n : Nat} {C f : Addr} {fd : FuncData} {ps : List Str} {sp : Sp} (F : FnOk X.prog X.w X.K X.mg X.base CX0 n f fd ps sp) (hr : Room n X.A)
    (hs : PySem.W.findIn X.K (.ref C) "__eq__" = some (some (.ref f))) (hf : PySem.W.isFn X.K (.ref f) = true) (hb : Binds X.K fd ps []) : OpR X (compareOp .Eq) (rEqIns X.K C sp) := by
  intro pins s σ H x y v u Q I rx ry h
  obtain ⟨a, dx, fs, rfl, ha, hR, hsp⟩ := h
  cases rx
  obtain ⟨mA, J, _⟩ := ins_get I.hok ha
  obtain ⟨od, J, _⟩ := J.look
  obtain ⟨m, hF⟩ := I.fr
  show wpAny (model X.prog X.w) X.A (richCompare .Eq (.ref a) u) (EP X pins σ Q) X.xe s
  have go : ∀ tb, PySem.W.Looks (model X.prog X.w) s.heap (typeOf u) tb → PySem.W.notFirst X.K C tb = true → wpAny (model X.prog X.w) X.A (richCompare .Eq (.ref a) u) (EP X pins σ Q) X.xe s := by
    intro tb hT hn
    refine PySem.W.cmp_K (op := .Eq) (tb := tb) hr.units0 hF I.ok.mod.kin J hT hn hs hf ?_
    have hl := F.len _ _ _ _ hsp
    have r2 : Vals [V.ref a, y] [Value.ref a, u] := .cons rfl (.cons ry .nil)
    refine wpAny_call (codeAny_mono (F.run X.A X.stack s H ⟨[.ref a, u], []⟩ [.ref a, u] [.ref a, y] _ E0 hr I.env0 (by
      have := hb s [.ref a, u] I.kIn (by simpa using hl)
      simpa using this) r2 hsp) fun r s' hq => ?_)
    cases r with
    | error e => exact hq.elim
    | ok fl =>
      cases fl with
      | ret w =>
        obtain ⟨z, H', I', rz, ⟨b, ez, q⟩⟩ := I.after hq
        subst ez
        cases rz
        exact ⟨.bl b, H', I', rfl, q⟩
      | next => exact False.elim hq
      | brk => exact False.elim hq
      | cont => exact False.elim hq
  cases hR with
  | @bi y T t n =>
    refine go _ ?_ n
    have ht := TyB.is I ry t
    have rf : ∀ b, u = Value.ref b → PySem.W.Looks (model X.prog X.w) s.heap (typeOf u) (.type T) := fun b e => by
      subst e
      obtain ⟨o, ho, hc⟩ := ht
      rw [← hc]
      exact (PySem.W.Looks.ld ho).andThen .now
    cases t with
    | non => cases ry; exact PySem.W.Looks.now
    | bl b => cases ry; exact PySem.W.Looks.now
    | int i => obtain ⟨tk, rfl⟩ := ry; exact PySem.W.Looks.now
    | str i => obtain ⟨tk, rfl⟩ := ry; exact PySem.W.Looks.now
    | byt i => obtain ⟨tk, rfl⟩ := ry; exact PySem.W.Looks.now
    | lst h => exact rf _ ry
    | tup h => exact rf _ ry
    | dK h => exact rf _ ry
  | @ins b dy gs h =>
    cases ry
    obtain ⟨mB, J', _⟩ := ins_get I.hok h
    obtain ⟨od', J', _⟩ := J'.look
    exact go _ J'.type (by simp [PySem.W.notFirst])
end
end L2

-- part: ST1
namespace L2
open PySem PySem.Spec PySem.Calls PyProof.Rows
/-- *a, b = a list of at least one: the last to b, a new list of the others to a -/
def gStar0 (K : PySem.W.Frag) (t : TGs) : TG := fun v σ H Q => ∃ a xs z, v = .ref a ∧ SqL K H a (xs ++ [z]) ∧ ∀ D, H D = none → t [.ref D, z] σ (upd H D (.lst xs)) Q
theorem vals_split : ∀ {xs ys : List V} {its : List Value}, Vals (xs ++ ys) its → ∃ us vs, its = us ++ vs ∧ Vals xs us ∧ Vals ys vs
  | [], _, its, h => ⟨[], its, rfl, .nil, h⟩
  | x :: xs, ys, _, .cons r t => by
    obtain ⟨us, vs, e, h1, h2⟩ := vals_split (xs := xs) t
    exact ⟨_ :: us, vs, by rw [e]; rfl, .cons r h1, h2⟩
variable {X : Cx}
theorem pg_star0 {e1 e2 : Expr} {p pos : Pos} {k : Nat} {t : TGs} (hc : X.calm = true) (h : PGs X [e1, e2] t) (he : (assignEach [.Starred e1 p, e2] X.env).map (·.2) = (assignEach [e1, e2] X.env).map (·.2) := by rfl)
    (hl : (assignEach [.Starred e1 p, e2] X.env).length = 2 := by rfl) (hs : (assignEach [.Starred e1 p, e2] X.env).findIdx? (·.1) = some 0 := by rfl) : PG X (.Tuple [.Starred e1 p, e2] k pos) (gStar0 X.K t) := by
  refine ⟨fun pins s σ H v u Q I r hw => ?_⟩
  obtain ⟨a, xs, z, rfl, hq, hw⟩ := hw
  cases r
  obtain ⟨its, rv, ho, hz⟩ := I.list hq
  have hh := I.ok.hd hc
  rw [assign_Tuple]
  refine wpAny_bind (wpAny_standAt ?_)
  unfold unpack
  rw [hl, hs]
  refine wpAny_bind (wpAny_holding ?_)
  have hlt : a ≠ s.heap.objs.size := Nat.ne_of_lt ho.lt
  unfold unpackItems
  refine wpAny_bind ?_
  unfold notIterableAtAll
  refine wpAny_bind (wpAny_specialOf ho.isList.typeIs slot_list_iter.lookup ?_)
  refine wpAny_pure ?_
  simp only [Bool.false_eq_true, if_false]
  have hL : s.heap.IsList a its.toArray := by
    obtain ⟨o, n, h1, h2, _, h4⟩ := ho
    exact ⟨o, h1, h2, n, h4⟩
  refine wpAny_bind (wpAny_holding (wpAny_pyIter_list hL ?_))
  refine wpAny_bind (wpAny_holding (wpAny_pure ?_))
  rw [if_neg (show ¬ (([] : List Value).length < 0) from Nat.lt_irrefl 0)]
  have e1 := Heap.get?_push_size s.heap (o := { cls := .type "list_iterator", data := .fields #[.ref a, .int 0 0] }) rfl
  have hl1 : (s.heap.push { cls := .type "list_iterator", data := .fields #[.ref a, .int 0 0] }).IsList a its.toArray := hL.push _
  have sz : its.length = xs.length + 1 := by rw [← rv.length, List.length_append]; rfl
  rw [List.length_append] at hz
  have hz1 : xs.length + 1 ≤ sizeLine := hz
  obtain ⟨ol, hol, _⟩ := id hl1
  refine wpAny_bind (wpAny_holding (PySem.W.kun_collect (items := its.toArray) (T := "list_iterator") (.inr (.inr (.inl rfl))) (Walks.list (A := X.A.in1) hh s.heap.objs.size a hlt its.toArray) (fun j u st => st.1.typeIs) (k := 0) (Nat.zero_le _) ⟨⟨_, e1, rfl, rfl⟩, hl1⟩ (Heap.lt_size e1) (Heap.lt_size hol) (fun h2 tk hk => ?_) (by rw [List.size_toArray, sz]; exact hz1)))
  obtain ⟨us, vs, rfl, r1, r2⟩ := vals_split rv
  obtain ⟨uz, rfl, rz⟩ : ∃ uz, vs = [uz] ∧ RelV z uz := by
    cases r2 with
    | cons h t =>
      cases t
      exact ⟨_, rfl, h⟩
  have lu : us.length = xs.length := r1.length.symm
  have d0 : List.drop 0 (us ++ [uz]).toArray.toList = us ++ [uz] := by simp
  rw [d0]
  have ln : (us ++ [uz]).length - (2 - 1 - 0) = us.length := by rw [List.length_append]; simp
  rw [if_neg (by rw [List.length_append]; simp), ln]
  have k2 : ∀ b o, s.heap.get? b = some o → h2.get? b = some o := fun b o hb => hk b o (Nat.ne_of_lt (Heap.lt_size hb)) (Heap.get?_push_of_some _ hb)
  have I2 : Inv X pins σ H { s with heap := h2, toks := tk } := I.kept k2
  refine wpAny_bind (wpAny_newList (wpAny_pure ?_))
  have et : List.take us.length (us ++ [uz]) = us := by simp
  have ed : List.drop us.length (us ++ [uz]) = [uz] := by simp
  rw [et, ed]
  have hD : H h2.objs.size = none := I2.hok.fresh (Nat.le_refl _)
  have I3 : Inv X pins σ (upd H h2.objs.size (.lst xs)) { s with heap := h2.push { cls := .type "list", data := .seq us.toArray }, toks := tk } :=
    Inv.laid (s := { s with heap := h2, toks := tk }) I2 (fun b o hb => Heap.get?_push_of_some _ hb) (Nat.le_refl _) ⟨by omega, us, _, r1, Heap.get?_push_size _ rfl⟩
  show wpAny _ _ (assignInOrder _ [.ref h2.objs.size, uz]) _ _ _
  rw [he]
  exact h.run pins _ σ _ [.ref h2.objs.size, z] _ Q I3 (.cons rfl (.cons rz .nil)) (hw _ hD)
end L2

-- part: G1
namespace Toy
open PySem L2
/-! ### letters and clauses -/
def absI (i : Int) : Int := if i < 0 then -i else i
theorem absI_nat (i : Int) : absI i = (i.natAbs : Int) := by unfold absI; split <;> omega
/-- the clause of a row: rising by truths, the same letters -/
structure IsCl (row c : List Int) : Prop where
  inc : c.Pairwise fun a b => a.natAbs < b.natAbs
  mem : ∀ x, x ∈ c ↔ x ∈ row
structure RowOk (t : Int) (row : List Int) : Prop where
  low : ∀ x ∈ row, 1 ≤ x.natAbs
  top : ∀ x ∈ row, (x.natAbs : Int) ≤ t
  one : ∀ x ∈ row, -x ∉ row
theorem inc_ext : ∀ {c d : List Int}, c.Pairwise (fun a b => a.natAbs < b.natAbs) → d.Pairwise (fun a b => a.natAbs < b.natAbs) → (∀ x, x ∈ c ↔ x ∈ d) → c = d
  | [], [], _, _, _ => rfl
  | [], y :: d, _, _, h => absurd ((h y).mpr List.mem_cons_self) (by simp)
  | x :: c, [], _, _, h => absurd ((h x).mp List.mem_cons_self) (by simp)
  | x :: c, y :: d, hc, hd, h => by
    have c1 := List.pairwise_cons.mp hc
    have d1 := List.pairwise_cons.mp hd
    have e : x = y := by
      rcases List.mem_cons.mp ((h x).mp List.mem_cons_self) with e | hx
      · exact e
      · rcases List.mem_cons.mp ((h y).mpr List.mem_cons_self) with e | hy
        · exact e.symm
        · have a1 := d1.1 x hx
          have a2 := c1.1 y hy
          omega
    subst e
    have nx : x ∉ c := fun z => by have := c1.1 x z; omega
    have ny : x ∉ d := fun z => by have := d1.1 x z; omega
    rw [inc_ext c1.2 d1.2 fun z => ⟨fun hz => (List.mem_cons.mp ((h z).mp (List.mem_cons_of_mem _ hz))).resolve_left fun e => nx (e ▸ hz), fun hz => (List.mem_cons.mp ((h z).mpr (List.mem_cons_of_mem _ hz))).resolve_left fun e => ny (e ▸ hz)⟩]
theorem IsCl.ext {row row' c c' : List Int} (h : IsCl row c) (h' : IsCl row' c') (e : ∀ x, x ∈ row ↔ x ∈ row') : c = c' :=
  inc_ext h.inc h'.inc fun x => (h.mem x).trans ((e x).trans (h'.mem x).symm)
/-- ints unlike by their truths, in order -/
theorem strict_of {ks out : List Int} (p : out.Perm ks) (nd : ks.Nodup) (one : ∀ x ∈ ks, -x ∉ ks) (low : ∀ x ∈ ks, 1 ≤ x.natAbs) (h : out.Pairwise fun a b => absI a ≤ absI b) : out.Pairwise fun a b => a.natAbs < b.natAbs := by
  have nd' : out.Nodup := p.nodup_iff.mpr nd
  have hm : ∀ x ∈ out, x ∈ ks := fun x hx => p.mem_iff.mp hx
  have q := h.imp_of_mem (S := fun a b => a ≠ b → a.natAbs < b.natAbs) fun {a b} ha hb hab ne => by
    rw [absI_nat, absI_nat] at hab
    have h1 := one a (hm a ha)
    have h2 := low a (hm a ha)
    have h3 : b ≠ -a := fun e => h1 (by rw [← e]; exact hm b hb)
    omega
  exact (q.and nd').imp fun h => h.1 h.2
section
variable {X : Cx} {H : Hp} {Q : VK}
/-- sorted by the truths -/
theorem go_abs {K : PySem.W.Frag} {ks : List Int} (q : ∀ (out : List Int) (p : Addr), out.Perm ks → out.Pairwise (fun a b => absI a ≤ absI b) → H p = none → Q (.ref p) (upd H p (.lst (out.map V.int)))) :
    SortGo K (fun x H Q => ∃ i, x = .int i ∧ Q (.int (if i < 0 then -i else i)) H) (ks.map V.int) H Q := by
  refine ⟨fun kv H' => H' = H ∧ kv = (ks.take kv.length).map fun i => V.int (absI i), ⟨rfl, by simp⟩, ?_, ?_⟩
  · rintro i v kv H' hi hl ⟨rfl, hk⟩
    rw [List.getElem?_map] at hi
    cases e : ks[i]? with
    | none => rw [e] at hi; cases hi
    | some z =>
      rw [e] at hi
      cases hi
      refine ⟨z, rfl, rfl, ?_⟩
      rw [List.length_append, List.length_singleton, hl, List.take_add_one, e]
      rw [hl] at hk
      simp only [Option.toList_some, List.map_append, List.map_cons, List.map_nil]
      rw [← hk]
      rfl
  · rintro kv H' ⟨rfl, hk⟩ hl
    rw [List.length_map] at hl
    rw [hl, List.take_length] at hk
    refine .inl ⟨ks.map absI, by rw [hk, List.map_map]; rfl, fun zs hp ho p hn => ?_⟩
    have e1 : (ks.map absI).zip (ks.map V.int) = ks.map fun i => (absI i, V.int i) := by
      rw [List.zip_map]
      have : ks.zip ks = ks.map fun i => (i, i) := by
        clear q hk hl hp
        induction ks with
        | nil => rfl
        | cons a r ih => rw [List.zip_cons_cons, ih]; rfl
      rw [this, List.map_map]
      rfl
    rw [e1] at hp
    have at_ : ∀ z ∈ zs, ∃ i, z = (absI i, V.int i) := fun z hz => by
      obtain ⟨i, _, e⟩ := List.mem_map.mp (hp.mem_iff.mp hz)
      exact ⟨i, e.symm⟩
    -- the ints of zs
    let f : Int × V → Int := fun z => match z.2 with | .int i => i | _ => 0
    have ef : zs.map (fun z => (absI (f z), V.int (f z))) = zs := by
      have : ∀ l : List (Int × V), (∀ z ∈ l, ∃ i, z = (absI i, V.int i)) → l.map (fun z => (absI (f z), V.int (f z))) = l := by
        intro l
        induction l with
        | nil => intro _; rfl
        | cons a r ih =>
          intro h
          obtain ⟨i, rfl⟩ := h a List.mem_cons_self
          rw [List.map_cons, ih fun z hz => h z (List.mem_cons_of_mem _ hz)]
      exact this zs at_
    have pk : (zs.map f).Perm ks := by
      have q1 := hp.map f
      rw [List.map_map] at q1
      have e2 : ks.map (f ∘ fun i => (absI i, V.int i)) = ks := by
        have : (f ∘ fun i => (absI i, V.int i)) = id := by funext i; rfl
        rw [this, List.map_id]
      rw [e2] at q1
      exact q1
    have po : (zs.map f).Pairwise fun a b => absI a ≤ absI b := by
      rw [← ef] at ho
      rw [List.pairwise_map] at ho ⊢
      exact ho
    have q2 := q (zs.map f) p pk po hn
    have e3 : (zs.map f).map V.int = zs.map (·.2) := by
      conv => rhs; rw [← ef]
      rw [List.map_map, List.map_map]
      rfl
    rw [e3] at q2
    exact q2
end
/-- tuples of ints at places -/
def TupsAt (H : Hp) (bs : List Addr) (cs : List (List Int)) : Prop := Paired (fun (b : Addr) (c : List Int) => H b = some (.tup (c.map V.int))) bs cs
theorem TupsAt.same {H H' : Hp} (e : Same H H') : ∀ {bs : List Addr} {cs : List (List Int)}, TupsAt H bs cs → TupsAt H' bs cs
  | _, _, .nil => .nil
  | _, _, .cons h t => .cons (e _ _ h) (TupsAt.same e t)
theorem TupsAt.len {H : Hp} : ∀ {bs : List Addr} {cs : List (List Int)}, TupsAt H bs cs → bs.length = cs.length
  | _, _, .nil => rfl
  | _, _, .cons _ t => by rw [List.length_cons, List.length_cons, TupsAt.len t]
theorem TupsAt.get {H : Hp} : ∀ {bs : List Addr} {cs : List (List Int)} {i : Nat} {b : Addr}, TupsAt H bs cs → bs[i]? = some b → ∃ c, cs[i]? = some c ∧ H b = some (.tup (c.map V.int))
  | _, _, _, _, .nil, h => by simp at h
  | _, _, 0, _, .cons h t, e => by cases e; exact ⟨_, rfl, h⟩
  | _, _, i + 1, _, .cons h t, e => TupsAt.get (i := i) t e
theorem TupsAt.zip {H : Hp} : ∀ {bs : List Addr} {cs : List (List Int)}, TupsAt H bs cs → ∀ p ∈ bs.zip cs, H p.1 = some (.tup (p.2.map V.int))
  | _, _, .nil, p, h => by simp at h
  | _, _, .cons h t, p, hp => by
    rw [List.zip_cons_cons] at hp
    rcases List.mem_cons.mp hp with rfl | hp
    · exact h
    · exact TupsAt.zip t p hp
theorem TupsAt.of_zip {H : Hp} : ∀ {zs : List (Addr × List Int)}, (∀ p ∈ zs, H p.1 = some (.tup (p.2.map V.int))) → TupsAt H (zs.map (·.1)) (zs.map (·.2))
  | [], _ => .nil
  | z :: zs, h => .cons (h z List.mem_cons_self) (TupsAt.of_zip fun p hp => h p (List.mem_cons_of_mem _ hp))
/-- shorter ones first, then rising -/
def ltC (a b : List Int) : Bool := ltKT ((a.length : Int), a) ((b.length : Int), b)
/-- what the key makes of a clause -/
def relLen (x : V) (H : Hp) (Q : VK) : Prop := ∃ c l, x = .ref c ∧ H c = some (.tup l) ∧ ∀ t, H t = none → Q (.ref t) (upd H t (.tup [.int (l.length : Int), .ref c]))
theorem go_cls {K : PySem.W.Frag} {rel : V → Hp → VK → Prop} {H : Hp} {Q : VK} {bs : List Addr} {cs : List (List Int)} (G : Hp → Prop) (g0 : G H) (gs : ∀ H1 H2, G H1 → Same H1 H2 → G H2)
    (hrel : ∀ x H Q, G H → relLen x H Q → rel x H Q) (T : TupsAt H bs cs)
    (q : ∀ (zs : List (Addr × List Int)) (H' : Hp) (p : Addr), zs.Perm (bs.zip cs) → zs.Pairwise (fun a b => ltC b.2 a.2 = false) → Same H H' → G H' → TupsAt H' (zs.map (·.1)) (zs.map (·.2)) → H' p = none → Q (.ref p) (upd H' p (.lst (zs.map fun z => V.ref z.1)))) :
    SortGo K rel (bs.map V.ref) H Q := by
  have hlen := T.len
  refine ⟨fun kv H' => Same H H' ∧ G H' ∧ ∃ ts : List Addr, kv = ts.map V.ref ∧ ∀ (i : Nat) (t b : Addr) (c : List Int), ts[i]? = some t → bs[i]? = some b → cs[i]? = some c → H' t = some (.tup [.int (c.length : Int), .ref b]), ⟨Same.refl H, g0, [], rfl, fun i t b c h => by simp at h⟩, ?_, ?_⟩
  · rintro i v kv H' hi hl ⟨sm, g, ts, rfl, hts⟩
    rw [List.getElem?_map] at hi
    cases e : bs[i]? with
    | none => rw [e] at hi; cases hi
    | some b =>
      rw [e] at hi
      cases hi
      obtain ⟨c, hc, hb⟩ := T.get e
      refine hrel _ _ _ g ⟨b, _, rfl, sm _ _ hb, fun t ht => ?_⟩
      have s2 : Same H' (upd H' t (.tup [.int ((c.map V.int).length : Int), .ref b])) := Same.new ht
      refine ⟨Same.trans sm s2, gs _ _ g s2, ts ++ [t], by rw [List.map_append]; rfl, fun j t' b' c' h1 h2 h3 => ?_⟩
      rw [List.length_map] at hl
      by_cases hj : j < ts.length
      · rw [List.getElem?_append_left hj] at h1
        exact s2 _ _ (hts j t' b' c' h1 h2 h3)
      · have hj' : j = ts.length := by
          have := (List.getElem?_eq_some_iff.mp h1).1
          rw [List.length_append, List.length_singleton] at this
          omega
        subst hj'
        rw [List.getElem?_append_right (Nat.le_refl _), Nat.sub_self] at h1
        cases h1
        rw [hl, e] at h2
        cases h2
        rw [hl, hc] at h3
        cases h3
        rw [upd_same, List.length_map]
  · rintro kv H' ⟨sm, g, ts, rfl, hts⟩ hl
    rw [List.length_map, List.length_map] at hl
    have T' := TupsAt.same sm T
    refine .inr ⟨cs.map fun c => ((c.length : Int), c), ?_, fun zs hp ho p hn => ?_⟩
    · -- the keys stand
      have : ∀ (ts bs : List Addr) (cs : List (List Int)), ts.length = bs.length → bs.length = cs.length → (∀ (i : Nat) (t b : Addr) (c : List Int), ts[i]? = some t → bs[i]? = some b → cs[i]? = some c → H' t = some (.tup [.int (c.length : Int), .ref b])) → TupsAt H' bs cs → Paired (KeyT K H') (ts.map V.ref) (cs.map fun c => ((c.length : Int), c)) := by
        intro ts
        induction ts with
        | nil =>
          intro bs cs h1 h2 _ _
          cases bs with
          | nil =>
            cases cs with
            | nil => exact .nil
            | cons c cs => simp at h2
          | cons b bs => simp at h1
        | cons t ts ih =>
          intro bs cs h1 h2 h3 h4
          cases h4 with
          | nil => simp at h1
          | cons hb ht =>
            refine .cons ⟨t, _, rfl, SqT.of (h3 0 _ _ _ rfl rfl rfl), SqT.of hb⟩ (ih _ _ (by simpa using h1) (by simpa using h2) (fun i t' b' c' a1 a2 a3 => h3 (i + 1) t' b' c' a1 a2 a3) ht)
      exact this ts bs cs hl hlen hts T'
    · have ez : (cs.map fun c => ((c.length : Int), c)).zip (bs.map V.ref) = (bs.zip cs).map fun z => (((z.2.length : Int), z.2), V.ref z.1) := by
        have : ∀ (bs : List Addr) (cs : List (List Int)), (cs.map fun c => ((c.length : Int), c)).zip (bs.map V.ref) = (bs.zip cs).map fun z => (((z.2.length : Int), z.2), V.ref z.1) := by
          intro bs
          induction bs with
          | nil => intro cs; cases cs <;> rfl
          | cons b bs ih =>
            intro cs
            cases cs with
            | nil => rfl
            | cons c cs =>
              rw [List.map_cons, List.map_cons, List.zip_cons_cons, List.zip_cons_cons, List.map_cons, ih]
        exact this bs cs
      rw [ez] at hp
      let f : (Int × List Int) × V → Addr × List Int := fun z => (match z.2 with | .ref a => a | _ => 0, z.1.2)
      have ef : zs.map (fun z => ((((f z).2.length : Int), (f z).2), V.ref (f z).1)) = zs := by
        have : ∀ l : List ((Int × List Int) × V), (∀ z ∈ l, ∃ y : Addr × List Int, z = (((y.2.length : Int), y.2), V.ref y.1)) → l.map (fun z => ((((f z).2.length : Int), (f z).2), V.ref (f z).1)) = l := by
          intro l
          induction l with
          | nil => intro _; rfl
          | cons a r ih =>
            intro h
            obtain ⟨y, rfl⟩ := h a List.mem_cons_self
            rw [List.map_cons, ih fun z hz => h z (List.mem_cons_of_mem _ hz)]
        exact this zs fun z hz => by
          obtain ⟨y, _, e⟩ := List.mem_map.mp (hp.mem_iff.mp hz)
          exact ⟨y, e.symm⟩
      have pk : (zs.map f).Perm (bs.zip cs) := by
        have q1 := hp.map f
        rw [List.map_map] at q1
        have e2 : (bs.zip cs).map (f ∘ fun z => (((z.2.length : Int), z.2), V.ref z.1)) = bs.zip cs := by
          have : (f ∘ fun z : Addr × List Int => (((z.2.length : Int), z.2), V.ref z.1)) = id := by funext z; rfl
          rw [this, List.map_id]
        rw [e2] at q1
        exact q1
      have po : (zs.map f).Pairwise fun a b => ltC b.2 a.2 = false := by
        rw [← ef] at ho
        rw [List.pairwise_map] at ho ⊢
        exact ho
      have tz : TupsAt H' ((zs.map f).map (·.1)) ((zs.map f).map (·.2)) := TupsAt.of_zip fun y hy => TupsAt.zip T' y (pk.mem_iff.mp hy)
      have q2 := q (zs.map f) H' p pk po sm g tz hn
      have e3 : (zs.map f).map (fun z => V.ref z.1) = zs.map (·.2) := by
        conv => rhs; rw [← ef]
        rw [List.map_map, List.map_map]
        rfl
      rw [e3] at q2
      exact q2
end Toy
namespace Toy
open PySem L2
/-! ### dicts by their keys -/
section
variable {κ α : Type} [DecidableEq κ] [DecidableEq α]
theorem valV_none {kvs : List (κ × V)} {k : κ} : valV kvs k = none ↔ k ∉ kvs.map (·.1) := by
  constructor
  · exact valV_not
  · intro h
    cases e : valV kvs k with
    | none => rfl
    | some v => exact absurd (valV_in e) h
/-- once more, at the end, if it isn't there -/
def addU (ks : List α) (n : α) : List α := if n ∈ ks then ks else ks ++ [n]
theorem keys_put {f : α → κ} (inj : ∀ a b, f a = f b → a = b) {kvs : List (κ × V)} {ks : List α} (h : kvs.map (·.1) = ks.map f) (n : α) (v : V) : (putK kvs (f n) v).map (·.1) = (addU ks n).map f := by
  unfold addU
  by_cases hn : n ∈ ks
  · rw [if_pos hn]
    have hm : f n ∈ kvs.map (·.1) := by rw [h]; exact List.mem_map.mpr ⟨n, hn, rfl⟩
    have ha : (kvs.any fun kv => decide (kv.1 = f n)) = true := by
      rw [List.any_eq_true]
      obtain ⟨p, hp, e⟩ := List.mem_map.mp hm
      exact ⟨p, hp, decide_eq_true e⟩
    unfold putK
    rw [if_pos ha, ← h, List.map_map]
    refine List.map_congr_left fun p _ => ?_
    show (if p.1 = f n then (p.1, v) else p).1 = p.1
    split <;> rfl
  · rw [if_neg hn]
    have hv : valV kvs (f n) = none := valV_none.mpr fun z => by
      rw [h] at z
      obtain ⟨m, hm, e⟩ := List.mem_map.mp z
      rw [inj _ _ e] at hm
      exact hn hm
    rw [putK_new v hv, List.map_append, h, List.map_append]
    rfl
theorem nd_add {ks : List α} (h : ks.Nodup) (n : α) : (addU ks n).Nodup := by
  unfold addU
  split
  · exact h
  · rename_i hn
    rw [List.nodup_append]
    exact ⟨h, by simp, fun a ha b hb => by rw [List.mem_singleton.mp hb]; exact fun e => hn (e ▸ ha)⟩
theorem mem_add {ks : List α} (n z : α) : z ∈ addU ks n ↔ z ∈ ks ∨ z = n := by
  unfold addU
  split
  · rename_i hn
    exact ⟨.inl, fun h => h.elim id fun e => e ▸ hn⟩
  · simp
theorem len_add {ks : List α} (n : α) : (addU ks n).length ≤ ks.length + 1 := by
  unfold addU
  split
  · omega
  · simp
theorem val_keys {f : α → κ} (inj : ∀ a b, f a = f b → a = b) {kvs : List (κ × V)} {ks : List α} (h : kvs.map (·.1) = ks.map f) (n : α) : (valV kvs (f n)).isSome = decide (n ∈ ks) := by
  by_cases hn : n ∈ ks
  · rw [decide_eq_true hn]
    cases e : valV kvs (f n) with
    | some v => rfl
    | none => exact absurd (by rw [h]; exact List.mem_map.mpr ⟨n, hn, rfl⟩) (valV_none.mp e)
  · rw [decide_eq_false hn, valV_none.mpr fun z => by
      rw [h] at z
      obtain ⟨m, hm, e⟩ := List.mem_map.mp z
      rw [inj _ _ e] at hm
      exact hn hm]
    rfl
end
theorem inl_inj (a b : Int) (h : (Sum.inl a : Key) = Sum.inl b) : a = b := Sum.inl.inj h
/-- a tuple of ints as a key -/
def tkey (c : List Int) : List Key := c.map Sum.inl
theorem tkey_inj (a b : List Int) (h : tkey a = tkey b) : a = b := (List.map_inj_right (fun x y h => Sum.inl.inj h)).mp h
theorem tkey_kV (c : List Int) : (tkey c).map kV = c.map V.int := by
  unfold tkey
  rw [List.map_map]
  rfl
end Toy
namespace Toy
open PySem L2
theorem e_sorted {r : V → Hp → VK → Prop} {t : TA} {σ : St} {H : Hp} {Q : VK} : tSorted r t σ H Q = t σ H fun vs H1 => ∃ x, vs = [x] ∧ r x H1 Q := rfl
end Toy
namespace Toy
open PySem L2
/-! ### the clauses of a problem -/
theorem ltC_irrefl (a : List Int) : ltC a a = false := by
  unfold ltC ltKT
  rw [if_pos rfl]
  exact lex_irrefl a
theorem ltC_total {a b : List Int} (h1 : ltC a b = false) (h2 : ltC b a = false) : a = b := by
  unfold ltC ltKT at h1 h2
  by_cases e : (a.length : Int) = (b.length : Int)
  · have h1 : HT.lexLt a b = false := by rw [if_pos e] at h1; exact h1
    have h2 : HT.lexLt b a = false := by rw [if_pos e.symm] at h2; exact h2
    exact lex_total a b h1 h2
  · rw [if_neg e] at h1
    rw [if_neg (Ne.symm e)] at h2
    have d1 := of_decide_eq_false h1
    have d2 := of_decide_eq_false h2
    omega
theorem ltC_asym {a b : List Int} (h : ltC a b = true) : ltC b a = false := swo_KT.asym _ _ h
theorem ltC_trans {a b c : List Int} (h1 : ltC a b = true) (h2 : ltC b c = true) : ltC a c = true := swo_KT.ltle h1 (swo_KT.asym _ _ h2)
/-- shorter ones first, rising: the unlike clauses of the rows -/
structure IsDue (rows cs : List (List Int)) : Prop where
  inc : cs.Pairwise fun a b => ltC a b = true
  mem : ∀ c, c ∈ cs ↔ ∃ row ∈ rows, IsCl row c
theorem ltC_ext : ∀ {c d : List (List Int)}, c.Pairwise (fun a b => ltC a b = true) → d.Pairwise (fun a b => ltC a b = true) → (∀ x, x ∈ c ↔ x ∈ d) → c = d
  | [], [], _, _, _ => rfl
  | [], y :: d, _, _, h => absurd ((h y).mpr List.mem_cons_self) (by simp)
  | x :: c, [], _, _, h => absurd ((h x).mp List.mem_cons_self) (by simp)
  | x :: c, y :: d, hc, hd, h => by
    have c1 := List.pairwise_cons.mp hc
    have d1 := List.pairwise_cons.mp hd
    have irr : ∀ z : List Int, ltC z z = true → False := fun z q => by rw [ltC_irrefl] at q; cases q
    have e : x = y := by
      rcases List.mem_cons.mp ((h x).mp List.mem_cons_self) with e | hx
      · exact e
      · rcases List.mem_cons.mp ((h y).mpr List.mem_cons_self) with e | hy
        · exact e.symm
        · exact (irr _ (ltC_trans (d1.1 x hx) (c1.1 y hy))).elim
    subst e
    have nx : x ∉ c := fun z => irr _ (c1.1 x z)
    have ny : x ∉ d := fun z => irr _ (d1.1 x z)
    rw [ltC_ext c1.2 d1.2 fun z => ⟨fun hz => (List.mem_cons.mp ((h z).mp (List.mem_cons_of_mem _ hz))).resolve_left fun e => nx (e ▸ hz), fun hz => (List.mem_cons.mp ((h z).mpr (List.mem_cons_of_mem _ hz))).resolve_left fun e => ny (e ▸ hz)⟩]
theorem IsDue.ext {r r' c c' : List (List Int)} (h : IsDue r c) (h' : IsDue r' c') (e : ∀ x, (∃ row ∈ r, IsCl row x) ↔ ∃ row ∈ r', IsCl row x) : c = c' :=
  ltC_ext h.inc h'.inc fun x => (h.mem x).trans ((e x).trans (h'.mem x).symm)
theorem inc_of {cs out : List (List Int)} (p : out.Perm cs) (nd : cs.Nodup) (h : out.Pairwise fun a b => ltC b a = false) : out.Pairwise fun a b => ltC a b = true := by
  have nd' : out.Nodup := p.nodup_iff.mpr nd
  refine (h.and nd').imp fun {a b} h => ?_
  cases e : ltC a b with
  | true => rfl
  | false => exact absurd (ltC_total e h.1) h.2
/-- the tuples that are the keys of a dict -/
theorem tups_of_keys {H : Hp} : ∀ {kvs : List (List Key × V)} {bs : List Addr} {cs : List (List Int)}, IsKeys H kvs bs → kvs.map (·.1) = cs.map tkey → TupsAt H bs cs
  | _, _, [], .nil, _ => .nil
  | _, _, _ :: _, .nil, h => by cases h
  | _, _, [], .cons _ _, h => by cases h
  | _, _, c :: cs, .cons hb t, h => by
    rw [List.map_cons, List.map_cons] at h
    have h1 := (List.cons.inj h).1
    have h2 := (List.cons.inj h).2
    refine .cons ?_ (tups_of_keys t h2)
    rw [h1, tkey_kV] at hb
    exact hb
end Toy
namespace Toy
open PySem L2
/-! ### clauses as data -/
def dTup (c : List Int) : PyData := .tuple (c.map PyData.int)
def dCls (cs : List (List Int)) : PyData := .tuple (cs.map dTup)
theorem dpAll_cls {K : PySem.W.Frag} {H : Hp} : ∀ {bs : List Addr} {cs : List (List Int)}, TupsAt H bs cs → DpAll K H (bs.map V.ref) (cs.map dTup)
  | _, _, .nil => .nil
  | _, _, .cons h t => .cons (.tup (SqT.of h) (dpAll_ints _)) (dpAll_cls t)
theorem can_cls : ∀ cs : List (List Int), PyData.canLayAll0 (cs.map dTup) = true
  | [] => by simp [PyData.canLayAll0]
  | c :: cs => by simp [PyData.canLayAll0, dTup, PyData.canLay0, can_intsD, can_cls cs]
theorem dep_cls : ∀ cs : List (List Int), PyData.depthAll (cs.map dTup) ≤ 2
  | [] => by simp [PyData.depthAll]
  | c :: cs => by
    have h1 := dep_cls cs
    have h2 := dep_intsD c
    simp only [List.map_cons, PyData.depthAll, dTup, PyData.depth]
    omega
theorem shaped_cls (cs : List (List Int)) : SeqAt.shaped (dCls cs) = true := by
  have h := dep_cls cs
  unfold SeqAt.shaped dCls
  rw [Bool.and_eq_true]
  refine ⟨by simp [PyData.canLay0, can_cls], decide_eq_true ?_⟩
  simp only [PyData.depth]
  omega
theorem eqvAll_cls : ∀ a b : List (List Int), PyData.eqvAll (a.map dTup) (b.map dTup) = decide (a = b)
  | [], [] => by simp [PyData.eqvAll]
  | [], y :: b => by simp [PyData.eqvAll]
  | x :: a, [] => by simp [PyData.eqvAll]
  | x :: a, y :: b => by
    simp only [List.map_cons, PyData.eqvAll, dTup, PyData.eqv, eqvAll_ints]
    rw [eqvAll_cls a b]
    by_cases h1 : x = y <;> by_cases h2 : a = b <;> simp [h1, h2]
theorem eqv_cls (a b : List (List Int)) : PyData.eqv (dCls a) (dCls b) = decide (a = b) := by
  unfold dCls
  simp only [PyData.eqv]
  exact eqvAll_cls a b
end Toy
namespace Toy
open PySem L2
theorem e_dsetd {td ty tx : TE} {σ : St} {H : Hp} {Q : VK} : tDSetd td ty tx σ H Q = td σ H fun x H1 => ∃ a, x = .ref a ∧ IsD H1 a ∧ ty σ H1 fun y H2 => tx σ H2 fun z H3 => ∃ (kvs : List (Key × V)) (k : Key), H3 a = some (.dK kvs) ∧ y = kV k ∧ kvs.length < sizeLine ∧
  (∀ v, valV kvs k = some v → Q v H3) ∧ (valV kvs k = none → Q z (upd H3 a (.dK (putK kvs k z)))) := rfl
/-- the draw of one of two -/
theorem at_two {a b : V} {r : Int} (h0 : 0 ≤ r) (h1 : r < 2) : (r = 0 ∧ atI [a, b] r = some a) ∨ (r = 1 ∧ atI [a, b] r = some b) := by
  have : r = 0 ∨ r = 1 := by omega
  rcases this with rfl | rfl
  · exact .inl ⟨rfl, rfl⟩
  · exact .inr ⟨rfl, rfl⟩
end Toy

local macro_rules | `(tactic| walk_at "rd") => `(tactic| try simp only [Toy.e_seq, Toy.e_asg, Toy.e_asgS, Toy.e_ret, Toy.e_ifS, Toy.e_c, Toy.e_op, Toy.e_test, Toy.e_rI0, Toy.e_rI, Toy.e_var0, Toy.e_varS, Toy.e_bl, Toy.e_nil, Toy.e_cons, Toy.e_call, Toy.e_cb, Toy.e_next, Toy.e_bl2, Toy.e_cxK, Toy.e_ii, Toy.e_lst, Toy.e_tup, Toy.e_and, Toy.e_chain, Toy.e_tif, Toy.e_not, Toy.e_tb, Toy.e_drop, Toy.e_i1, Toy.e_or, Toy.e_andT, Toy.e_din, Toy.e_dnotin, Toy.e_un, Toy.e_rU, Toy.e_dput, Toy.e_x1, Toy.e_notV, Toy.e_orV, Toy.e_sorted, Toy.e_fld, Toy.e_gName, Toy.e_bm, Toy.e_dsetd, Toy.e_par, Toy.e_vw, Toy.e_dnewK, List.set_cons_zero, List.set_cons_succ, List.append_nil, List.nil_append, List.cons_append])
-- part: P1
namespace Toy
open PySem L2
def topS (i : Nat) : Stmt := PySem.Challenge.pw_turnless_k06_texts_of_problems.main.body.getD i (.Pass ⟨0, 0, 0, 0⟩)
/-- a def of the top -/
structure Df (K : PySem.W.Frag) (mg : Str → Option Value) (x : Str) (st : Stmt) (ps : List Str) (f : Addr) (fd : FuncData) : Prop where
  F : Fun K x x st f fd
  g : mg x = some (.ref f)
  b : Binds K fd ps []
/-- the built-in names -/
structure Bl (mg : Str → Option Value) : Prop where
  max : mg "max" = none
  min : mg "min" = none
  len : mg "len" = none
  range : mg "range" = none
  type : mg "type" = none
  int : mg "int" = none
  list : mg "list" = none
  tuple : mg "tuple" = none
  dict : mg "dict" = none
  bool : mg "bool" = none
  abs : mg "abs" = none
  sorted : mg "sorted" = none
  enumerate : mg "enumerate" = none
  isinstance : mg "isinstance" = none
  repr : mg "repr" = none
section
variable {P : Program} {w : World} {K : PySem.W.Frag} {mg : Str → Option Value} {base : Heap}
abbrev sIsNum : Stmt := topS 7
theorem scIsNum : FnScope ["thing"] ["thing"] (defScope sIsNum) := ⟨rfl, rfl, rfl, by decide +kernel, rfl, by decide +kernel, by decide +kernel⟩
def spIsNum (K : PySem.W.Frag) : Sp := fun vs H Q _ => ∃ x T, vs = [x] ∧ TyB K H x T ∧ Q (.bl (decide (T = "int"))) H
theorem ok_isNum {f : Addr} {fd : FuncData} (F : Fun K "is_number" "is_number" sIsNum f fd) (B : Bl mg) : FnOk P w K mg base CX0 1 f fd ["thing"] (spIsNum K) := by
  refine F.ok scIsNum (fun vs H Q E h => ?_) (fun cdv A outer s H vs Q E hr h => ?_)
  · obtain ⟨x, T, rfl, _⟩ := h
    rfl
  · obtain ⟨x, T, rfl, ty, q⟩ := h
    refine ⟨_, pss_one (ps_ret (pe_cmpR op_eqTy (pe_callTy call_type1 (by rfl) B.type (by decide +kernel) (pa_cons (pv 0) pa_nil)) (pe_bltn (v := .ty "int") (by rfl) B.int (by decide +kernel) rfl) (nomark _))), ?_⟩
    show tRet _ _ [some x] H
    walk_at "rd"
    exact ⟨x, T, rfl, ty, _, _, rfl, rfl, Kn.ty ty, .inl rfl, q⟩
abbrev sIsList : Stmt := topS 8
theorem scIsList : FnScope ["thing"] ["thing"] (defScope sIsList) := ⟨rfl, rfl, rfl, by decide +kernel, rfl, by decide +kernel, by decide +kernel⟩
def spIsList (K : PySem.W.Frag) : Sp := fun vs H Q _ => ∃ x T, vs = [x] ∧ TyB K H x T ∧ ∀ H', Same H H' → Q (.bl (["list", "tuple"].contains T)) H'
theorem ok_isList {f : Addr} {fd : FuncData} (F : Fun K "is_list" "is_list" sIsList f fd) (B : Bl mg) : FnOk P w K mg base CX0 1 f fd ["thing"] (spIsList K) := by
  refine F.ok scIsList (fun vs H Q E h => ?_) (fun cdv A outer s H vs Q E hr h => ?_)
  · obtain ⟨x, T, rfl, _⟩ := h
    rfl
  · obtain ⟨x, T, rfl, ty, q⟩ := h
    refine ⟨_, pss_one (ps_ret (pe_cmpR op_inTy (pe_callTy call_type1 (by rfl) B.type (by decide +kernel) (pa_cons (pv 0) pa_nil)) (pe_tup (pa_cons (pe_bltn (v := .ty "list") (by rfl) B.list (by decide +kernel) rfl) (pa_cons (pe_bltn (v := .ty "tuple") (by rfl) B.tuple (by decide +kernel) rfl) pa_nil))) (by rfl))), ?_⟩
    show tRet _ _ [some x] H
    walk_at "rd"
    refine ⟨x, T, rfl, ty, by show 2 ≤ sizeLine; decide, fun p hp => ?_⟩
    exact ⟨T, p, ["list", "tuple"], rfl, rfl, SqT.of upd_same, Kn.ty ty, by simp [Kn], q _ (Same.new hp)⟩
abbrev sIsLet : Stmt := topS 9
theorem scIsLet : FnScope ["thing", "many"] ["thing", "many"] (defScope sIsLet) := ⟨rfl, rfl, rfl, by decide +kernel, rfl, by decide +kernel, by decide +kernel⟩
/-- whether x is a letter of t truths -/
def letB (x : V) (t : Int) : Bool := match x with
  | .int i => decide (1 ≤ absI i) && decide (absI i ≤ t)
  | _ => false
def spIsLet (K : PySem.W.Frag) : Sp := fun vs H Q _ => ∃ x T t, vs = [x, .int t] ∧ TyB K H x T ∧ Q (.bl (letB x t)) H
theorem ok_isLet {f fN : Addr} {fd fdN : FuncData} (F : Fun K "is_letter" "is_letter" sIsLet f fd) (B : Bl mg) (N : Df K mg "is_number" sIsNum ["thing"] fN fdN) : FnOk P w K mg base CX0 2 f fd ["thing", "many"] (spIsLet K) := by
  have GN : FnOk P w K mg base CX0 1 fN fdN ["thing"] (spIsNum K) := ok_isNum N.F B
  refine F.ok scIsLet (fun vs H Q E h => ?_) (fun cdv A outer s H vs Q E hr h => ?_)
  · obtain ⟨x, T, t, rfl, _⟩ := h
    rfl
  · obtain ⟨x, T, t, rfl, ty, q⟩ := h
    refine ⟨_, pss_one (ps_ret (pe_and (pe_call GN hr rfl N.g N.F.kp N.b .nil pass0 (pa_cons (pv 0) pa_nil)) (pe_one (pe_chain op_le op_le pe_int (pe_callB call_abs (by rfl) B.abs (by decide +kernel) (pa_cons (pv 0) pa_nil)) (pv 1))))), ?_⟩
    show tRet _ _ [some x, some (.int t)] H
    walk_at "rd"
    refine ⟨x, T, rfl, ty, ?_⟩
    walk_at "rd"
    cases ty with
    | int i =>
      refine iteT ?_
      walk_at "rd"
      by_cases h1 : 1 ≤ absI i
      · have e : decide (1 ≤ if i < 0 then -i else i) = true := decide_eq_true h1
        rw [e]
        refine iteT ?_
        have q' := q
        unfold letB at q'
        simp only [h1, decide_true, Bool.true_and] at q'
        exact q'
      · have e : decide (1 ≤ if i < 0 then -i else i) = false := decide_eq_false h1
        rw [e]
        refine iteF ?_
        have q' := q
        unfold letB at q'
        simp only [h1, decide_false, Bool.false_and] at q'
        exact q'
    | _ => exact q
end
end Toy

-- part: P2
namespace Toy
open PySem L2
section
variable {P : Program} {w : World} {K : PySem.W.Frag} {mg : Str → Option Value} {base : Heap}
abbrev sClause : Stmt := topS 10
theorem scClause : FnScope ["thing", "many", "letters", "letter"] ["thing", "many"] (defScope sClause) := ⟨rfl, rfl, rfl, by decide +kernel, rfl, by decide +kernel, by decide +kernel⟩
/-- a list or a tuple of these -/
def SqA (K : PySem.W.Frag) (H : Hp) (p : Addr) (xs : List V) : Prop := SqL K H p xs ∨ SqT K H p xs
theorem Same.sqt {K : PySem.W.Frag} {H H' : Hp} {a : Addr} {xs : List V} (e : Same H H') (h : SqT K H a xs) : SqT K H' a xs := by
  rcases h with (h | ⟨o, h⟩) | h
  · exact .inl (.inl (e _ _ h))
  · exact .inl (.inr ⟨o, e _ _ h⟩)
  · exact .inr h
theorem SqA.same {K : PySem.W.Frag} {H H' : Hp} {p : Addr} {xs : List V} (e : Same H H') (h : SqA K H p xs) : SqA K H' p xs := h.elim (fun h => .inl (Same.seq e h)) fun h => .inr (Same.sqt e h)
theorem SqA.ty {K : PySem.W.Frag} {H : Hp} {p : Addr} {xs : List V} (h : SqA K H p xs) : ∃ T, TyB K H (.ref p) T ∧ (["list", "tuple"].contains T) = true := h.elim (fun h => ⟨"list", .lst h, by decide⟩) fun h => ⟨"tuple", .tup h, by decide⟩
theorem u100 {k : Nat} {A : Around} (hr : Room k A) : A.units + 100 < cLine := by have := hr.un; omega
def spClause (K : PySem.W.Frag) : Sp := fun vs H Q _ => ∃ p row t, vs = [.ref p, .int t] ∧ SqA K H p (row.map V.int) ∧ RowOk t row ∧ row.length ≤ 1000 ∧ ∀ (c : List Int) (a : Addr) (H' : Hp), IsCl row c → Same H H' → H' a = some (.tup (c.map V.int)) → Q (.ref a) H'
theorem ok_clause {f fN fL fT : Addr} {fd fdN fdL fdT : FuncData} (F : Fun K "clause_of" "clause_of" sClause f fd) (B : Bl mg) (N : Df K mg "is_number" sIsNum ["thing"] fN fdN) (L : Df K mg "is_list" sIsList ["thing"] fL fdL) (T : Df K mg "is_letter" sIsLet ["thing", "many"] fT fdT) :
    FnOk P w K mg base CX0 3 f fd ["thing", "many"] (spClause K) := by
  have GL : FnOk P w K mg base CX0 1 fL fdL ["thing"] (spIsList K) := ok_isList L.F B
  have GT : FnOk P w K mg base CX0 2 fT fdT ["thing", "many"] (spIsLet K) := ok_isLet T.F B N
  refine F.ok scClause (fun vs H Q E h => ?_) (fun cdv A outer s H vs Q E hr h => ?_)
  · obtain ⟨p, row, t, rfl, _⟩ := h
    rfl
  · obtain ⟨p, row, t, rfl, hS, ok, hlen, q⟩ := h
    have hu := hu_of hr
    refine ⟨_, pss_cons (ps_if (pt_not (pt_val (pe_call GL (hr.mono (by decide)) rfl L.g L.F.kp L.b .nil pass0 (pa_cons (pv 0) pa_nil)))) (pss_one (ps_ret pe_non)) pss_nil)
      (pss_cons (ps_set (i := 2) scClause.nd rfl (Or.inl rfl) pe_dnewK)
      (pss_cons (ps_for PassesOwn.never rfl (pi_or (pi_list (pv 0)) (pi_tup (pv 0))) (pg_name (i := 3) scClause.nd rfl (Or.inl rfl))
        (pss_cons (ps_if (PW.pt (pw_or (pt_not (pt_val (pe_call GT hr rfl T.g T.F.kp T.b .nil pass0 (pa_cons (pv 3) (pa_cons (pv 1) pa_nil))))) (pw_or1 (pt_cmp (pc_din hu (pe_un un_neg (pv 3)) (pv 2)))))) (pss_one (ps_ret pe_non)) pss_nil)
        (pss_one (ps_dput hu (pv 2) (pv 3) pe_bl rfl))))
      (pss_one (ps_ret (pe_callTy call_tuple_of (by rfl) B.tuple (by decide +kernel) (pa_cons (pe_sorted (run_list (u100 hr) rel_abs fun a => PyProof.Rows.ksk_t4 "abs" a) (key_abs (by rfl) B.abs) (by rfl) B.sorted
        (pa_cons (pe_callTy (call_listD rfl) (by rfl) B.list (by decide +kernel) (pa_cons (pv 2) pa_nil)) pa_nil)) pa_nil)))))), ?_⟩
    show tSeq _ _ _ [some (.ref p), some (.int t), none, none] H
    walk_at "rd"
    obtain ⟨Ty, ty, hty⟩ := hS.ty
    refine ⟨.ref p, Ty, rfl, ty, fun H1 s1 => ?_⟩
    rw [hty]
    walk_at "rd"
    refine iteF ?_
    walk_at "rd"
    intro d hd
    walk_at "rd"
    have nd1 : Same H1 (upd H1 d (.dK [])) := Same.new hd
    let Pv : Nat → St → Hp → Prop := fun i σ H' => ∃ (kvs : List (Key × V)) (ks : List Int) (lv : Option V), σ = [some (.ref p), some (.int t), some (.ref d), lv] ∧ Same H1 H' ∧ H' d = some (.dK kvs) ∧ kvs.map (·.1) = ks.map Sum.inl ∧ ks.Nodup ∧ (∀ z, z ∈ ks ↔ z ∈ row.take i) ∧ ks.length ≤ i
    have h0 : Pv 0 [some (.ref p), some (.int t), some (.ref d), none] (upd H1 d (.dK [])) := ⟨[], [], none, rfl, nd1, upd_same, rfl, List.nodup_nil, by simp, Nat.le_refl _⟩
    have sS : ∀ i σ H', Pv i σ H' → SqA K H' p (row.map V.int) := fun i σ H' ⟨_, _, _, _, e, _⟩ => SqA.same (Same.trans s1 e) hS
    have hs : ∀ (D : Ends) i x σ H', (row.map V.int)[i]? = some x → Pv i σ H' → (tSeq (tIfS (tOr (tNot (tB (tCall (spIsLet K) [] E0 (tCons (tVar 3) (tCons (tVar 1) tNil))))) (tB (tDIn (tUn (rU fun i => V.int (-i)) (tVar 3)) (tVar 2)))) (tRet (tC V.non)) tNext) (sDPut (tVar 2) (tVar 3) (tC (V.bl true)))) { D with nx := Pv (i + 1), ct := Pv (i + 1), bk := D.nx } (σ.set 3 (some x)) H' := by
      rintro D i x σ H' hi ⟨kvs, ks, lv, rfl, e1, hk, hkeys, hnd, hmem, hkl⟩
      rw [List.getElem?_map] at hi
      cases ez : row[i]? with
      | none => rw [ez] at hi; cases hi
      | some z =>
        rw [ez] at hi
        cases hi
        have zr : z ∈ row := List.mem_of_getElem? ez
        have hz1 := ok.low z zr
        have hz2 := ok.top z zr
        have hil : i < row.length := (List.getElem?_eq_some_iff.mp ez).1
        walk_at "rd"
        refine ⟨.int z, "int", t, rfl, .int z, ?_⟩
        have el : letB (.int z) t = true := by
          show (decide (1 ≤ absI z) && decide (absI z ≤ t)) = true
          rw [absI_nat]
          simp only [Bool.and_eq_true, decide_eq_true_eq]
          omega
        rw [el]
        walk_at "rd"
        refine iteF ?_
        refine ⟨d, _, rfl, DGet.k (k := Sum.inl (-z)) hk, ?_⟩
        rw [val_keys inl_inj hkeys (-z), decide_eq_false (fun h => ok.one z zr (List.mem_of_mem_take ((hmem _).mp h)))]
        walk_at "rd"
        refine iteF ?_
        walk_at "rd"
        refine ⟨d, _, rfl, DPut.k (k := Sum.inl z) hk ?_, ?_⟩
        · have := congrArg List.length hkeys
          rw [List.length_map, List.length_map] at this
          exact small1000 (by omega)
        · refine ⟨_, addU ks z, _, rfl, fun b o e => ?_, upd_same, keys_put inl_inj hkeys z _, nd_add hnd z, fun y => ?_, Nat.le_trans (len_add z) (by omega)⟩
          · have hb : b ≠ d := ne_of_none e hd
            rw [upd_ne hb]
            exact e1 b o e
          · rw [mem_add, hmem, List.take_add_one, ez]
            simp
    have hd' : ∀ σ H', Pv (row.map V.int).length σ H' → (tRet (tCB (fun xs H Q => ∃ p ys, xs = [V.ref p] ∧ ((SqL K H p ys ∧ ∀ (l : Addr), H l = none → Q (V.ref l) (upd H l (HO.tup ys))) ∨ SqT K H p ys ∧ Q (V.ref p) H)) (tCons (tSorted (rSortL K fun x H Q => ∃ i, x = V.int i ∧ Q (V.int (if i < 0 then -i else i)) H)
        (tCons (tCB (fun xs H Q => ∃ a kvs, xs = [V.ref a] ∧ Rd H a (HO.dK kvs) ∧ ∀ (p : Addr), H p = none → Q (V.ref p) (upd H p (HO.lst (List.map (fun kv => kV kv.fst) kvs)))) (tCons (tVar 2) tNil)) tNil)) tNil))) { nx := fun x H' => Q V.non H', rt := Q } σ H' := by
      rintro σ H' ⟨kvs, ks, lv, rfl, e1, hk, hkeys, hnd, hmem, hkl⟩
      rw [List.length_map] at hmem hkl
      rw [List.take_length] at hmem
      walk_at "rd"
      refine ⟨d, kvs, rfl, .inl hk, fun l hl => ?_⟩
      walk_at "rd"
      refine ⟨l, _, rfl, SqL.of upd_same, ?_⟩
      have ek : kvs.map (fun kv => kV kv.1) = ks.map V.int := by
        have := congrArg (List.map kV) hkeys
        rw [List.map_map, List.map_map] at this
        exact this
      rw [ek]
      refine go_abs fun out p2 hp ho hn => ?_
      refine ⟨p2, _, rfl, .inl ⟨SqL.of upd_same, fun l2 hl2 => ?_⟩⟩
      refine q out l2 _ ⟨strict_of hp hnd (fun x hx h => ok.one x ((hmem x).mp hx) ((hmem _).mp h)) (fun x hx => ok.low x ((hmem x).mp hx)) ho, fun x => (hp.mem_iff).trans (hmem x)⟩ ?_ upd_same
      exact Same.trans s1 (Same.trans e1 (Same.trans (Same.new hl) (Same.trans (Same.new hn) (Same.new hl2))))
    rcases hS with hS | hS
    · exact Or.inl ⟨_, rfl, p, rfl, ⟨_, Same.seq (Same.trans s1 nd1) hS⟩, for_list (K := K) (a := p) (xs := row.map V.int) Pv h0 (fun i σ H' _ ⟨_, _, _, _, e, _⟩ => Same.seq (Same.trans s1 e) hS) (hs _) hd'⟩
    · exact Or.inr ⟨_, rfl, p, rfl, ⟨_, Same.sqt (Same.trans s1 nd1) hS⟩, for_tup (K := K) (a := p) (xs := row.map V.int) Pv h0 (fun i σ H' _ ⟨_, _, _, _, e, _⟩ => Same.sqt (Same.trans s1 e) hS) (hs _) hd'⟩
end
end Toy

-- part: P3
namespace Toy
open PySem L2
section
variable {P : Program} {w : World} {K : PySem.W.Frag} {mg : Str → Option Value} {base : Heap}
abbrev sByLen : Stmt := topS 16
theorem scByLen : FnScope ["clause"] ["clause"] (defScope sByLen) := ⟨rfl, rfl, rfl, by decide +kernel, rfl, by decide +kernel, by decide +kernel⟩
def spByLen : Sp := fun vs H Q _ => ∃ x, vs = [x] ∧ relLen x H Q
theorem ok_byLen {f : Addr} {fd : FuncData} (F : Fun K "_by_length" "_by_length" sByLen f fd) (B : Bl mg) : FnOk P w K mg base CX0 1 f fd ["clause"] spByLen := by
  refine F.ok scByLen (fun vs H Q E h => ?_) (fun cdv A outer s H vs Q E hr h => ?_)
  · obtain ⟨x, rfl, _⟩ := h
    rfl
  · obtain ⟨x, rfl, c, l, rfl, hc, q⟩ := h
    refine ⟨_, pss_one (ps_ret (pe_tup (pa_cons (pe_callB call_len_seq (by rfl) B.len PySem.boot_len (pa_cons (pv 0) pa_nil)) (pa_cons (pv 0) pa_nil)))), ?_⟩
    show tRet _ _ [some (.ref c)] H
    walk_at "rd"
    refine ⟨c, l, rfl, .inr (SqT.of hc), by show 2 ≤ sizeLine; decide, fun p hp => q p hp⟩
abbrev sUnlike : Stmt := topS 15
theorem scUnlike : FnScope ["things", "many", "found", "at", "thing", "clause"] ["things", "many"] (defScope sUnlike) := ⟨rfl, rfl, rfl, by decide +kernel, rfl, by decide +kernel, by decide +kernel⟩
/-- rows of letters, each a list or a tuple -/
def RowsAt (K : PySem.W.Frag) (H : Hp) (xs : List V) (rows : List (List Int)) : Prop := Paired (fun (x : V) (row : List Int) => ∃ p, x = .ref p ∧ SqA K H p (row.map V.int)) xs rows
theorem RowsAt.same {H H' : Hp} (e : Same H H') : ∀ {xs : List V} {rows : List (List Int)}, RowsAt K H xs rows → RowsAt K H' xs rows
  | _, _, .nil => .nil
  | _, _, .cons ⟨p, h1, h2⟩ t => .cons ⟨p, h1, SqA.same e h2⟩ (RowsAt.same e t)
theorem RowsAt.get {H : Hp} : ∀ {xs : List V} {rows : List (List Int)} {i : Nat} {x : V}, RowsAt K H xs rows → xs[i]? = some x → ∃ row p, rows[i]? = some row ∧ x = .ref p ∧ SqA K H p (row.map V.int)
  | _, _, _, _, .nil, h => by simp at h
  | _, _, 0, _, .cons ⟨p, h1, h2⟩ t, e => by cases e; exact ⟨_, p, rfl, h1, h2⟩
  | _, _, i + 1, _, .cons h t, e => RowsAt.get (i := i) t e
theorem RowsAt.len {H : Hp} : ∀ {xs : List V} {rows : List (List Int)}, RowsAt K H xs rows → xs.length = rows.length
  | _, _, .nil => rfl
  | _, _, .cons _ t => by rw [List.length_cons, List.length_cons, RowsAt.len t]
/-- rows that make a problem of t truths -/
def RowsOk (t : Int) (rows : List (List Int)) : Prop := rows.length ≤ 400 ∧ ∀ row ∈ rows, RowOk t row ∧ row.length ≤ 1000
def spUnlike (K : PySem.W.Frag) : Sp := fun vs H Q _ => ∃ p xs rows t, vs = [.ref p, .int t] ∧ SqA K H p xs ∧ RowsAt K H xs rows ∧ RowsOk t rows ∧
  ∀ (l : Addr) (bs : List Addr) (cs : List (List Int)) (H' : Hp), Same H H' → H' l = some (.lst (bs.map V.ref)) → TupsAt H' bs cs → cs.Nodup → (∀ c, c ∈ cs ↔ ∃ row ∈ rows, IsCl row c) → cs.length ≤ rows.length → Q (.ref l) H'
theorem ok_unlike {f fN fL fT fC : Addr} {fd fdN fdL fdT fdC : FuncData} (F : Fun K "_unlike_clauses" "_unlike_clauses" sUnlike f fd) (B : Bl mg) (N : Df K mg "is_number" sIsNum ["thing"] fN fdN) (L : Df K mg "is_list" sIsList ["thing"] fL fdL) (T : Df K mg "is_letter" sIsLet ["thing", "many"] fT fdT)
    (C : Df K mg "clause_of" sClause ["thing", "many"] fC fdC) : FnOk P w K mg base CX0 4 f fd ["things", "many"] (spUnlike K) := by
  have GC : FnOk P w K mg base CX0 3 fC fdC ["thing", "many"] (spClause K) := ok_clause C.F B N L T
  refine F.ok scUnlike (fun vs H Q E h => ?_) (fun cdv A outer s H vs Q E hr h => ?_)
  · obtain ⟨p, xs, rows, t, rfl, _⟩ := h
    rfl
  · obtain ⟨p, xs, rows, t, rfl, hS, hR, ok, q⟩ := h
    have hu := hu_of hr
    refine ⟨_, pss_cons (ps_set (i := 2) scUnlike.nd rfl (Or.inl rfl) pe_dnewT)
      (pss_cons (ps_for PassesOwn.never rfl (pi_or (pi_enum (by rfl) B.enumerate (pa_cons (pv 0) pa_nil)) (pi_enumT (by rfl) B.enumerate (pa_cons (pv 0) pa_nil))) (pg_tup rfl (pgs_cons (pg_name (i := 3) scUnlike.nd rfl (Or.inl rfl)) (pgs_cons (pg_name (i := 4) scUnlike.nd rfl (Or.inl rfl)) pgs_nil)))
        (pss_cons (ps_set (i := 5) scUnlike.nd rfl (Or.inl rfl) (pe_call GC hr rfl C.g C.F.kp C.b .nil pass0 (pa_cons (pv 4) (pa_cons (pv 1) pa_nil))))
        (pss_cons (ps_if (pt_cmpR op_isN (pv 5) pe_non (nomark _)) (pss_one ps_never) pss_nil)
        (pss_one (ps_dput hu (pv 2) (pv 5) pe_bl rfl)))))
      (pss_one (ps_ret (pe_callTy (call_list_dT rfl) (by rfl) B.list (by decide +kernel) (pa_cons (pv 2) pa_nil))))), ?_⟩
    show tSeq _ _ _ [some (.ref p), some (.int t), none, none, none, none] H
    walk_at "rd"
    intro d hd
    have n0 : Same H (upd H d (.dT [])) := Same.new hd
    let Pv : Nat → St → Hp → Prop := fun i σ H' => ∃ (kvs : List (List Key × V)) (cs : List (List Int)) (l1 l2 l3 : Option V), σ = [some (.ref p), some (.int t), some (.ref d), l1, l2, l3] ∧ Same H H' ∧ H' d = some (.dT kvs) ∧ kvs.map (·.1) = cs.map tkey ∧ cs.Nodup ∧ (∀ c, c ∈ cs ↔ ∃ row ∈ rows.take i, IsCl row c) ∧ cs.length ≤ i
    have h0 : Pv 0 [some (.ref p), some (.int t), some (.ref d), none, none, none] (upd H d (.dT [])) := ⟨[], [], none, none, none, rfl, n0, upd_same, rfl, List.nodup_nil, by simp, Nat.le_refl _⟩
    have hs : ∀ (D : Ends) i x T σ H', xs[i]? = some x → Pv i σ H' → H' T = none → gTup K 2 (gCons (gName 3) (gCons (gName 4) gNil)) (.ref T) σ (upd H' T (.tup [.int (i : Nat), x])) fun σ2 H2 => (tSeq (tAsg (tCall (spClause K) [] E0 (tCons (tVar 4) (tCons (tVar 1) tNil))) (gName 5))
        (tSeq (tIfS (tTest (tOp (fun x y H Q => y = V.non ∧ Q (V.bl (decide (x = V.non))) H) (tVar 5) (tC V.non))) tNever tNext) (sDPut (tVar 2) (tVar 5) (tC (V.bl true))))) { D with nx := Pv (i + 1), ct := Pv (i + 1), bk := D.nx } σ2 H2 := by
      rintro D i x T σ H' hi ⟨kvs, cs, l1, l2, l3, rfl, e1, hk, hkeys, hnd, hmem, hkl⟩ hT
      have e2 : Same H (upd H' T (.tup [.int (i : Nat), x])) := Same.trans e1 (Same.new hT)
      obtain ⟨row, rp, hrow, rfl, hsq⟩ := (RowsAt.same e2 hR).get hi
      have rr : row ∈ rows := List.mem_of_getElem? hrow
      have hil : i < rows.length := (List.getElem?_eq_some_iff.mp hrow).1
      refine ⟨T, _, rfl, SqT.of upd_same, rfl, _, _, rfl, _, _, rfl, rfl, ?_⟩
      walk_at "rd"
      refine ⟨rp, row, t, rfl, hsq, (ok.2 row rr).1, (ok.2 row rr).2, fun c a H2 hc e3 ha => ?_⟩
      walk_at "rd"
      refine ⟨trivial, ?_⟩
      walk_at "rd"
      refine iteF ?_
      walk_at "rd"
      have hd2 : H2 d = some (.dT kvs) := e3 _ _ (Same.new hT _ _ hk)
      have ha' : H2 a = some (.tup ((tkey c).map kV)) := by rw [tkey_kV]; exact ha
      refine ⟨d, _, rfl, DPut.t (k := tkey c) hd2 ha' ?_, ?_⟩
      · have := congrArg List.length hkeys
        rw [List.length_map, List.length_map] at this
        have := ok.1
        exact small1000 (by omega)
      · refine ⟨_, addU cs c, _, _, _, rfl, fun b o e => ?_, upd_same, keys_put tkey_inj hkeys c _, nd_add hnd c, fun y => ?_, Nat.le_trans (len_add c) (by omega)⟩
        · have hb : b ≠ d := ne_of_none e hd
          rw [upd_ne hb]
          exact e3 _ _ (e2 b o e)
        · rw [mem_add, hmem, List.take_add_one, hrow]
          constructor
          · rintro (⟨r, h1, h2⟩ | rfl)
            · exact ⟨r, List.mem_append_left _ h1, h2⟩
            · exact ⟨row, List.mem_append_right _ (by simp), hc⟩
          · rintro ⟨r, h1, h2⟩
            rcases List.mem_append.mp h1 with h1 | h1
            · exact .inl ⟨r, h1, h2⟩
            · have : r = row := by simpa using h1
              subst this
              exact .inr (IsCl.ext h2 hc fun _ => Iff.rfl)
    have hd' : ∀ σ H', Pv xs.length σ H' → (tRet (tCB (fun xs H Q => ∃ d kvs, xs = [V.ref d] ∧ Rd H d (.dT kvs) ∧ ∀ p bs, H p = none → IsKeys H kvs bs → Q (.ref p) (upd H p (.lst (bs.map V.ref)))) (tCons (tVar 2) tNil))) { nx := fun x H' => Q V.non H', rt := Q } σ H' := by
      rintro σ H' ⟨kvs, cs, l1, l2, l3, rfl, e1, hk, hkeys, hnd, hmem, hkl⟩
      rw [hR.len, List.take_length] at hmem
      rw [hR.len] at hkl
      walk_at "rd"
      refine ⟨d, kvs, rfl, .inl hk, fun l bs hl hb => ?_⟩
      exact q l bs cs _ (Same.trans e1 (Same.new hl)) upd_same (TupsAt.same (Same.new hl) (tups_of_keys hb hkeys)) hnd hmem hkl
    rcases hS with hS | hS
    · exact Or.inl ⟨_, rfl, p, xs, rfl, Same.seq n0 hS, for_enumL (K := K) (a := p) Pv h0 (hs _) hd' (fun i σ H' _ ⟨_, _, _, _, _, _, e, _⟩ => Same.seq e hS)⟩
    · exact Or.inr ⟨_, rfl, p, xs, rfl, Same.sqt n0 hS, for_enumT (K := K) (a := p) Pv h0 (hs _) hd' (fun i σ H' _ ⟨_, _, _, _, _, _, e, _⟩ => Same.sqt e hS)⟩
end
end Toy

-- part: P4
namespace Toy
open PySem L2
section
variable {P : Program} {w : World} {K : PySem.W.Frag} {mg : Str → Option Value} {base : Heap}
abbrev sInit : Stmt := inClass (topS 14) 0
abbrev sEq : Stmt := inClass (topS 14) 1
theorem okN {x qual : Str} {params : Arguments} {body : List Stmt} {scope : Scope} {dvs : List V} {kws : List (Str × V)} {f : Addr} {fd : FuncData} {N ps : List Str} {k : Nat} {sp : Sp} (F : FunD K x qual params body scope dvs kws f fd) (S : FnScope N ps scope) (len : ∀ vs H Q E, sp vs H Q E → vs.length = ps.length)
    (hb : ∀ (cdv : Value) (A : Around) (outer : List Env) (s : Shared) (H : Hp) (vs : List V) (Q : VK) (E : XK), Room k (A.deeper (PyProof.Rows.envOfC qual scope s.heap.objs.size f cdv)) → sp vs H Q E →
      ∃ t, PSs (cxOf CX0 P w K mg base N qual scope f cdv A outer s H E).nox body t ∧ t { nx := fun _ H' => Q .non H', rt := Q } (start N vs) H) : FnOk P w K mg base CX0 (k + 1) f fd ps sp :=
  FunD.ok F S len fun cdv A outer s H vs Q E hr hsp => by
    obtain ⟨t, h, q⟩ := hb cdv A outer s H vs Q E hr hsp
    exact ⟨t, h.nox, q⟩
theorem kmc : ¬ (("many" : Str) = "clauses") := by decide +kernel
def flds (t : Int) (cp : Addr) : List (Str × V) := [("many", .int t), ("clauses", .ref cp)]
theorem flds_put (t : Int) (cp : Addr) : putF "clauses" (.ref cp) (putF "many" (.int t) []) = flds t cp := by
  show (if ("many" : Str) = "clauses" then _ else _) = _
  rw [if_neg kmc]
  rfl
theorem flds_many (t : Int) (cp : Addr) : (flds t cp).lookup ("many" : Str) = some (.int t) := by
  show List.lookup _ _ = _
  rw [← flds_put, lookup_putF, if_neg kmc, lookup_putF, if_pos rfl]
theorem flds_clauses (t : Int) (cp : Addr) : (flds t cp).lookup ("clauses" : Str) = some (.ref cp) := by
  rw [← flds_put, lookup_putF, if_pos rfl]
/-- a problem stands at x -/
structure Prb (C : Addr) (H : Hp) (x : Addr) (t : Int) (cp : Addr) (cs : List (List Int)) : Prop where
  ob : ∃ dx, H x = some (.ins C dx (flds t cp))
  cl : ∃ bs, H cp = some (.tup (bs.map V.ref)) ∧ TupsAt H bs cs
theorem Prb.same {C : Addr} {H H' : Hp} {x : Addr} {t : Int} {cp : Addr} {cs : List (List Int)} (e : Same H H') (p : Prb C H x t cp cs) : Prb C H' x t cp cs := by
  obtain ⟨⟨dx, h1⟩, bs, h2, h3⟩ := p
  exact ⟨⟨dx, e _ _ h1⟩, bs, e _ _ h2, TupsAt.same e h3⟩
/-- what the top has written of Problem and its defs -/
structure Prog (K : PySem.W.Frag) (mg : Str → Option Value) (C fN fL fT fC fU fB fI fE : Addr) (fdN fdL fdT fdC fdU fdB fdI fdE : FuncData) (eT : Addr) : Prop where
  N : Df K mg "is_number" sIsNum ["thing"] fN fdN
  L : Df K mg "is_list" sIsList ["thing"] fL fdL
  T : Df K mg "is_letter" sIsLet ["thing", "many"] fT fdT
  Cl : Df K mg "clause_of" sClause ["thing", "many"] fC fdC
  U : Df K mg "_unlike_clauses" sUnlike ["things", "many"] fU fdU
  B : Df K mg "_by_length" sByLen ["clause"] fB fdB
  I : FunD K "__init__" "Problem.__init__" (defArgs sInit) (defBody sInit) (defScope sInit) [.ref eT] [] fI fdI
  E : Fun K "__eq__" "Problem.__eq__" sEq fE fdE
  bI : Binds K fdI ["self", "many", "clauses"] []
  bD : Binds K fdI ["self", "many", "clauses"] [.ref eT]
  eT : SqT K (fun _ => none) eT []
  cl : Cls K C
  nM : NoAttr K C "many"
  nC : NoAttr K C "clauses"
  gC : mg "Problem" = some (.ref C)
  mak : Mk K C fI
  most : ∃ t, mg "MOST" = some (.int 400 t)
  mostC : ∃ t, mg "MOST_CLAUSES" = some (.int 400 t)
theorem scInit : FnScope ["self", "many", "clauses", "found"] ["self", "many", "clauses"] (defScope sInit) := ⟨rfl, rfl, rfl, by decide +kernel, rfl, by decide +kernel, by decide +kernel⟩
def spInit (K : PySem.W.Frag) (C : Addr) : Sp := fun vs H Q _ => ∃ x dx t p xs rows, vs = [.ref x, .int t, .ref p] ∧ H x = some (.ins C dx []) ∧ 1 ≤ t ∧ t ≤ 400 ∧ SqA K H p xs ∧ RowsAt K H xs rows ∧ RowsOk t rows ∧
  ∀ (cp : Addr) (cs : List (List Int)) (H' : Hp), Prb C H' x t cp cs → IsDue rows cs → Ex x H H' → Q .non H'
variable {C fN fL fT fC fU fB fI fE eT : Addr} {fdN fdL fdT fdC fdU fdB fdI fdE : FuncData}
theorem ok_init (G : Prog K mg C fN fL fT fC fU fB fI fE fdN fdL fdT fdC fdU fdB fdI fdE eT) (B : Bl mg) : FnOk P w K mg base CX0 5 fI fdI ["self", "many", "clauses"] (spInit K C) := by
  have GN : FnOk P w K mg base CX0 1 fN fdN ["thing"] (spIsNum K) := ok_isNum G.N.F B
  have GL : FnOk P w K mg base CX0 1 fL fdL ["thing"] (spIsList K) := ok_isList G.L.F B
  have GU : FnOk P w K mg base CX0 4 fU fdU ["things", "many"] (spUnlike K) := ok_unlike G.U.F B G.N G.L G.T G.Cl
  have GB : FnOk P w K mg base CX0 1 fB fdB ["clause"] spByLen := ok_byLen G.B.F B
  obtain ⟨tm, hm⟩ := G.most
  obtain ⟨tc, hmc⟩ := G.mostC
  refine okN G.I scInit (fun vs H Q E h => ?_) (fun cdv A outer s H vs Q E hr h => ?_)
  · obtain ⟨x, dx, t, p, xs, rows, rfl, _⟩ := h
    rfl
  · obtain ⟨x, dx, t, p, xs, rows, rfl, hx, t1, t4, hS, hR, ok, q⟩ := h
    have hu := hu_of hr
    refine ⟨_, pss_cons (ps_if (PW.pt (pw_or (pt_not (pt_val (pe_call GN (hr.mono (by decide)) rfl G.N.g G.N.F.kp G.N.b .nil pass0 (pa_cons (pv 1) pa_nil)))) (pw_or1 (pt_not (pt_chain op_le op_le pe_int (pv 1) (pe_glob rfl hm (v := .int 400) ⟨_, rfl⟩)))))) (pss_one ps_never) pss_nil)
      (pss_cons (ps_if (pt_not (pt_val (pe_call GL (hr.mono (by decide)) rfl G.L.g G.L.F.kp G.L.b .nil pass0 (pa_cons (pv 2) pa_nil)))) (pss_one ps_never) pss_nil)
      (pss_cons (ps_set (i := 3) scInit.nd rfl (Or.inl rfl) (pe_call GU hr rfl G.U.g G.U.F.kp G.U.b .nil pass0 (pa_cons (pv 2) (pa_cons (pv 1) pa_nil))))
      (pss_cons (ps_if (pt_cmpR op_gt (pe_callB call_len_seq (by rfl) B.len PySem.boot_len (pa_cons (pv 3) pa_nil)) (pe_glob rfl hmc (v := .int 400) ⟨_, rfl⟩) (nomark _)) (pss_one ps_never) pss_nil)
      (pss_cons (ps_fld (pv 0) (pv 1) rfl)
      (pss_one (ps_fld (pv 0) (pe_callTy call_tuple_of (by rfl) B.tuple (by decide +kernel) (pa_cons (pe_sorted (run_list (u100 hr) (rel_def GB (hr.mono (by decide)) G.B.b) fun a => PyProof.Rows.ksk_t1 _ a) (key_def (by rfl) G.B.g) (by rfl) B.sorted (pa_cons (pv 3) pa_nil)) pa_nil)) rfl)))))), ?_⟩
    show tSeq _ _ _ [some (.ref x), some (.int t), some (.ref p), none] H
    walk_at "rd"
    refine ⟨.int t, "int", rfl, .int t, ?_⟩
    walk_at "rd"
    refine iteF ?_
    rw [decide_eq_true t1, decide_eq_true t4]
    refine iteT (iteF ?_)
    obtain ⟨Ty, ty, hty⟩ := hS.ty
    refine ⟨.ref p, Ty, rfl, ty, fun H1 s1 => ?_⟩
    rw [hty]
    walk_at "rd"
    refine iteF ?_
    refine ⟨p, xs, rows, t, rfl, SqA.same s1 hS, RowsAt.same s1 hR, ok, fun l bs cs H2 s2 hl T nd hm hk => ?_⟩
    walk_at "rd"
    refine ⟨l, _, rfl, .inl (SqL.of hl), ?_⟩
    have hz : (bs.map V.ref).length ≤ 400 := by
      rw [List.length_map, T.len]
      have := ok.1
      omega
    rw [decide_eq_false (by omega)]
    refine iteF ?_
    have s02 : Same H H2 := Same.trans s1 s2
    have hx2 := s02 _ _ hx
    refine ⟨x, C, dx, [], rfl, hx2, G.cl, G.nM, (by show 0 < 1000; decide), ?_⟩
    have nlx : l ≠ x := ne_of hl hx2 (by intro z; cases z)
    have E1 : Ex x H2 (upd H2 x (.ins C dx (putF "many" (.int t) []))) := Ex.at
    have hl3 := E1 _ _ hl nlx
    have hx3 : upd H2 x (.ins C dx (putF "many" (.int t) [])) x = some (.ins C dx (putF "many" (.int t) [])) := upd_same
    have T3 : TupsAt (upd H2 x (.ins C dx (putF "many" (.int t) []))) bs cs := by
      have : ∀ (bs : List Addr) (cs : List (List Int)), TupsAt H2 bs cs → TupsAt (upd H2 x (.ins C dx (putF "many" (.int t) []))) bs cs := by
        intro bs cs h
        induction h with
        | nil => exact .nil
        | cons h t ih => exact .cons (E1 _ _ h (ne_of h hx2 (by intro z; cases z))) ih
      exact this bs cs T
    generalize upd H2 x (.ins C dx (putF "many" (.int t) [])) = H3 at *
    walk_at "rd"
    refine ⟨l, _, rfl, SqL.of hl3, ?_⟩
    refine go_cls (G := fun _ => True) trivial (fun _ _ _ _ => trivial) (fun x H Q _ h => ⟨x, rfl, h⟩) T3 fun zs H4 p4 hp ho s4 _ T4 hn4 => ?_
    walk_at "rd"
    refine ⟨p4, _, rfl, .inl ⟨SqL.of upd_same, fun l2 hl2 => ?_⟩⟩
    have s5 : Same H3 (upd (upd H4 p4 (.lst (zs.map fun z => V.ref z.1))) l2 (.tup (zs.map fun z => V.ref z.1))) := Same.trans s4 (Same.trans (Same.new hn4) (Same.new hl2))
    have s45 : Same H4 (upd (upd H4 p4 (.lst (zs.map fun z => V.ref z.1))) l2 (.tup (zs.map fun z => V.ref z.1))) := Same.trans (Same.new hn4) (Same.new hl2)
    have hx5 := s5 _ _ hx3
    have h25 : upd (upd H4 p4 (.lst (zs.map fun z => V.ref z.1))) l2 (.tup (zs.map fun z => V.ref z.1)) l2 = some (.tup (zs.map fun z => V.ref z.1)) := upd_same
    have T5 := TupsAt.same s45 T4
    generalize upd (upd H4 p4 (.lst (zs.map fun z => V.ref z.1))) l2 (.tup (zs.map fun z => V.ref z.1)) = H5 at *
    refine ⟨x, C, dx, _, rfl, hx5, G.cl, G.nC, (by show 1 < 1000; decide), ?_⟩
    have E6 : Ex x H5 (upd H5 x (.ins C dx (putF "clauses" (.ref l2) (putF "many" (.int t) [])))) := Ex.at
    have n2x : l2 ≠ x := ne_of h25 hx5 (by intro z; cases z)
    have pk : (zs.map (·.2)).Perm cs := by
      have q1 := hp.map (·.2)
      rw [List.map_snd_zip (by rw [T.len]; exact Nat.le_refl _)] at q1
      exact q1
    refine q l2 (zs.map (·.2)) _ ⟨⟨dx, ?_⟩, zs.map (·.1), ?_, ?_⟩ ⟨inc_of pk nd (List.pairwise_map.mpr ho), fun c => (pk.mem_iff).trans (hm c)⟩ ?_
    · rw [upd_same, flds_put]
    · rw [E6 _ _ h25 n2x, List.map_map]
      rfl
    · have : ∀ (bs : List Addr) (cs : List (List Int)), TupsAt H5 bs cs → TupsAt (upd H5 x (.ins C dx (putF "clauses" (.ref l2) (putF "many" (.int t) [])))) bs cs := by
        intro bs cs h
        induction h with
        | nil => exact .nil
        | cons h t ih => exact .cons (E6 _ _ h (ne_of h hx5 (by intro z; cases z))) ih
      exact this _ _ T5
    · exact Ex.trans (Ex.same s02) (Ex.trans E1 (Ex.trans (Ex.same s5) E6))
end
end Toy

-- part: P5
namespace Toy
open PySem L2
section
variable {P : Program} {w : World} {K : PySem.W.Frag} {mg : Str → Option Value} {base : Heap}
variable {C fN fL fT fC fU fB fI fE eT : Addr} {fdN fdL fdT fdC fdU fdB fdI fdE : FuncData}
theorem tyX_of {H : Hp} {x : V} {T : String} (t : TyB K H x T) : TyX K H x (.type T) := by
  cases t with
  | non => exact .base .non
  | bl b => exact .base (.bl b)
  | int i => exact .base (.int i)
  | str i => exact .base (.str i)
  | byt b => exact .byt b
  | lst h =>
    rcases h with (h | ⟨o, h⟩) | ⟨_, _, _, h, h2, _⟩
    · exact .base (.lst h)
    · exact .base (.frz h)
    · exact .kList h (by first | rfl | exact h2)
  | tup h =>
    rcases h with (h | ⟨o, h⟩) | ⟨_, _, _, h, h2, _⟩
    · exact .base (.tup h)
    · exact .fTuple h
    · exact .kTuple h (by first | rfl | exact h2)
  | dK h => exact .base (.dK h)
/-- what == is asked of beside problems -/
def OtherTy (K : PySem.W.Frag) (C : Addr) (T : String) : Prop := PySem.W.kitOne K (.type T) (.ref C) = some false ∧ PySem.W.notFirst K C (.type T) = true
theorem scEq : FnScope ["self", "other"] ["self", "other"] (defScope sEq) := ⟨rfl, rfl, rfl, by decide +kernel, rfl, by decide +kernel, by decide +kernel⟩
def spEq (K : PySem.W.Frag) (C : Addr) : Sp := fun vs H Q _ => ∃ a y t cp cs, vs = [.ref a, y] ∧ Prb C H a t cp cs ∧
  ((∃ T, TyB K H y T ∧ OtherTy K C T ∧ Q (.bl false) H) ∨ ∃ b t2 cp2 cs2, y = .ref b ∧ Prb C H b t2 cp2 cs2 ∧ Q (.bl (decide (t = t2) && decide (cs = cs2))) H)
theorem dp_prb {H : Hp} {x cp : Addr} {t : Int} {cs : List (List Int)} (p : Prb C H x t cp cs) : Dp K H (.ref cp) (dCls cs) := by
  obtain ⟨bs, h, T⟩ := p.cl
  exact .tup (SqT.of h) (dpAll_cls T)
theorem ok_eq (G : Prog K mg C fN fL fT fC fU fB fI fE fdN fdL fdT fdC fdU fdB fdI fdE eT) (B : Bl mg) (ic : C8.InsC K C) : FnOk P w K mg base CX0 1 fE fdE ["self", "other"] (spEq K C) := by
  refine G.E.ok scEq (fun vs H Q E h => ?_) (fun cdv A outer s H vs Q E hr h => ?_)
  · obtain ⟨a, y, t, cp, cs, rfl, _⟩ := h
    rfl
  · obtain ⟨a, y, t, cp, cs, rfl, p, h⟩ := h
    refine ⟨_, pss_one (ps_ret (pe_and (pe_callB call_isi (by rfl) B.isinstance (by decide +kernel) (pa_cons (pv 1) (pa_cons (pe_glob rfl G.gC (v := .ref C) rfl) pa_nil)))
      (pe_and (pe_cmpR op_eq (pe_fld (pv 0) rfl) (pe_fld (pv 1) rfl) (nomark _)) (pe_one (pe_cmpR (op_eqD hr.units) (pe_fld (pv 0) rfl) (pe_fld (pv 1) rfl) (nomark _)))))), ?_⟩
    show tRet _ _ [some (.ref a), some y] H
    walk_at "rd"
    obtain ⟨dx, hx⟩ := p.ob
    rcases h with ⟨T, ty, ⟨hk, _⟩, q⟩ | ⟨b, t2, cp2, cs2, rfl, p2, q⟩
    · refine ⟨y, .ref C, _, _, false, rfl, .own C, tyX_of ty, hk, ?_⟩
      walk_at "rd"
      exact iteF q
    · obtain ⟨dy, hy⟩ := p2.ob
      refine ⟨.ref b, .ref C, _, _, true, rfl, .own C, .base (.ins hy ic.cl ic.ha ic.hn ic.htk ic.hm), ic.me, ?_⟩
      walk_at "rd"
      refine ⟨_, rfl, a, C, dx, _, _, rfl, hx, G.cl, G.nM, flds_many t cp, _, rfl, b, C, dy, _, _, rfl, hy, G.cl, G.nM, flds_many t2 cp2, rfl, _, rfl, ?_⟩
      rw [dec_int]
      by_cases e : t = t2
      · subst e
        rw [beq_self_eq_true]
        refine iteT ?_
        refine ⟨_, rfl, a, C, dx, _, _, rfl, hx, G.cl, G.nC, flds_clauses t cp, _, rfl, b, C, dy, _, _, rfl, hy, G.cl, G.nC, flds_clauses t cp2, _, _, dp_prb p, dp_prb p2, shaped_cls _, shaped_cls _, ?_⟩
        rw [eqv_cls]
        simpa using q
      · rw [beq_eq_false_iff_ne.mpr e]
        refine iteF ?_
        simpa [e] using q
end
end Toy

-- part: L0
namespace Toy
open PySem L2
abbrev sMixed : Stmt := topS 35
theorem scMixed : FnScope ["cell", "k", "mix"] ["cell", "k"] (defScope sMixed) := ⟨rfl, rfl, rfl, by decide +kernel, rfl, by decide +kernel, by decide +kernel⟩
def spMixed : Sp := fun vs H Q _ => ∃ (c k : Int), vs = [.int c, .int k] ∧ 0 ≤ k ∧ k < 127 ∧ ∀ r : Int, 0 ≤ r → r < 2147483399 → Q (.int r) H
section
variable {P : Program} {w : World} {K : PySem.W.Frag} {mg : Str → Option Value} {base : Heap}
theorem ok_mixed {f : Addr} {fd : FuncData} (F : Fun K "_law_mixed" "_law_mixed" sMixed f fd) : FnOk P w K mg base CX0 1 f fd ["cell", "k"] spMixed := by
  refine F.ok scMixed (fun vs H Q E h => ?_) (fun cdv A outer s H vs Q E hr h => ?_)
  · obtain ⟨c, k, rfl, _⟩ := h
    rfl
  · obtain ⟨c, k, rfl, k0, k1, q⟩ := h
    refine ⟨_, pss_cons (ps_set (i := 2) scMixed.nd rfl (Or.inl rfl)
        (pe_op op_modN (pe_op op_pow (pe_op op_modN (pe_op op_mul (pe_op op_add (pe_op op_add (pe_op op_modN (pv 0) pe_int) (pe_op op_mul pe_int (pv 1))) pe_int) pe_int) pe_int) pe_int) pe_int))
      (pss_cons (ps_if (pt_cmpR op_lt (pv 0) (pe_op op_pow pe_int pe_int) (nomark _)) (pss_one (ps_ret (pv 2))) pss_nil)
      (pss_one (ps_ret (pe_op op_modN (pe_op op_add (pv 2) (pe_op op_modN (pe_op op_fdivW (pv 0) (pe_op op_pow pe_int pe_int)) (pe_op op_add pe_int (pe_op op_mul (pe_op op_add (pv 1) pe_int) pe_int)))) pe_int)))), ?_⟩
    show tSeq _ _ _ [some (.int c), some (.int k), none] H
    walk_at "rd"
    have m0 : ∀ a : Int, 0 ≤ a.fmod 2147483399 ∧ a.fmod 2147483399 < 2147483399 := fun a => by
      rw [Int.fmod_eq_emod_of_nonneg _ (by decide)]
      omega
    have m1 := m0 c
    have m2 := m0 ((c.fmod 2147483399 + 104729 * k + 11) * 48271)
    generalize c.fmod 2147483399 = x at *
    generalize ((x + 104729 * k + 11) * 48271).fmod 2147483399 = y at *
    have m3 := m0 (y ^ Int.toNat 5)
    refine ⟨by decide, .inl ⟨by decide, by decide⟩, .inl ⟨by omega, by omega⟩, by decide, ⟨by decide, by decide, by omega⟩, by decide, ⟨by decide, by decide, by decide⟩, ite2 (fun _ => q _ m3.1 m3.2) (fun _ => ?_)⟩
    have big : (1 : Int) + (k + 1) * 4014476939333036189094441199026045136645885247730 ≠ 0 := by omega
    refine ⟨⟨by decide, by decide, by decide⟩, wide_div (b := 60) (by decide) (by decide) (by decide) (by decide), .inl ⟨by omega, by omega⟩, big, by decide, q _ (m0 _).1 (m0 _).2⟩
abbrev sNext : Stmt := topS 36
theorem scNext : FnScope ["draw", "size", "at", "many", "cell"] ["draw", "size"] (defScope sNext) := ⟨rfl, rfl, rfl, by decide +kernel, rfl, by decide +kernel, by decide +kernel⟩
def spNext (K : PySem.W.Frag) : Sp := fun vs H Q _ => ∃ (d : Addr) (z : Int) (sc : Addr) (ns : List Int), vs = [.ref d, .int z] ∧ 0 < z ∧ DrA K sc ns H d ∧ ∀ (r : Int) (H' : Hp), 0 ≤ r → r < z → Ex d H H' → DrA K sc ns H' d → Q (.int r) H'
theorem ok_next {f fM : Addr} {fd fdM : FuncData} (F : Fun K "_law_next" "_law_next" sNext f fd) (B : Bl mg) (M : Df K mg "_law_mixed" sMixed ["cell", "k"] fM fdM) : FnOk P w K mg base CX0 2 f fd ["draw", "size"] (spNext K) := by
  have GM : FnOk P w K mg base CX0 1 fM fdM ["cell", "k"] spMixed := ok_mixed M.F
  refine F.ok scNext (fun vs H Q E h => ?_) (fun cdv A outer s H vs Q E hr h => ?_)
  · obtain ⟨c, k, sc, ns, rfl, _⟩ := h
    rfl
  · obtain ⟨d, z, sc, ns, rfl, z0, ⟨n, D⟩, q⟩ := h
    have hu := hu_of hr
    refine ⟨_, pss_cons (ps_set (i := 2) scNext.nd rfl (Or.inl rfl) (pe_ix ix_list (pv 0) pe_int (fun _ _ => rfl)))
      (pss_cons (ps_asg (pe_op op_add (pv 2) pe_int) (pg_sub (pv 0) pe_int set_list))
      (pss_cons (ps_set (i := 3) scNext.nd rfl (Or.inl rfl) (pe_callB (call_max2 rfl) (by rfl) B.max (by decide +kernel) (pa_cons pe_int (pa_cons (pe_callB call_len_seq (by rfl) B.len PySem.boot_len (pa_cons (pe_ix ix_list (pv 0) pe_int (fun _ _ => rfl)) pa_nil)) pa_nil))))
      (pss_cons (ps_set (i := 4) scNext.nd rfl (Or.inl rfl) pe_int)
      (pss_cons (ps_if (pt_cmpR (op_neD hr.units) (pe_ix ix_list (pv 0) pe_int (fun _ _ => rfl)) (pe_lst pa_nil) (nomark _)) (pss_one (ps_set (i := 4) scNext.nd rfl (Or.inl rfl) (pe_ix ix_list (pe_ix ix_list (pv 0) pe_int (fun _ _ => rfl)) (pe_op op_modN (pv 2) (pv 3)) (fun _ _ => rfl)))) pss_nil)
      (pss_one (ps_ret (pe_op op_modN (pe_op op_fdivN (pe_call GM hr rfl M.g M.F.kp M.b .nil pass0 (pa_cons (pv 4) (pa_cons (pe_op op_modN (pe_op op_fdivN (pv 2) (pv 3)) pe_int) pa_nil))) pe_int) (pv 1)))))))), ?_⟩
    show tSeq _ _ _ [some (.ref d), some (.int z), none, none, none] H
    walk_at "rd"
    refine p_ix (SqL.of D.dr) (i := 1) (v := .int n) rfl ?_
    walk_at "rd"
    refine p_set D.dr (j := 1) rfl ?_
    have D1 : Dr K (upd H d (.lst [.ref sc, .int (n + 1)])) d sc ns (n + 1) := ⟨upd_same, Dr.sqx D Ex.at, D.len, by have := D.pos; omega⟩
    refine p_ix (SqL.of D1.dr) (i := 0) (v := .ref sc) rfl ?_
    refine ⟨_, _, rfl, .inl D1.sq, ?_⟩
    walk_at "rd"
    refine p_ix (SqL.of D1.dr) (i := 0) (v := .ref sc) rfl ?_
    walk_at "rd"
    refine ⟨Nat.zero_le _, fun p hp => ?_⟩
    refine p_neD (.lst (Same.seq (Same.new hp) D1.sq) (dp_ints ns)) (.lst (SqL.of upd_same) .nil) (shaped_lints ns) (by decide) ?_
    walk_at "rd"
    rw [List.length_map]
    have D2 : Dr K (upd (upd H d (.lst [.ref sc, .int (n + 1)])) p (.lst [])) d sc ns (n + 1) := ⟨Same.new hp _ _ D1.dr, Same.seq (Same.new hp) D1.sq, D.len, D1.pos⟩
    have X2 : Ex d H (upd (upd H d (.lst [.ref sc, .int (n + 1)])) p (.lst [])) := Ex.trans Ex.at (Ex.same (Same.new hp))
    generalize upd (upd H d (.lst [.ref sc, .int (n + 1)])) p (.lst []) = H2 at *
    have hm : ∃ m : Int, (if (ns.length : Int) > 1 then (ns.length : Int) else 1) = m ∧ 0 < m ∧ m ≤ 63 ∧ (ns ≠ [] → m = ns.length) := by
      have l := D.len
      refine ⟨_, rfl, ?_⟩
      by_cases c : (ns.length : Int) > 1
      · rw [if_pos c]
        exact ⟨by omega, by omega, fun _ => rfl⟩
      · rw [if_neg c]
        refine ⟨by decide, by decide, fun e => ?_⟩
        have := List.length_pos_iff.mpr e
        omega
    obtain ⟨m, em, m0, m1, m2⟩ := hm
    rw [em]
    have n0 := D.pos
    have fin : ∀ c : Int, CDivN n m ∧ (127 : Int) ≠ 0 ∧ spMixed [V.int c, V.int ((n.fdiv m).fmod 127)] H2 (fun x H1 => rI CDivN (fun i j => V.int (i.fdiv j)) x (V.int 7) H1 fun x H1 => rI (fun x j => j ≠ 0) (fun i j => V.int (i.fmod j)) x (V.int z) H1 Q) E0 := by
      intro c
      refine ⟨⟨by omega, by omega⟩, by decide, c, _, rfl, ?_, ?_, fun r r0 r1 => ?_⟩
      · rw [Int.fmod_eq_emod_of_nonneg _ (by decide)]; omega
      · rw [Int.fmod_eq_emod_of_nonneg _ (by decide)]; omega
      · walk_at "rd"
        refine ⟨⟨by decide, by decide⟩, by omega, ?_⟩
        rw [Int.fmod_eq_emod_of_nonneg _ (by omega)]
        exact q _ _ (Int.emod_nonneg _ (by omega)) (Int.emod_lt_of_pos _ z0) X2 ⟨_, D2⟩
    refine ite2 (fun hc => ?_) (fun _ => fin 0)
    have hne : ns ≠ [] := fun e => by subst e; exact absurd hc (by decide)
    refine p_ix (SqL.of D2.dr) (i := 0) (v := .ref sc) rfl ?_
    refine ⟨by omega, ?_⟩
    obtain ⟨c, hc⟩ := at_ints (ns := ns) (i := n.fmod m) (by rw [Int.fmod_eq_emod_of_nonneg _ (by omega)]; exact Int.emod_nonneg _ (by omega)) (by rw [Int.fmod_eq_emod_of_nonneg _ (by omega), ← m2 hne]; exact Int.emod_lt_of_pos _ m0)
    exact p_ix D2.sq hc (fin c)
end
end Toy

-- part: L1
namespace Toy
open PySem L2
section
variable {P : Program} {w : World} {K : PySem.W.Frag} {mg : Str → Option Value} {base : Heap}
abbrev sRow : Stmt := topS 37
theorem scRow : FnScope ["draw", "truths", "signs", "row", "k", "near", "far", "truth", "sign"] ["draw", "truths"] (defScope sRow) := ⟨rfl, rfl, rfl, by decide +kernel, rfl, by decide +kernel, by decide +kernel⟩
def spRow (K : PySem.W.Frag) : Sp := fun vs H Q _ => ∃ d t sc ns, vs = [.ref d, .int t] ∧ 1 ≤ t ∧ t ≤ 400 ∧ DrA K sc ns H d ∧
  ∀ (l : Addr) (row : List Int) (H' : Hp), RowOk t row → row.length ≤ 6 → Ex d H H' → DrA K sc ns H' d → H' l = some (.lst (row.map V.int)) → H l = none → Q (.ref l) H'
theorem ok_row {f fM fX : Addr} {fd fdM fdX : FuncData} (F : Fun K "_law_row" "_law_row" sRow f fd) (B : Bl mg) (M : Df K mg "_law_mixed" sMixed ["cell", "k"] fM fdM) (X : Df K mg "_law_next" sNext ["draw", "size"] fX fdX) :
    FnOk P w K mg base CX0 3 f fd ["draw", "truths"] (spRow K) := by
  have GX : FnOk P w K mg base CX0 2 fX fdX ["draw", "size"] (spNext K) := ok_next X.F B M
  refine F.ok scRow (fun vs H Q E h => ?_) (fun cdv A outer s H vs Q E hr h => ?_)
  · obtain ⟨d, t, sc, ns, rfl, _⟩ := h
    rfl
  · obtain ⟨d, t, sc, ns, rfl, t1, t4, hD, q⟩ := h
    have hu := hu_of hr
    refine ⟨_, pss_cons (ps_par (i := 2) (j := 3) rfl scRow.nd rfl rfl (by decide) rfl rfl (pa_cons pe_dnewK (pa_cons (pe_lst pa_nil) pa_nil)) (by rfl))
      (pss_cons (ps_for PassesOwn.never rfl (pi_range1 rfl B.range (pa_cons (pe_call GX hr rfl X.g X.F.kp X.b .nil pass0 (pa_cons (pv 0) (pa_cons pe_int pa_nil))) pa_nil)) (pg_name (i := 4) scRow.nd rfl (Or.inl rfl))
        (pss_cons (ps_par (i := 5) (j := 6) rfl scRow.nd rfl rfl (by decide) rfl rfl
          (pa_cons (pe_op op_add pe_int (pe_call GX hr rfl X.g X.F.kp X.b .nil pass0 (pa_cons (pv 0) (pa_cons (pe_callB (call_min2 rfl) (by rfl) B.min (by decide +kernel) (pa_cons (pv 1) (pa_cons pe_int pa_nil))) pa_nil))))
          (pa_cons (pe_op op_sub (pv 1) (pe_call GX hr rfl X.g X.F.kp X.b .nil pass0 (pa_cons (pv 0) (pa_cons (pe_callB (call_min2 rfl) (by rfl) B.min (by decide +kernel) (pa_cons (pv 1) (pa_cons pe_int pa_nil))) pa_nil)))) pa_nil)) (by rfl))
        (pss_cons (ps_set (i := 7) scRow.nd rfl (Or.inl rfl) (pe_ix ix_list (pe_lst (pa_cons (pv 5) (pa_cons (pv 6) pa_nil))) (pe_call GX hr rfl X.g X.F.kp X.b .nil pass0 (pa_cons (pv 0) (pa_cons pe_int pa_nil))) (fun _ _ => rfl)))
        (pss_cons (ps_set (i := 8) scRow.nd rfl (Or.inl rfl) (pe_dsetd (pv 2) (pv 7) (pe_ix ix_list (pe_lst (pa_cons pe_int (pa_cons (pe_un un_neg pe_int) pa_nil))) (pe_call GX hr rfl X.g X.F.kp X.b .nil pass0 (pa_cons (pv 0) (pa_cons pe_int pa_nil))) (fun _ _ => rfl)) ⟨rfl, rfl, rfl, rfl⟩))
        (pss_one (ps_expr (pe_bm PySem.F.plainAttrs_list PySem.F.slot_list_append PySem.F.type_list_append mt_append (pv 3) (pa_cons (pe_op op_mul (pv 7) (pv 8)) pa_nil))))))))
      (pss_one (ps_ret (pv 3)))), ?_⟩
    show tSeq _ _ _ [some (.ref d), some (.int t), none, none, none, none, none, none, none] H
    walk_at "rd"
    intro g hg
    refine ⟨Nat.zero_le _, fun l hl => ?_⟩
    walk_at "rd"
    have nlg : l ≠ g := fun e => by rw [e, upd_same] at hl; cases hl
    have hlH : H l = none := by rw [upd_ne nlg] at hl; exact hl
    have s2 : Same H (upd (upd H g (.dK [])) l (.lst [])) := Same.trans (Same.new hg) (Same.new hl)
    have D2 := DrA.same s2 hD
    have hg2 : upd (upd H g (.dK [])) l (.lst []) g = some (.dK []) := by rw [upd_ne (Ne.symm nlg), upd_same]
    have hl2 : upd (upd H g (.dK [])) l (.lst []) l = some (.lst []) := upd_same
    have ngd : g ≠ d := hD.nd hg
    have nld : l ≠ d := hD.nd hlH
    generalize upd (upd H g (.dK [])) l (.lst []) = H2 at *
    refine ⟨_, rfl, d, 7, sc, ns, rfl, by decide, D2, fun r0 H3 r00 r01 E3 D3 => ⟨r0, rfl, by omega, by omega, ?_⟩⟩
    refine for_range (fun i σ H' => ∃ (kvs : List (Key × V)) (row : List Int) (ks : List Int) (l1 l2 l3 l4 l5 : Option V), σ = [some (.ref d), some (.int t), some (.ref g), some (.ref l), l1, l2, l3, l4, l5] ∧ Ex d H H' ∧ DrA K sc ns H' d ∧ H' g = some (.dK kvs) ∧ H' l = some (.lst (row.map V.int)) ∧ row.length ≤ i ∧
      kvs.map (·.1) = ks.map Sum.inl ∧ ks.length ≤ i ∧ (∀ k v, valV kvs (Sum.inl k) = some v → v = .int 1 ∨ v = .int (-1)) ∧ ∀ x ∈ row, 1 ≤ x.natAbs ∧ (x.natAbs : Int) ≤ t ∧ valV kvs (Sum.inl (absI x)) = some (.int (if x < 0 then -1 else 1)))
      ⟨[], [], [], none, none, none, none, none, rfl, Ex.trans (Ex.same s2) E3, D3, E3 _ _ hg2 ngd, E3 _ _ hl2 nld, Nat.le_refl _, rfl, Nat.le_refl _, (fun k v h => by cases h), (fun x h => nomatch h)⟩ ?_ ?_
    · rintro i σ H4 hi ⟨kvs, row, ks, l1, l2, l3, l4, l5, rfl, E4, D4, hg4, hl4, hrl, hkeys, hkl, hval, hrow⟩
      have hi7 : i < 7 := by omega
      have hm : 0 < (if 6 < t then (6 : Int) else t) ∧ (if 6 < t then (6 : Int) else t) ≤ t := by split <;> omega
      walk_at "rd"
      generalize (if 6 < t then (6 : Int) else t) = m at hm ⊢
      refine ⟨d, m, sc, ns, rfl, hm.1, D4, fun r1 H5 r10 r11 E5 D5 => ?_⟩
      walk_at "rd"
      refine ⟨d, m, sc, ns, rfl, hm.1, D5, fun r2 H6 r20 r21 E6 D6 => ?_⟩
      walk_at "rd"
      refine ⟨by show 2 ≤ sizeLine; decide, fun p hp => ?_⟩
      have D7 := DrA.same (Same.new (o := .lst [.int (1 + r1), .int (t - r2)]) hp) D6
      refine ⟨d, 2, sc, ns, rfl, by decide, D7, fun r3 H8 r30 r31 E8 D8 => ?_⟩
      have hp8 : H8 p = some (.lst [.int (1 + r1), .int (t - r2)]) := E8 _ _ upd_same (D6.nd hp)
      have htr : ∃ tr, atI [V.int (1 + r1), V.int (t - r2)] r3 = some (.int tr) ∧ 1 ≤ tr ∧ tr ≤ t := by
        rcases at_two (a := V.int (1 + r1)) (b := V.int (t - r2)) r30 r31 with ⟨_, e⟩ | ⟨_, e⟩
        · exact ⟨_, e, by omega, by omega⟩
        · exact ⟨_, e, by omega, by omega⟩
      obtain ⟨tr, htr, tr1, tr4⟩ := htr
      refine p_ix (SqL.of hp8) htr ?_
      walk_at "rd"
      have E48 : Ex d H4 H8 := Ex.trans E5 (Ex.trans E6 (Ex.trans (Ex.new hp) E8))
      have hg8 := E48 _ _ hg4 ngd
      have hl8 := E48 _ _ hl4 nld
      refine ⟨g, rfl, .inl ⟨_, .inl hg8⟩, ?_⟩
      refine ⟨by show 2 ≤ sizeLine; decide, fun p2 hp2 => ?_⟩
      have D9 := DrA.same (Same.new (o := .lst [.int 1, .int (-1)]) hp2) D8
      refine ⟨d, 2, sc, ns, rfl, by decide, D9, fun r4 Ha r40 r41 Ea Da => ?_⟩
      have hpa : Ha p2 = some (.lst [.int 1, .int (-1)]) := Ea _ _ upd_same (D8.nd hp2)
      have hsg : ∃ sg : Int, atI [V.int 1, V.int (-1)] r4 = some (.int sg) ∧ (sg = 1 ∨ sg = -1) := by
        rcases at_two (a := V.int 1) (b := V.int (-1)) r40 r41 with ⟨_, e⟩ | ⟨_, e⟩
        · exact ⟨_, e, .inl rfl⟩
        · exact ⟨_, e, .inr rfl⟩
      obtain ⟨sg, hsg, sg1⟩ := hsg
      refine p_ix (SqL.of hpa) hsg ?_
      have E4a : Ex d H4 Ha := Ex.trans E48 (Ex.trans (Ex.new hp2) Ea)
      have hga := E4a _ _ hg4 ngd
      have hla := E4a _ _ hl4 nld
      have hkz : kvs.length = ks.length := by
        have := congrArg List.length hkeys
        rw [List.length_map, List.length_map] at this
        exact this
      -- the sign s of the truth tr, the dict behind it
      have fin : ∀ (s : Int) (kvs' : List (Key × V)) (ks' : List Int) (Hb : Hp), (s = 1 ∨ s = -1) → Hb g = some (.dK kvs') → Hb l = some (.lst (row.map V.int)) → Ex d H Hb → DrA K sc ns Hb d → kvs'.map (·.1) = ks'.map Sum.inl → ks'.length ≤ i + 1 →
          (∀ k v, valV kvs' (Sum.inl k) = some v → v = .int 1 ∨ v = .int (-1)) → valV kvs' (Sum.inl tr) = some (.int s) → (∀ k v, valV kvs (Sum.inl k) = some v → valV kvs' (Sum.inl k) = some v) →
          tyV K "list" (.ref l) Hb ∧ rI CMul (fun i j => V.int (i * j)) (.int tr) (.int s) Hb fun x H1 => rAppend (.ref l) [x] H1 fun x H1 => ∃ (kvs : List (Key × V)) (row ks : List Int) (l1 l2 l3 l4 l5 : Option V), [some (V.ref d), some (.int t), some (.ref g), some (.ref l), some (.int (0 + (i : Int))), some (.int (1 + r1)), some (.int (t - r2)), some (.int tr), some (.int s)] = [some (.ref d), some (.int t), some (.ref g), some (.ref l), l1, l2, l3, l4, l5] ∧ Ex d H H1 ∧ DrA K sc ns H1 d ∧ H1 g = some (.dK kvs) ∧ H1 l = some (.lst (row.map V.int)) ∧ row.length ≤ i + 1 ∧
            kvs.map (·.1) = ks.map Sum.inl ∧ ks.length ≤ i + 1 ∧ (∀ k v, valV kvs (Sum.inl k) = some v → v = .int 1 ∨ v = .int (-1)) ∧ ∀ x ∈ row, 1 ≤ x.natAbs ∧ (x.natAbs : Int) ≤ t ∧ valV kvs (Sum.inl (absI x)) = some (.int (if x < 0 then -1 else 1)) := by
        intro s kvs' ks' Hb hs1 hgb hlb Eb Db hk' hkl' hv' htrs hmono
        refine ⟨Or.inl ⟨rfl, _, SqL.of hlb⟩, ?_⟩
        walk_at "rd"
        refine ⟨.inl ⟨by omega, by omega⟩, p_app hlb (by rw [List.length_map]; exact small1000 (by omega)) ?_⟩
        have Eu : ∀ b o, Hb b = some o → b ≠ l → upd Hb l (.lst (row.map V.int ++ [.int (tr * s)])) b = some o := fun b o e n => by rw [upd_ne n]; exact e
        refine ⟨kvs', row ++ [tr * s], ks', _, _, _, _, _, rfl, fun b o e n => Eu _ _ (Eb b o e n) (ne_of_none e hlH), ?_, Eu _ _ hgb (Ne.symm nlg), by rw [upd_same, List.map_append]; rfl, by rw [List.length_append, List.length_singleton]; omega, hk', hkl', hv', fun x hx => ?_⟩
        · exact DrA.up hD Db Eb hlH
        · rcases List.mem_append.mp hx with hx | hx
          · obtain ⟨a1, a2, a3⟩ := hrow x hx
            exact ⟨a1, a2, hmono _ _ a3⟩
          · have e : x = tr * s := by simpa using hx
            subst e
            have ea : absI (tr * s) = tr ∧ (tr * s).natAbs = tr.natAbs ∧ (if tr * s < 0 then (-1 : Int) else 1) = s := by
              rcases hs1 with rfl | rfl
              · rw [Int.mul_one]
                refine ⟨by rw [absI_nat]; omega, rfl, if_neg (by omega)⟩
              · rw [Int.mul_neg, Int.mul_one]
                refine ⟨by rw [absI_nat]; omega, by omega, if_pos (by omega)⟩
            rw [ea.1, ea.2.1, ea.2.2]
            exact ⟨by omega, by omega, htrs⟩
      have E0a : Ex d H Ha := Ex.trans E4 E4a
      refine ⟨kvs, Sum.inl tr, hga, rfl, small1000 (by omega), fun v hv => ?_, fun hn => ?_⟩
      · rcases hval tr v hv with rfl | rfl
        · exact fin 1 kvs ks Ha (.inl rfl) hga hla E0a Da hkeys (by omega) hval hv (fun _ _ h => h)
        · exact fin (-1) kvs ks Ha (.inr rfl) hga hla E0a Da hkeys (by omega) hval hv (fun _ _ h => h)
      · have Eg : ∀ b o, Ha b = some o → b ≠ g → upd Ha g (.dK (putK kvs (Sum.inl tr) (.int sg))) b = some o := fun b o e n => by rw [upd_ne n]; exact e
        refine fin sg (putK kvs (Sum.inl tr) (.int sg)) (addU ks tr) _ sg1 upd_same (Eg _ _ hla nlg) (fun b o e n => Eg _ _ (E0a b o e n) (ne_of_none e hg)) ?_ (keys_put inl_inj hkeys tr _) (Nat.le_trans (len_add tr) (by omega)) (fun k v h => ?_) (by rw [valV_put, if_pos rfl]) fun k v h => ?_
        · exact DrA.up hD Da E0a hg
        · rw [valV_put] at h
          split at h
          · cases h
            rcases sg1 with rfl | rfl
            · exact .inl rfl
            · exact .inr rfl
          · exact hval k v h
        · rw [valV_put]
          split
          · rename_i e
            rw [e, hn] at h
            cases h
          · exact h
    · rintro σ H4 ⟨kvs, row, ks, l1, l2, l3, l4, l5, rfl, E4, D4, hg4, hl4, hrl, hkeys, hkl, hval, hrow⟩
      walk_at "rd"
      refine q l row H4 ⟨fun x hx => (hrow x hx).1, fun x hx => (hrow x hx).2.1, fun x hx hn => ?_⟩ (by omega) E4 D4 hl4 hlH
      obtain ⟨a1, a2, a3⟩ := hrow x hx
      obtain ⟨b1, b2, b3⟩ := hrow _ hn
      have e : absI (-x) = absI x := by rw [absI_nat, absI_nat]; omega
      rw [e, a3] at b3
      have := Option.some.inj b3
      have := V.int.inj this
      by_cases h : x < 0
      · rw [if_pos h, if_neg (by omega)] at this
        cases this
      · rw [if_neg h, if_pos (by omega)] at this
        cases this
end
end Toy

-- part: L2a
namespace Toy
open PySem PySem.Spec PyProof.Rows L2
section
variable {P : Program} {w : World} {K : PySem.W.Frag} {mg : Str → Option Value} {base : Heap}
/-- a def whose code object stands at c -/
structure FunT (K : PySem.W.Frag) (x qual : Str) (st : Stmt) (c f : Addr) (fd : FuncData) : Prop where
  ex : ∃ (oc : Value) (od : Option Addr) (kV doc pm : Value) (an : Option Addr) (ct : Value) (osl : Array (Option Value)),
    fd = PySem.W.fnOf x qual (defArgs st) (defBody st) (defScope st) .none kV doc pm an (.ref c) ct ∧ K.lookup f = some ⟨oc, od, .func fd, osl⟩ ∧ PySem.W.codeIn K (.ref c) qual = true
  kp : PySem.W.keepIn K (.ref f) = true
theorem FunT.ok {x qual : Str} {st : Stmt} {c f : Addr} {fd : FuncData} {N ps : List Str} {k : Nat} {sp : Sp} (F : FunT K x qual st c f fd) (S : FnScope N ps (defScope st)) (len : ∀ vs H Q E, sp vs H Q E → vs.length = ps.length)
    (hb : ∀ (A : Around) (outer : List Env) (s : Shared) (H : Hp) (vs : List V) (Q : VK) (E : XK), Room k (A.deeper (envOfC qual (defScope st) s.heap.objs.size f (.ref c))) → sp vs H Q E →
      ∃ t, PSs (cxOf CX0 P w K mg base N qual (defScope st) f (.ref c) A outer s H E).nox (defBody st) t ∧ t { nx := fun _ H' => Q .non H', rt := Q } (start N vs) H) : FnOk P w K mg base CX0 (k + 1) f fd ps sp := by
  obtain ⟨oc, od, kV, doc, pm, an, ct, osl, rfl, lk, hcd⟩ := F.ex
  refine fn_of lk hcd S len fun A outer s H vs Q E hr hsp => ?_
  obtain ⟨t, h, q⟩ := hb A outer s H vs Q E hr hsp
  exact ⟨t, h.nox, q⟩
end
/-! ### what the tables leave -/
open LamX (Tabs TabS ExtN CodeO)
theorem ExtN.same {H H' : Hp} (e : Same H H') : ExtN H H' := fun b o h _ => e b o h
theorem Tabs.same {T : List (Addr × Str)} {H H' : Hp} (e : Same H H') (t : Tabs T H) : Tabs T H' := LamX.Tabs.ext t e
/-- all but a list or a dict stays: the tables, too -/
theorem Tabs.ex {T : List (Addr × Str)} {H H' : Hp} {d : Addr} (e : Ex d H H') (h : (∃ xs, H d = some (.lst xs)) ∨ (∃ kvs, H d = some (.dK kvs)) ∨ (∃ kvs, H d = some (.dT kvs)) ∨ H d = none) (t : Tabs T H) : Tabs T H' := fun p hp => by
  obtain ⟨ps, h1, h2, h3⟩ := t p hp
  refine ⟨ps, e _ _ h1 fun z => ?_, h2, fun pos cv hc => ?_⟩
  · rw [z] at h1
    rcases h with ⟨_, h⟩ | ⟨_, h⟩ | ⟨_, h⟩ | h <;> rw [h] at h1 <;> cases h1
  · obtain ⟨c, e1, e2⟩ := h3 pos cv hc
    refine ⟨c, e1, e _ _ e2 fun z => ?_⟩
    rw [z] at e2
    rcases h with ⟨_, h⟩ | ⟨_, h⟩ | ⟨_, h⟩ | h <;> rw [h] at e2 <;> cases e2
theorem ExtN.sql {K : PySem.W.Frag} {H H' : Hp} {a : Addr} {xs : List V} (e : ExtN H H') (h : SqL K H a xs) : SqL K H' a xs := by
  rcases h with (h | ⟨o, h⟩) | h
  · exact .inl (.inl (e _ _ h fun _ z => by cases z))
  · exact .inl (.inr ⟨o, e _ _ h fun _ z => by cases z⟩)
  · exact .inr h
theorem ExtN.sqt {K : PySem.W.Frag} {H H' : Hp} {a : Addr} {xs : List V} (e : ExtN H H') (h : SqT K H a xs) : SqT K H' a xs := by
  rcases h with (h | ⟨o, h⟩) | h
  · exact .inl (.inl (e _ _ h fun _ z => by cases z))
  · exact .inl (.inr ⟨o, e _ _ h fun _ z => by cases z⟩)
  · exact .inr h
theorem TupsAt.extN {H H' : Hp} (e : ExtN H H') : ∀ {bs : List Addr} {cs : List (List Int)}, TupsAt H bs cs → TupsAt H' bs cs
  | _, _, .nil => .nil
  | _, _, .cons h t => .cons (e _ _ h fun _ z => by cases z) (TupsAt.extN e t)
theorem DrA.extN {K : PySem.W.Frag} {sc : Addr} {ns : List Int} {H H' : Hp} {d : Addr} (e : ExtN H H') : DrA K sc ns H d → DrA K sc ns H' d := fun ⟨n, h⟩ => ⟨n, e _ _ h.dr (fun _ z => by cases z), ExtN.sql e h.sq, h.len, h.pos⟩
/-! ### the letters of a row as keys -/
theorem keys_merge : ∀ (row : List Int) {kvs : List (Key × V)} {ks : List Int} {f : Int → V}, kvs.map (·.1) = ks.map Sum.inl → (mergeK kvs (row.map fun i => ((Sum.inl i : Key), f i))).map (·.1) = (row.foldl addU ks).map Sum.inl
  | [], _, _, _, h => h
  | i :: r, kvs, ks, f, h => keys_merge r (kvs := putK kvs (Sum.inl i) (f i)) (ks := addU ks i) (keys_put inl_inj h i _)
theorem nd_fold : ∀ (row : List Int) {ks : List Int}, ks.Nodup → (row.foldl addU ks).Nodup
  | [], _, h => h
  | i :: r, _, h => nd_fold r (nd_add h i)
theorem mem_fold (z : Int) : ∀ (row : List Int) {ks : List Int}, z ∈ row.foldl addU ks ↔ z ∈ ks ∨ z ∈ row
  | [], _ => by simp
  | i :: r, ks => by
    rw [List.foldl_cons, mem_fold z r, mem_add, List.mem_cons]
    exact or_assoc
end Toy

-- part: L2
namespace Toy
open PySem L2
open LamX (Tabs TabS ExtN CodeO TabB)
section
variable {P : Program} {w : World} {K : PySem.W.Frag} {mg : Str → Option Value} {base : Heap}
abbrev sDue : Stmt := topS 38
theorem scDue : FnScope ["rows", "found", "row", "letter"] ["rows"] (defScope sDue) := ⟨rfl, rfl, rfl, by decide +kernel, rfl, by decide +kernel, by decide +kernel⟩
abbrev qLam : Str := "_law_due.<locals>.<lambda>"
/-- lists of letters -/
def ListsAt (K : PySem.W.Frag) (H : Hp) (ps : List Addr) (rows : List (List Int)) : Prop := Paired (fun (q : Addr) (row : List Int) => SqL K H q (row.map V.int)) ps rows
theorem ListsAt.same {H H' : Hp} (e : Same H H') : ∀ {ps : List Addr} {rows : List (List Int)}, ListsAt K H ps rows → ListsAt K H' ps rows
  | _, _, .nil => .nil
  | _, _, .cons h t => .cons (Same.seq e h) (ListsAt.same e t)
theorem ListsAt.get {H : Hp} : ∀ {ps : List Addr} {rows : List (List Int)} {i : Nat} {p : Addr}, ListsAt K H ps rows → ps[i]? = some p → ∃ row, rows[i]? = some row ∧ SqL K H p (row.map V.int)
  | _, _, _, _, .nil, h => by simp at h
  | _, _, 0, _, .cons h t, e => by cases e; exact ⟨_, rfl, h⟩
  | _, _, i + 1, _, .cons h t, e => ListsAt.get (i := i) t e
theorem ListsAt.len {H : Hp} : ∀ {ps : List Addr} {rows : List (List Int)}, ListsAt K H ps rows → ps.length = rows.length
  | _, _, .nil => rfl
  | _, _, .cons _ t => by rw [List.length_cons, List.length_cons, ListsAt.len t]
theorem yesT {σ : St} {H : Hp} {a b : Hp → Prop} (h : a H) : tYes σ H fun b' H3 => if b' = true then a H3 else b H3 := h
theorem Paired.snoc {α β : Type} {F : α → β → Prop} {x : α} {y : β} (h : F x y) : ∀ {l : List α} {m : List β}, Paired F l m → Paired F (l ++ [x]) (m ++ [y])
  | _, _, .nil => .cons h .nil
  | _, _, .cons a t => .cons a (Paired.snoc h t)
theorem Paired.imp {α β : Type} {F G : α → β → Prop} (h : ∀ x y, F x y → G x y) : ∀ {l : List α} {m : List β}, Paired F l m → Paired G l m
  | _, _, .nil => .nil
  | _, _, .cons a t => .cons (h _ _ a) (Paired.imp h t)
def spDue (K : PySem.W.Frag) (T : List (Addr × Str)) : Sp := fun vs H Q _ => ∃ p ps rows t, vs = [.ref p] ∧ SqL K H p (ps.map V.ref) ∧ ListsAt K H ps rows ∧ RowsOk t rows ∧ Tabs T H ∧
  ∀ (a : Addr) (bs : List Addr) (cs : List (List Int)) (H' : Hp), IsDue rows cs → cs.length ≤ rows.length → ExtN H H' → Tabs T H' → H' a = some (.tup (bs.map V.ref)) → TupsAt H' bs cs → Q (.ref a) H'
def rLen (K : PySem.W.Frag) : List V → Hp → VK → Prop := fun xs H Q => ∃ p ys, xs = [V.ref p] ∧ (SqL K H p ys ∨ SqT K H p ys) ∧ Q (V.int ys.length) H
def tLenB (K : PySem.W.Frag) : TE := tTup (tCons (tCB (rLen K) (tCons (tVar 0) tNil)) (tCons (tVar 0) tNil))
theorem ok_due {f c PT : Addr} {fd : FuncData} (F : FunT K "_law_due" "_law_due" sDue c f fd) (B : Bl mg) (TB : TabB base mg c PT) :
    FnOk P w K mg base CX0 4 f fd ["rows"] (spDue K [(PT, qLam)]) := by
  refine F.ok scDue (fun vs H Q E h => ?_) (fun A outer s H vs Q E hr h => ?_)
  · obtain ⟨p, ps, rows, t, rfl, _⟩ := h
    rfl
  · obtain ⟨p, ps, rows, t, rfl, hS, hR, ok, hT, q⟩ := h
    have hu := hu_of hr
    refine ⟨_, pss_cons (ps_set (i := 1) scDue.nd rfl (Or.inl rfl) pe_dnewT)
      (pss_cons (ps_for PassesOwn.never rfl (pi_list (pv 0)) (pg_name (i := 2) scDue.nd rfl (Or.inl rfl))
        (pss_one (ps_dput hu (pv 1) (pe_callTy call_tuple_of (by rfl) B.tuple (by decide +kernel) (pa_cons (pe_sorted (run_dict rfl (u100 hr) rel_abs fun a => PyProof.Rows.ksk_t4 "abs" a) (key_abs (by rfl) B.abs) (by rfl) B.sorted
          (pa_cons (pe_callTy (call_dictP rfl) (by rfl) B.dict (by decide +kernel) (pa_cons (pe_lc (own := [("letter", 3)]) (g := gName 3) (tt := tYes) rfl scDue.nd (pi_list (pv 2)) (blkOk_by (own := [("letter", 3)]) (N := ["rows", "found", "row", "letter"]) (sc := defScope sDue) (by decide +kernel))
            (fun _ _ _ _ _ => pg_name (i := 3) scDue.nd rfl (Or.inl rfl)) (fun _ _ _ _ _ => pts_nil) (fun _ _ _ _ _ => pe_tup (pa_cons (pv 3) (pa_cons pe_bl pa_nil)))) pa_nil)) pa_nil)) pa_nil)) pe_bl rfl)))
      (pss_one (ps_ret (pe_callTy call_tuple_of (by rfl) B.tuple (by decide +kernel) (pa_cons (pe_sortedLam (T := [(PT, qLam)]) (fun f c' pm ctv => run_dictT rfl (u100 hr) (rel_lam (k := 0) (x := "clause") (tb := tLenB K) ⟨rfl, rfl, rfl, by decide +kernel, rfl, by decide +kernel, by decide +kernel⟩ hr (fun _ => rfl)
          (fun A' outer' s' H' hr' => pe_tup (pa_cons (pe_callB call_len_seq (by rfl) B.len PySem.boot_len (pa_cons (pv 0) pa_nil)) (pa_cons (pv 0) pa_nil)))) fun a => PyProof.Rows.ksk_t1 _ a) TB rfl (List.mem_singleton.mpr rfl) (fun p hp e => by simp at hp; rw [hp]; rfl) rfl (by decide +kernel) (by rfl) B.sorted (pa_cons (pv 1) pa_nil)) pa_nil))))), ?_⟩
    show tSeq _ _ _ [some (.ref p), none, none, none] H
    walk_at "rd"
    intro d hd
    have n0 : Same H (upd H d (.dT [])) := Same.new hd
    let Pv : Nat → St → Hp → Prop := fun i σ H' => ∃ (kvs : List (List Key × V)) (cs : List (List Int)) (l1 : Option V), σ = [some (.ref p), some (.ref d), l1, none] ∧ Same H H' ∧ H' d = some (.dT kvs) ∧ kvs.map (·.1) = cs.map tkey ∧ cs.Nodup ∧ (∀ c, c ∈ cs ↔ ∃ row ∈ rows.take i, IsCl row c) ∧ cs.length ≤ i
    refine ⟨_, rfl, p, rfl, ⟨_, Same.seq n0 hS⟩, for_list (K := K) (a := p) (xs := ps.map V.ref) Pv ⟨[], [], none, rfl, n0, upd_same, rfl, List.nodup_nil, by simp, Nat.le_refl _⟩ (fun i σ H' _ ⟨_, _, _, _, e, _⟩ => Same.seq e hS) ?_ ?_⟩
    · rintro i x σ H' hi ⟨kvs, cs, l1, rfl, e1, hk, hkeys, hnd, hmem, hkl⟩
      rw [List.getElem?_map] at hi
      cases ez : ps[i]? with
      | none => rw [ez] at hi; cases hi
      | some rp =>
      rw [ez] at hi
      cases hi
      obtain ⟨row, hrow, hsq⟩ := (ListsAt.same e1 hR).get ez
      have rr : row ∈ rows := List.mem_of_getElem? hrow
      have hil : i < rows.length := (List.getElem?_eq_some_iff.mp hrow).1
      obtain ⟨rok, rlen⟩ := ok.2 row rr
      walk_at "rd"
      refine ⟨_, rfl, rp, rfl, ⟨_, hsq⟩, fun D hD => lc_list (K := K) (a := rp) (xs := row.map V.int) (fun j Hj => ∃ ps2 : List Addr, Same H' Hj ∧ Hj D = some (.lst (ps2.map V.ref)) ∧ ps2.length = j ∧
        Paired (fun (b : Addr) (kv : Key × V) => Hj b = some (.tup [kV kv.1, kv.2])) ps2 ((row.take j).map fun i => ((Sum.inl i : Key), V.bl true))) ⟨[], Same.new hD, upd_same, rfl, .nil⟩ (fun j Hj _ ⟨_, e, _⟩ => Same.seq e hsq) ?_ ?_⟩
      · rintro j x Hj hj ⟨ps2, ej, hDj, hlj, hpj⟩
        rw [List.getElem?_map] at hj
        cases ey : row[j]? with
        | none => rw [ey] at hj; cases hj
        | some y =>
        rw [ey] at hj
        cases hj
        have hjl : j < row.length := (List.getElem?_eq_some_iff.mp ey).1
        refine ⟨rfl, yesT ?_⟩
        show tTup _ [some (V.ref p), some (V.ref d), some (V.ref rp), some (V.int y)] _ _
        walk_at "rd"
        refine ⟨by show 2 ≤ sizeLine; decide, fun b hb => ?_⟩
        have hDb : upd Hj b (.tup [.int y, .bl true]) D = some (.lst (ps2.map V.ref)) := Same.new hb _ _ hDj
        refine ⟨_, hDb, by rw [List.length_map]; exact small1000 (by omega), ps2 ++ [b], fun z o hz => ?_, by rw [upd_same, List.map_append]; rfl, by rw [List.length_append, hlj]; rfl, ?_⟩
        · rw [upd_ne (ne_of_none hz hD)]
          exact Same.new hb _ _ (ej z o hz)
        · have nbD : b ≠ D := fun z => by rw [z, hDj] at hb; cases hb
          rw [List.take_add_one, ey]
          simp only [Option.toList_some, List.map_append, List.map_cons, List.map_nil]
          refine Paired.snoc ?_ (Paired.imp (fun z kv hz => ?_) hpj)
          · show upd _ D _ b = _
            rw [upd_ne nbD, upd_same]
            rfl
          · show upd _ D _ z = _
            rw [upd_ne (ne_of hz hDj (by intro z; cases z)), upd_ne (ne_of_none hz hb)]
            exact hz
      · rintro Hj ⟨ps2, ej, hDj, hlj, hpj⟩
        rw [List.length_map, List.take_length] at hpj
        refine ⟨D, ps2, _, rfl, SqL.of hDj, Paired.imp (fun z kv hz => SqT.of hz) hpj, fun l hl => ?_⟩
        have hkk := keys_merge row (kvs := []) (ks := []) (f := fun _ => V.bl true) rfl
        have hnn := nd_fold row (ks := []) List.nodup_nil
        have hmm : ∀ z, z ∈ row.foldl addU [] ↔ z ∈ row := fun z => (mem_fold z row).trans (by simp)
        generalize mergeK [] (row.map fun i => ((Sum.inl i : Key), V.bl true)) = kv2 at *
        generalize row.foldl addU [] = ks2 at *
        walk_at "rd"
        refine ⟨l, kv2, rfl, .inl upd_same, ?_⟩
        have ek : kv2.map (fun kv => kV kv.1) = ks2.map V.int := by
          have := congrArg (List.map kV) hkk
          rw [List.map_map, List.map_map] at this
          exact this
        rw [ek]
        refine go_abs fun out p2 hp ho hn => ?_
        walk_at "rd"
        refine ⟨p2, _, rfl, .inl ⟨SqL.of upd_same, fun l2 hl2 => ?_⟩⟩
        have hc : IsCl row out := ⟨strict_of hp hnn (fun x hx h => rok.one x ((hmm x).mp hx) ((hmm _).mp h)) (fun x hx => rok.low x ((hmm x).mp hx)) ho, fun x => (hp.mem_iff).trans (hmm x)⟩
        have e3 : Same H' (upd (upd (upd Hj l (.dK kv2)) p2 (.lst (out.map V.int))) l2 (.tup (out.map V.int))) := Same.trans ej (Same.trans (Same.new hl) (Same.trans (Same.new hn) (Same.new hl2)))
        have ha' : upd (upd (upd Hj l (.dK kv2)) p2 (.lst (out.map V.int))) l2 (.tup (out.map V.int)) l2 = some (.tup ((tkey out).map kV)) := by rw [tkey_kV]; exact upd_same
        have hd2 := e3 _ _ hk
        generalize upd (upd (upd Hj l (.dK kv2)) p2 (.lst (out.map V.int))) l2 (.tup (out.map V.int)) = H9 at *
        walk_at "rd"
        refine ⟨d, _, rfl, DPut.t (k := tkey out) hd2 ha' ?_, ?_⟩
        · have := congrArg List.length hkeys
          rw [List.length_map, List.length_map] at this
          have := ok.1
          exact small1000 (by omega)
        · refine ⟨_, addU cs out, _, rfl, fun b o e => ?_, upd_same, keys_put tkey_inj hkeys out _, nd_add hnd out, fun y => ?_, Nat.le_trans (len_add out) (by omega)⟩
          · have hb : b ≠ d := ne_of_none e hd
            rw [upd_ne hb]
            exact e3 _ _ (e1 b o e)
          · rw [mem_add, hmem, List.take_add_one, hrow]
            constructor
            · rintro (⟨r, h1, h2⟩ | rfl)
              · exact ⟨r, List.mem_append_left _ h1, h2⟩
              · exact ⟨row, List.mem_append_right _ (by simp), hc⟩
            · rintro ⟨r, h1, h2⟩
              rcases List.mem_append.mp h1 with h1 | h1
              · exact .inl ⟨r, h1, h2⟩
              · have : r = row := by simpa using h1
                subst this
                exact .inr (IsCl.ext h2 hc fun _ => Iff.rfl)
    · rintro σ H' ⟨kvs, cs, l1, rfl, e1, hk, hkeys, hnd, hmem, hkl⟩
      rw [List.length_map, hR.len, List.take_length] at hmem
      rw [List.length_map, hR.len] at hkl
      walk_at "rd"
      refine ⟨_, rfl, _, rfl, Tabs.same e1 hT, fun c' H2 x2 t2 hc' => ⟨d, kvs, rfl, .inl (x2 _ _ hk fun _ z => by cases z), fun bs hb => ?_⟩⟩
      have T2 := tups_of_keys hb hkeys
      refine go_cls (G := fun H' => H' c' = some (CodeO c' qLam)) hc' (fun _ _ h e => e _ _ h) (fun x H Q g h => ⟨g, ?_⟩) T2 fun zs H4 p4 hp ho s4 _ T4 hn4 => ?_
      · obtain ⟨a, l, rfl, ha, q⟩ := h
        show tTup _ _ _ _
        unfold rLen
        walk_at "rd"
        exact ⟨a, l, rfl, .inr (SqT.of ha), by show 2 ≤ sizeLine; decide, fun t ht => q t ht⟩
      · walk_at "rd"
        refine ⟨p4, _, rfl, .inl ⟨SqL.of upd_same, fun l2 hl2 => ?_⟩⟩
        have s45 : Same H4 (upd (upd H4 p4 (.lst (zs.map fun z => V.ref z.1))) l2 (.tup (zs.map fun z => V.ref z.1))) := Same.trans (Same.new hn4) (Same.new hl2)
        have pk : (zs.map (·.2)).Perm cs := by
          have q1 := hp.map (·.2)
          rw [List.map_snd_zip (by rw [T2.len]; exact Nat.le_refl _)] at q1
          exact q1
        have po : (zs.map (·.2)).Pairwise fun a b => ltC b a = false := by
          rw [List.pairwise_map]
          exact ho
        refine q l2 (zs.map (·.1)) (zs.map (·.2)) _ ⟨inc_of pk hnd po, fun c => (pk.mem_iff).trans (hmem c)⟩ (by rw [pk.length_eq]; exact hkl) ?_ ?_ (by rw [upd_same, List.map_map]; rfl) (TupsAt.same s45 T4)
        · exact ExtN.trans (ExtN.same e1) (ExtN.trans x2 (ExtN.same (Same.trans s4 s45)))
        · exact Tabs.same (Same.trans s4 s45) t2
end
end Toy

-- part: L3
namespace Toy
open PySem L2
open LamX (Tabs TabS ExtN CodeO TabB)
section
variable {P : Program} {w : World} {K : PySem.W.Frag} {mg : Str → Option Value} {base : Heap}
abbrev sMix : Stmt := topS 39
theorem scMix : FnScope ["draw", "some", "found", "one"] ["draw", "some"] (defScope sMix) := ⟨rfl, rfl, rfl, by decide +kernel, rfl, by decide +kernel, by decide +kernel⟩
def spMix (K : PySem.W.Frag) : Sp := fun vs H Q _ => ∃ d p xs sc ns, vs = [.ref d, .ref p] ∧ SqL K H p xs ∧ xs.length ≤ 1000 ∧ p ≠ d ∧ DrA K sc ns H d ∧
  ∀ (l : Addr) (ys : List V) (H' : Hp), ys.Perm xs → Ex d H H' → DrA K sc ns H' d → H' l = some (.lst ys) → H l = none → Q (.ref l) H'
theorem ok_mix {f fM fX : Addr} {fd fdM fdX : FuncData} (F : Fun K "_law_mixed_up" "_law_mixed_up" sMix f fd) (B : Bl mg) (M : Df K mg "_law_mixed" sMixed ["cell", "k"] fM fdM) (X : Df K mg "_law_next" sNext ["draw", "size"] fX fdX) :
    FnOk P w K mg base CX0 3 f fd ["draw", "some"] (spMix K) := by
  have GX : FnOk P w K mg base CX0 2 fX fdX ["draw", "size"] (spNext K) := ok_next X.F B M
  refine F.ok scMix (fun vs H Q E h => ?_) (fun cdv A outer s H vs Q E hr h => ?_)
  · obtain ⟨d, p, xs, sc, ns, rfl, _⟩ := h
    rfl
  · obtain ⟨d, p, xs, sc, ns, rfl, hS, hz, npd, hD, q⟩ := h
    have hu := hu_of hr
    refine ⟨_, pss_cons (ps_set (i := 2) scMix.nd rfl (Or.inl rfl) (pe_lst pa_nil))
      (pss_cons (ps_for PassesOwn.never rfl (pi_list (pv 1)) (pg_name (i := 3) scMix.nd rfl (Or.inl rfl))
        (pss_one (ps_expr (pe_bm PySem.F.plainAttrs_list PySem.F.slot_list_insert PySem.F.type_list_insert mt_insert (pv 2)
          (pa_cons (pe_call GX hr rfl X.g X.F.kp X.b .nil pass0 (pa_cons (pv 0) (pa_cons (pe_op op_add (pe_callB call_len_seq (by rfl) B.len PySem.boot_len (pa_cons (pv 2) pa_nil)) pe_int) pa_nil))) (pa_cons (pv 3) pa_nil))))))
      (pss_one (ps_ret (pv 2)))), ?_⟩
    show tSeq _ _ _ [some (.ref d), some (.ref p), none, none] H
    walk_at "rd"
    refine ⟨Nat.zero_le _, fun l hl => ?_⟩
    walk_at "rd"
    refine ⟨_, rfl, p, rfl, ⟨_, Same.seq (Same.new hl) hS⟩, for_list (K := K) (a := p) (xs := xs) (fun i σ H' => ∃ (ys : List V) (l1 : Option V), σ = [some (.ref d), some (.ref p), some (.ref l), l1] ∧ Ex d H H' ∧ DrA K sc ns H' d ∧ H' l = some (.lst ys) ∧ ys.Perm (xs.take i))
      ⟨[], none, rfl, Ex.new hl, DrA.same (Same.new hl) hD, upd_same, .nil⟩ (fun i σ H' _ ⟨_, _, _, e, _⟩ => Ex.sql e npd hS) ?_ ?_⟩
    · rintro i x σ H' hi ⟨ys, l1, rfl, e1, D1, hl1, pm⟩
      have hil : i < xs.length := (List.getElem?_eq_some_iff.mp hi).1
      have hyl : ys.length = i := by rw [pm.length_eq, List.length_take]; omega
      have nld : l ≠ d := hD.nd hl
      walk_at "rd"
      refine ⟨Or.inl ⟨rfl, _, SqL.of hl1⟩, l, ys, rfl, .inl (SqL.of hl1), ?_⟩
      walk_at "rd"
      refine ⟨d, _, sc, ns, rfl, by omega, D1, fun r H2 r0 r1 E2 D2 => ?_⟩
      walk_at "rd"
      have hl2 := E2 _ _ hl1 nld
      have e2 := Ex.trans e1 E2
      refine ⟨l, ys, r, x, rfl, rfl, hl2, small1000 (by omega), r0, by omega, ?_⟩
      refine ⟨_, _, rfl, Ex.up e2 hl, DrA.up hD D2 e2 hl, upd_same, ?_⟩
      rw [List.take_add_one, hi]
      have q1 : (ys.take r.toNat ++ [x] ++ ys.drop r.toNat).Perm (ys ++ [x]) := by
        have q2 : (ys.take r.toNat ++ [x] ++ ys.drop r.toNat).Perm (ys.take r.toNat ++ ys.drop r.toNat ++ [x]) := by
          rw [List.append_assoc, List.append_assoc]
          exact List.Perm.append_left _ List.perm_append_comm
        rw [List.take_append_drop] at q2
        exact q2
      exact q1.trans (List.Perm.append_right _ pm)
    · rintro σ H' ⟨ys, l1, rfl, e1, D1, hl1, pm⟩
      rw [List.take_length] at pm
      walk_at "rd"
      exact q l ys H' pm e1 D1 hl1 hl
end
end Toy

-- part: RG
namespace L2
open PySem PySem.Spec PyProof.Rows
section
variable {X : Cx}
/-- repr of nested lists and tuples -/
def rRepr (K : PySem.W.Frag) : List V → Hp → VK → Prop := fun xs H Q => ∃ a d, xs = [.ref a] ∧ Dp K H (.ref a) d ∧ d.showable = true ∧ d.hasDict = false ∧ d.depth ≤ 60 ∧ d.shown.length ≤ sizeLine ∧ Q (.str d.shown) H
theorem call_reprD (hg : X.A.guards = some []) (hu : X.A.units + 100 < cLine) : CallR X (.builtin "repr") (rRepr X.K) := by
  intro pins s σ H xs us Q I r h
  obtain ⟨a, d, rfl, hd, hs, hn, hp, hz, q⟩ := h
  obtain ⟨u, rfl, ru⟩ := vals1 r
  obtain ⟨as, hr⟩ := Dp.reads I d _ _ hd ru
  cases ru
  exact PySem.repr_of_reads' hr hs (PyData.noDict_hsm hn) hg (by omega) (fun _ _ e => e) (fun h' u tk hk => ⟨.str _, H, I.un (Un.kept hk) (I.hok.kept hk), ⟨_, rfl⟩, q⟩) hz
end
/-- a def that is called where no object's text is under way -/
structure FnG (P : Program) (w : World) (K : PySem.W.Frag) (mg : Str → Option Value) (base : Heap) (k : Nat) (f : Addr) (fd : FuncData) (ps : List Str) (sp : Sp) : Prop where
  len : ∀ vs H Q E, sp vs H Q E → vs.length = ps.length
  run : ∀ (A : Around) (outer : List Env) (s : Shared) (H : Hp) (args : Args) (us : List Value) (vs : List V) (Q : VK) (E : XK), A.guards = some [] → Room k A → Env0 P w K mg base A outer s H → BindsTo s fd args (ps.zip us) → Vals vs us → sp vs H Q E →
    codeAny (model P w) A (.call (.ref f) args) (CR CX0 outer P w H s Q E) s
theorem deeper_guards {A : Around} {env : Env} (h : A.guards = some []) : (A.deeper env).guards = some [] := by
  show _ = _
  simp [Around.deeper, h]
section
variable {P : Program} {w : World} {K : PySem.W.Frag} {mg : Str → Option Value} {base : Heap}
theorem FnG.of {x qual : Str} {st : Stmt} {f : Addr} {fd : FuncData} {N ps : List Str} {k : Nat} {sp : Sp} (F : Fun K x qual st f fd) (S : FnScope N ps (defScope st)) (len : ∀ vs H Q E, sp vs H Q E → vs.length = ps.length)
    (hbody : ∀ (cdv : Value) (A : Around) (outer : List Env) (s : Shared) (H : Hp) (vs : List V) (Q : VK) (E : XK), A.guards = some [] → Room k (A.deeper (envOfC qual (defScope st) s.heap.objs.size f cdv)) → sp vs H Q E →
      ∃ t, PSs (cxOf CX0 P w K mg base N qual (defScope st) f cdv A outer s H E).nox (defBody st) t ∧ t { nx := fun _ H' => Q .non H', rt := Q } (start N vs) H) : FnG P w K mg base (k + 1) f fd ps sp := by
  obtain ⟨oc, od, kV, doc, pm, an, cdv, ct, osl, rfl, lk, hcd⟩ := F.ex
  refine ⟨len, fun A outer s H args us vs Q E hg hr e0 hb r hsp => ?_⟩
  obtain ⟨t, ht, hq⟩ := hbody cdv A outer s H vs Q E hg (hr.deeper _) hsp
  have kp := fun b o e => (e0.bs b o e).1
  have KX : K.In s.heap := e0.mod.kin.keeps kp
  have kinds : ∀ y ∈ ps.zip us, (defScope st).names.lookup y.1 = some .local ∨ ((defScope st).names.lookup y.1 = some .cell ∧ ((cellsFrom (s.heap.objs.size + 1) (defScope st).names []).lookup y.1).isSome = true) := fun y hy =>
    (S.par y.1 (List.of_mem_zip (show (y.1, y.2) ∈ _ from hy)).1).imp id fun q => ⟨q, PySem.W.cellsFrom_some _ _ _ (.inl q)⟩
  refine codeAny_call_function hr.depth (KX _ _ lk) rfl S.co S.gen rfl (PySem.W.codeRec_of KX hcd) (hb _ _ _ _ (wpAny_newFunctionEnv_cells S.kind kinds fun env he s1 x => ?_))
  subst he
  refine ⟨(e0.mod.nolimit.keeps kp).keeps x.toInCall.keep, codeAny_func ?_⟩
  have I : Inv (cxOf CX0 P w K mg base N qual (defScope st) f cdv A outer s H E) [] (start N vs) H s1 := inv_start S hr.hd e0 (len _ _ _ _ hsp) r x
  refine wpAny_mono (ht.nox.run [] s1 (start N vs) H _ I hq) (fun fl s' hs => ?_) fun e s' hs => hs
  cases fl with
  | ret u =>
    obtain ⟨v, _, H', J, rv, q⟩ := hs
    exact ⟨v, H', J.os, J.bare, J.base, J.hok, rv, q⟩
  | next =>
    obtain ⟨_, H', J, q⟩ := hs
    exact ⟨V.non, H', J.os, J.bare, J.base, J.hok, rfl, q⟩
  | brk => exact hs.elim fun _ h => h.elim fun _ h => False.elim h.2
  | cont => exact hs.elim fun _ h => h.elim fun _ h => False.elim h.2
variable {X : Cx} {k : Nat} {f : Addr} {fd : FuncData} {ps : List Str} {sp : Sp} {x : Str} {p pos : Pos} {e : Expr} {es : List Expr} {t : TA}
theorem pe_callG (F : FnG X.prog X.w X.K X.mg X.base k f fd ps sp) (hgu : X.A.guards = some []) (hr : Room k X.A) (hg : Gl X x) (hm : X.mg x = some (.ref f)) (hk : PySem.W.keepIn X.K (.ref f) = true) (hb : Binds X.K fd ps [])
    (ha : PA X (e :: es) t) (hdb : (x == ("__debug__" : Str)) = false := by decide) (he : starEach (e :: es) X.env = (false, eval e X.env) :: starEach es X.env := by rfl) (hpl : (backTo pos (starEach es X.env)).any (·.1) = false := by rfl) :
    PE X (.Call (.Name x p) (e :: es) [] pos) (tCall sp [] E0 t) := by
  refine ⟨fun pins s σ H Q I h => wpAny_Call_Name_kw (ld_glob I hg hm (PySem.W.callWith_K (h₀ := X.base) I.ok.mod.kin hk (thn (ha.run pos pins s σ H _ I h) fun us s1 ⟨vs, H1, I1, r, q⟩ => ⟨I1.kIn, ?_⟩) he hpl) hdb)⟩
  have q : sp (vs ++ []) H1 Q E0 := q
  rw [List.append_nil] at q
  have b1 := hb s1 us I1.kIn (by rw [List.append_nil, ← r.length]; exact F.len _ _ _ _ q)
  rw [List.append_nil] at b1
  refine wpAny_call (codeAny_mono (F.run X.A X.stack s1 H1 ⟨us, []⟩ us vs Q E0 hgu hr I1.env0 b1 r q) fun r s' hq => ?_)
  cases r with
  | error e => exact pass0 pins σ H1 s1 e s' I1 hq
  | ok fl =>
    cases fl with
    | ret u => exact I1.after hq
    | next => exact False.elim hq
    | brk => exact False.elim hq
    | cont => exact False.elim hq
end
end L2

-- part: LX
namespace Toy
open PySem PySem.Spec PyProof.Rows L2
open LamX (TabB)
/-- what is tracked at a law's start: the empty table at T, the script at a if it isn't of the written part -/
def H0of (K : PySem.W.Frag) (T a : Addr) (vs : List Value) (ns : List Int) : Hp := fun b =>
  if b = T then some (.tbl #[]) else if b = a ∧ K.lookup a = none then some (.frz { cls := .type "list", data := .seq vs.toArray } (.lst (ns.map V.int))) else none
/-- a law whose one def makes a lambda, called where no object's text is under way -/
theorem callG {P : Program} {w : World} {K : PySem.W.Frag} {mg mb : Str → Option Value} {k : Nat} {fa a c T : Addr} {fd : FuncData} {x : Str} {sp : Sp} {s : Shared} {vs : List Value} {ns : List Int}
    (KX : K.In s.heap) (hns : s.heap.Ns mainGlobals mg) (hb : s.heap.Ns builtinsNs mb) (hbb : ∀ x : Str, x ≠ "__name__" → mb x = bootBuiltins x) (hlim : s.heap.NoLimit) (hg : s.gens = #[])
    (hT : s.heap.get? T = some { cls := .none, data := .fields #[] }) (nT : K.lookup T = none) (C : PySem.W.CodeHd s.heap c T)
    (hbm : ∃ (bm : Addr) (ob : Obj), mg "__builtins__" = some (.ref bm) ∧ bm ≠ builtinsNs ∧ s.heap.get? bm = some ob ∧ ob.cls = .type "module" ∧ ob.dict = some builtinsNs ∧ ob.data = .plain)
    (ha : s.heap.get? a = some { cls := .type "list", data := .seq vs.toArray }) (hi : IntsAre vs ns) (hl : ns.length ≤ sizeLine) (hr : Room k callerA)
    (F : ∀ base : Heap, K.In base → base.Ns mainGlobals mg → TabB base mg c T → FnG P w K mg base k fa fd [x] sp) (hbind : ∀ (s : Shared) (u : Value), BindsTo s fd ⟨[u], []⟩ [(x, u)])
    (hsp : ∀ H : Hp, H T = some (.tbl #[]) → SqL K H a (ns.map V.int) → sp [.ref a] H (fun v _ => v = .bl true) E0) :
    codeAny (model P w) callerA (.call (.ref fa) ⟨[.ref a], []⟩) (fun r s' => r = .ok (.ret (.bool true)) ∧ OldK s.heap s'.heap ∧ s'.os = s.os ∧ AllBare s'.gens) s := by
  have rv := vals_ints hi
  have naT : a ≠ T := fun e => by rw [e, hT] at ha; cases ha
  have hHT : H0of K T a vs ns T = some (.tbl #[]) := if_pos rfl
  -- its three ways
  have ways : ∀ b, (b = T ∧ H0of K T a vs ns b = some (.tbl #[])) ∨ (b = a ∧ K.lookup a = none ∧ H0of K T a vs ns b = some (.frz { cls := .type "list", data := .seq vs.toArray } (.lst (ns.map V.int)))) ∨ H0of K T a vs ns b = none := fun b => by
    by_cases e : b = T
    · exact .inl ⟨e, if_pos e⟩
    · by_cases e2 : b = a ∧ K.lookup a = none
      · exact .inr (.inl ⟨e2.1, e2.2, (if_neg e).trans (if_pos e2)⟩)
      · exact .inr (.inr ((if_neg e).trans (if_neg e2)))
  have hS : SqL K (H0of K T a vs ns) a (ns.map V.int) := by
    cases hk : K.lookup a with
    | none => exact .inl (.inr ⟨_, (if_neg naT).trans (if_pos ⟨rfl, hk⟩)⟩)
    | some o =>
      have e := KX a o hk
      rw [ha] at e
      cases e
      exact .inr ⟨_, vs.toArray, _, hk, rfl, rfl, rfl, by rw [List.size_toArray, hi.length]; exact hl, rv⟩
  have hok : HOk P w (H0of K T a vs ns) s.heap := fun b o e => by
    rcases ways b with ⟨rfl, z⟩ | ⟨rfl, _, z⟩ | z <;> rw [z] at e <;> cases e
    · exact hT
    · exact ⟨ha, by rw [List.length_map]; exact hl, vs, _, rv, ha⟩
  have base_of : ∀ {b : Addr} {o : Obj}, s.heap.get? b = some o → H0of K T a vs ns b = none → (hidT s.heap (H0of K T a vs ns)).get? b = some o := fun e n => hidT_get e n
  -- an object that is neither a list nor an empty table isn't tracked
  have out : ∀ {b : Addr} {o : Obj}, s.heap.get? b = some o → o.cls ≠ .type "list" → o.data ≠ .fields #[] → H0of K T a vs ns b = none := fun {b o} e h1 h2 => by
    rcases ways b with ⟨rfl, _⟩ | ⟨rfl, _, _⟩ | z
    · rw [hT] at e
      cases e
      exact absurd rfl h2
    · rw [ha] at e
      cases e
      exact absurd rfl h1
    · exact z
  have outD : ∀ {b : Addr} {o : Obj} {es : Array DictEntry} {n : Nat}, s.heap.get? b = some o → o.data = .dict es n → H0of K T a vs ns b = none := fun {b o es n} e d => by
    rcases ways b with ⟨rfl, _⟩ | ⟨rfl, _, _⟩ | z
    · rw [hT] at e
      cases e
      cases d
    · rw [ha] at e
      cases e
      cases d
    · exact z
  have nsK : ∀ {b : Addr} {m : Str → Option Value}, s.heap.Ns b m → (hidT s.heap (H0of K T a vs ns)).Ns b m := fun {b m} ⟨o, es, ep, e, d, r⟩ => ⟨o, es, ep, base_of e (outD e d), d, r⟩
  have hKb : K.In (hidT s.heap (H0of K T a vs ns)) := fun b o e => base_of (KX b o e) (by
    rcases ways b with ⟨rfl, _⟩ | ⟨rfl, z, _⟩ | z
    · rw [nT] at e; cases e
    · rw [z] at e; cases e
    · exact z)
  have hM : L2.Mod K mg (hidT s.heap (H0of K T a vs ns)) := ⟨hKb, nsK hns, ⟨mb, nsK hb, hbb⟩, let ⟨mc, h1, h2⟩ := hlim; ⟨mc, nsK h1, h2⟩⟩
  have TB : TabB (hidT s.heap (H0of K T a vs ns)) mg c T := by
    refine ⟨?_, ?_, fun z => ?_⟩
    · obtain ⟨o, us, file, tf, flags, tg, inF, text, tt, e1, r1, r2, r3, rest⟩ := C
      refine ⟨o, us, file, tf, flags, tg, inF, text, tt, base_of e1 ?_, r1, r2, r3, rest⟩
      rcases ways c with ⟨e, _⟩ | ⟨e, _, _⟩ | z
      · rw [e, hT] at e1
        cases e1
        cases r2
        simp at r3
      · rw [e, ha] at e1
        cases e1
        cases r2
      · exact z
    · obtain ⟨bm, ob, b1, b2, b3, b4, b5, b6⟩ := hbm
      refine ⟨bm, ob, b1, b2, fun q => ?_, fun q => ?_, base_of b3 (out b3 (by rw [b4]; decide) (by rw [b6]; intro z; cases z)), b4, b5, b6⟩
      · obtain ⟨o, es, ep, e, hd, _⟩ := hns
        rw [q, e] at b3
        cases b3
        rw [hd] at b6
        cases b6
      · rw [q, hT] at b3
        cases b3
        cases b6
    · obtain ⟨o, es, ep, e, hd, _⟩ := hns
      rw [z, hT] at e
      cases e
      cases hd
  have e0 : Env0 P w K mg (hidT s.heap (H0of K T a vs ns)) callerA [] s (H0of K T a vs ns) := ⟨rfl, hM, fun b o e => of_hidT e, Nat.le_of_eq (hidT_size _ _), trivial, fun b hb => absurd (show b ∈ ([] : List Addr) from hb) (by simp), hok, .of_eq hg⟩
  refine codeAny_mono ((F _ hKb (nsK hns) TB).run callerA [] s _ ⟨[.ref a], []⟩ [.ref a] [.ref a] _ _ rfl hr e0 (hbind s (.ref a)) (.cons rfl .nil) (hsp _ hHT hS)) fun r s' h => ?_
  cases r with
  | error e => exact False.elim h
  | ok fl =>
    cases fl with
    | next => exact False.elim h
    | brk => exact False.elim h
    | cont => exact False.elim h
    | ret u =>
      obtain ⟨v, H', os, bare, un, hok', r', q⟩ := h
      obtain rfl : v = .bl true := q
      obtain rfl : u = Value.bool true := r'
      obtain ⟨more, z⟩ := un.tbls T #[] hHT
      have grown := hok' T _ z
      have key : ∀ b o, b ≠ T → s.heap.get? b = some o → s'.heap.get? b = some o := fun b o nb e => by
        rcases ways b with ⟨z, _⟩ | ⟨rfl, _, z⟩ | z
        · exact absurd z nb
        · obtain ⟨e1, _⟩ := hok b _ z
          obtain ⟨e2, _⟩ := hok' b _ (un.frzs b _ _ z)
          rw [e] at e1
          cases e1
          exact e2
        · exact un.keep b o e z (by intro z; exact absurd (show b ∈ ([] : List Addr) from z) (by simp)) (by simp)
      refine ⟨rfl, ⟨fun b o e => ?_, fun b o e => ?_⟩, os, bare⟩
      · by_cases hbT : b = T
        · subst hbT
          rw [hT] at e
          cases e
          exact .inr (.inl ⟨(C.tab hT).isCodeTable, rfl, #[], more, rfl, grown⟩)
        · exact .inl (key b o hbT e)
      · by_cases hbT : b = T
        · subst hbT
          exact ⟨_, grown⟩
        · exact ⟨o, key b o hbT e⟩
theorem walkG {l : PySem.W.OpenLaw} {n k : Nat} {q : Program} {loose : List Str} {XP : (Str → Option Value) → Heap → Prop} {YP : World → Heap → Prop} {d : DefRec} {x : Str}
    (hn : l.most = some n) (hn2 : n ≤ sizeLine) (hdf : d.params.defaults = []) (hr : Room k callerA)
    (F : ∀ (w : World) (mg : Str → Option Value) (fa : Addr) (h : Heap), YP w h → h.Ns mainGlobals mg → mg d.name = some (.ref fa) →
      ∃ (K : PySem.W.Frag) (fd : FuncData) (sp : Sp) (c T : Addr), K.In h ∧ h.get? T = some { cls := .none, data := .fields #[] } ∧ K.lookup T = none ∧ PySem.W.CodeHd h c T ∧ (∀ (s : Shared) (u : Value), BindsTo s fd ⟨[u], []⟩ [(x, u)]) ∧
        (∀ (H : Hp) (a : Addr) (ns : List Int), ns.length ≤ n → H T = some (.tbl #[]) → SqL K H a (ns.map V.int) → sp [.ref a] H (fun v _ => v = .bl true) E0) ∧
        ∀ base : Heap, K.In base → base.Ns mainGlobals mg → TabB base mg c T → FnG l.prog w K mg base k fa fd [x] sp) :
    PySem.W.WalkO q loose XP YP l.row.toRowW d [] (fun f vs => PySem.call f vs) := by
  refine Att.attach_callB hn hdf fun w s₀ s₁ mg mb fa o pm cd doc a vs ns G Y ho hd hcd hmg hobj hints hlen hbits hg => ?_
  obtain ⟨K, fd, sp, c, T, KX, hT, nT, C, hb, hsp, hF⟩ := F w mg fa _ Y G.T.g hmg
  exact callG KX G.T.g G.T.b G.T.builtins G.T.nolimit hg hT nT C G.T.bmain hobj hints (Nat.le_trans hlen hn2) hr hF hb (fun H hH hS => hsp H a ns hlen hH hS)
end Toy

-- part: T1
namespace Toy
open PySem L2
open LamX (Tabs TabS ExtN CodeO TabB)
section
variable {P : Program} {w : World} {K : PySem.W.Frag} {mg : Str → Option Value} {base : Heap}
/-! ### texts of letters and clauses -/
def numS (i : Int) : Str := toString i
def rowS (c : List Int) : Str := if c = [] then "-" else Txt.join " " (c.map numS)
def Fits (n : Nat) (l : List Int) : Prop := l.length ≤ n ∧ ∀ x ∈ l, x.natAbs ≤ 400
theorem int_len4 : ∀ n : Nat, n < 401 → (numS (n : Int)).length ≤ 4 ∧ (numS (-(n : Int))).length ≤ 4 := by decide +kernel
theorem num_len {x : Int} (h : x.natAbs ≤ 400) : (numS x).length ≤ 4 := by
  have q := int_len4 x.natAbs (by omega)
  rcases Int.natAbs_eq x with e | e
  · rw [e]; exact q.1
  · rw [e]; exact q.2
theorem sum_le : ∀ (c : List Int), (∀ x ∈ c, x.natAbs ≤ 400) → ((c.map numS).map (·.length)).sum ≤ c.length * 4
  | [], _ => Nat.le_refl _
  | x :: r, h => by
    have h1 := num_len (h x List.mem_cons_self)
    have h2 := sum_le r fun y hy => h y (List.mem_cons_of_mem _ hy)
    rw [List.map_cons, List.map_cons, List.sum_cons, List.length_cons]
    omega
abbrev sLR : Stmt := topS 23
theorem scLR : FnScope ["letters", "letter"] ["letters"] (defScope sLR) := ⟨rfl, rfl, rfl, by decide +kernel, rfl, by decide +kernel, by decide +kernel⟩
def spLR : Sp := fun vs H Q _ => ∃ a c, vs = [.ref a] ∧ H a = some (.tup (c.map V.int)) ∧ Fits 1000 c ∧ ∀ H', Same H H' → Q (.str (Txt.join " " (c.map numS))) H'
theorem ok_lettersrow {f : Addr} {fd : FuncData} (F : Fun K "letters_row" "letters_row" sLR f fd) (B : Bl mg) (bS : mg "str" = none) : FnOk P w K mg base CX0 1 f fd ["letters"] spLR := by
  refine F.ok scLR (fun vs H Q E h => ?_) (fun cdv A outer s H vs Q E hr h => ?_)
  · obtain ⟨a, c, rfl, _⟩ := h
    rfl
  · obtain ⟨a, c, rfl, ha, ⟨hc, hx⟩, q⟩ := h
    have hu := hu_of hr
    refine ⟨_, pss_one (ps_ret (pe_join pe_str (pe_lc (own := [("letter", 1)]) (g := gName 1) (tt := tYes) (te := tCB (fun xs H Q => ∃ i, xs = [.int i] ∧ i.natAbs.log2 < 1920 ∧ Q (.str (toString i)) H) (tCons (tVar 1) tNil)) rfl scLR.nd (pi_tup (pv 0)) (blkOk_by (own := [("letter", 1)]) (N := ["letters", "letter"]) (sc := defScope sLR) (by decide +kernel))
        (fun _ _ _ _ _ => pg_name (i := 1) scLR.nd rfl (Or.inl rfl)) (fun _ _ _ _ _ => pts_nil) (fun _ _ _ _ _ => pe_callTy (T := "str") call_str_int (by rfl) bS (by decide +kernel) (pa_cons (pv 1) pa_nil))))), ?_⟩
    show tRet _ _ [some (.ref a), none] H
    walk_at "rd"
    refine ⟨⟨_, rfl⟩, _, rfl, a, rfl, ⟨_, SqT.of ha⟩, fun D hD => lc_tup (K := K) (a := a) (xs := c.map V.int) (fun j Hj => Same H Hj ∧ Hj D = some (.lst ((c.take j).map fun i => V.str (numS i)))) ⟨Same.new hD, upd_same⟩ (fun j Hj _ ⟨e, _⟩ => SqT.of (e _ _ ha)) ?_ ?_⟩
    · rintro j x Hj hj ⟨ej, hDj⟩
      rw [List.getElem?_map] at hj
      cases ez : c[j]? with
      | none => rw [ez] at hj; cases hj
      | some z =>
      rw [ez] at hj
      cases hj
      have hjl : j < c.length := (List.getElem?_eq_some_iff.mp ez).1
      have hz := hx z (List.mem_of_getElem? ez)
      refine ⟨rfl, yesT ?_⟩
      refine ⟨_, rfl, z, rfl, Nat.lt_of_le_of_lt (Nat.log2_le_self _) (by omega), _, hDj, by rw [List.length_map, List.length_take]; exact small1000 (by omega), fun b o hb => ?_, ?_⟩
      · rw [upd_ne (ne_of_none hb hD)]
        exact ej b o hb
      · rw [upd_same, List.take_add_one, ez]
        simp only [Option.toList_some, List.map_append, List.map_cons, List.map_nil]
        rfl
    · rintro Hj ⟨ej, hDj⟩
      rw [List.length_map, List.take_length] at hDj
      refine ⟨" ", D, c.map numS, rfl, rfl, .inl (SqL.of (by rw [hDj, List.map_map]; rfl)), ?_, q Hj ej⟩
      have h4 := sum_le c hx
      have e1 : ((" " : Str)).length = 1 := rfl
      rw [List.length_map, e1]
      omega
abbrev sCR : Stmt := topS 26
theorem scCR : FnScope ["clause"] ["clause"] (defScope sCR) := ⟨rfl, rfl, rfl, by decide +kernel, rfl, by decide +kernel, by decide +kernel⟩
def spCR : Sp := fun vs H Q _ => ∃ a c, vs = [.ref a] ∧ H a = some (.tup (c.map V.int)) ∧ Fits 1000 c ∧ ∀ H', Same H H' → Q (.str (rowS c)) H'
theorem ok_clauserow {f fL : Addr} {fd fdL : FuncData} (F : Fun K "clause_row" "clause_row" sCR f fd) (gE : ∃ t, mg "_EMPTY" = some (.str "-" t)) (L : Df K mg "letters_row" sLR ["letters"] fL fdL) (GL : FnOk P w K mg base CX0 1 fL fdL ["letters"] spLR) : FnOk P w K mg base CX0 2 f fd ["clause"] spCR := by
  obtain ⟨te, hE⟩ := gE
  refine F.ok scCR (fun vs H Q E h => ?_) (fun cdv A outer s H vs Q E hr h => ?_)
  · obtain ⟨a, c, rfl, _⟩ := h
    rfl
  · obtain ⟨a, c, rfl, ha, hf, q⟩ := h
    have hu := hu_of hr
    refine ⟨_, pss_one (ps_ret (pe_ifExp (pt_cmpR (op_eqD hr.units) (pv 0) (pe_tup pa_nil) (nomark _)) (pe_glob rfl hE (v := .str "-") ⟨_, rfl⟩) (pe_call GL hr rfl L.g L.F.kp L.b .nil pass0 (pa_cons (pv 0) pa_nil)))), ?_⟩
    show tRet _ _ [some (.ref a)] H
    walk_at "rd"
    refine ⟨Nat.zero_le _, fun p hp => ?_⟩
    have s1 : Same H (upd H p (.tup [])) := Same.new hp
    refine p_eqD (d := .tuple (c.map PyData.int)) (e := .tuple []) (.tup (SqT.of (s1 _ _ ha)) (dp_ints c)) (.tup (SqT.of upd_same) .nil) ?_ (by decide) ?_
    · have h := dep_intsD c
      unfold SeqAt.shaped
      rw [Bool.and_eq_true]
      refine ⟨by simp [PyData.canLay0, can_intsD], decide_eq_true ?_⟩
      simp only [PyData.depth]
      omega
    generalize upd H p (.tup []) = H1 at *
    have ee : PyData.eqv (.tuple (c.map PyData.int)) (.tuple []) = decide (c = []) := by
      simp only [PyData.eqv]
      exact eqvAll_ints c []
    rw [ee]
    unfold rowS at q
    by_cases h0 : c = []
    · rw [if_pos h0] at q
      rw [decide_eq_true h0]
      walk_at "rd"
      exact q H1 s1
    · rw [if_neg h0] at q
      rw [decide_eq_false h0]
      walk_at "rd"
      exact iteF ⟨a, c, rfl, s1 _ _ ha, hf, fun H' e' => q H' (Same.trans s1 e')⟩
end
end Toy

-- part: T2
namespace Toy
open PySem L2
open LamX (Tabs TabS ExtN CodeO TabB)
section
variable {P : Program} {w : World} {K : PySem.W.Frag} {mg : Str → Option Value} {base : Heap}
variable {C fN fL fT fC fU fB fI fE eT : Addr} {fdN fdL fdT fdC fdU fdB fdI fdE : FuncData}
theorem join_le (y : Str) : ∀ parts : List Str, (Str.join y parts).length ≤ (parts.map (·.length)).sum + parts.length * y.length
  | [] => by show 0 ≤ _; exact Nat.zero_le _
  | [x] => by show x.length ≤ _; simp
  | x :: z :: r => by
    have ih := join_le y (z :: r)
    have e : Str.join y (x :: z :: r) = x ++ y ++ Str.join y (z :: r) := rfl
    rw [e, strLen_append, strLen_append, List.map_cons, List.sum_cons, List.length_cons, Nat.add_mul, Nat.one_mul]
    omega
theorem rowS_len {c : List Int} (h : Fits 1000 c) : (rowS c).length ≤ 5000 := by
  unfold rowS
  split
  · decide
  · have h4 := sum_le c h.2
    have h5 := join_le " " (c.map numS)
    have e1 : ((" " : Str)).length = 1 := rfl
    rw [TL.join_eq]
    rw [List.length_map, e1] at h5
    have := h.1
    omega
def rowsS (t : Int) (cs : List (List Int)) : List Str := ("truths " ++ numS t) :: cs.map rowS
def textS (t : Int) (cs : List (List Int)) : Str := Txt.join "" ((rowsS t cs).map fun s => s ++ "\n")
abbrev sPT : Stmt := topS 30
theorem scPT : FnScope ["problem", "rows", "clause", "row"] ["problem"] (defScope sPT) := ⟨rfl, rfl, rfl, by decide +kernel, rfl, by decide +kernel, by decide +kernel⟩
def spPT (C : Addr) : Sp := fun vs H Q _ => ∃ x t cp cs, vs = [.ref x] ∧ Prb C H x t cp cs ∧ 1 ≤ t ∧ t ≤ 400 ∧ cs.length ≤ 400 ∧ (∀ c ∈ cs, Fits 1000 c) ∧ ∀ H', Same H H' → Q (.str (textS t cs)) H'
theorem ok_ptext {f fR : Addr} {fd fdR : FuncData} (F : Fun K "problem_text" "problem_text" sPT f fd) (B : Bl mg) (bS : mg "str" = none) (gE : ∃ t, mg "_EMPTY" = some (.str "-" t)) (gH : ∃ t, mg "_HEAD" = some (.str "truths" t)) (cl : Cls K C) (nM : NoAttr K C "many") (nC : NoAttr K C "clauses")
    (R : Df K mg "clause_row" sCR ["clause"] fR fdR) (GR : FnOk P w K mg base CX0 2 fR fdR ["clause"] spCR) : FnOk P w K mg base CX0 3 f fd ["problem"] (spPT C) := by
  obtain ⟨th, hH⟩ := gH
  refine F.ok scPT (fun vs H Q E h => ?_) (fun cdv A outer s H vs Q E hr h => ?_)
  · obtain ⟨x, t, cp, cs, rfl, _⟩ := h
    rfl
  · obtain ⟨x, t, cp, cs, rfl, p, t1, t4, hl, hf, q⟩ := h
    have hu := hu_of hr
    refine ⟨_, pss_cons (ps_set (i := 1) scPT.nd rfl (Or.inl rfl) (pe_op op_cat (pe_lst (pa_cons (pe_joined (PJ.cons (pe_fmt (pe_glob rfl hH (v := .str "truths") ⟨_, rfl⟩)) (PJ.cons pe_str (PJ.cons (pe_fmt (pe_fld (pv 0) rfl)) PJ.nil)))) pa_nil))
        (pe_lc (own := [("clause", 2)]) (g := gName 2) (tt := tYes) rfl scPT.nd (pi_tup (pe_fld (pv 0) rfl)) (blkOk_by (own := [("clause", 2)]) (N := ["problem", "rows", "clause", "row"]) (sc := defScope sPT) (by decide +kernel))
          (fun _ _ _ _ _ => pg_name (i := 2) scPT.nd rfl (Or.inl rfl)) (fun _ _ _ _ _ => pts_nil) (fun _ _ _ _ _ => pe_call GR hr rfl R.g R.F.kp R.b .nil pass0 (pa_cons (pv 2) pa_nil)))))
      (pss_one (ps_ret (pe_join pe_str (pe_lc (own := [("row", 3)]) (g := gName 3) (tt := tYes) rfl scPT.nd (pi_list (pv 1)) (blkOk_by (own := [("row", 3)]) (N := ["problem", "rows", "clause", "row"]) (sc := defScope sPT) (by decide +kernel))
          (fun _ _ _ _ _ => pg_name (i := 3) scPT.nd rfl (Or.inl rfl)) (fun _ _ _ _ _ => pts_nil) (fun _ _ _ _ _ => pe_op op_add_str (pv 3) pe_str))))), ?_⟩
    show tSeq _ _ _ [some (.ref x), none, none, none] H
    walk_at "rd"
    obtain ⟨dx, hx⟩ := p.ob
    obtain ⟨bs, hcp, TA⟩ := p.cl
    have ht : (numS t).length ≤ 4 := num_len (by omega)
    have eh : Str.empty ++ "truths" ++ " " = ("truths " : Str) := by decide +kernel
    refine .inl ⟨"truths", rfl, by decide +kernel, "truths", rfl, by decide +kernel, " ", rfl, by decide +kernel, _, rfl, x, C, dx, _, _, rfl, hx, cl, nM, flds_many t cp, .inr ⟨t, rfl, Nat.lt_of_le_of_lt (Nat.log2_le_self _) (by omega), numS t, rfl, ?_, ?_⟩⟩
    · rw [strLen_append, eh]
      have e1 : (("truths " : Str)).length = 7 := rfl
      have : sizeLine = 16777216 := rfl
      omega
    rw [eh]
    refine ⟨by show 1 ≤ sizeLine; decide, fun l1 hl1 => ?_⟩
    have s1 : Same H (upd H l1 (.lst [V.str ("truths " ++ numS t)])) := Same.new hl1
    have h1 : upd H l1 (.lst [V.str ("truths " ++ numS t)]) l1 = some (.lst [V.str ("truths " ++ numS t)]) := upd_same
    show tLc _ _ _ _ _ _ (upd H l1 (.lst [V.str ("truths " ++ numS t)])) _
    generalize upd H l1 (.lst [V.str ("truths " ++ numS t)]) = H1 at *
    refine ⟨_, rfl, x, C, dx, _, _, rfl, s1 _ _ hx, cl, nC, flds_clauses t cp, cp, rfl, ⟨_, SqT.of (s1 _ _ hcp)⟩, fun D hD => lc_tup (K := K) (a := cp) (xs := bs.map V.ref) (fun j Hj => Same H1 Hj ∧ Hj D = some (.lst ((cs.take j).map fun c => V.str (rowS c)))) ⟨Same.new hD, upd_same⟩ (fun j Hj _ ⟨e, _⟩ => SqT.of (e _ _ (s1 _ _ hcp))) ?_ ?_⟩
    · rintro j y Hj hj ⟨ej, hDj⟩
      rw [List.getElem?_map] at hj
      cases ez : bs[j]? with
      | none => rw [ez] at hj; cases hj
      | some b =>
      rw [ez] at hj
      cases hj
      obtain ⟨c, hc, hb⟩ := TA.get ez
      have hjl : j < cs.length := (List.getElem?_eq_some_iff.mp hc).1
      refine ⟨rfl, yesT ?_⟩
      refine ⟨_, rfl, b, c, rfl, ej _ _ (s1 _ _ hb), hf c (List.mem_of_getElem? hc), fun H' e' => ⟨_, e' _ _ hDj, by rw [List.length_map, List.length_take]; exact small1000 (by omega), fun z o hz => ?_, ?_⟩⟩
      · rw [upd_ne (ne_of_none hz hD)]
        exact e' _ _ (ej z o hz)
      · rw [upd_same, List.take_add_one, hc]
        simp only [Option.toList_some, List.map_append, List.map_cons, List.map_nil]
    rintro H2 ⟨s2, hD2⟩
    rw [List.length_map, TA.len, List.take_length] at hD2
    refine ⟨l1, D, _, _, rfl, rfl, s2 _ _ h1, hD2, ?_, fun r hr2 => ?_⟩
    · rw [List.length_map]
      exact Nat.le_of_lt (small1000 (by show 1 + cs.length ≤ 1000; omega))
    have er : [V.str ("truths " ++ numS t)] ++ cs.map (fun c => V.str (rowS c)) = (rowsS t cs).map V.str := by
      unfold rowsS
      rw [List.map_cons, List.map_map]
      rfl
    rw [er]
    have s3 : Same H2 (upd H2 r (.lst ((rowsS t cs).map V.str))) := Same.new hr2
    have h3 : upd H2 r (.lst ((rowsS t cs).map V.str)) r = some (.lst ((rowsS t cs).map V.str)) := upd_same
    show tM1 _ _ _ [some (.ref x), some (.ref r), none, none] (upd H2 r (.lst ((rowsS t cs).map V.str))) _
    generalize upd H2 r (.lst ((rowsS t cs).map V.str)) = H3 at *
    have lenR : ∀ s ∈ rowsS t cs, s.length ≤ 5000 := fun s hs => by
      unfold rowsS at hs
      rcases List.mem_cons.mp hs with rfl | hs
      · rw [strLen_append]
        have e1 : (("truths " : Str)).length = 7 := rfl
        omega
      · obtain ⟨c, hc, rfl⟩ := List.mem_map.mp hs
        exact rowS_len (hf c hc)
    have nR : (rowsS t cs).length ≤ 401 := by
      unfold rowsS
      rw [List.length_cons, List.length_map]
      omega
    refine ⟨⟨_, rfl⟩, _, rfl, r, rfl, ⟨_, SqL.of h3⟩, fun E1 hE1 => lc_list (K := K) (a := r) (xs := (rowsS t cs).map V.str) (fun j Hj => Same H3 Hj ∧ Hj E1 = some (.lst (((rowsS t cs).take j).map fun s => V.str (s ++ "\n")))) ⟨Same.new hE1, upd_same⟩ (fun j Hj _ ⟨e, _⟩ => SqL.of (e _ _ h3)) ?_ ?_⟩
    · rintro j y Hj hj ⟨ej, hEj⟩
      rw [List.getElem?_map] at hj
      cases ez : (rowsS t cs)[j]? with
      | none => rw [ez] at hj; cases hj
      | some z =>
      rw [ez] at hj
      cases hj
      have hz := lenR z (List.mem_of_getElem? ez)
      have hjl : j < (rowsS t cs).length := (List.getElem?_eq_some_iff.mp ez).1
      have e1 : (("\n" : Str)).length = 1 := rfl
      have e2 : sizeLine = 16777216 := rfl
      refine ⟨rfl, yesT ?_⟩
      refine ⟨_, rfl, z, "\n", rfl, rfl, by omega, _, hEj, by rw [List.length_map, List.length_take]; exact small1000 (by omega), fun b o hb => ?_, ?_⟩
      · rw [upd_ne (ne_of_none hb hE1)]
        exact ej b o hb
      · rw [upd_same, List.take_add_one, ez]
        simp only [Option.toList_some, List.map_append, List.map_cons, List.map_nil]
    · rintro Hj ⟨ej, hEj⟩
      rw [List.length_map, List.take_length] at hEj
      refine ⟨"", E1, (rowsS t cs).map fun s : Str => s ++ ("\n" : Str), rfl, rfl, .inl (SqL.of (by rw [hEj, List.map_map]; rfl)), ?_, q Hj (Same.trans s1 (Same.trans s2 (Same.trans s3 ej)))⟩
      have hs : ∀ l : List Str, (∀ s ∈ l, s.length ≤ 5000) → ((l.map fun s : Str => s ++ ("\n" : Str)).map (·.length)).sum ≤ l.length * 5001 := by
        intro l
        induction l with
        | nil => intro _; exact Nat.le_refl _
        | cons a l ih =>
          intro h
          have h1 := h a List.mem_cons_self
          have h2 := ih fun s hs => h s (List.mem_cons_of_mem _ hs)
          have e1 : (("\n" : Str)).length = 1 := rfl
          rw [List.map_cons, List.map_cons, List.sum_cons, List.length_cons, strLen_append, e1]
          omega
      have h4 := hs _ lenR
      have e0 : (("" : Str)).length = 0 := rfl
      rw [e0, Nat.mul_zero]
      omega
end
end Toy

-- part: T3
namespace Toy
open PySem L2
open LamX (Tabs TabS ExtN CodeO TabB)
section
variable {P : Program} {w : World} {K : PySem.W.Frag} {mg : Str → Option Value} {base : Heap}
abbrev sLRT : Stmt := topS 40
theorem scLRT : FnScope ["row", "letter"] ["row"] (defScope sLRT) := ⟨rfl, rfl, rfl, by decide +kernel, rfl, by decide +kernel, by decide +kernel⟩
def spLRT (K : PySem.W.Frag) : Sp := fun vs H Q _ => ∃ a c, vs = [.ref a] ∧ SqA K H a (c.map V.int) ∧ Fits 1000 c ∧ ∀ H', Same H H' → Q (.str (rowS c)) H'
theorem ok_lrt {f : Addr} {fd : FuncData} (F : Fun K "_law_row_text" "_law_row_text" sLRT f fd) (B : Bl mg) (bS : mg "str" = none) : FnOk P w K mg base CX0 1 f fd ["row"] (spLRT K) := by
  refine F.ok scLRT (fun vs H Q E h => ?_) (fun cdv A outer s H vs Q E hr h => ?_)
  · obtain ⟨a, c, rfl, _⟩ := h
    rfl
  · obtain ⟨a, c, rfl, ha, ⟨hc, hx⟩, q⟩ := h
    have hu := hu_of hr
    refine ⟨_, pss_one (ps_ret (pe_ifExp (pt_cmpR op_gt (pe_callB call_len_seq (by rfl) B.len PySem.boot_len (pa_cons (pv 0) pa_nil)) pe_int (nomark _))
      (pe_join pe_str (pe_lc (own := [("letter", 1)]) (g := gName 1) (tt := tYes) (te := tCB (fun xs H Q => ∃ i, xs = [.int i] ∧ i.natAbs.log2 < 1920 ∧ Q (.str (toString i)) H) (tCons (tVar 1) tNil)) rfl scLRT.nd (pi_or (pi_list (pv 0)) (pi_tup (pv 0))) (blkOk_by (own := [("letter", 1)]) (N := ["row", "letter"]) (sc := defScope sLRT) (by decide +kernel))
        (fun _ _ _ _ _ => pg_name (i := 1) scLRT.nd rfl (Or.inl rfl)) (fun _ _ _ _ _ => pts_nil) (fun _ _ _ _ _ => pe_callTy (T := "str") call_str_int (by rfl) bS (by decide +kernel) (pa_cons (pv 1) pa_nil)))) pe_str)), ?_⟩
    show tRet _ _ [some (.ref a), none] H
    walk_at "rd"
    refine ⟨a, _, rfl, ha, ?_⟩
    rw [List.length_map]
    by_cases h0 : c = []
    · subst h0
      have : decide ((0 : Int) < (([] : List Int).length : Int)) = false := by decide
      walk_at "rd"
      first
        | exact iteF (q H (Same.refl H))
        | exact q H (Same.refl H)
    · have hp : 0 < c.length := List.length_pos_iff.mpr h0
      rw [decide_eq_true (by omega : (0 : Int) < (c.length : Int))]
      walk_at "rd"
      have er : rowS c = Txt.join " " (c.map numS) := if_neg h0
      rw [er] at q
      have step : ∀ (D : Addr) (_ : H D = none) (j : Nat) (x : V) (Hj : Hp), (c.map V.int)[j]? = some x → (Same H Hj ∧ Hj D = some (.lst ((c.take j).map fun i => V.str (numS i)))) → gName 1 x (wipe [some (.ref a), none] ([(("letter" : Str), 1)].map (·.2))) Hj fun σ2 H2 => wipe σ2 ([(("letter" : Str), 1)].map (·.2)) = wipe [some (.ref a), none] ([(("letter" : Str), 1)].map (·.2)) ∧ tYes σ2 H2 fun b H3 =>
          if b = true then tCB (fun xs H Q => ∃ i, xs = [V.int i] ∧ i.natAbs.log2 < 1920 ∧ Q (.str (toString i)) H) (tCons (tVar 1) tNil) σ2 H3 fun y H4 => ∃ acc, H4 D = some (.lst acc) ∧ acc.length < sizeLine ∧ (Same H (upd H4 D (.lst (acc ++ [y]))) ∧ upd H4 D (.lst (acc ++ [y])) D = some (.lst ((c.take (j + 1)).map fun i => V.str (numS i))))
          else (Same H H3 ∧ H3 D = some (.lst ((c.take (j + 1)).map fun i => V.str (numS i)))) := by
        rintro D hD j x Hj hj ⟨ej, hDj⟩
        rw [List.getElem?_map] at hj
        cases ez : c[j]? with
        | none => rw [ez] at hj; cases hj
        | some z =>
        rw [ez] at hj
        cases hj
        have hjl : j < c.length := (List.getElem?_eq_some_iff.mp ez).1
        have hz := hx z (List.mem_of_getElem? ez)
        refine ⟨rfl, yesT ?_⟩
        refine ⟨_, rfl, z, rfl, Nat.lt_of_le_of_lt (Nat.log2_le_self _) (by omega), _, hDj, by rw [List.length_map, List.length_take]; exact small1000 (by omega), fun b o hb => ?_, ?_⟩
        · rw [upd_ne (ne_of_none hb hD)]
          exact ej b o hb
        · rw [upd_same, List.take_add_one, ez]
          simp only [Option.toList_some, List.map_append, List.map_cons, List.map_nil]
          rfl
      have fin : ∀ (D : Addr) (Hj : Hp), (Same H Hj ∧ Hj D = some (.lst ((c.take (c.map V.int).length).map fun i => V.str (numS i)))) → ∃ (a : Str) (p : Addr) (ys : List Str), V.str " " = V.str a ∧ [V.ref D] = [V.ref p] ∧ (SqL K Hj p (ys.map V.str) ∨ SqT K Hj p (ys.map V.str)) ∧ (ys.map (·.length)).sum + ys.length * a.length ≤ 16777216 ∧ Q (.str (Txt.join a ys)) Hj := by
        rintro D Hj ⟨ej, hDj⟩
        rw [List.length_map, List.take_length] at hDj
        refine ⟨" ", D, c.map numS, rfl, rfl, .inl (SqL.of (by rw [hDj, List.map_map]; rfl)), ?_, q Hj ej⟩
        have h4 := sum_le c hx
        have e1 : ((" " : Str)).length = 1 := rfl
        rw [List.length_map, e1]
        omega
      refine ⟨⟨_, rfl⟩, ?_⟩
      rcases ha with ha | ha
      · exact .inl ⟨_, rfl, a, rfl, ⟨_, ha⟩, fun D hD => lc_list (K := K) (a := a) (xs := c.map V.int) (fun j Hj => Same H Hj ∧ Hj D = some (.lst ((c.take j).map fun i => V.str (numS i)))) ⟨Same.new hD, upd_same⟩ (fun j Hj _ ⟨e, _⟩ => Same.seq e ha) (step D hD) (fin D)⟩
      · exact .inr ⟨_, rfl, a, rfl, ⟨_, ha⟩, fun D hD => lc_tup (K := K) (a := a) (xs := c.map V.int) (fun j Hj => Same H Hj ∧ Hj D = some (.lst ((c.take j).map fun i => V.str (numS i)))) ⟨Same.new hD, upd_same⟩ (fun j Hj _ ⟨e, _⟩ => Same.sqt e ha) (step D hD) (fin D)⟩
end
end Toy

-- part: T4
namespace Toy
open PySem L2
open LamX (Tabs TabS ExtN CodeO TabB)
section
variable {P : Program} {w : World} {K : PySem.W.Frag} {mg : Str → Option Value} {base : Heap}
abbrev sLT : Stmt := topS 41
theorem scLT : FnScope ["truths", "rows", "one", "row"] ["truths", "rows"] (defScope sLT) := ⟨rfl, rfl, rfl, by decide +kernel, rfl, by decide +kernel, by decide +kernel⟩
def spLT (K : PySem.W.Frag) : Sp := fun vs H Q _ => ∃ t p xs cs, vs = [.int t, .ref p] ∧ SqA K H p xs ∧ RowsAt K H xs cs ∧ 1 ≤ t ∧ t ≤ 400 ∧ cs.length ≤ 400 ∧ (∀ c ∈ cs, Fits 1000 c) ∧ ∀ H', Same H H' → Q (.str (textS t cs)) H'
theorem lines_sum : ∀ l : List Str, (∀ s ∈ l, s.length ≤ 5000) → ((l.map fun s : Str => s ++ ("\n" : Str)).map (·.length)).sum ≤ l.length * 5001
  | [], _ => Nat.le_refl _
  | a :: l, h => by
    have h1 := h a List.mem_cons_self
    have h2 := lines_sum l fun s hs => h s (List.mem_cons_of_mem _ hs)
    have e1 : (("\n" : Str)).length = 1 := rfl
    rw [List.map_cons, List.map_cons, List.sum_cons, List.length_cons, strLen_append, e1]
    omega
theorem rowsS_len {t : Int} {cs : List (List Int)} (t1 : 1 ≤ t) (t4 : t ≤ 400) (hf : ∀ c ∈ cs, Fits 1000 c) : ∀ s ∈ rowsS t cs, s.length ≤ 5000 := fun s hs => by
  have ht : (numS t).length ≤ 4 := num_len (by omega)
  unfold rowsS at hs
  rcases List.mem_cons.mp hs with rfl | hs
  · rw [strLen_append]
    have e1 : (("truths " : Str)).length = 7 := rfl
    omega
  · obtain ⟨c, hc, rfl⟩ := List.mem_map.mp hs
    exact rowS_len (hf c hc)
theorem lc_rows {CONT : VK} {l0 : Option V} {p : Addr} {xs : List V} {cs : List (List Int)} {H1 : Hp} (hS : SqA K H1 p xs) (hR : RowsAt K H1 xs cs) (hl : cs.length ≤ 400) (hf : ∀ c ∈ cs, Fits 1000 c)
    (k : ∀ D Hj, Same H1 Hj → Hj D = some (.lst (cs.map fun c => V.str (rowS c))) → CONT (.ref D) Hj) :
    tLc (iOr (iList K (tVar 1)) (iTup K (tVar 1))) (gName 3) tYes (tCall (spLRT K) [] E0 (tCons (tVar 3) tNil)) ([(("row" : Str), 3)].map (·.2)) [l0, some (.ref p), none, none] H1 CONT := by
  have step : ∀ (D : Addr) (_ : H1 D = none) (j : Nat) (x : V) (Hj : Hp), xs[j]? = some x → (Same H1 Hj ∧ Hj D = some (.lst ((cs.take j).map fun c => V.str (rowS c)))) → gName 3 x (wipe [l0, some (.ref p), none, none] ([(("row" : Str), 3)].map (·.2))) Hj fun σ2 H2 => wipe σ2 ([(("row" : Str), 3)].map (·.2)) = wipe [l0, some (.ref p), none, none] ([(("row" : Str), 3)].map (·.2)) ∧ tYes σ2 H2 fun b H3 =>
      if b = true then tCall (spLRT K) [] E0 (tCons (tVar 3) tNil) σ2 H3 fun y H4 => ∃ acc, H4 D = some (.lst acc) ∧ acc.length < sizeLine ∧ (Same H1 (upd H4 D (.lst (acc ++ [y]))) ∧ upd H4 D (.lst (acc ++ [y])) D = some (.lst ((cs.take (j + 1)).map fun c => V.str (rowS c))))
      else (Same H1 H3 ∧ H3 D = some (.lst ((cs.take (j + 1)).map fun c => V.str (rowS c)))) := by
    rintro D hD j x Hj hj ⟨ej, hDj⟩
    obtain ⟨c, b, hc, rfl, hb⟩ := (RowsAt.same ej hR).get hj
    have hjl : j < cs.length := (List.getElem?_eq_some_iff.mp hc).1
    refine ⟨rfl, yesT ?_⟩
    refine ⟨_, rfl, b, c, rfl, hb, hf c (List.mem_of_getElem? hc), fun H' e' => ⟨_, e' _ _ hDj, by rw [List.length_map, List.length_take]; exact small1000 (by omega), fun z o hz => ?_, ?_⟩⟩
    · rw [upd_ne (ne_of_none hz hD)]
      exact e' _ _ (ej z o hz)
    · rw [upd_same, List.take_add_one, hc]
      simp only [Option.toList_some, List.map_append, List.map_cons, List.map_nil]
  have fin : ∀ (D : Addr) (Hj : Hp), (Same H1 Hj ∧ Hj D = some (.lst ((cs.take xs.length).map fun c => V.str (rowS c)))) → CONT (.ref D) Hj := by
    rintro D Hj ⟨ej, hDj⟩
    rw [hR.len, List.take_length] at hDj
    exact k D Hj ej hDj
  rcases hS with ha | ha
  · exact .inl ⟨_, rfl, p, rfl, ⟨_, ha⟩, fun D hD => lc_list (K := K) (a := p) (xs := xs) (fun j Hj => Same H1 Hj ∧ Hj D = some (.lst ((cs.take j).map fun c => V.str (rowS c)))) ⟨Same.new hD, upd_same⟩ (fun j Hj _ ⟨e, _⟩ => Same.seq e ha) (step D hD) (fin D)⟩
  · exact .inr ⟨_, rfl, p, rfl, ⟨_, ha⟩, fun D hD => lc_tup (K := K) (a := p) (xs := xs) (fun j Hj => Same H1 Hj ∧ Hj D = some (.lst ((cs.take j).map fun c => V.str (rowS c)))) ⟨Same.new hD, upd_same⟩ (fun j Hj _ ⟨e, _⟩ => Same.sqt e ha) (step D hD) (fin D)⟩
theorem ok_lt {f fR : Addr} {fd fdR : FuncData} (F : Fun K "_law_text" "_law_text" sLT f fd) (B : Bl mg) (bS : mg "str" = none) (R : Df K mg "_law_row_text" sLRT ["row"] fR fdR) : FnOk P w K mg base CX0 2 f fd ["truths", "rows"] (spLT K) := by
  have GR : FnOk P w K mg base CX0 1 fR fdR ["row"] (spLRT K) := ok_lrt R.F B bS
  refine F.ok scLT (fun vs H Q E h => ?_) (fun cdv A outer s H vs Q E hr h => ?_)
  · obtain ⟨t, p, xs, cs, rfl, _⟩ := h
    rfl
  · obtain ⟨t, p, xs, cs, rfl, hS, hR, t1, t4, hl, hf, q⟩ := h
    have hu := hu_of hr
    refine ⟨_, pss_one (ps_ret (pe_join pe_str (pe_lc (own := [("one", 2)]) (g := gName 2) (tt := tYes) rfl scLT.nd (pi_list (pe_op op_cat (pe_lst (pa_cons (pe_op op_add_str pe_str (pe_callTy call_str_int (by rfl) bS (by decide +kernel) (pa_cons (pv 0) pa_nil))) pa_nil))
        (pe_lc (own := [("row", 3)]) (g := gName 3) (tt := tYes) rfl scLT.nd (pi_or (pi_list (pv 1)) (pi_tup (pv 1))) (blkOk_by (own := [("row", 3)]) (N := ["truths", "rows", "one", "row"]) (sc := defScope sLT) (by decide +kernel))
          (fun _ _ _ _ _ => pg_name (i := 3) scLT.nd rfl (Or.inl rfl)) (fun _ _ _ _ _ => pts_nil) (fun _ _ _ _ _ => pe_call GR hr rfl R.g R.F.kp R.b .nil pass0 (pa_cons (pv 3) pa_nil)))))
        (blkOk_by (own := [("one", 2)]) (N := ["truths", "rows", "one", "row"]) (sc := defScope sLT) (by decide +kernel)) (fun _ _ _ _ _ => pg_name (i := 2) scLT.nd rfl (Or.inl rfl)) (fun _ _ _ _ _ => pts_nil) (fun _ _ _ _ _ => pe_op op_add_str (pv 2) pe_str)))), ?_⟩
    show tRet _ _ [some (.int t), some (.ref p), none, none] H
    have ht : (numS t).length ≤ 4 := num_len (by omega)
    have e7 : (("truths " : Str)).length = 7 := rfl
    have eZ : sizeLine = 16777216 := rfl
    refine ⟨⟨_, rfl⟩, ?_⟩
    refine ⟨_, rfl, t, rfl, Nat.lt_of_le_of_lt (Nat.log2_le_self _) (by omega), "truths ", numS t, rfl, rfl, by omega, by show 1 ≤ sizeLine; decide, fun l1 hl1 => ?_⟩
    have s1 : Same H (upd H l1 (.lst [V.str ("truths " ++ numS t)])) := Same.new hl1
    have h1 : upd H l1 (.lst [V.str ("truths " ++ numS t)]) l1 = some (.lst [V.str ("truths " ++ numS t)]) := upd_same
    show tLc _ _ _ _ _ _ (upd H l1 (.lst [V.str ("truths " ++ numS t)])) _
    generalize upd H l1 (.lst [V.str ("truths " ++ numS t)]) = H1 at *
    have hR1 := RowsAt.same s1 hR
    have nR : (rowsS t cs).length ≤ 401 := by
      unfold rowsS
      rw [List.length_cons, List.length_map]
      omega
    have lenR := rowsS_len t1 t4 hf
    refine lc_rows (SqA.same s1 hS) hR1 hl hf fun D H2 s2 hD2 => ?_
    refine ⟨l1, D, _, _, rfl, rfl, s2 _ _ h1, hD2, ?_, fun r hr2 => ?_⟩
    · rw [List.length_map]
      exact Nat.le_of_lt (small1000 (by show 1 + cs.length ≤ 1000; omega))
    have er : [V.str ("truths " ++ numS t)] ++ cs.map (fun c => V.str (rowS c)) = (rowsS t cs).map V.str := by
      unfold rowsS
      rw [List.map_cons, List.map_map]
      rfl
    rw [er]
    have s3 : Same H2 (upd H2 r (.lst ((rowsS t cs).map V.str))) := Same.new hr2
    have h3 : upd H2 r (.lst ((rowsS t cs).map V.str)) r = some (.lst ((rowsS t cs).map V.str)) := upd_same
    generalize upd H2 r (.lst ((rowsS t cs).map V.str)) = H3 at *
    refine ⟨r, rfl, ⟨_, SqL.of h3⟩, fun E1 hE1 => lc_list (K := K) (a := r) (xs := (rowsS t cs).map V.str) (fun j Hj => Same H3 Hj ∧ Hj E1 = some (.lst (((rowsS t cs).take j).map fun s => V.str (s ++ "\n")))) ⟨Same.new hE1, upd_same⟩ (fun j Hj _ ⟨e, _⟩ => SqL.of (e _ _ h3)) ?_ ?_⟩
    · rintro j y Hj hj ⟨ej, hEj⟩
      rw [List.getElem?_map] at hj
      cases ez : (rowsS t cs)[j]? with
      | none => rw [ez] at hj; cases hj
      | some z =>
      rw [ez] at hj
      cases hj
      have hz := lenR z (List.mem_of_getElem? ez)
      have hjl : j < (rowsS t cs).length := (List.getElem?_eq_some_iff.mp ez).1
      have e1 : (("\n" : Str)).length = 1 := rfl
      refine ⟨rfl, yesT ?_⟩
      refine ⟨_, rfl, z, "\n", rfl, rfl, by omega, _, hEj, by rw [List.length_map, List.length_take]; exact small1000 (by omega), fun b o hb => ?_, ?_⟩
      · rw [upd_ne (ne_of_none hb hE1)]
        exact ej b o hb
      · rw [upd_same, List.take_add_one, ez]
        simp only [Option.toList_some, List.map_append, List.map_cons, List.map_nil]
    · rintro Hj ⟨ej, hEj⟩
      rw [List.length_map, List.take_length] at hEj
      refine ⟨"", E1, (rowsS t cs).map fun s : Str => s ++ ("\n" : Str), rfl, rfl, .inl (SqL.of (by rw [hEj, List.map_map]; rfl)), ?_, q Hj (Same.trans s1 (Same.trans s2 (Same.trans s3 ej)))⟩
      have h4 := lines_sum _ lenR
      have e0 : (("" : Str)).length = 0 := rfl
      rw [e0, Nat.mul_zero]
      omega
end
end Toy

-- part: T5
namespace Toy
open PySem L2
open LamX (Tabs TabS ExtN CodeO TabB)
section
theorem num_facts : ∀ n : Nat, n < 401 → (PySem.intText? (numS (n : Int)) = some (n : Int) ∧ PySem.intText? (numS (-(n : Int))) = some (-(n : Int))) ∧ (32 ∉ TL.tl (numS (n : Int)) ∧ 32 ∉ TL.tl (numS (-(n : Int)))) ∧ (10 ∉ TL.tl (numS (n : Int)) ∧ 10 ∉ TL.tl (numS (-(n : Int)))) := by decide +kernel
theorem num_all {x : Int} (h : x.natAbs ≤ 400) : PySem.intText? (numS x) = some x ∧ 32 ∉ TL.tl (numS x) ∧ 10 ∉ TL.tl (numS x) := by
  have q := num_facts x.natAbs (by omega)
  rcases Int.natAbs_eq x with e | e
  · rw [e]; exact ⟨q.1.1, q.2.1.1, q.2.2.1⟩
  · rw [e]; exact ⟨q.1.2, q.2.1.2, q.2.2.2⟩
theorem row_split {c : List Int} (h : Fits 1000 c) (h0 : c ≠ []) : Txt.split (rowS c) " " = c.map numS := by
  unfold rowS
  rw [if_neg h0]
  exact TL.split_join (s := 32) (S := []) (by decide +kernel) (by decide +kernel) (fun e => h0 (List.map_eq_nil_iff.mp e)) fun p hp => by
    obtain ⟨x, hx, rfl⟩ := List.mem_map.mp hp
    exact (num_all (h.2 x hx)).2.1
theorem row_ne {c : List Int} (h : Fits 1000 c) (h0 : c ≠ []) : rowS c ≠ "-" := fun e => by
  have q := row_split h h0
  rw [e] at q
  have e2 : Txt.split ("-" : Str) " " = [("-" : Str)] := by decide +kernel
  rw [e2] at q
  match c, h, q with
  | [x], h, q =>
    have e3 : ("-" : Str) = numS x := (List.cons.inj q).1
    have := (num_all (h.2 x List.mem_cons_self)).1
    rw [← e3] at this
    have e4 : PySem.intText? ("-" : Str) = none := by decide +kernel
    rw [e4] at this
    cases this
  | _ :: _ :: _, _, q => cases (List.cons.inj q).2
  | [], _, q => cases q
variable {P : Program} {w : World} {K : PySem.W.Frag} {mg : Str → Option Value} {base : Heap}
abbrev sLO : Stmt := topS 24
theorem scLO : FnScope ["row", "word"] ["row"] (defScope sLO) := ⟨rfl, rfl, rfl, by decide +kernel, rfl, by decide +kernel, by decide +kernel⟩
def spLO : Sp := fun vs H Q _ => ∃ c, vs = [.str (Txt.join " " (c.map numS))] ∧ c ≠ [] ∧ Fits 1000 c ∧ ∀ (a : Addr) (H' : Hp), Same H H' → H' a = some (.tup (c.map V.int)) → Q (.ref a) H'
theorem ok_lettersof {f : Addr} {fd : FuncData} (F : Fun K "letters_of" "letters_of" sLO f fd) (B : Bl mg) : FnOk P w K mg base CX0 1 f fd ["row"] spLO := by
  refine F.ok scLO (fun vs H Q E h => ?_) (fun cdv A outer s H vs Q E hr h => ?_)
  · obtain ⟨c, rfl, _⟩ := h
    rfl
  · obtain ⟨c, rfl, h0, hc, q⟩ := h
    have hu := hu_of hr
    have er : rowS c = Txt.join " " (c.map numS) := if_neg h0
    rw [← er]
    refine ⟨_, pss_one (ps_ret (pe_callTy call_tuple_of (by rfl) B.tuple (by decide +kernel) (pa_cons (pe_lc (own := [("word", 1)]) (g := gName 1) (tt := tYes) (te := tCB (fun xs H Q => ∃ a n, xs = [.str a] ∧ PySem.intText? a = some n ∧ a.length ≤ 640 ∧ Q (.int n) H) (tCons (tVar 1) tNil)) rfl scLO.nd (pi_list (pe_split (pv 0) pe_str)) (blkOk_by (own := [("word", 1)]) (N := ["row", "word"]) (sc := defScope sLO) (by decide +kernel))
        (fun _ _ _ _ _ => pg_name (i := 1) scLO.nd rfl (Or.inl rfl)) (fun _ _ _ _ _ => pts_nil) (fun _ _ _ _ _ => pe_callTy (T := "int") call_int_str (by rfl) B.int (by decide +kernel) (pa_cons (pv 1) pa_nil))) pa_nil))), ?_⟩
    show tRet _ _ [some (.str (rowS c)), none] H
    walk_at "rd"
    have hl := rowS_len hc
    have e2 : sizeLine = 16777216 := rfl
    refine ⟨_, rfl, ⟨_, rfl⟩, rowS c, " ", rfl, rfl, rfl, by omega, fun l hl1 => ?_⟩
    rw [row_split hc h0]
    have s1 : Same H (upd H l (.lst ((c.map numS).map V.str))) := Same.new hl1
    have h1 : upd H l (.lst ((c.map numS).map V.str)) l = some (.lst ((c.map numS).map V.str)) := upd_same
    generalize upd H l (.lst ((c.map numS).map V.str)) = H1 at *
    refine ⟨l, rfl, ⟨_, SqL.of h1⟩, fun D hD => lc_list (K := K) (a := l) (xs := (c.map numS).map V.str) (fun j Hj => Same H1 Hj ∧ Hj D = some (.lst ((c.take j).map V.int))) ⟨Same.new hD, upd_same⟩ (fun j Hj _ ⟨e, _⟩ => SqL.of (e _ _ h1)) ?_ ?_⟩
    · rintro j x Hj hj ⟨ej, hDj⟩
      rw [List.map_map, List.getElem?_map] at hj
      cases ez : c[j]? with
      | none => rw [ez] at hj; cases hj
      | some z =>
      rw [ez] at hj
      cases hj
      have hjl : j < c.length := (List.getElem?_eq_some_iff.mp ez).1
      have hz := hc.2 z (List.mem_of_getElem? ez)
      have hcl := hc.1
      have hn := num_len hz
      refine ⟨rfl, yesT ?_⟩
      refine ⟨_, rfl, numS z, z, rfl, (num_all hz).1, by omega, _, hDj, by rw [List.length_map, List.length_take]; exact small1000 (by omega), fun b o hb => ?_, ?_⟩
      · rw [upd_ne (ne_of_none hb hD)]
        exact ej b o hb
      · rw [upd_same, List.take_add_one, ez]
        simp only [Option.toList_some, List.map_append, List.map_cons, List.map_nil]
    · rintro Hj ⟨ej, hDj⟩
      rw [List.length_map, List.length_map, List.take_length] at hDj
      exact ⟨D, _, rfl, .inl ⟨SqL.of hDj, fun a ha => q a _ (Same.trans s1 (Same.trans ej (Same.new ha))) upd_same⟩⟩
abbrev sLC : Stmt := topS 27
theorem scLC : FnScope ["row"] ["row"] (defScope sLC) := ⟨rfl, rfl, rfl, by decide +kernel, rfl, by decide +kernel, by decide +kernel⟩
def spLC : Sp := fun vs H Q _ => ∃ c, vs = [.str (rowS c)] ∧ Fits 1000 c ∧ ∀ (a : Addr) (H' : Hp), Same H H' → H' a = some (.tup (c.map V.int)) → Q (.ref a) H'
theorem ok_letters {f fL : Addr} {fd fdL : FuncData} (F : Fun K "letters_of_clause" "letters_of_clause" sLC f fd) (gE : ∃ t, mg "_EMPTY" = some (.str "-" t)) (L : Df K mg "letters_of" sLO ["row"] fL fdL) (GL : FnOk P w K mg base CX0 1 fL fdL ["row"] spLO) : FnOk P w K mg base CX0 2 f fd ["row"] spLC := by
  obtain ⟨te, hE⟩ := gE
  refine F.ok scLC (fun vs H Q E h => ?_) (fun cdv A outer s H vs Q E hr h => ?_)
  · obtain ⟨c, rfl, _⟩ := h
    rfl
  · obtain ⟨c, rfl, hc, q⟩ := h
    refine ⟨_, pss_one (ps_ret (pe_ifExp (pt_cmpR op_eq (pv 0) (pe_glob rfl hE (v := .str "-") ⟨_, rfl⟩) (nomark _)) (pe_tup pa_nil) (pe_call GL hr rfl L.g L.F.kp L.b .nil pass0 (pa_cons (pv 0) pa_nil)))), ?_⟩
    show tRet _ _ [some (.str (rowS c))] H
    walk_at "rd"
    by_cases h0 : c = []
    · subst h0
      refine ⟨rfl, true, by rw [decide_eq_true]; rfl, ?_⟩
      exact iteT ⟨Nat.zero_le _, fun a ha => q a _ (Same.new ha) upd_same⟩
    · refine ⟨rfl, false, by rw [decide_eq_false fun e => row_ne hc h0 (V.str.inj e)], iteF ?_⟩
      have er : rowS c = Txt.join " " (c.map numS) := if_neg h0
      rw [er]
      exact ⟨c, rfl, h0, hc, q⟩
end
end Toy

-- part: T6
namespace Toy
open PySem L2
open LamX (Tabs TabS ExtN CodeO TabB)
section
variable {P : Program} {w : World} {K : PySem.W.Frag} {mg : Str → Option Value} {base : Heap}
/-- one to three figures, the first none of 0 -/
structure Fig (z : Str) : Prop where
  lo : 1 ≤ z.length
  hi : z.length ≤ 3
  first : ∃ c, atI z.cps.toList 0 = some c ∧ c ≠ 48
  all : ∀ (i c : Nat), z.cps[i]? = some c → c ∈ ("0123456789" : Str).cps.toList
abbrev sFig : Stmt := topS 21
theorem scFig : FnScope ["word", "most", "sign"] ["word", "most"] (defScope sFig) := ⟨rfl, rfl, rfl, by decide +kernel, rfl, by decide +kernel, by decide +kernel⟩
def spFig : Sp := fun vs H Q _ => ∃ z, vs = [.str z, .int 3] ∧ Fig z ∧ ∀ H', Same H H' → Q (.bl true) H'
theorem ok_fig {f : Addr} {fd : FuncData} (F : Fun K "is_figures" "is_figures" sFig f fd) (B : Bl mg) (bA : mg "all" = none) (gF : ∃ t, mg "_FIGURES" = some (.str "0123456789" t)) : FnOk P w K mg base CX0 1 f fd ["word", "most"] spFig := by
  obtain ⟨tF, hF⟩ := gF
  refine F.ok scFig (fun vs H Q E h => ?_) (fun cdv A outer s H vs Q E hr h => ?_)
  · obtain ⟨z, rfl, _⟩ := h
    rfl
  · obtain ⟨z, rfl, hz, q⟩ := h
    have hu := hu_of hr
    refine ⟨_, pss_cons (ps_if (PW.pt (pw_or (pt_not (pt_chain op_le op_le pe_int (pe_callB call_len_str (by rfl) B.len PySem.boot_len (pa_cons (pv 0) pa_nil)) (pv 1)))
        (pw_or1 (pt_cmpR op_eq (pe_ix ix_str (pv 0) pe_int (fun _ _ => rfl)) pe_str (nomark _))))) (pss_one (ps_ret pe_bl)) pss_nil)
      (pss_one (ps_ret (pe_callB (cr_all rfl) (by rfl) bA (by decide +kernel) (pa_cons (pe_lc (own := [("sign", 2)]) (g := gName 2) (tt := tYes) (te := tOp rInS (tVar 2) (tC (.str "0123456789"))) rfl scFig.nd (pi_str (pv 0)) (blkOk_by (own := [("sign", 2)]) (N := ["word", "most", "sign"]) (sc := defScope sFig) (by decide +kernel))
        (fun _ _ _ _ _ => pg_name (i := 2) scFig.nd rfl (Or.inl rfl)) (fun _ _ _ _ _ => pts_nil) (fun _ _ _ _ _ => pe_cmpR op_inS (pv 2) (pe_glob rfl hF (v := .str "0123456789") ⟨_, rfl⟩) (by rfl))) pa_nil)))), ?_⟩
    show tSeq _ _ _ [some (.str z), some (.int 3), none] H
    walk_at "rd"
    obtain ⟨z1, z3, ⟨c, hc0, hc⟩, za⟩ := hz
    have e2 : sizeLine = 16777216 := rfl
    refine ⟨z, rfl, by omega, ?_⟩
    rw [decide_eq_true (by omega : (1 : Int) ≤ (z.length : Int)), decide_eq_true (by omega : (z.length : Int) ≤ 3)]
    refine iteT (iteF ⟨z, 0, c, rfl, rfl, by omega, hc0, rfl, false, ?_, iteF ?_⟩)
    · rw [decide_eq_false]
      intro e
      have e3 : (⟨#[c]⟩ : Str) = ("0" : Str) := V.str.inj e
      have e4 : (#[c] : Array Nat) = ("0" : Str).cps := congrArg Str.cps e3
      have e5 : c = 48 := by
        have h1 := congrArg (fun a : Array Nat => a[0]?) e4
        have h2 : ("0" : Str).cps[0]? = some 48 := by decide +kernel
        have h3 : (#[c] : Array Nat)[0]? = some c := rfl
        exact Option.some.inj (h3.symm.trans (h1.trans h2))
      exact hc e5
    refine ⟨_, rfl, z, rfl, fun D hD => lc_it (walk_str (z := z)) (fun j Hj => Same H Hj ∧ Hj D = some (.lst ((List.replicate j true).map V.bl))) ⟨Same.new hD, upd_same⟩ (fun _ _ _ _ => trivial) ?_ ?_⟩
    · rintro j x Hj H' hj ⟨ej, hDj⟩ ⟨rfl, ch, hch, rfl⟩
      have hjl : j < 3 := Nat.lt_of_lt_of_le hj z3
      refine ⟨rfl, yesT ?_⟩
      refine ⟨_, rfl, ch, "0123456789", rfl, rfl, ?_⟩
      rw [decide_eq_true (za j ch hch)]
      refine ⟨_, hDj, by rw [List.length_map, List.length_replicate]; exact small1000 (by omega), fun b o hb => ?_, ?_⟩
      · rw [upd_ne (ne_of_none hb hD)]
        exact ej b o hb
      · rw [upd_same, List.replicate_succ', List.map_append]
        rfl
    · rintro Hj ⟨ej, hDj⟩
      refine ⟨D, _, rfl, SqL.of hDj, ?_⟩
      have : (List.replicate z.cps.size true).all id = true := by simp
      rw [this]
      exact q Hj ej
end
end Toy

-- part: T7
namespace Toy
open PySem L2
open LamX (Tabs TabS ExtN CodeO TabB)
section
def figB (z : Str) : Bool := decide (1 ≤ z.length) && (decide (z.length ≤ 3) && ((match z.cps.toList with
  | c :: _ => decide (c ≠ 48)
  | [] => false) && z.cps.toList.all fun c => decide (c ∈ ("0123456789" : Str).cps.toList)))
theorem fig_of {z : Str} (h : figB z = true) : Fig z := by
  unfold figB at h
  simp only [Bool.and_eq_true] at h
  obtain ⟨h1, h2, h3, h4⟩ := h
  have h1 : 1 ≤ z.length := of_decide_eq_true h1
  have h2 : z.length ≤ 3 := of_decide_eq_true h2
  refine ⟨h1, h2, ?_, fun i c hc => ?_⟩
  · split at h3
    · rename_i c l e
      refine ⟨c, ?_, of_decide_eq_true h3⟩
      rw [e]
      have hx : ixN (c :: l).length 0 = some 0 := by
        unfold ixN
        rw [if_pos (by decide), if_pos (by rw [List.length_cons]; omega)]
        rfl
      unfold atI
      rw [hx]
      rfl
    · cases h3
  · have hm : c ∈ z.cps.toList := by
      rw [← Array.getElem?_toList] at hc
      exact List.mem_of_getElem? hc
    exact of_decide_eq_true (List.all_eq_true.mp h4 c hm)
theorem fig_nums : ∀ n : Nat, n < 401 → 1 ≤ n → figB (numS (n : Int)) = true := by decide +kernel
theorem fig_num {n : Nat} (h1 : 1 ≤ n) (h4 : n ≤ 400) : Fig (numS (n : Int)) := fig_of (fig_nums n (by omega) h1)
theorem fig_pre : ∀ n : Nat, n < 401 → 1 ≤ n → figB (Txt.removeprefix (numS (n : Int)) "-") = true ∧ figB (Txt.removeprefix (numS (-(n : Int))) "-") = true := by decide +kernel
theorem fig_let {x : Int} (h1 : 1 ≤ x.natAbs) (h4 : x.natAbs ≤ 400) : Fig (Txt.removeprefix (numS x) "-") := by
  have q := fig_pre x.natAbs (by omega) h1
  rcases Int.natAbs_eq x with e | e
  · rw [e]; exact fig_of q.1
  · rw [e]; exact fig_of q.2
end
end Toy

-- part: T8
namespace Toy
open PySem L2
open LamX (Tabs TabS ExtN CodeO TabB)
section
variable {P : Program} {w : World} {K : PySem.W.Frag} {mg : Str → Option Value} {base : Heap}
abbrev sILR : Stmt := topS 22
theorem scILR : FnScope ["row", "word"] ["row"] (defScope sILR) := ⟨rfl, rfl, rfl, by decide +kernel, rfl, by decide +kernel, by decide +kernel⟩
def spILR : Sp := fun vs H Q _ => ∃ c, vs = [.str (Txt.join " " (c.map numS))] ∧ c ≠ [] ∧ Fits 1000 c ∧ (∀ x ∈ c, 1 ≤ x.natAbs) ∧ ∀ H', Same H H' → Q (.bl true) H'
theorem ok_ilr {f fF : Addr} {fd fdF : FuncData} (F : Fun K "is_letters_row" "is_letters_row" sILR f fd) (B : Bl mg) (bA : mg "all" = none) (gM : ∃ t, mg "MOST_FIGURES" = some (.int 3 t)) (G : Df K mg "is_figures" sFig ["word", "most"] fF fdF) (GF : FnOk P w K mg base CX0 1 fF fdF ["word", "most"] spFig) : FnOk P w K mg base CX0 2 f fd ["row"] spILR := by
  obtain ⟨tM, hM⟩ := gM
  refine F.ok scILR (fun vs H Q E h => ?_) (fun cdv A outer s H vs Q E hr h => ?_)
  · obtain ⟨c, rfl, _⟩ := h
    rfl
  · obtain ⟨c, rfl, h0, hc, hx, q⟩ := h
    have hu := hu_of hr
    have er : rowS c = Txt.join " " (c.map numS) := if_neg h0
    rw [← er]
    refine ⟨_, pss_one (ps_ret (pe_callB (cr_all rfl) (by rfl) bA (by decide +kernel) (pa_cons (pe_lc (own := [("word", 1)]) (g := gName 1) (tt := tYes) rfl scILR.nd (pi_list (pe_split (pv 0) pe_str)) (blkOk_by (own := [("word", 1)]) (N := ["row", "word"]) (sc := defScope sILR) (by decide +kernel))
        (fun _ _ _ _ _ => pg_name (i := 1) scILR.nd rfl (Or.inl rfl)) (fun _ _ _ _ _ => pts_nil) (fun _ _ _ _ _ => pe_call GF hr rfl G.g G.F.kp G.b .nil pass0 (pa_cons (pe_m1 PySem.F.slot_str_removeprefix PySem.F.type_str_removeprefix mt_removeprefix (pv 1) pe_str) (pa_cons (pe_glob rfl hM (v := .int 3) ⟨_, rfl⟩) pa_nil)))) pa_nil))), ?_⟩
    show tRet _ _ [some (.str (rowS c)), none] H
    walk_at "rd"
    have hl := rowS_len hc
    have e2 : sizeLine = 16777216 := rfl
    refine ⟨_, rfl, ⟨_, rfl⟩, rowS c, " ", rfl, rfl, rfl, by omega, fun l hl1 => ?_⟩
    rw [row_split hc h0]
    have s1 : Same H (upd H l (.lst ((c.map numS).map V.str))) := Same.new hl1
    have h1 : upd H l (.lst ((c.map numS).map V.str)) l = some (.lst ((c.map numS).map V.str)) := upd_same
    generalize upd H l (.lst ((c.map numS).map V.str)) = H1 at *
    refine ⟨l, rfl, ⟨_, SqL.of h1⟩, fun D hD => lc_list (K := K) (a := l) (xs := (c.map numS).map V.str) (fun j Hj => Same H1 Hj ∧ Hj D = some (.lst ((List.replicate j true).map V.bl))) ⟨Same.new hD, upd_same⟩ (fun j Hj _ ⟨e, _⟩ => SqL.of (e _ _ h1)) ?_ ?_⟩
    · rintro j x Hj hj ⟨ej, hDj⟩
      rw [List.map_map, List.getElem?_map] at hj
      cases ez : c[j]? with
      | none => rw [ez] at hj; cases hj
      | some z =>
      rw [ez] at hj
      cases hj
      have hjl : j < c.length := (List.getElem?_eq_some_iff.mp ez).1
      have hz := hc.2 z (List.mem_of_getElem? ez)
      have hcl := hc.1
      refine ⟨rfl, yesT ?_⟩
      have hn := num_len hz
      refine ⟨_, rfl, ⟨_, rfl⟩, numS z, "-", rfl, rfl, by omega, _, rfl, fig_let (hx z (List.mem_of_getElem? ez)) hz, fun H' e' => ⟨_, e' _ _ hDj, by rw [List.length_map, List.length_replicate]; exact small1000 (by omega), fun b o hb => ?_, ?_⟩⟩
      · rw [upd_ne (ne_of_none hb hD)]
        exact e' _ _ (ej b o hb)
      · rw [upd_same, List.replicate_succ', List.map_append]
        rfl
    · rintro Hj ⟨ej, hDj⟩
      refine ⟨D, _, rfl, SqL.of hDj, ?_⟩
      have : ∀ n : Nat, (List.replicate n true).all id = true := by intro n; simp
      rw [this]
      exact q Hj (Same.trans s1 ej)
abbrev sCW : Stmt := topS 25
theorem scCW : FnScope ["row"] ["row"] (defScope sCW) := ⟨rfl, rfl, rfl, by decide +kernel, rfl, by decide +kernel, by decide +kernel⟩
def spCW : Sp := fun vs H Q _ => ∃ c, vs = [.str (rowS c)] ∧ Fits 1000 c ∧ (∀ x ∈ c, 1 ≤ x.natAbs) ∧ ∀ H', Same H H' → Q (.bl true) H'
theorem ok_crow {f fL : Addr} {fd fdL : FuncData} (F : Fun K "is_clause_row" "is_clause_row" sCW f fd) (gE : ∃ t, mg "_EMPTY" = some (.str "-" t)) (L : Df K mg "is_letters_row" sILR ["row"] fL fdL) (GL : FnOk P w K mg base CX0 2 fL fdL ["row"] spILR) : FnOk P w K mg base CX0 3 f fd ["row"] spCW := by
  obtain ⟨te, hE⟩ := gE
  refine F.ok scCW (fun vs H Q E h => ?_) (fun cdv A outer s H vs Q E hr h => ?_)
  · obtain ⟨c, rfl, _⟩ := h
    rfl
  · obtain ⟨c, rfl, hc, hx, q⟩ := h
    refine ⟨_, pss_one (ps_ret (pe_or (pe_cmpR op_eq (pv 0) (pe_glob rfl hE (v := .str "-") ⟨_, rfl⟩) (nomark _)) (pe_one (pe_call GL hr rfl L.g L.F.kp L.b .nil pass0 (pa_cons (pv 0) pa_nil))))), ?_⟩
    show tRet _ _ [some (.str (rowS c))] H
    walk_at "rd"
    by_cases h0 : c = []
    · subst h0
      refine ⟨rfl, true, by rw [decide_eq_true]; rfl, ?_⟩
      first
        | exact q H (Same.refl H)
        | exact iteT (q H (Same.refl H))
    · refine ⟨rfl, false, by rw [decide_eq_false fun e => row_ne hc h0 (V.str.inj e)], iteF ?_⟩
      have er : rowS c = Txt.join " " (c.map numS) := if_neg h0
      rw [er]
      exact ⟨c, rfl, h0, hc, hx, q⟩
theorem head_splits : ∀ n : Nat, n < 401 → Txt.split ("truths " ++ numS (n : Int)) " " = [("truths" : Str), numS (n : Int)] := by decide +kernel
end
end Toy

-- part: T9
namespace Toy
open PySem L2
open LamX (Tabs TabS ExtN CodeO TabB)
section
variable {P : Program} {w : World} {K : PySem.W.Frag} {mg : Str → Option Value} {base : Heap}
abbrev sHR : Stmt := topS 33
theorem scHR : FnScope ["row", "words"] ["row"] (defScope sHR) := ⟨rfl, rfl, rfl, by decide +kernel, rfl, by decide +kernel, by decide +kernel⟩
def spHR : Sp := fun vs H Q _ => ∃ t : Int, vs = [.str ("truths " ++ numS t)] ∧ 1 ≤ t ∧ t ≤ 400 ∧ ∀ H', Same H H' → Q (.bl true) H'
theorem ok_hrow {f fF : Addr} {fd fdF : FuncData} (F : Fun K "is_head_row" "is_head_row" sHR f fd) (B : Bl mg) (bA : mg "all" = none) (gH : ∃ t, mg "_HEAD" = some (.str "truths" t)) (gM : ∃ t, mg "MOST_FIGURES" = some (.int 3 t))
    (G : Df K mg "is_figures" sFig ["word", "most"] fF fdF) (GF : FnOk P w K mg base CX0 1 fF fdF ["word", "most"] spFig) : FnOk P w K mg base CX0 2 f fd ["row"] spHR := by
  obtain ⟨te, hH⟩ := gH
  obtain ⟨tM, hM⟩ := gM
  refine F.ok scHR (fun vs H Q E h => ?_) (fun cdv A outer s H vs Q E hr h => ?_)
  · obtain ⟨t, rfl, _⟩ := h
    rfl
  · obtain ⟨t, rfl, t1, t4, q⟩ := h
    have hu := hu_of hr
    refine ⟨_, pss_cons (ps_set (i := 1) scHR.nd rfl (Or.inl rfl) (pe_split (pv 0) pe_str))
      (pss_one (ps_ret (pe_and (pe_cmpR op_eq (pe_callB call_len_seq (by rfl) B.len PySem.boot_len (pa_cons (pv 1) pa_nil)) pe_int (nomark _)) (pe_and (pe_cmpR op_eq (pe_ix ix_list (pv 1) pe_int (fun _ _ => rfl)) (pe_glob rfl hH (v := .str "truths") ⟨_, rfl⟩) (nomark _))
        (pe_one (pe_call GF hr rfl G.g G.F.kp G.b .nil pass0 (pa_cons (pe_ix ix_list (pv 1) pe_int (fun _ _ => rfl)) (pa_cons (pe_glob rfl hM (v := .int 3) ⟨_, rfl⟩) pa_nil)))))))), ?_⟩
    show tSeq _ _ _ [some (.str ("truths " ++ numS t)), none] H
    obtain ⟨n, rfl⟩ := Int.eq_ofNat_of_zero_le (by omega : 0 ≤ t)
    have hn := num_len (x := (n : Int)) (by omega)
    have e2 : sizeLine = 16777216 := rfl
    have e7 : (("truths " : Str)).length = 7 := rfl
    refine ⟨_, rfl, ⟨_, rfl⟩, "truths " ++ numS (n : Int), " ", rfl, rfl, rfl, by rw [strLen_append]; omega, fun l hl => ?_⟩
    rw [head_splits n (by omega)]
    have s1 : Same H (upd H l (.lst ([("truths" : Str), numS (n : Int)].map V.str))) := Same.new hl
    have h1 : upd H l (.lst ([("truths" : Str), numS (n : Int)].map V.str)) l = some (.lst [V.str "truths", V.str (numS (n : Int))]) := upd_same
    walk_at "rd"
    generalize upd H l (.lst ([("truths" : Str), numS (n : Int)].map V.str)) = H1 at *
    walk_at "rd"
    refine ⟨l, _, rfl, .inl (SqL.of h1), rfl, true, by rw [decide_eq_true]; rfl, ?_⟩
    walk_at "rd"
    try rw [if_pos trivial]
    refine p_ix (SqL.of h1) (i := 0) (v := .str "truths") rfl ?_
    refine ⟨rfl, true, by rw [decide_eq_true]; rfl, ?_⟩
    walk_at "rd"
    try rw [if_pos trivial]
    refine p_ix (SqL.of h1) (i := 1) (v := .str (numS (n : Int))) rfl ?_
    exact ⟨_, rfl, fig_num (by omega) (by omega), fun H' e' => q H' (Same.trans s1 e')⟩
abbrev sIR : Stmt := topS 32
theorem scIR : FnScope ["row", "at"] ["row", "at"] (defScope sIR) := ⟨rfl, rfl, rfl, by decide +kernel, rfl, by decide +kernel, by decide +kernel⟩
/-- the rows of a problem's text, by their place -/
def spIR : Sp := fun vs H Q _ => ∃ (s : Str) (i : Int), vs = [.str s, .int i] ∧ ((i = 0 ∧ ∃ t : Int, s = "truths " ++ numS t ∧ 1 ≤ t ∧ t ≤ 400) ∨ (i ≠ 0 ∧ ∃ c, s = rowS c ∧ Fits 1000 c ∧ ∀ x ∈ c, 1 ≤ x.natAbs)) ∧ ∀ H', Same H H' → Q (.bl true) H'
theorem ok_isrow {f fH fC : Addr} {fd fdH fdC : FuncData} (F : Fun K "_is_row" "_is_row" sIR f fd) (Hd : Df K mg "is_head_row" sHR ["row"] fH fdH) (Cr : Df K mg "is_clause_row" sCW ["row"] fC fdC)
    (GH : FnOk P w K mg base CX0 2 fH fdH ["row"] spHR) (GC : FnOk P w K mg base CX0 3 fC fdC ["row"] spCW) : FnOk P w K mg base CX0 4 f fd ["row", "at"] spIR := by
  refine F.ok scIR (fun vs H Q E h => ?_) (fun cdv A outer s H vs Q E hr h => ?_)
  · obtain ⟨z, i, rfl, _⟩ := h
    rfl
  · obtain ⟨z, i, rfl, hh, q⟩ := h
    refine ⟨_, pss_one (ps_ret (pe_ifExp (pt_cmpR op_eq (pv 1) pe_int (nomark _)) (pe_call GH (hr.mono (by decide)) rfl Hd.g Hd.F.kp Hd.b .nil pass0 (pa_cons (pv 0) pa_nil)) (pe_call GC hr rfl Cr.g Cr.F.kp Cr.b .nil pass0 (pa_cons (pv 0) pa_nil)))), ?_⟩
    show tRet _ _ [some (.str z), some (.int i)] H
    walk_at "rd"
    rcases hh with ⟨rfl, t, rfl, t1, t4⟩ | ⟨hi, c, rfl, hc, hx⟩
    · exact ⟨rfl, true, by rw [decide_eq_true]; rfl, iteT ⟨t, rfl, t1, t4, q⟩⟩
    · exact ⟨rfl, false, by rw [decide_eq_false fun e => hi (V.int.inj e)], iteF ⟨c, rfl, hc, hx, q⟩⟩
end
end Toy

-- part: U1
namespace Toy
open PySem L2
open LamX (Tabs TabS ExtN CodeO TabB)
section
variable {P : Program} {w : World} {K : PySem.W.Frag} {mg : Str → Option Value} {base : Heap}
variable {C fN fL fT fC fU fB fI fE eT : Addr} {fdN fdL fdT fdC fdU fdB fdI fdE : FuncData}
theorem Prb.ex {H H' : Hp} {d x cp : Addr} {t : Int} {cs : List (List Int)} {ys : List V} (e : Ex d H H') (hd : H d = some (.lst ys)) (p : Prb C H x t cp cs) : Prb C H' x t cp cs := by
  obtain ⟨⟨dx, h1⟩, bs, h2, h3⟩ := p
  refine ⟨⟨dx, e _ _ h1 (ne_of h1 hd (by intro z; cases z))⟩, bs, e _ _ h2 (ne_of h2 hd (by intro z; cases z)), ?_⟩
  have : ∀ (bs : List Addr) (cs : List (List Int)), TupsAt H bs cs → TupsAt H' bs cs := by
    intro bs cs h
    induction h with
    | nil => exact .nil
    | cons h t ih => exact .cons (e _ _ h (ne_of h hd (by intro z; cases z))) ih
  exact this bs cs h3
theorem ListsAt.rows {H : Hp} : ∀ {ps : List Addr} {rows : List (List Int)}, ListsAt K H ps rows → RowsAt K H (ps.map V.ref) rows
  | _, _, .nil => .nil
  | _, _, .cons h t => .cons ⟨_, rfl, .inl h⟩ (ListsAt.rows t)
theorem TupsAt.rows {H : Hp} : ∀ {bs : List Addr} {cs : List (List Int)}, TupsAt H bs cs → RowsAt K H (bs.map V.ref) cs
  | _, _, .nil => .nil
  | _, _, .cons h t => .cons ⟨_, rfl, .inr (SqT.of h)⟩ (TupsAt.rows t)
theorem p_make {H : Hp} {R : Addr → Hp → Prop} {t : Int} {p : Addr} {xs : List V} {rows : List (List Int)} (t1 : 1 ≤ t) (t4 : t ≤ 400) (hS : SqA K H p xs) (hR : RowsAt K H xs rows) (ok : RowsOk t rows)
    (q : ∀ (x cp : Addr) (cs : List (List Int)) (H' : Hp), Same H H' → Prb C H' x t cp cs → IsDue rows cs → R x H') :
    ∀ x dx, H x = none → H dx = none → dx ≠ x → spInit K C [.ref x, .int t, .ref p] (upd (upd H dx (.own x)) x (.ins C dx [])) (fun v H2 => v = .non ∧ R x H2) E0 := by
  intro x dx hx hdx hne
  have e1 : Same H (upd (upd H dx (.own x)) x (.ins C dx [])) := fun b o h => by rw [upd_ne (ne_of_none h hx), upd_ne (ne_of_none h hdx)]; exact h
  exact ⟨x, dx, t, p, xs, rows, rfl, upd_same, t1, t4, SqA.same e1 hS, RowsAt.same e1 hR, ok, fun cp cs H' pr due ex => ⟨rfl, q x cp cs H' (fun b o h => ex b o (e1 b o h) (ne_of_none h hx)) pr due⟩⟩
theorem cl_len : ∀ {c : List Int} (lo hi : Nat), c.Pairwise (fun a b => a.natAbs < b.natAbs) → (∀ x ∈ c, lo < x.natAbs ∧ x.natAbs ≤ hi) → c.length + lo ≤ max lo hi
  | [], lo, hi, _, _ => by simp; omega
  | x :: r, lo, hi, h, b => by
    have h1 := List.pairwise_cons.mp h
    have b1 := b x List.mem_cons_self
    have := cl_len x.natAbs hi h1.2 fun y hy => ⟨h1.1 y hy, (b y (List.mem_cons_of_mem _ hy)).2⟩
    rw [List.length_cons]
    omega
theorem cl_row {t : Int} {row c : List Int} (t4 : t ≤ 400) (ok : RowOk t row) (h : IsCl row c) : RowOk t c ∧ c.length ≤ 400 := by
  refine ⟨⟨fun x hx => ok.low x ((h.mem x).mp hx), fun x hx => ok.top x ((h.mem x).mp hx), fun x hx hn => ok.one x ((h.mem x).mp hx) ((h.mem _).mp hn)⟩, ?_⟩
  have := cl_len 0 400 h.inc fun x hx => by
    have a := ok.low x ((h.mem x).mp hx)
    have b := ok.top x ((h.mem x).mp hx)
    omega
  omega
theorem cl_self {c d : List Int} (inc : c.Pairwise fun a b => a.natAbs < b.natAbs) (h : IsCl c d) : d = c := inc_ext h.inc inc h.mem
/-- the clauses as rows -/
theorem due_rows {t : Int} {rows cs ds : List (List Int)} (t4 : t ≤ 400) (ok : RowsOk t rows) (h : IsDue rows cs) (l : cs.length ≤ rows.length) (sub : ds.Sublist cs) : RowsOk t ds ∧ IsDue ds ds := by
  have inc : ∀ c ∈ ds, ∃ row ∈ rows, IsCl row c := fun c hc => (h.mem c).mp (sub.subset hc)
  refine ⟨⟨Nat.le_trans sub.length_le (Nat.le_trans l ok.1), fun c hc => ?_⟩, h.inc.sublist sub, fun c => ⟨fun hc => ?_, ?_⟩⟩
  · obtain ⟨row, hr, hi⟩ := inc c hc
    have := cl_row t4 (ok.2 row hr).1 hi
    exact ⟨this.1, by omega⟩
  · obtain ⟨row, hr, hi⟩ := inc c hc
    exact ⟨c, hc, hi.inc, fun _ => Iff.rfl⟩
  · rintro ⟨d, hd, hi⟩
    obtain ⟨row, hr, hj⟩ := inc d hd
    rw [cl_self hj.inc hi]
    exact hd
theorem e_make {C : Addr} {sp : Sp} {dvs : List V} {E : XK} {t : TA} {σ : St} {H : Hp} {Q : VK} : tMake C sp dvs E t σ H Q = t σ H fun vs H1 => ∀ x dx, H1 x = none → H1 dx = none → dx ≠ x →
  sp (.ref x :: (vs ++ dvs)) (upd (upd H1 dx (.own x)) x (.ins C dx [])) (fun v H2 => v = .non ∧ Q (.ref x) H2) E := rfl
theorem none_up {H : Hp} {p a : Addr} {o : HO} (h : upd H p o a = none) : H a = none := by
  by_cases e : a = p
  · subst e
    rw [upd_same] at h
    cases h
  · rw [upd_ne e] at h
    exact h
end
/-- all but d and the tables stays -/
def Kp (d : Addr) (H H' : Hp) : Prop := ∀ b o, H b = some o → b ≠ d → (∀ ps, o ≠ .tbl ps) → H' b = some o
section
variable {K : PySem.W.Frag} {d sc p : Addr} {H H0 H1 H2 : Hp} {o : HO}
theorem Kp.refl : Kp d H H := fun _ _ h _ _ => h
theorem Kp.trans (a : Kp d H H1) (b : Kp d H1 H2) : Kp d H H2 := fun c o h n t => b c o (a c o h n t) n t
theorem Kp.ex (e : Ex d H H1) : Kp d H H1 := fun b o h n _ => e b o h n
theorem Kp.extN (e : ExtN H H1) : Kp d H H1 := fun b o h _ t => e b o h t
theorem Kp.same (e : Same H H1) : Kp d H H1 := fun b o h _ _ => e b o h
theorem Kp.up (e : Kp d H0 H) (hp : H0 p = none) : Kp d H0 (upd H p o) := fun b u h n t => by rw [upd_ne (ne_of_none h hp)]; exact e b u h n t
theorem Kp.l (k : Kp d H H1) {xs : List V} (h : H p = some (.lst xs)) (n : p ≠ d) : H1 p = some (.lst xs) := k _ _ h n (by intro _ z; cases z)
theorem Kp.t (k : Kp d H H1) {xs ys : List V} (hd : H d = some (.lst ys)) (h : H p = some (.tup xs)) : H1 p = some (.tup xs) := k _ _ h (ne_of h hd (by intro z; cases z)) (by intro _ z; cases z)
theorem TupsAt.kp {ys : List V} (k : Kp d H H1) (hd : H d = some (.lst ys)) : ∀ {bs : List Addr} {cs : List (List Int)}, TupsAt H bs cs → TupsAt H1 bs cs
  | _, _, .nil => .nil
  | _, _, .cons h t => .cons (k.t hd h) (TupsAt.kp k hd t)
theorem Prb.kp {C x cp : Addr} {t : Int} {cs : List (List Int)} {ys : List V} (k : Kp d H H1) (hd : H d = some (.lst ys)) (p : Prb C H x t cp cs) : Prb C H1 x t cp cs := by
  obtain ⟨⟨dx, h1⟩, bs, h2, h3⟩ := p
  exact ⟨⟨dx, k _ _ h1 (ne_of h1 hd (by intro z; cases z)) (by intro _ z; cases z)⟩, bs, k.t hd h2, TupsAt.kp k hd h3⟩
theorem DrA.dr {ns : List Int} (h : DrA K sc ns H d) : ∃ xs, H d = some (.lst xs) := by
  obtain ⟨n, D⟩ := h
  exact ⟨_, D.dr⟩
/-- a write to what was made since -/
theorem DrA.upK {ns : List Int} (h0 : DrA K sc ns H0 d) (h : DrA K sc ns H d) (e : Kp d H0 H) (hp : H0 p = none) : DrA K sc ns (upd H p o) d := by
  obtain ⟨n0, D0⟩ := h0
  obtain ⟨n, D⟩ := h
  have nd := DrA.nd ⟨n0, D0⟩ hp
  refine ⟨n, by rw [upd_ne (Ne.symm nd)]; exact D.dr, ?_, D.len, D.pos⟩
  have k : Kp d H0 (upd H p o) := Kp.up e hp
  have q := D0.sq
  have hd := D0.dr
  rcases q with (q | ⟨o, q⟩) | q
  · exact .inl (.inl (k _ _ q (fun z => by
      rw [z, hd] at q
      exact ne_ints (n := .non) (HO.lst.inj (Option.some.inj q)).symm) (by intro _ z; cases z)))
  · exact .inl (.inr ⟨o, k _ _ q (fun z => by
      rw [z, hd] at q
      cases q) (by intro _ z; cases z)⟩)
  · exact .inr q
/-- lists of letters, none of them the draws -/
def LstsAt (d : Addr) (H : Hp) (ps : List Addr) (rows : List (List Int)) : Prop := Paired (fun (q : Addr) (row : List Int) => H q = some (.lst (row.map V.int)) ∧ q ≠ d) ps rows
theorem LstsAt.kp (k : Kp d H H1) {ps : List Addr} {rows : List (List Int)} (h : LstsAt d H ps rows) : LstsAt d H1 ps rows := Paired.imp (fun _ _ z => ⟨k.l z.1 z.2, z.2⟩) h
theorem LstsAt.lists {ps : List Addr} {rows : List (List Int)} (h : LstsAt d H ps rows) : ListsAt K H ps rows := Paired.imp (fun _ _ z => SqL.of z.1) h
theorem LstsAt.get : ∀ {ps : List Addr} {rows : List (List Int)} {i : Nat} {p : Addr}, LstsAt d H ps rows → ps[i]? = some p → ∃ row, rows[i]? = some row ∧ H p = some (.lst (row.map V.int)) ∧ p ≠ d
  | _, _, _, _, .nil, h => by simp at h
  | _, _, 0, _, .cons h t, e => by cases e; exact ⟨_, rfl, h⟩
  | _, _, i + 1, _, .cons h t, e => LstsAt.get (i := i) t e
theorem LstsAt.up {d p : Addr} {H : Hp} {o : HO} {ps : List Addr} {rows : List (List Int)} (h : LstsAt d H ps rows) : (∀ q ∈ ps, q ≠ p) → LstsAt d (upd H p o) ps rows := by
  intro n
  induction h with
  | nil => exact .nil
  | cons h t ih => exact .cons ⟨by rw [upd_ne (n _ List.mem_cons_self)]; exact h.1, h.2⟩ (ih fun q hq => n q (List.mem_cons_of_mem _ hq))
end
section
variable {K : PySem.W.Frag} {d sc : Addr} {H H0 H1 : Hp} {C : Addr}
theorem LstsAt.mem {ps : List Addr} {rows : List (List Int)} (h : LstsAt d H ps rows) : ∀ q ∈ ps, ∃ row ∈ rows, H q = some (.lst (row.map V.int)) ∧ q ≠ d := by
  induction h with
  | nil => intro q h; cases h
  | cons h t ih =>
    intro q hq
    rcases List.mem_cons.mp hq with rfl | hq
    · exact ⟨_, List.mem_cons_self, h⟩
    · obtain ⟨z, hz, r⟩ := ih q hq
      exact ⟨z, List.mem_cons_of_mem _ hz, r⟩
theorem LstsAt.mem2 {ps : List Addr} {rows : List (List Int)} (h : LstsAt d H ps rows) : ∀ row ∈ rows, ∃ q ∈ ps, H q = some (.lst (row.map V.int)) := by
  induction h with
  | nil => intro q h; cases h
  | cons h t ih =>
    intro q hq
    rcases List.mem_cons.mp hq with rfl | hq
    · exact ⟨_, List.mem_cons_self, h.1⟩
    · obtain ⟨z, hz, r⟩ := ih q hq
      exact ⟨z, List.mem_cons_of_mem _ hz, r⟩
/-- rows picked by their places -/
theorem LstsAt.pick {ps : List Addr} {rows : List (List Int)} (h : LstsAt d H ps rows) : ∀ qs : List Addr, (∀ q ∈ qs, q ∈ ps) → ∃ rows2, LstsAt d H qs rows2 ∧ ∀ r ∈ rows2, r ∈ rows
  | [], _ => ⟨[], .nil, fun r h => nomatch h⟩
  | q :: qs, hq => by
    obtain ⟨row, hr, h1⟩ := h.mem q (hq q List.mem_cons_self)
    obtain ⟨rows2, h2, h3⟩ := LstsAt.pick h qs fun y hy => hq y (List.mem_cons_of_mem _ hy)
    refine ⟨row :: rows2, .cons h1 h2, fun r hr2 => ?_⟩
    rcases List.mem_cons.mp hr2 with rfl | hr2
    · exact hr
    · exact h3 r hr2
theorem refs_of : ∀ ys : List V, (∀ y ∈ ys, ∃ q, y = V.ref q) → ∃ qs : List Addr, ys = qs.map V.ref
  | [], _ => ⟨[], rfl⟩
  | y :: ys, h => by
    obtain ⟨q, rfl⟩ := h y List.mem_cons_self
    obtain ⟨qs, rfl⟩ := refs_of ys fun z hz => h z (List.mem_cons_of_mem _ hz)
    exact ⟨q :: qs, rfl⟩
theorem mem_cut {xs : List V} {lo hi : Option Int} {y : V} (h : y ∈ cutV xs lo hi) : y ∈ xs := List.mem_of_mem_drop (List.mem_of_mem_take h)
theorem cl_rev {row c : List Int} : IsCl row.reverse c ↔ IsCl row c := ⟨fun h => ⟨h.inc, fun x => (h.mem x).trans List.mem_reverse⟩, fun h => ⟨h.inc, fun x => (h.mem x).trans List.mem_reverse.symm⟩⟩
end
end Toy

-- part: T10
namespace Toy
open PySem L2
open LamX (Tabs TabS ExtN CodeO TabB)
section
theorem num_nl {x : Int} (h : x.natAbs ≤ 400) : 10 ∉ TL.tl (numS x) := (num_all h).2.2
theorem joinL_nl {S : List Nat} (hS : 10 ∉ S) : ∀ ps : List (List Nat), (∀ p ∈ ps, 10 ∉ p) → 10 ∉ TL.joinL S ps
  | [], _ => by simp [TL.joinL]
  | [p], h => h p (List.mem_singleton.mpr rfl)
  | p :: q :: r, h => by
    show 10 ∉ p ++ (S ++ TL.joinL S (q :: r))
    have ih := joinL_nl hS (q :: r) fun x hx => h x (List.mem_cons_of_mem _ hx)
    have hp := h p List.mem_cons_self
    intro hm
    rcases List.mem_append.mp hm with hm | hm
    · exact hp hm
    · rcases List.mem_append.mp hm with hm | hm
      · exact hS hm
      · exact ih hm
theorem row_nl {c : List Int} (h : Fits 1000 c) : 10 ∉ TL.tl (rowS c) := by
  unfold rowS
  split
  · decide +kernel
  · rw [TL.join_eq, TL.tl_join]
    refine joinL_nl (by decide +kernel) _ fun p hp => ?_
    obtain ⟨s, hs, rfl⟩ := List.mem_map.mp hp
    obtain ⟨x, hx, rfl⟩ := List.mem_map.mp hs
    exact num_nl (h.2 x hx)
theorem head_nl {t : Int} (t1 : 1 ≤ t) (t4 : t ≤ 400) : 10 ∉ TL.tl ("truths " ++ numS t) := by
  rw [TL.tl_append]
  intro hm
  rcases List.mem_append.mp hm with hm | hm
  · revert hm
    decide +kernel
  · exact num_nl (by omega) hm
theorem feed_join : ∀ l : List Str, l ≠ [] → Txt.join "" (l.map fun s : Str => s ++ ("\n" : Str)) = Txt.join "\n" (l ++ [("" : Str)]) := by
  intro l h
  rw [TL.join_eq, TL.join_eq]
  refine TL.ext_tl ?_
  rw [TL.tl_join, TL.tl_join, List.map_map, List.map_append]
  have e0 : TL.tl ("" : Str) = [] := by decide +kernel
  have e1 : TL.tl ("\n" : Str) = [10] := by decide +kernel
  have em : (l.map (TL.tl ∘ fun s : Str => s ++ ("\n" : Str))) = (l.map TL.tl).map fun x => x ++ [10] := by
    rw [List.map_map]
    refine List.map_congr_left fun s _ => ?_
    show TL.tl (s ++ ("\n" : Str)) = TL.tl s ++ [10]
    rw [TL.tl_append, e1]
  rw [em, e0, e1, List.map_cons, List.map_nil, e0]
  have key : ∀ ms : List (List Nat), ms ≠ [] → TL.joinL [] (ms.map fun x => x ++ [10]) = TL.joinL [10] (ms ++ [[]]) := by
    intro ms
    induction ms with
    | nil => intro h; exact absurd rfl h
    | cons m r ih =>
      intro _
      cases r with
      | nil => show m ++ [10] = m ++ ([10] ++ []); rfl
      | cons n r2 =>
        show (m ++ [10]) ++ ([] ++ TL.joinL [] ((n :: r2).map fun x => x ++ [10])) = m ++ ([10] ++ TL.joinL [10] ((n :: r2) ++ [[]]))
        rw [ih (by simp), List.nil_append, List.append_assoc]
  exact key _ fun e => h (List.map_eq_nil_iff.mp e)
theorem text_split {t : Int} {cs : List (List Int)} (t1 : 1 ≤ t) (t4 : t ≤ 400) (hf : ∀ c ∈ cs, Fits 1000 c) : Txt.split (textS t cs) "\n" = rowsS t cs ++ [("" : Str)] := by
  unfold textS
  rw [feed_join _ (by unfold rowsS; simp)]
  refine TL.split_join (s := 10) (S := []) (by decide +kernel) (by decide +kernel) (by simp) fun p hp => ?_
  rcases List.mem_append.mp hp with hp | hp
  · unfold rowsS at hp
    rcases List.mem_cons.mp hp with rfl | hp
    · exact head_nl t1 t4
    · obtain ⟨c, hc, rfl⟩ := List.mem_map.mp hp
      exact row_nl (hf c hc)
  · rw [List.mem_singleton.mp hp]
    decide +kernel
theorem text_len {t : Int} {cs : List (List Int)} (t1 : 1 ≤ t) (t4 : t ≤ 400) (hl : cs.length ≤ 400) (hf : ∀ c ∈ cs, Fits 1000 c) : (textS t cs).length ≤ 2100000 := by
  unfold textS
  rw [TL.join_eq]
  refine Nat.le_trans (join_le _ _) ?_
  have h4 := lines_sum _ (rowsS_len t1 t4 hf)
  have nR : (rowsS t cs).length ≤ 401 := by
    unfold rowsS
    rw [List.length_cons, List.length_map]
    omega
  have e0 : (("" : Str)).length = 0 := rfl
  rw [e0, Nat.mul_zero]
  omega
theorem text_ne {t : Int} {cs : List (List Int)} (t1 : 1 ≤ t) (t4 : t ≤ 400) (hf : ∀ c ∈ cs, Fits 1000 c) : textS t cs ≠ "" := fun e => by
  have h := text_split t1 t4 hf
  rw [e] at h
  have e2 : Txt.split ("" : Str) "\n" = [("" : Str)] := by decide +kernel
  rw [e2] at h
  have := congrArg List.length h
  unfold rowsS at this
  simp at this
end
end Toy

-- part: T11
namespace Toy
open PySem L2
open LamX (Tabs TabS ExtN CodeO TabB)
section
theorem cut_tail (a : V) (r : List V) : cutV (a :: r) (some 1) none = r := by
  unfold cutV
  have e1 : HT.sIx (a :: r).length 0 (some 1) = 1 := by
    unfold HT.sIx
    simp
  have e2 : HT.sIx (a :: r).length (a :: r).length none = (a :: r).length := by
    unfold HT.sIx
    simp
  rw [e1, e2]
  simp
theorem at_zero {α : Type} (c : α) (l : List α) : atI (c :: l) 0 = some c := by
  have hx : ixN (c :: l).length 0 = some 0 := by
    unfold ixN
    rw [if_pos (by decide), if_pos (by rw [List.length_cons]; omega)]
    rfl
  unfold atI
  rw [hx]
  rfl
theorem tups_up {H : Hp} {D : Addr} {xs ys : List V} (hD : H D = some (.lst xs)) : ∀ {bs : List Addr} {cs : List (List Int)}, TupsAt H bs cs → TupsAt (upd H D (.lst ys)) bs cs
  | _, _, .nil => .nil
  | _, _, .cons h t => .cons (by rw [upd_ne (ne_of h hD (by intro z; cases z))]; exact h) (tups_up hD t)
variable {P : Program} {w : World} {K : PySem.W.Frag} {mg : Str → Option Value} {base : Heap}
variable {C fN fL fT fC fU fB fI fE eT : Addr} {fdN fdL fdT fdC fdU fdB fdI fdE : FuncData}
abbrev sRP : Stmt := topS 31
abbrev nRP : List Str := ["text", "rows", "last", "at", "row", "many"]
theorem scRP : FnScope nRP ["text"] (defScope sRP) := ⟨rfl, rfl, rfl, by decide +kernel, rfl, by decide +kernel, by decide +kernel⟩
def spRP (C : Addr) : Sp := fun vs H Q _ => ∃ t cs, vs = [.str (textS t cs)] ∧ 1 ≤ t ∧ t ≤ 400 ∧ RowsOk t cs ∧ ∀ x cp ds H', Same H H' → Prb C H' x t cp ds → IsDue cs ds → Q (.ref x) H'
theorem ok_rp {f fP fLt : Addr} {fd fdP fdLt : FuncData} (F : Fun K "read_problem" "read_problem" sRP f fd) (B : Bl mg) (bS : mg "str" = none) (gE : ∃ t, mg "_EMPTY" = some (.str "-" t)) (G : Prog K mg C fN fL fT fC fU fB fI fE fdN fdL fdT fdC fdU fdB fdI fdE eT)
    (IR : Df K mg "_is_row" sIR ["row", "at"] fP fdP) (GIR : FnOk P w K mg base CX0 4 fP fdP ["row", "at"] spIR) (LO : Df K mg "letters_of_clause" sLC ["row"] fLt fdLt) (GL : FnOk P w K mg base CX0 2 fLt fdLt ["row"] spLC) : FnOk P w K mg base CX0 7 f fd ["text"] (spRP C) := by
  have GI : FnOk P w K mg base CX0 5 fI fdI ["self", "many", "clauses"] (spInit K C) := ok_init G B
  refine F.ok scRP (fun vs H Q E h => ?_) (fun cdv A outer s H vs Q E hr h => ?_)
  · obtain ⟨t, cs, rfl, _⟩ := h
    rfl
  · obtain ⟨t, cs, rfl, t1, t4, ok, q⟩ := h
    have hu := hu_of hr
    refine ⟨_, pss_cons (ps_if (PW.pt (pw_or (pt_cmpR op_neT (pe_callTy call_type1 (by rfl) B.type (by decide +kernel) (pa_cons (pv 0) pa_nil)) (pe_bltn (v := .ty "str") (by rfl) bS (by decide +kernel) rfl) (nomark _)) (pw_or1 (pt_cmpR op_eq (pv 0) pe_str (nomark _))))) (pss_one ps_never) pss_nil)
      (pss_cons (ps_asg (pe_split (pv 0) pe_str) (pg_star0 rfl (pgs_cons (pg_name (i := 1) scRP.nd rfl (Or.inl rfl)) (pgs_cons (pg_name (i := 2) scRP.nd rfl (Or.inl rfl)) pgs_nil))))
      (pss_cons (ps_for PassesOwn.never rfl (pi_enum (by rfl) B.enumerate (pa_cons (pv 1) pa_nil)) (pg_tup rfl (pgs_cons (pg_name (i := 3) scRP.nd rfl (Or.inl rfl)) (pgs_cons (pg_name (i := 4) scRP.nd rfl (Or.inl rfl)) pgs_nil)))
        (pss_one (ps_if (pt_not (pt_val (pe_call GIR (hr.mono (by decide)) rfl IR.g IR.F.kp IR.b .nil pass0 (pa_cons (pv 4) (pa_cons (pv 3) pa_nil))))) (pss_one ps_never) pss_nil)))
      (pss_cons (ps_if (pt_cmpR op_ne (pv 2) pe_str (nomark _)) (pss_one ps_never) pss_nil)
      (pss_cons (ps_set (i := 5) scRP.nd rfl (Or.inl rfl) (pe_callTy (T := "int") call_int_str (by rfl) B.int (by decide +kernel) (pa_cons (pe_ix ix_list (pe_split (pe_ix ix_list (pv 1) pe_int (fun _ _ => rfl)) pe_str) pe_int (fun _ _ => rfl)) pa_nil)))
      (pss_one (ps_ret (pe_make G.mak GI hr rfl G.gC G.bI .nil pass0 (pa_cons (pv 5) (pa_cons (pe_lc (own := [("row", 4)]) (g := gName 4) (tt := tYes) rfl scRP.nd (pi_list (pe_slice sl_list (pv 1) (po_some pe_int) po_none)) (blkOk_by (own := [("row", 4)]) (N := nRP) (sc := defScope sRP) (by decide +kernel))
        (fun _ _ _ _ _ => pg_name (i := 4) scRP.nd rfl (Or.inl rfl)) (fun _ _ _ _ _ => pts_nil) (fun _ _ _ _ _ => pe_call GL (hr.mono (by decide)) rfl LO.g LO.F.kp LO.b .nil pass0 (pa_cons (pv 4) pa_nil))) pa_nil))))))))), ?_⟩
    show tSeq _ _ _ [some (.str (textS t cs)), none, none, none, none, none] H
    have fit : ∀ c ∈ cs, Fits 1000 c := fun c hc => ⟨(ok.2 c hc).2, fun x hx => by have := (ok.2 c hc).1.top x hx; omega⟩
    have low : ∀ c ∈ cs, ∀ x ∈ c, 1 ≤ x.natAbs := fun c hc => (ok.2 c hc).1.low
    have tl := text_len t1 t4 ok.1 fit
    have tn := text_ne t1 t4 fit
    have ts := text_split t1 t4 fit
    have e2 : sizeLine = 16777216 := rfl
    generalize textS t cs = z at *
    walk_at "rd"
    refine ⟨.str z, "str", rfl, .str z, "str", "str", rfl, rfl, .inr (.inl rfl), .inr (.inl rfl), ?_⟩
    walk_at "rd"
    refine iteF ⟨rfl, false, by rw [decide_eq_false fun e => tn (V.str.inj e)], iteF ?_⟩
    refine ⟨_, rfl, ⟨_, rfl⟩, z, "\n", rfl, rfl, rfl, by omega, fun l hl => ?_⟩
    rw [ts]
    have s1 : Same H (upd H l (.lst ((rowsS t cs ++ [("" : Str)]).map V.str))) := Same.new hl
    have h1 : upd H l (.lst ((rowsS t cs ++ [("" : Str)]).map V.str)) l = some (.lst ((rowsS t cs ++ [("" : Str)]).map V.str)) := upd_same
    generalize upd H l (.lst ((rowsS t cs ++ [("" : Str)]).map V.str)) = H1 at *
    rw [List.map_append] at h1
    refine ⟨l, (rowsS t cs).map V.str, .str "", rfl, SqL.of h1, fun D hD => ?_⟩
    have s2 : Same H1 (upd H1 D (.lst ((rowsS t cs).map V.str))) := Same.new hD
    have h2 : upd H1 D (.lst ((rowsS t cs).map V.str)) D = some (.lst ((rowsS t cs).map V.str)) := upd_same
    generalize upd H1 D (.lst ((rowsS t cs).map V.str)) = H2 at *
    refine ⟨_, _, rfl, _, _, rfl, rfl, ?_⟩
    walk_at "rd"
    have hget : ∀ (i : Nat) (x : V), ((rowsS t cs).map V.str)[i]? = some x → ∃ y, x = .str y ∧ (((i : Int) = 0 ∧ ∃ t : Int, y = "truths " ++ numS t ∧ 1 ≤ t ∧ t ≤ 400) ∨ ((i : Int) ≠ 0 ∧ ∃ c, y = rowS c ∧ Fits 1000 c ∧ ∀ x ∈ c, 1 ≤ x.natAbs)) := by
      intro i x hx
      rw [List.getElem?_map] at hx
      cases ey : (rowsS t cs)[i]? with
      | none => rw [ey] at hx; cases hx
      | some y =>
      rw [ey] at hx
      cases hx
      refine ⟨y, rfl, ?_⟩
      unfold rowsS at ey
      cases i with
      | zero =>
        cases ey
        exact .inl ⟨rfl, t, rfl, t1, t4⟩
      | succ i =>
        rw [List.getElem?_cons_succ, List.getElem?_map] at ey
        cases ec : cs[i]? with
        | none => rw [ec] at ey; cases ey
        | some c =>
        rw [ec] at ey
        cases ey
        have hc := List.mem_of_getElem? ec
        exact .inr ⟨by omega, c, rfl, fit c hc, low c hc⟩
    refine ⟨_, rfl, D, (rowsS t cs).map V.str, rfl, SqL.of h2, for_enumL (K := K) (a := D) (fun _ σ H' => ∃ l3 l4 : Option V, σ = [some (.str z), some (.ref D), some (.str ""), l3, l4, none] ∧ Same H2 H') ⟨none, none, rfl, Same.refl _⟩ ?_ ?_ (fun i σ H' _ ⟨_, _, _, e⟩ => SqL.of (e _ _ h2))⟩
    · rintro i x T σ H' hi ⟨l3, l4, rfl, e1⟩ hT
      obtain ⟨y, rfl, hy⟩ := hget i x hi
      have e2 : Same H2 (upd H' T (.tup [.int (i : Nat), .str y])) := Same.trans e1 (Same.new hT)
      refine ⟨T, _, rfl, SqT.of upd_same, rfl, _, _, rfl, _, _, rfl, rfl, ?_⟩
      walk_at "rd"
      refine ⟨y, (i : Int), rfl, hy, fun H3 e3 => ?_⟩
      refine ⟨true, rfl, iteF ?_⟩
      exact ⟨_, _, rfl, Same.trans e2 e3⟩
    rintro σ H3 ⟨l3, l4, rfl, s3⟩
    have h3 := s3 _ _ h2
    walk_at "rd"
    refine ⟨rfl, false, by rw [decide_eq_true rfl]; rfl, iteF ?_⟩
    refine ⟨_, rfl, ?_⟩
    walk_at "rd"
    refine p_ix (SqL.of h3) (i := 0) (v := .str ("truths " ++ numS t)) (at_zero _ _) ?_
    obtain ⟨n, rfl⟩ := Int.eq_ofNat_of_zero_le (by omega : 0 ≤ t)
    have hn := num_len (x := (n : Int)) (by omega)
    have e7 : (("truths " : Str)).length = 7 := rfl
    refine ⟨⟨_, rfl⟩, "truths " ++ numS (n : Int), " ", rfl, rfl, rfl, by rw [strLen_append]; omega, fun l4 hl4 => ?_⟩
    rw [head_splits n (by omega)]
    have s4 : Same H3 (upd H3 l4 (.lst ([("truths" : Str), numS (n : Int)].map V.str))) := Same.new hl4
    have h4 : upd H3 l4 (.lst ([("truths" : Str), numS (n : Int)].map V.str)) l4 = some (.lst [V.str "truths", V.str (numS (n : Int))]) := upd_same
    have h34 := s4 _ _ h3
    generalize upd H3 l4 (.lst ([("truths" : Str), numS (n : Int)].map V.str)) = H4 at *
    refine p_ix (SqL.of h4) (i := 1) (v := .str (numS (n : Int))) rfl ?_
    refine ⟨_, (n : Int), rfl, (num_all (by omega)).1, by omega, ?_⟩
    simp only [e_make]
    walk_at "rd"
    have cn : cs.length ≤ 400 := ok.1
    refine ⟨_, rfl, 1, rfl, D, _, rfl, SqL.of h34, fun p hp => ?_⟩
    have ec : cutV ((rowsS (n : Int) cs).map V.str) (some 1) none = cs.map fun c => V.str (rowS c) := by
      unfold rowsS
      rw [List.map_cons, cut_tail, List.map_map]
      rfl
    rw [ec]
    have s5 : Same H4 (upd H4 p (.lst (cs.map fun c => V.str (rowS c)))) := Same.new hp
    have h5 : upd H4 p (.lst (cs.map fun c => V.str (rowS c))) p = some (.lst (cs.map fun c => V.str (rowS c))) := upd_same
    generalize upd H4 p (.lst (cs.map fun c => V.str (rowS c))) = H5 at *
    refine ⟨p, rfl, ⟨_, SqL.of h5⟩, fun D6 hD6 => lc_list (K := K) (a := p) (xs := cs.map fun c => V.str (rowS c)) (fun j Hj => Same H5 Hj ∧ ∃ bs : List Addr, Hj D6 = some (.lst (bs.map V.ref)) ∧ TupsAt Hj bs (cs.take j) ∧ bs.length = j)
      ⟨Same.new hD6, [], upd_same, .nil, rfl⟩ (fun j Hj _ ⟨e, _⟩ => SqL.of (e _ _ h5)) ?_ ?_⟩
    · rintro j x Hj hj ⟨ej, bs, hDj, Tj, lj⟩
      rw [List.getElem?_map] at hj
      cases ez : cs[j]? with
      | none => rw [ez] at hj; cases hj
      | some c =>
      rw [ez] at hj
      cases hj
      have hjl : j < cs.length := (List.getElem?_eq_some_iff.mp ez).1
      refine ⟨rfl, yesT ?_⟩
      refine ⟨_, rfl, c, rfl, fit c (List.mem_of_getElem? ez), fun a H' e' ha => ⟨bs.map V.ref, e' _ _ hDj, by rw [List.length_map]; exact small1000 (by omega), fun b o hb => ?_, bs ++ [a], by rw [upd_same, List.map_append]; rfl, ?_, by rw [List.length_append, lj]; rfl⟩⟩
      · rw [upd_ne (ne_of_none hb hD6)]
        exact e' _ _ (ej b o hb)
      · rw [List.take_add_one, ez]
        simp only [Option.toList_some]
        exact tups_up (e' _ _ hDj) (Paired.snoc (F := fun (b : Addr) (c : List Int) => H' b = some (.tup (c.map V.int))) ha (TupsAt.same e' Tj))
    rintro Hj ⟨ej, bs, hDj, Tj, lj⟩
    rw [List.length_map, List.take_length] at Tj
    refine p_make (C := C) (t := (n : Int)) (rows := cs) (xs := bs.map V.ref) t1 t4 (.inl (SqL.of hDj)) (TupsAt.rows Tj) ok fun x cp ds H' e' p' due => ?_
    exact q x cp ds H' (Same.trans s1 (Same.trans s2 (Same.trans s3 (Same.trans s4 (Same.trans s5 (Same.trans ej e')))))) p' due
end
end Toy

-- part: T12
namespace Toy
open PySem L2
open LamX (Tabs TabS ExtN CodeO TabB)
section
variable {P : Program} {w : World} {K : PySem.W.Frag} {mg : Str → Option Value} {base : Heap}
variable {C fN fL fT fC fU fB fI fE eT : Addr} {fdN fdL fdT fdC fdU fdB fdI fdE : FuncData}
abbrev sLaw : Stmt := topS 42
abbrev nLaw : List Str := ["script", "draw", "turn", "sort", "truths", "rows", "due", "problem", "others", "some", "found", "k", "row"]
theorem scLaw : FnScope nLaw ["script"] (defScope sLaw) := ⟨rfl, rfl, rfl, by decide +kernel, rfl, by decide +kernel, by decide +kernel⟩
def spLaw (K : PySem.W.Frag) (T : List (Addr × Str)) : Sp := fun vs H Q _ => ∃ (sc : Addr) (ns : List Int), vs = [.ref sc] ∧ SqL K H sc (ns.map V.int) ∧ ns.length ≤ 63 ∧ Tabs T H ∧ ∀ H', Q (.bl true) H'
theorem seq_gen {t1 rest : TS} {D : Ends} {σ : St} {H : Hp} (Good : St → Hp → Prop) (h1 : ∀ nx : St → Hp → Prop, (∀ σ' H', Good σ' H' → nx σ' H') → t1 { D with nx := nx } σ H) (h2 : ∀ σ' H', Good σ' H' → rest D σ' H') : tSeq t1 rest D σ H := h1 _ h2
theorem at_seven6 {r2 r : Int} (h0 : 0 ≤ r) (h1 : r < 7) (a0 : 0 ≤ r2) (a1 : r2 < 400) : ∃ t : Int, atI [V.int 1, V.int 3, V.int 9, V.int 10, V.int 99, V.int 400, V.int (1 + r2)] r = some (.int t) ∧ 1 ≤ t ∧ t ≤ 400 := by
  have : r = 0 ∨ r = 1 ∨ r = 2 ∨ r = 3 ∨ r = 4 ∨ r = 5 ∨ r = 6 := by omega
  rcases this with rfl | rfl | rfl | rfl | rfl | rfl | rfl
  · exact ⟨_, rfl, by omega, by omega⟩
  · exact ⟨_, rfl, by omega, by omega⟩
  · exact ⟨_, rfl, by omega, by omega⟩
  · exact ⟨_, rfl, by omega, by omega⟩
  · exact ⟨_, rfl, by omega, by omega⟩
  · exact ⟨_, rfl, by omega, by omega⟩
  · exact ⟨_, rfl, by omega, by omega⟩
def dPair (t : Int) (cs : List (List Int)) : PyData := .tuple [.int t, dCls cs]
theorem shaped_pair (t : Int) (cs : List (List Int)) : SeqAt.shaped (dPair t cs) = true := by
  have h := dep_cls cs
  unfold SeqAt.shaped dPair dCls
  rw [Bool.and_eq_true]
  refine ⟨by simp [PyData.canLay0, PyData.canLayAll0, can_cls], decide_eq_true ?_⟩
  simp only [PyData.depth, PyData.depthAll]
  omega
theorem eqv_pair (t : Int) (cs : List (List Int)) : PyData.eqv (dPair t cs) (dPair t cs) = true := by
  unfold dPair
  have h := eqv_cls cs cs
  rw [decide_eq_true rfl] at h
  simp [PyData.eqv, PyData.eqvAll, h]
theorem dec_eq : ∀ {l : List Int}, l.Pairwise (fun a b => b.natAbs < a.natAbs) → ∀ x ∈ l, ∀ y ∈ l, x.natAbs = y.natAbs → x = y
  | [], _, _, h, _, _, _ => nomatch h
  | a :: l, h, x, hx, y, hy, e => by
    have h1 := List.pairwise_cons.mp h
    rcases List.mem_cons.mp hx with rfl | hx
    · rcases List.mem_cons.mp hy with rfl | hy
      · rfl
      · have := h1.1 y hy
        omega
    · rcases List.mem_cons.mp hy with e2 | hy
      · have := h1.1 x hx
        rw [e2] at e
        omega
      · exact dec_eq h1.2 x hx y hy e
def tPick (K : PySem.W.Frag) : TE := tOp (rIxL K) (tLst (tCons (tVar 11) (tCons (tUn (rU fun i => .int (-i)) (tVar 11)) tNil))) (tCall (spNext K) [] E0 (tCons (tVar 1) (tCons (tC (V.int 2)) tNil)))
theorem ok_law {f c PT fM fX fR fD fV fPt fLt fRp : Addr} {fd fdM fdX fdR fdD fdV fdPt fdLt fdRp : FuncData} (F : Fun K "law" "law" sLaw f fd) (B : Bl mg) (G : Prog K mg C fN fL fT fC fU fB fI fE fdN fdL fdT fdC fdU fdB fdI fdE eT) (ic : C8.InsC K C) (TB : TabB base mg c PT)
    (M : Df K mg "_law_mixed" sMixed ["cell", "k"] fM fdM) (X : Df K mg "_law_next" sNext ["draw", "size"] fX fdX) (R : Df K mg "_law_row" sRow ["draw", "truths"] fR fdR)
    (D : FunT K "_law_due" "_law_due" sDue c fD fdD) (Dg : mg "_law_due" = some (.ref fD)) (Db : Binds K fdD ["rows"] [])
    (V_ : Df K mg "_law_mixed_up" sMix ["draw", "some"] fV fdV) (PTd : Df K mg "problem_text" sPT ["problem"] fPt fdPt) (LTd : Df K mg "_law_text" sLT ["truths", "rows"] fLt fdLt) (RPd : Df K mg "read_problem" sRP ["text"] fRp fdRp)
    (GP : FnOk P w K mg base CX0 3 fPt fdPt ["problem"] (spPT C)) (GT : FnOk P w K mg base CX0 2 fLt fdLt ["truths", "rows"] (spLT K)) (GR2 : FnOk P w K mg base CX0 7 fRp fdRp ["text"] (spRP C))
    (hsE : PySem.W.findIn K (.ref C) "__eq__" = some (some (.ref fE))) (hfE : PySem.W.isFn K (.ref fE) = true) (bE : Binds K fdE ["self", "other"] []) :
    FnG P w K mg base 8 f fd ["script"] (spLaw K [(PT, qLam)]) := by
  have GX : FnOk P w K mg base CX0 2 fX fdX ["draw", "size"] (spNext K) := ok_next X.F B M
  have GR : FnOk P w K mg base CX0 3 fR fdR ["draw", "truths"] (spRow K) := ok_row R.F B M X
  have GD : FnOk P w K mg base CX0 4 fD fdD ["rows"] (spDue K [(PT, qLam)]) := ok_due D B TB
  have GV : FnOk P w K mg base CX0 3 fV fdV ["draw", "some"] (spMix K) := ok_mix V_.F B M X
  have GI : FnOk P w K mg base CX0 5 fI fdI ["self", "many", "clauses"] (spInit K C) := ok_init G B
  have GE : FnOk P w K mg base CX0 1 fE fdE ["self", "other"] (spEq K C) := ok_eq G B ic
  refine FnG.of F scLaw (fun vs H Q E h => ?_) (fun cdv A outer s H vs Q E hgu hr h => ?_)
  · obtain ⟨sc, ns, rfl, _⟩ := h
    rfl
  · obtain ⟨sc, ns, rfl, hS, hn, hT, q⟩ := h
    have hu := hu_of hr
    refine ⟨_, pss_cons (ps_set (i := 1) scLaw.nd rfl (Or.inr rfl) (pe_lst (pa_cons (pv 0) (pa_cons pe_int pa_nil))))
      (pss_cons (ps_for PassesOwn.never rfl (pi_range1 rfl B.range (pa_cons (pe_callB (call_max2 rfl) (by rfl) B.max (by decide +kernel) (pa_cons pe_int (pa_cons (pe_callB (call_min2 rfl) (by rfl) B.min (by decide +kernel) (pa_cons pe_int (pa_cons (pe_callB call_len_seq (by rfl) B.len PySem.boot_len (pa_cons (pv 0) pa_nil)) pa_nil))) pa_nil))) pa_nil)) (pg_name (i := 2) scLaw.nd rfl (Or.inl rfl))
        (pss_cons (ps_set (i := 3) scLaw.nd rfl (Or.inl rfl) (pe_call GX (hr.mono (by decide)) rfl X.g X.F.kp X.b .nil pass0 (pa_cons (pv 1) (pa_cons pe_int pa_nil))))
        (pss_cons (ps_set (i := 4) scLaw.nd rfl (Or.inr rfl) (pe_ix ix_list (pe_lst (pa_cons pe_int (pa_cons pe_int (pa_cons pe_int (pa_cons pe_int (pa_cons pe_int (pa_cons pe_int (pa_cons (pe_op op_add pe_int (pe_call GX (hr.mono (by decide)) rfl X.g X.F.kp X.b .nil pass0 (pa_cons (pv 1) (pa_cons pe_int pa_nil)))) pa_nil)))))))) (pv 3) (fun _ _ => rfl)))
        (pss_cons (ps_setLc (i := 5) (own := [("k", 11)]) (g := gName 11) (tt := tYes) rfl scLaw.nd rfl rfl (sw_true rfl rfl rfl (by decide +kernel)) (pi_range1 rfl B.range (pa_cons (pe_call GX (hr.mono (by decide)) rfl X.g X.F.kp X.b .nil pass0 (pa_cons (pv 1) (pa_cons pe_int pa_nil))) pa_nil))
          (blkOk_by (own := [("k", 11)]) (N := nLaw) (sc := defScope sLaw) (by decide +kernel)) (fun _ _ _ _ _ => pg_name (i := 11) scLaw.nd rfl (Or.inl rfl)) (fun _ _ _ _ _ => pts_nil)
          (fun _ _ _ _ _ => pe_call GR (hr.mono (by decide)) rfl R.g R.F.kp R.b .nil pass0 (pa_cons (pv 1) (pa_cons (pv 4) pa_nil))))
        (pss_cons (ps_if (pt_cmpR op_eq (pe_call GX (hr.mono (by decide)) rfl X.g X.F.kp X.b .nil pass0 (pa_cons (pv 1) (pa_cons pe_int pa_nil))) pe_int (nomark _))
          (pss_one (ps_expr (pe_bm PySem.F.plainAttrs_list PySem.F.slot_list_append PySem.F.type_list_append mt_append (pv 5) (pa_cons
            (pe_lc (own := [("k", 11)]) (g := gName 11) (tt := tYes) (te := tPick K) rfl scLaw.nd (pi_range3 rfl B.range (pa_cons (pv 4) (pa_cons pe_int (pa_cons (pe_un un_neg pe_int) pa_nil))))
              (blkOk_by (own := [("k", 11)]) (N := nLaw) (sc := defScope sLaw) (by decide +kernel)) (fun _ _ _ _ _ => pg_name (i := 11) scLaw.nd rfl (Or.inl rfl)) (fun _ _ _ _ _ => pts_nil)
              (fun _ _ _ _ _ => pe_ix ix_list (pe_lst (pa_cons (pv 11) (pa_cons (pe_un un_neg (pv 11)) pa_nil))) (pe_call GX (hr.mono (by decide)) rfl X.g X.F.kp X.b .nil pass0 (pa_cons (pv 1) (pa_cons pe_int pa_nil))) (fun _ _ => rfl))) pa_nil)))) pss_nil)
        (pss_cons (ps_set (i := 6) scLaw.nd rfl (Or.inl rfl) (pe_call GD (hr.mono (by decide)) rfl Dg D.kp Db .nil pass0 (pa_cons (pv 5) pa_nil)))
        (pss_cons (ps_set (i := 7) scLaw.nd rfl (Or.inl rfl) (pe_make G.mak GI (hr.mono (by decide)) rfl G.gC G.bI .nil pass0 (pa_cons (pv 4) (pa_cons (pv 5) pa_nil))))
        (pss_cons (ps_if (pt_cmpR op_ne (pe_call GP (hr.mono (by decide)) rfl PTd.g PTd.F.kp PTd.b .nil pass0 (pa_cons (pv 7) pa_nil)) (pe_call GT (hr.mono (by decide)) rfl LTd.g LTd.F.kp LTd.b .nil pass0 (pa_cons (pv 4) (pa_cons (pv 6) pa_nil))) (nomark _)) (pss_one (ps_ret pe_bl)) pss_nil)
        (pss_cons (ps_set (i := 8) scLaw.nd rfl (Or.inl rfl) (pe_call GV (hr.mono (by decide)) rfl V_.g V_.F.kp V_.b .nil pass0 (pa_cons (pv 1) (pa_cons (pe_op op_cat (pv 5) (pe_slice sl_list (pv 5) (po_some pe_int) (po_some pe_int))) pa_nil))))
        (pss_one (ps_for PassesOwn.never rfl (pi_list (pe_lst (pa_cons (pv 6) (pa_cons (pv 5) (pa_cons (pe_lc (own := [("row", 12)]) (g := gName 12) (tt := tYes) (te := tRevL K (tVar 12)) rfl scLaw.nd (pi_list (pv 8))
            (blkOk_by (own := [("row", 12)]) (N := nLaw) (sc := defScope sLaw) (by decide +kernel)) (fun _ _ _ _ _ => pg_name (i := 12) scLaw.nd rfl (Or.inl rfl)) (fun _ _ _ _ _ => pts_nil)
            (fun _ _ _ _ _ => pe_revL (pv 12))) pa_nil))))) (pg_name (i := 9) scLaw.nd rfl (Or.inl rfl))
          (pss_cons (ps_set (i := 10) scLaw.nd rfl (Or.inl rfl) (pe_call GR2 (hr.mono (by decide)) rfl RPd.g RPd.F.kp RPd.b .nil pass0 (pa_cons (pe_call GT (hr.mono (by decide)) rfl LTd.g LTd.F.kp LTd.b .nil pass0 (pa_cons (pv 4) (pa_cons (pv 9) pa_nil))) pa_nil)))
          (pss_cons (ps_if (PW.pt (pw_or (pt_not (pt_cmpR (op_eqIns GE (hr.mono (by decide)) hsE hfE bE) (pv 10) (pv 7) (nomark _)))
            (pw_or1 (pt_cmpR (op_neD hr.units) (pe_tup (pa_cons (pe_fld (pv 10) rfl) (pa_cons (pe_fld (pv 10) rfl) pa_nil))) (pe_tup (pa_cons (pv 4) (pa_cons (pv 6) pa_nil))) (nomark _))))) (pss_one (ps_ret pe_bl)) pss_nil)
          (pss_one (ps_if (pt_cmpR op_ne (pe_call GP (hr.mono (by decide)) rfl PTd.g PTd.F.kp PTd.b .nil pass0 (pa_cons (pv 10) pa_nil)) (pe_call GT (hr.mono (by decide)) rfl LTd.g LTd.F.kp LTd.b .nil pass0 (pa_cons (pv 4) (pa_cons (pv 6) pa_nil))) (nomark _)) (pss_one (ps_ret pe_bl)) pss_nil)))))))))))))))
      (pss_one (ps_ret pe_bl))), ?_⟩
    show tSeq _ _ _ [some (.ref sc), none, none, none, none, none, none, none, none, none, none, none, none] H
    walk_at "rd"
    refine ⟨by show 2 ≤ sizeLine; decide, fun d hd => ?_⟩
    have D1 : DrA K sc ns (upd H d (.lst [.ref sc, .int 0])) d := ⟨0, upd_same, Same.seq (Same.new hd) hS, hn, Int.le_refl _⟩
    have T1 := Tabs.same (Same.new (o := .lst [.ref sc, .int 0]) hd) hT
    generalize upd H d (.lst [.ref sc, .int 0]) = H1 at *
    obtain ⟨n1, D1'⟩ := D1
    refine ⟨_, rfl, sc, _, rfl, .inl D1'.sq, _, _, rfl, _, _, rfl, _, rfl, ?_, ?_, ?_⟩
    · split <;> omega
    · have : sizeLine = 16777216 := rfl
      have q5 : (if ((ns.map V.int).length : Int) < 4 then ((ns.map V.int).length : Int) else 4) ≤ 4 := by split <;> omega
      split <;> omega
    refine for_range (fun i σ H' => ∃ (l2 l3 l4 l5 l6 l7 l8 l9 l10 : Option V), σ = [some (.ref sc), some (.ref d), l2, l3, l4, l5, l6, l7, l8, l9, l10, none, none] ∧ DrA K sc ns H' d ∧ Tabs [(PT, qLam)] H')
      ⟨_, _, _, _, _, _, _, _, _, rfl, ⟨n1, D1'⟩, T1⟩ ?_ ?_
    · rintro i σ H2 hi ⟨l2, l3, l4, l5, l6, l7, l8, l9, l10, rfl, D2, T2⟩
      show tSeq _ _ _ [some (.ref sc), some (.ref d), some (.int (0 + (i : Int))), l3, l4, l5, l6, l7, l8, l9, l10, none, none] H2
      refine seq_gen (fun σ' H' => ∃ r1, σ' = [some (.ref sc), some (.ref d), some (.int (0 + (i : Int))), some (.int r1), l4, l5, l6, l7, l8, l9, l10, none, none] ∧ 0 ≤ r1 ∧ r1 < 7 ∧ DrA K sc ns H' d ∧ Tabs [(PT, qLam)] H') (fun nx hnx => ?_) ?_
      · walk_at "rd"
        exact ⟨d, 7, sc, ns, rfl, by decide, D2, fun r1 H3 r10 r11 E3 D3 => hnx _ _ ⟨_, rfl, r10, r11, D3, Tabs.ex E3 (.inl (DrA.dr D2)) T2⟩⟩
      rintro σ H3 ⟨r1, rfl, r10, r11, D3, T3⟩
      refine seq_gen (fun σ' H' => ∃ t, σ' = [some (.ref sc), some (.ref d), some (.int (0 + (i : Int))), some (.int r1), some (.int t), l5, l6, l7, l8, l9, l10, none, none] ∧ 1 ≤ t ∧ t ≤ 400 ∧ DrA K sc ns H' d ∧ Tabs [(PT, qLam)] H') (fun nx hnx => ?_) ?_
      · walk_at "rd"
        refine ⟨d, 400, sc, ns, rfl, by decide, D3, fun r2 H4 r20 r21 E4 D4 => ?_⟩
        have T4 := Tabs.ex E4 (.inl (DrA.dr D3)) T3
        walk_at "rd"
        refine ⟨by show 7 ≤ sizeLine; decide, fun p hp => ?_⟩
        obtain ⟨t, hat, t1, t4⟩ := at_seven6 r10 r11 r20 r21
        refine p_ix (SqL.of upd_same) hat ?_
        walk_at "rd"
        exact hnx _ _ ⟨t, rfl, t1, t4, DrA.same (Same.new hp) D4, Tabs.same (Same.new hp) T4⟩
      rintro σ H5 ⟨t, rfl, t1, t4, D5, T5⟩
      refine seq_gen (fun σ' H' => ∃ (rl : Addr) (ps : List Addr) (rows : List (List Int)), σ' = [some (.ref sc), some (.ref d), some (.int (0 + (i : Int))), some (.int r1), some (.int t), some (.ref rl), l6, l7, l8, l9, l10, none, none] ∧ DrA K sc ns H' d ∧ Tabs [(PT, qLam)] H' ∧ rl ≠ d ∧ H' rl = some (.lst (ps.map V.ref)) ∧ LstsAt d H' ps rows ∧ (∀ q ∈ ps, q ≠ rl) ∧ ps.length ≤ 12 ∧ RowsOk t rows ∧ ∃ H0, DrA K sc ns H0 d ∧ H0 rl = none ∧ Kp d H0 H') (fun nx hnx => ?_) ?_
      · walk_at "rd"
        refine ⟨_, rfl, d, 13, sc, ns, rfl, by decide, D5, fun r3 H6 r30 r31 E6 D6 => ⟨r3, rfl, by omega, by omega, fun rl hrl => ?_⟩⟩
        have T6 := Tabs.ex E6 (.inl (DrA.dr D5)) T5
        have nrl := D6.nd hrl
        refine lc_range (lo := 0) (n := r3.toNat) (fun j Hj => Ex d H6 Hj ∧ DrA K sc ns Hj d ∧ Tabs [(PT, qLam)] Hj ∧ ∃ (ps : List Addr) (rows : List (List Int)), Hj rl = some (.lst (ps.map V.ref)) ∧ LstsAt d Hj ps rows ∧ (∀ q ∈ ps, q ≠ rl) ∧ ps.length = j ∧ rows.length = j ∧ ∀ row ∈ rows, RowOk t row ∧ row.length ≤ 6)
          ⟨Ex.new hrl, DrA.same (Same.new hrl) D6, Tabs.same (Same.new hrl) T6, [], [], upd_same, .nil, (fun q h => nomatch h), rfl, rfl, (fun q h => nomatch h)⟩ ?_ ?_
        · rintro j Hj hj ⟨Ej, Dj, Tj, ps, rows, hlj, aj, nj, plj, rlj, okj⟩
          refine ⟨rfl, yesT ?_⟩
          show tCall _ _ _ _ [some (.ref sc), some (.ref d), some (.int (0 + (i : Int))), some (.int r1), some (.int t), l5, l6, l7, l8, l9, l10, some (.int (0 + (j : Int))), none] _ _
          walk_at "rd"
          refine ⟨d, t, sc, ns, rfl, t1, t4, Dj, fun q row H' ro r6 E' D' hq hnq => ⟨ps.map V.ref, E' _ _ hlj nrl, by rw [List.length_map]; exact small1000 (by omega), ?_⟩⟩
          have nql : q ≠ rl := fun e => by rw [e, hlj] at hnq; cases hnq
          have nqd := Dj.nd hnq
          have hl' := E' _ _ hlj nrl
          refine ⟨Ex.up (Ex.trans Ej E') hrl, DrA.upK D6 D' (Kp.ex (Ex.trans Ej E')) hrl, Tabs.ex Ex.at (.inl ⟨_, hl'⟩) (Tabs.ex E' (.inl (DrA.dr Dj)) Tj), ps ++ [q], rows ++ [row], by rw [upd_same, List.map_append]; rfl, ?_, ?_, by rw [List.length_append, plj]; rfl, by rw [List.length_append, rlj]; rfl, ?_⟩
          · exact LstsAt.up (Paired.snoc ⟨hq, nqd⟩ (LstsAt.kp (Kp.ex E') aj)) (fun y hy => by
              rcases List.mem_append.mp hy with hy | hy
              · exact nj y hy
              · rw [List.mem_singleton.mp hy]; exact nql)
          · intro y hy
            rcases List.mem_append.mp hy with hy | hy
            · exact nj y hy
            · rw [List.mem_singleton.mp hy]; exact nql
          · intro y hy
            rcases List.mem_append.mp hy with hy | hy
            · exact okj y hy
            · rw [List.mem_singleton.mp hy]; exact ⟨ro, r6⟩
        rintro H7 ⟨E67, D7, T7, ps, rows, hrl7, at7, nps, plen, rlen, rok⟩
        exact hnx _ _ ⟨rl, ps, rows, rfl, D7, T7, nrl, hrl7, at7, nps, by omega, ⟨by omega, fun row hr => ⟨(rok row hr).1, Nat.le_trans (rok row hr).2 (by decide)⟩⟩, H6, D6, hrl, Kp.ex E67⟩
      rintro σ H7 ⟨rl, ps, rows, rfl, D7, T7, nrl, hrl7, at7, nps, plen, ok, H0, D0, f0, k07⟩
      refine seq_gen (fun σ' H' => ∃ (ps : List Addr) (rows : List (List Int)), σ' = [some (.ref sc), some (.ref d), some (.int (0 + (i : Int))), some (.int r1), some (.int t), some (.ref rl), l6, l7, l8, l9, l10, none, none] ∧ DrA K sc ns H' d ∧ Tabs [(PT, qLam)] H' ∧ H' rl = some (.lst (ps.map V.ref)) ∧ LstsAt d H' ps rows ∧ ps.length ≤ 13 ∧ RowsOk t rows) (fun nx hnx => ?_) ?_
      · walk_at "rd"
        refine ⟨d, 6, sc, ns, rfl, by decide, D7, fun r5 Ha r50 r51 Ea Da => ?_⟩
        have Ta := Tabs.ex Ea (.inl (DrA.dr D7)) T7
        have hrla := Ea _ _ hrl7 nrl
        have ata := at7.kp (Kp.ex Ea)
        refine ⟨rfl, _, rfl, ite2 (fun _ => ?_) (fun _ => hnx _ _ ⟨ps, rows, rfl, Da, Ta, hrla, ata, by omega, ok⟩)⟩
        refine ⟨.inl ⟨rfl, _, SqL.of hrla⟩, ?_⟩
        refine ⟨_, rfl, 1, rfl, t, 0, -1, (t - 0).toNat, rfl, RgC.neg (by omega) (by omega) (by omega) (by omega), fun el hel => ?_⟩
        have nel := Da.nd hel
        have nelr : el ≠ rl := fun e => by rw [e, hrla] at hel; cases hel
        refine lc_it (walk_rangeC (lo := t) (c := -1) (n := (t - 0).toNat)) (fun j Hj => Ex d Ha Hj ∧ DrA K sc ns Hj d ∧ Tabs [(PT, qLam)] Hj ∧ ∃ row : List Int, Hj el = some (.lst (row.map V.int)) ∧ row.length = j ∧ row.Pairwise (fun a b => b.natAbs < a.natAbs) ∧ ∀ x ∈ row, t - j < x.natAbs ∧ (x.natAbs : Int) ≤ t)
          ⟨Ex.new hel, DrA.same (Same.new hel) Da, Tabs.same (Same.new hel) Ta, [], upd_same, rfl, .nil, (fun x h => nomatch h)⟩ (fun _ _ _ _ => trivial) ?_ ?_
        · rintro j x Hj H' hj ⟨Ej, Dj, Tj, row, hlj, lj, pw, bd⟩ ⟨rfl, rfl⟩
          refine ⟨rfl, yesT ?_⟩
          show tPick K [some (.ref sc), some (.ref d), some (.int (0 + (i : Int))), some (.int r1), some (.int t), some (.ref rl), l6, l7, l8, l9, l10, some (.int (t + (j : Int) * (-1))), none] H' _
          unfold tPick
          walk_at "rd"
          refine ⟨by show 2 ≤ sizeLine; decide, fun p hp => ?_⟩
          have sp1 : Same H' (upd H' p (.lst [V.int (t + (j : Int) * -1), V.int (-(t + (j : Int) * -1))])) := Same.new hp
          have hp1 : upd H' p (.lst [V.int (t + (j : Int) * -1), V.int (-(t + (j : Int) * -1))]) p = some (.lst [V.int (t + (j : Int) * -1), V.int (-(t + (j : Int) * -1))]) := upd_same
          have npd := Dj.nd hp
          generalize upd H' p (.lst [V.int (t + (j : Int) * -1), V.int (-(t + (j : Int) * -1))]) = Hk at *
          refine ⟨d, 2, sc, ns, rfl, by decide, DrA.same sp1 Dj, fun r Hm r0 r1' Em Dm => ?_⟩
          have pick : ∃ y : Int, atI [V.int (t + (j : Int) * -1), V.int (-(t + (j : Int) * -1))] r = some (.int y) ∧ (y.natAbs : Int) = t - j := by
            rcases at_two (a := V.int (t + (j : Int) * -1)) (b := V.int (-(t + (j : Int) * -1))) r0 r1' with ⟨_, e⟩ | ⟨_, e⟩
            · exact ⟨_, e, by omega⟩
            · exact ⟨_, e, by omega⟩
          obtain ⟨y, haty, hy⟩ := pick
          refine p_ix (SqL.of (Em _ _ hp1 npd)) haty ?_
          have Ejm : Ex d H' Hm := Ex.trans (Ex.same sp1) Em
          have hlm := Ejm _ _ hlj nel
          refine ⟨row.map V.int, hlm, by rw [List.length_map]; exact small1000 (by omega), Ex.up (Ex.trans Ej Ejm) hel, DrA.upK Da Dm (Kp.ex (Ex.trans Ej Ejm)) hel, Tabs.ex Ex.at (.inl ⟨_, hlm⟩) (Tabs.ex Em (.inl (DrA.dr Dj |>.imp fun _ h => sp1 _ _ h)) (Tabs.same sp1 Tj)), row ++ [y], by rw [upd_same, List.map_append]; rfl, by rw [List.length_append, lj]; rfl, ?_, ?_⟩
          · rw [List.pairwise_append]
            refine ⟨pw, List.pairwise_singleton _ _, fun a ha b hb => ?_⟩
            rw [List.mem_singleton.mp hb]
            have := (bd a ha).1
            omega
          · intro x hx
            rcases List.mem_append.mp hx with hx | hx
            · have := bd x hx
              exact ⟨by omega, this.2⟩
            · rw [List.mem_singleton.mp hx]
              exact ⟨by omega, by omega⟩
        rintro Hb ⟨Eb, Db2, Tb, row, hlb, lb, pw, bd⟩
        have ro : RowOk t row := ⟨fun x hx => by have := (bd x hx).1; omega, fun x hx => (bd x hx).2, fun x hx hn => by
          have e := dec_eq pw x hx (-x) hn (by omega)
          have := (bd x hx).1
          omega⟩
        have hrlb := Eb _ _ hrla nrl
        refine p_app hrlb (by rw [List.length_map]; exact small1000 (by omega)) ?_
        have kb : Kp d H7 Hb := Kp.trans (Kp.ex Ea) (Kp.ex Eb)
        refine hnx _ _ ⟨ps ++ [el], rows ++ [row], rfl, ?_, Tabs.ex Ex.at (.inl ⟨_, hrlb⟩) Tb, by rw [upd_same, List.map_append]; rfl, ?_, by rw [List.length_append]; show ps.length + 1 ≤ 13; omega, ?_⟩
        · exact DrA.upK D0 Db2 (Kp.trans k07 kb) f0
        · exact LstsAt.up (Paired.snoc (F := fun (q : Addr) (row : List Int) => Hb q = some (.lst (row.map V.int)) ∧ q ≠ d) ⟨hlb, nel⟩ (ata.kp (Kp.ex Eb))) fun q hq => by
            rcases List.mem_append.mp hq with hq | hq
            · exact nps q hq
            · rw [List.mem_singleton.mp hq]; exact nelr
        · have pl : rows.length ≤ 12 := by
            have := Paired.length at7
            omega
          refine ⟨by rw [List.length_append]; show rows.length + 1 ≤ 400; omega, fun r hr => ?_⟩
          rcases List.mem_append.mp hr with hr | hr
          · exact ok.2 r hr
          · rw [List.mem_singleton.mp hr]
            exact ⟨ro, by omega⟩
      rintro σ H8 ⟨ps, rows, rfl, D8, T8, hrl8, at8, plen, ok⟩
      have rlen : rows.length ≤ 13 := by
        have := Paired.length at8
        omega
      refine seq_gen (fun σ' H' => ∃ (da : Addr) (bs : List Addr) (cs : List (List Int)), σ' = [some (.ref sc), some (.ref d), some (.int (0 + (i : Int))), some (.int r1), some (.int t), some (.ref rl), some (.ref da), l7, l8, l9, l10, none, none] ∧ DrA K sc ns H' d ∧ Tabs [(PT, qLam)] H' ∧ H' rl = some (.lst (ps.map V.ref)) ∧ LstsAt d H' ps rows ∧ H' da = some (.tup (bs.map V.ref)) ∧ TupsAt H' bs cs ∧ IsDue rows cs ∧ cs.length ≤ rows.length) (fun nx hnx => ?_) ?_
      · walk_at "rd"
        refine ⟨rl, ps, rows, t, rfl, SqL.of hrl8, at8.lists, ok, T8, fun da bs cs H9 due dl X9 T9 hda9 TA9 => ?_⟩
        exact hnx _ _ ⟨da, bs, cs, rfl, DrA.extN X9 D8, T9, (Kp.extN X9).l (d := d) hrl8 nrl, at8.kp (Kp.extN X9), hda9, TA9, due, dl⟩
      rintro σ H9 ⟨da, bs, cs, rfl, D9, T9, hrl9, at9, hda9, TA9, due, dl⟩
      clear D8 T8 hrl8 at8
      refine seq_gen (fun σ' H' => ∃ (x cp : Addr), σ' = [some (.ref sc), some (.ref d), some (.int (0 + (i : Int))), some (.int r1), some (.int t), some (.ref rl), some (.ref da), some (.ref x), l8, l9, l10, none, none] ∧ Same H9 H' ∧ Prb C H' x t cp cs) (fun nx hnx => ?_) ?_
      · show tMake _ _ _ _ _ _ _ _
        simp only [e_make]
        walk_at "rd"
        refine p_make (C := C) (t := t) (rows := rows) (xs := ps.map V.ref) t1 t4 (.inl (SqL.of hrl9)) at9.lists.rows ok fun x cp cs2 H' s' p' due2 => ?_
        have e2 : cs2 = cs := IsDue.ext due2 due fun _ => Iff.rfl
        subst e2
        exact hnx _ _ ⟨x, cp, rfl, s', p'⟩
      rintro σ Ha ⟨x, cp, rfl, sa, pa⟩
      have fit : ∀ c ∈ cs, Fits 1000 c := fun c hc => by
        obtain ⟨row, hr, hi⟩ := (due.mem c).mp hc
        have := cl_row t4 (ok.2 row hr).1 hi
        exact ⟨by omega, fun x hx => by have := this.1.top x hx; omega⟩
      have cl4 : cs.length ≤ 400 := by omega
      have okc := due_rows (ds := cs) t4 ok due dl (List.Sublist.refl _)
      refine seq_gen (fun σ' H' => σ' = [some (.ref sc), some (.ref d), some (.int (0 + (i : Int))), some (.int r1), some (.int t), some (.ref rl), some (.ref da), some (.ref x), l8, l9, l10, none, none] ∧ Same Ha H') (fun nx hnx => ?_) ?_
      · walk_at "rd"
        refine ⟨x, t, cp, cs, rfl, pa, t1, t4, cl4, fit, fun Hb sb => ?_⟩
        refine ⟨t, da, bs.map V.ref, cs, rfl, .inr (SqT.of (sb _ _ (sa _ _ hda9))), TupsAt.rows (TupsAt.same (Same.trans sa sb) TA9), t1, t4, cl4, fit, fun Hc sc' => ?_⟩
        refine ⟨rfl, false, by rw [decide_eq_true rfl]; rfl, iteF ?_⟩
        exact hnx _ _ ⟨rfl, Same.trans sb sc'⟩
      rintro σ Hb ⟨rfl, sb⟩
      have s9b := Same.trans sa sb
      have Db := DrA.same s9b D9
      have Tb := Tabs.same s9b T9
      have hrlb := s9b _ _ hrl9
      have atb := at9.kp (Kp.same s9b)
      have hdab := s9b _ _ hda9
      have TAb := TupsAt.same s9b TA9
      have pb := Prb.same sb pa
      clear sa pa sb s9b D9 T9 hrl9 at9 hda9 TA9
      refine seq_gen (fun σ' H' => ∃ (ol : Addr) (qs : List Addr) (rows2 : List (List Int)), σ' = [some (.ref sc), some (.ref d), some (.int (0 + (i : Int))), some (.int r1), some (.int t), some (.ref rl), some (.ref da), some (.ref x), some (.ref ol), l9, l10, none, none] ∧ DrA K sc ns H' d ∧ Tabs [(PT, qLam)] H' ∧ Kp d Hb H' ∧ H' ol = some (.lst (qs.map V.ref)) ∧ LstsAt d H' qs rows2 ∧ (∀ r ∈ rows2, r ∈ rows) ∧ (∀ r ∈ rows, r ∈ rows2) ∧ qs.length ≤ 26) (fun nx hnx => ?_) ?_
      · walk_at "rd"
        refine ⟨_, rfl, 1, rfl, 3, rfl, rl, _, rfl, SqL.of hrlb, fun p2 hp2 => ⟨rl, p2, _, _, rfl, rfl, Same.new hp2 _ _ hrlb, upd_same, ?_, fun p3 hp3 => ?_⟩⟩
        · have := cutV_length (ps.map V.ref) (some 1) (some 3)
          rw [List.length_map] at this ⊢
          exact Nat.le_of_lt (small1000 (by omega))
        have s15 : Same Hb (upd (upd Hb p2 (.lst (cutV (ps.map V.ref) (some 1) (some 3)))) p3 (.lst (ps.map V.ref ++ cutV (ps.map V.ref) (some 1) (some 3)))) := Same.trans (Same.new hp2) (Same.new hp3)
        have h15 : upd (upd Hb p2 (.lst (cutV (ps.map V.ref) (some 1) (some 3)))) p3 (.lst (ps.map V.ref ++ cutV (ps.map V.ref) (some 1) (some 3))) p3 = some (.lst (ps.map V.ref ++ cutV (ps.map V.ref) (some 1) (some 3))) := upd_same
        have n15 : Hb p3 = none := none_up hp3
        have np3 := Db.nd n15
        generalize upd (upd Hb p2 (.lst (cutV (ps.map V.ref) (some 1) (some 3)))) p3 (.lst (ps.map V.ref ++ cutV (ps.map V.ref) (some 1) (some 3))) = H15 at *
        have D15 := DrA.same s15 Db
        have lcut : (ps.map V.ref ++ cutV (ps.map V.ref) (some 1) (some 3)).length ≤ 26 := by
          have := cutV_length (ps.map V.ref) (some 1) (some 3)
          rw [List.length_map] at this
          rw [List.length_append, List.length_map]
          omega
        refine ⟨d, p3, _, sc, ns, rfl, SqL.of h15, by omega, np3, D15, fun ol ys H16 pm E16 D16 hol16 hnew => ?_⟩
        have T16 := Tabs.ex E16 (.inl (DrA.dr D15)) (Tabs.same s15 Tb)
        have k16 : Kp d Hb H16 := Kp.trans (Kp.same s15) (Kp.ex E16)
        have at16 := atb.kp k16
        have ymem : ∀ y, y ∈ ys ↔ y ∈ ps.map V.ref := fun y => (pm.mem_iff).trans ⟨fun h => (List.mem_append.mp h).elim id mem_cut, fun h => List.mem_append_left _ h⟩
        obtain ⟨qs, rfl⟩ := refs_of ys fun y hy => by
          obtain ⟨q, _, e⟩ := List.mem_map.mp ((ymem y).mp hy)
          exact ⟨q, e.symm⟩
        have qmem : ∀ q, q ∈ qs ↔ q ∈ ps := fun q => by
          have h := ymem (.ref q)
          rw [List.mem_map, List.mem_map] at h
          exact ⟨fun hq => by
            obtain ⟨a, ha, e⟩ := h.mp ⟨q, hq, rfl⟩
            cases e
            exact ha, fun hq => by
            obtain ⟨a, ha, e⟩ := h.mpr ⟨q, hq, rfl⟩
            cases e
            exact ha⟩
        have qlen : qs.length ≤ 26 := by
          have := pm.length_eq
          rw [List.length_map] at this
          omega
        obtain ⟨rows2, at2, sub2⟩ := at16.pick qs fun q hq => (qmem q).mp hq
        refine hnx _ _ ⟨ol, qs, rows2, rfl, D16, T16, k16, hol16, at2, sub2, fun r hr => ?_, qlen⟩
        obtain ⟨q, hq, h1⟩ := at16.mem2 r hr
        obtain ⟨r', hr', h2, _⟩ := at2.mem q ((qmem q).mpr hq)
        rw [h1] at h2
        have e := (List.map_inj_right (fun a b h => V.int.inj h)).mp (HO.lst.inj (Option.some.inj h2))
        exact e ▸ hr'
      rintro σ Hc ⟨ol, qs, rows2, rfl, Dc, Tc, kbc, holc, at2, sub2, sup2, qlen⟩
      have hrlc := kbc.l hrlb nrl
      have atc := atb.kp kbc
      have hdac := kbc.t (DrA.dr Db).choose_spec hdab
      have TAc := TupsAt.kp kbc (DrA.dr Db).choose_spec TAb
      have pc := Prb.kp kbc (DrA.dr Db).choose_spec pb
      clear kbc Db Tb hrlb atb hdab TAb pb
      have r2len : qs.length = rows2.length := Paired.length at2
      have rmem : ∀ c, (∃ row ∈ rows2.map List.reverse, IsCl row c) ↔ ∃ row ∈ rows, IsCl row c := fun c => by
        constructor
        · rintro ⟨row, hr, hi⟩
          obtain ⟨r2, hr2, rfl⟩ := List.mem_map.mp hr
          exact ⟨r2, sub2 r2 hr2, cl_rev.mp hi⟩
        · rintro ⟨row, hr, hi⟩
          exact ⟨_, List.mem_map.mpr ⟨row, sup2 row hr, rfl⟩, cl_rev.mpr hi⟩
      have ok3 : RowsOk t (rows2.map List.reverse) := ⟨by rw [List.length_map]; omega, fun row hr => by
        obtain ⟨r2, hr2, rfl⟩ := List.mem_map.mp hr
        have h := ok.2 r2 (sub2 r2 hr2)
        exact ⟨⟨fun y hy => h.1.low y (List.mem_reverse.mp hy), fun y hy => h.1.top y (List.mem_reverse.mp hy), fun y hy hn => h.1.one y (List.mem_reverse.mp hy) (List.mem_reverse.mp hn)⟩, by rw [List.length_reverse]; exact h.2⟩⟩
      refine ⟨_, rfl, _, rfl, _, rfl, ol, rfl, ⟨_, SqL.of holc⟩, fun nl hnl => ?_⟩
      refine lc_list (K := K) (a := ol) (xs := qs.map V.ref) (fun j Hj => Same Hc Hj ∧ ∃ os : List Addr, Hj nl = some (.lst (os.map V.ref)) ∧ LstsAt d Hj os ((rows2.take j).map List.reverse) ∧ (∀ o ∈ os, o ≠ nl) ∧ os.length = j)
        ⟨Same.new hnl, [], upd_same, .nil, (fun o h => nomatch h), rfl⟩ (fun j Hj _ ⟨e, _⟩ => SqL.of (e _ _ holc)) ?_ ?_
      · rintro j y Hj hj ⟨ej, os, hnj, atj, noj, olj⟩
        rw [List.getElem?_map] at hj
        cases ez : qs[j]? with
        | none => rw [ez] at hj; cases hj
        | some q =>
        rw [ez] at hj
        cases hj
        obtain ⟨row, hrow, hq, nqd⟩ := at2.get ez
        have hjq : j < qs.length := (List.getElem?_eq_some_iff.mp ez).1
        refine ⟨rfl, yesT ?_⟩
        refine ⟨_, rfl, q, row.map V.int, rfl, SqL.of (ej _ _ hq), fun b hb => ⟨os.map V.ref, Same.new hb _ _ hnj, by rw [List.length_map]; exact small1000 (by omega), fun c o hc => ?_, os ++ [b], by rw [upd_same, List.map_append]; rfl, ?_, ?_, by rw [List.length_append, olj]; rfl⟩⟩
        · rw [upd_ne (ne_of_none hc hnl)]
          exact Same.new hb _ _ (ej c o hc)
        · have nbn : b ≠ nl := fun e => by rw [e, hnj] at hb; cases hb
          rw [List.take_add_one, hrow]
          simp only [Option.toList_some, List.map_append, List.map_cons, List.map_nil]
          refine LstsAt.up (Paired.snoc ⟨by rw [upd_same, List.map_reverse], (DrA.same ej Dc).nd hb⟩ (LstsAt.kp (Kp.same (Same.new hb)) atj)) fun o ho => ?_
          rcases List.mem_append.mp ho with ho | ho
          · exact noj o ho
          · rw [List.mem_singleton.mp ho]; exact nbn
        · intro o ho
          rcases List.mem_append.mp ho with ho | ho
          · exact noj o ho
          · rw [List.mem_singleton.mp ho]
            exact fun e => by rw [e, hnj] at hb; cases hb
      rintro Hd ⟨sd, os, hnld, atd, _, _⟩
      have tk : (rows2.take (qs.map V.ref).length).map List.reverse = rows2.map List.reverse := by rw [List.length_map, r2len, List.take_length]
      rw [tk] at atd
      refine ⟨by show 3 ≤ sizeLine; decide, fun fl hfl => ⟨fl, rfl, ⟨_, SqL.of upd_same⟩, ?_⟩⟩
      have se : Same Hc (upd Hd fl (.lst [V.ref da, V.ref rl, V.ref nl])) := Same.trans sd (Same.new hfl)
      have hfle : upd Hd fl (.lst [V.ref da, V.ref rl, V.ref nl]) fl = some (.lst [V.ref da, V.ref rl, V.ref nl]) := upd_same
      have hnle := Same.new (o := .lst [V.ref da, V.ref rl, V.ref nl]) hfl _ _ hnld
      have ate := LstsAt.kp (Kp.same (Same.new (o := .lst [V.ref da, V.ref rl, V.ref nl]) hfl)) atd
      generalize upd Hd fl (.lst [V.ref da, V.ref rl, V.ref nl]) = He at *
      have each : ∀ y ∈ [V.ref da, V.ref rl, V.ref nl], ∃ (p : Addr) (ys : List V) (rs : List (List Int)), y = .ref p ∧ SqA K He p ys ∧ RowsAt K He ys rs ∧ RowsOk t rs ∧ IsDue rs cs := by
        intro y hy
        simp only [List.mem_cons, List.not_mem_nil, or_false] at hy
        rcases hy with rfl | rfl | rfl
        · exact ⟨da, bs.map V.ref, cs, rfl, .inr (SqT.of (se _ _ hdac)), TupsAt.rows (TupsAt.same se TAc), okc.1, okc.2⟩
        · exact ⟨rl, ps.map V.ref, rows, rfl, .inl (SqL.of (se _ _ hrlc)), (atc.kp (Kp.same se)).lists.rows, ok, due⟩
        · exact ⟨nl, os.map V.ref, rows2.map List.reverse, rfl, .inl (SqL.of hnle), ate.lists.rows, ok3, due.inc, fun c => (due.mem c).trans (rmem c).symm⟩
      have pe := Prb.same se pc
      have hdae := se _ _ hdac
      have TAe := TupsAt.same se TAc
      have Dee := DrA.same se Dc
      have Te := Tabs.same se Tc
      clear hnld atd sd hnle ate se hdac TAc pc Dc Tc atc hrlc holc at2 D2 T2 D3 T3 D5 T5 D7 T7 hrl7 at7 nps D0 f0 k07
      refine for_list (K := K) (a := fl) (xs := [V.ref da, V.ref rl, V.ref nl]) (fun _ σ H' => ∃ (l9 l10 : Option V), σ = [some (.ref sc), some (.ref d), some (.int (0 + (i : Int))), some (.int r1), some (.int t), some (.ref rl), some (.ref da), some (.ref x), some (.ref ol), l9, l10, none, none] ∧ Same He H') ⟨_, _, rfl, Same.refl _⟩ (fun m σ H' _ ⟨_, _, _, e⟩ => SqL.of (e _ _ hfle)) ?_ ?_
      · rintro m y σ Hm hm ⟨l9, l10, rfl, em⟩
        obtain ⟨p, ys, rs, rfl, hSm, hRm, okm, duem⟩ := each y (List.mem_of_getElem? hm)
        show tSeq _ _ _ [some (.ref sc), some (.ref d), some (.int (0 + (i : Int))), some (.int r1), some (.int t), some (.ref rl), some (.ref da), some (.ref x), some (.ref ol), some (.ref p), l10, none, none] Hm
        refine seq_gen (fun σ' H' => ∃ (x3 cp3 : Addr), σ' = [some (.ref sc), some (.ref d), some (.int (0 + (i : Int))), some (.int r1), some (.int t), some (.ref rl), some (.ref da), some (.ref x), some (.ref ol), some (.ref p), some (.ref x3), none, none] ∧ Same Hm H' ∧ Prb C H' x3 t cp3 cs) (fun nx hnx => ?_) ?_
        · walk_at "rd"
          refine ⟨t, p, ys, rs, rfl, SqA.same em hSm, RowsAt.same em hRm, t1, t4, okm.1, fun c hc => ⟨(okm.2 c hc).2, fun x hx => by have := (okm.2 c hc).1.top x hx; omega⟩, fun Hn sn => ?_⟩
          refine ⟨t, rs, rfl, t1, t4, okm, fun x3 cp3 ds Ho so p3 due3 => ?_⟩
          have e3 : ds = cs := IsDue.ext due3 duem fun _ => Iff.rfl
          subst e3
          exact hnx _ _ ⟨x3, cp3, rfl, Same.trans sn so, p3⟩
        rintro σ Hn ⟨x3, cp3, rfl, sn, p3⟩
        have sen := Same.trans em sn
        refine seq_gen (fun σ' H' => σ' = [some (.ref sc), some (.ref d), some (.int (0 + (i : Int))), some (.int r1), some (.int t), some (.ref rl), some (.ref da), some (.ref x), some (.ref ol), some (.ref p), some (.ref x3), none, none] ∧ Same Hn H') (fun nx hnx => ?_) ?_
        · walk_at "rd"
          have pm := Prb.same sen pe
          obtain ⟨dx3, hx3⟩ := p3.ob
          obtain ⟨dx, hx⟩ := pm.ob
          refine ⟨x3, dx3, _, rfl, hx3, .ins hx, x3, .ref x, t, cp3, _, rfl, p3, .inr ⟨x, t, cp, _, rfl, pm, _, rfl, ?_⟩⟩
          rw [decide_eq_true rfl, decide_eq_true rfl]
          refine ⟨true, rfl, iteF ?_⟩
          refine ⟨_, rfl, x3, C, dx3, _, _, rfl, hx3, G.cl, G.nM, flds_many t cp3, _, rfl, x3, C, dx3, _, _, rfl, hx3, G.cl, G.nC, flds_clauses t cp3, ?_⟩
          refine ⟨by show 2 ≤ sizeLine; decide, fun p1 hp1 => ⟨by show 2 ≤ sizeLine; decide, fun p2 hp2 => ?_⟩⟩
          have s1 : Same Hn (upd Hn p1 (.tup [V.int t, V.ref cp3])) := Same.new hp1
          have s2 : Same (upd Hn p1 (.tup [V.int t, V.ref cp3])) (upd (upd Hn p1 (.tup [V.int t, V.ref cp3])) p2 (.tup [V.int t, V.ref da])) := Same.new hp2
          have s12 := Same.trans s1 s2
          refine p_neD (d := dPair t cs) (e := dPair t cs) (.tup (SqT.of (s2 _ _ upd_same)) (.cons (.int t) (.cons (dp_prb (Prb.same s12 p3)) .nil)))
            (.tup (SqT.of upd_same) (.cons (.int t) (.cons (.tup (SqT.of (s12 _ _ (sen _ _ hdae))) (dpAll_cls (TupsAt.same (Same.trans sen s12) TAe))) .nil))) (shaped_pair t cs) (shaped_pair t cs) ?_
          rw [eqv_pair]
          refine ⟨false, rfl, iteF ?_⟩
          exact hnx _ _ ⟨rfl, s12⟩
        rintro σ Ho ⟨rfl, so⟩
        have seo := Same.trans sen so
        have p3o := Prb.same so p3
        walk_at "rd"
        refine ⟨x3, t, cp3, cs, rfl, p3o, t1, t4, cl4, fit, fun Hp sp' => ?_⟩
        refine ⟨t, da, bs.map V.ref, cs, rfl, .inr (SqT.of (sp' _ _ (seo _ _ hdae))), TupsAt.rows (TupsAt.same (Same.trans seo sp') TAe), t1, t4, cl4, fit, fun Hq sq => ?_⟩
        refine ⟨rfl, false, by rw [decide_eq_true rfl]; rfl, iteF ?_⟩
        exact ⟨_, _, rfl, Same.trans seo (Same.trans sp' sq)⟩
      · rintro σ Hm ⟨l9, l10, rfl, em⟩
        exact ⟨_, _, _, _, _, _, _, _, _, rfl, DrA.same em Dee, Tabs.same em Te⟩
    · rintro σ H2 ⟨l2, l3, l4, l5, l6, l7, l8, l9, l10, rfl, _⟩
      walk_at "rd"
      exact q H2
end
end Toy

-- part: LE0
namespace Toy
open PySem PySem.Spec PyProof.Rows L2
/-! ### what the top has written, read by a hook -/
def dT (x : Str) (st : Stmt) : He.DefD := ⟨(x, none), x, x, defArgs st, defBody st, defScope st, [], []⟩
def aE : PySem.W.Frag → Addr := He.dflAt ("Problem", some "__init__") 0
def dIn : He.DefD := ⟨("Problem", some "__init__"), "__init__", "Problem.__init__", defArgs sInit, defBody sInit, defScope sInit, [.adr aE], []⟩
def dEq : He.DefD := ⟨("Problem", some "__eq__"), "__eq__", "Problem.__eq__", defArgs sEq, defBody sEq, defScope sEq, [], []⟩

def fnK : List He.DefD := [dT "is_number" (topS 7), dT "is_list" (topS 8), dT "is_letter" (topS 9), dT "clause_of" (topS 10), dT "_unlike_clauses" (topS 15), dT "_by_length" (topS 16), dT "is_figures" (topS 21), dT "is_letters_row" (topS 22), dT "letters_row" (topS 23), dT "letters_of" (topS 24), dT "is_clause_row" (topS 25), dT "clause_row" (topS 26), dT "letters_of_clause" (topS 27), dT "problem_text" (topS 30), dT "read_problem" (topS 31), dT "_is_row" (topS 32), dT "is_head_row" (topS 33), dT "_law_mixed" (topS 35), dT "_law_next" (topS 36), dT "_law_row" (topS 37), dT "_law_due" (topS 38), dT "_law_mixed_up" (topS 39), dT "_law_row_text" (topS 40), dT "_law_text" (topS 41), dT "law" (topS 42), dIn, dEq]
def faK : List He.Fa := [.glo "is_number", .glo "is_list", .glo "is_letter", .glo "clause_of", .glo "_unlike_clauses", .glo "_by_length", .glo "is_figures", .glo "is_letters_row", .glo "letters_row", .glo "letters_of", .glo "is_clause_row", .glo "clause_row", .glo "letters_of_clause", .glo "problem_text", .glo "read_problem", .glo "_is_row", .glo "is_head_row", .glo "_law_mixed", .glo "_law_next", .glo "_law_row", .glo "_law_due", .glo "_law_mixed_up", .glo "_law_row_text", .glo "_law_text", .glo "law", .glo "Problem", .cls "Problem", .noat "Problem" "many", .noat "Problem" "clauses", .mkr "Problem", .meth "Problem" "__eq__", .int "MOST" 400, .int "MOST_CLAUSES" 400, .str "_HEAD" "truths", .str "_EMPTY" "-", .str "_FIGURES" "0123456789", .int "MOST_FIGURES" 3]
def faB : List He.Fa := [.free "max", .free "min", .free "len", .free "range", .free "type", .free "int", .free "list", .free "tuple", .free "dict", .free "bool", .free "abs", .free "sorted", .free "enumerate", .free "isinstance", .free "repr", .free "str", .free "all"]
def insB (K : PySem.W.Frag) (C : Addr) : Bool := decide (PySem.W.findIn K (.ref C) "__class__" = some (some (.builtin "object.__class__"))) && (decide (PySem.W.specialIn K (.builtin "object.__class__") "__get__" = some (some (.builtin "getset_descriptor.__get__"))) &&
  (decide (PySem.W.takesIn K (.builtin "object.__class__") = some true) && (decide (PySem.W.mroIn K C (.type "object") = some true) && decide (PySem.W.kitOne K (.ref C) (.ref C) = some true))))
def tup0B (K : PySem.W.Frag) (a : Addr) : Bool := match K.lookup a with
  | some ⟨.type c, _, .seq its _, _⟩ => decide (c = "tuple") && decide (its.size = 0)
  | _ => false
def exK (K : PySem.W.Frag) : Bool := insB K (He.ga K "Problem") && tup0B K (aE K)
abbrev R : PySem.W.OpenRow := PySem.W.OpenLaw.row PySem.Challenge.rw_turnless_k06_texts_of_problems
abbrev tfK : List He.Defn := [("_law_due", none)]
abbrev hk : PySem.W.Hook := He.hookX 6 (faK ++ faB) fnK [] tfK exK
def ob (s : PySem.W.SharedT) : He.AlX := He.obsX 6 (faK ++ faB) fnK [] tfK exK (HandSHeadRun.getT s)
theorem ob_eq (s : PySem.W.SharedT) : ob s = hk.obs s.abs := He.obsX_eq (HandSHeadRun.getT_eq s)

def loose1 : List Str := ["TurnError", "NoProblem", "NoClause", "TooMany", "NoText", "is_number", "is_list", "is_letter", "clause_of", "MOST", "Problem", "MOST_CLAUSES", "_unlike_clauses", "_by_length", "_HEAD", "_EMPTY", "_FIGURES", "MOST_FIGURES", "is_figures", "is_letters_row"]
def loose2 : List Str := ["letters_row", "letters_of", "is_clause_row", "clause_row", "letters_of_clause", "problem_text", "read_problem", "_is_row", "is_head_row", "_law_mixed", "_law_next", "_law_row", "_law_due", "_law_mixed_up", "_law_row_text", "_law_text"]
def loose : List Str := loose1 ++ loose2
theorem run (w : World) : HandSHeadRun.RunEq R (PySem.W.view R.prog [42]) hk ob 8000 loose w := by
  intro os
  kernel_rfl
end Toy

-- part: LF
namespace Toy
open PySem PySem.Spec PyProof.Rows L2
open LamX (TabB Tabs TabS)
section
variable {P : Program} {w : World} {K : PySem.W.Frag} {mg : Str → Option Value} {h : Heap}
theorem fun_of {x q : Str} {st : Stmt} {f : Addr} {fd : FuncData} (F : FunD K x q (defArgs st) (defBody st) (defScope st) [] [] f fd) : Fun K x q st f fd := by
  obtain ⟨oc, od, dV, kV, doc, pm, an, cdv, ct, osl, e, lk, hcd, hD, _⟩ := F.ex
  rcases hD with ⟨_, rfl⟩ | ⟨n, _⟩
  · exact ⟨⟨oc, od, kV, doc, pm, an, cdv, ct, osl, e, lk, hcd⟩, F.kp⟩
  · exact absurd rfl n
theorem funT_of {x : Str} {st : Stmt} {fd : FuncData} (F : FunD K x x (defArgs st) (defBody st) (defScope st) [] [] (He.fAd K (x, none)) fd) : FunT K x x st (He.codeOf K (x, none)) (He.fAd K (x, none)) fd := by
  obtain ⟨oc, od, dV, kV, doc, pm, an, cdv, ct, osl, e, lk, hcd, hD, _⟩ := F.ex
  obtain ⟨c, rfl⟩ := He.codeIn_ref hcd
  have ec : He.codeOf K (x, none) = c := He.codeOf_eq lk (by rw [e])
  rw [ec]
  rcases hD with ⟨_, rfl⟩ | ⟨n, _⟩
  · exact ⟨⟨oc, od, kV, doc, pm, an, ct, osl, e, lk, hcd⟩, F.kp⟩
  · exact absurd rfl n
theorem df {x : Str} {st : Stmt} {ps : List Str} {fd : FuncData} (X : K.In h) (G : h.Ns mainGlobals mg) (c : (He.Fa.glo x).ok K = true) (F : FunD K x x (defArgs st) (defBody st) (defScope st) [] [] (He.fAd K (x, none)) fd)
    (hb : ∀ (kV doc pm : Value) (an : Option Addr) (cdv ct : Value) (us : List Value), us.length = ps.length → bindArgs (PySem.W.fnOf x x (defArgs st) (defBody st) (defScope st) .none kV doc pm an cdv ct) ⟨us, []⟩ = pure (ps.zip us)) : Df K mg x st ps (He.fAd K (x, none)) fd :=
  ⟨fun_of F, He.glo_ok X G c, (fun_of F).binds hb⟩
theorem tup0_of {a : Addr} (e : tup0B K a = true) : SqT K (fun _ => none) a [] := by
  unfold tup0B at e
  split at e
  · rename_i c d its n sl lk
    obtain ⟨e1, e2⟩ := He.ba e
    have e1 : c = "tuple" := of_decide_eq_true e1
    have e2 : its.size = 0 := of_decide_eq_true e2
    subst e1
    obtain rfl : its = #[] := Array.eq_empty_of_size_eq_zero e2
    exact .inr ⟨_, #[], n, lk, rfl, rfl, Nat.zero_le _, .nil⟩
  · cases e
theorem facts {f : Addr} (X : K.In h) (G : h.Ns mainGlobals mg) (hfa : mg ("law" : Str) = some (.ref f)) (c : He.SaysX (faK ++ faB) fnK [] tfK exK w h K) :
    ∃ (fd : FuncData), (∀ (s : Shared) (u : Value), BindsTo s fd ⟨[u], []⟩ [("script", u)]) ∧
      ∀ base : Heap, K.In base → base.Ns mainGlobals mg → TabB base mg (He.cT K ("_law_due", none)).1 (He.cT K ("_law_due", none)).2 → FnG P w K mg base 8 f fd ["script"] (spLaw K [((He.cT K ("_law_due", none)).2, qLam)]) := by
  have d := c.t.d
  have x := c.more
  obtain ⟨x1, x7⟩ := He.ba x
  obtain ⟨y1, y⟩ := He.ba x1
  obtain ⟨y2, y⟩ := He.ba y
  obtain ⟨y3, y⟩ := He.ba y
  obtain ⟨y4, y5⟩ := He.ba y
  have cl : Cls K (He.ga K "Problem") := He.cls_ok (d.fact 26 (f := .cls "Problem") rfl)
  have ic : C8.InsC K (He.ga K "Problem") := ⟨cl, of_decide_eq_true y1, of_decide_eq_true y2, of_decide_eq_true y3, of_decide_eq_true y4, of_decide_eq_true y5⟩
  obtain ⟨_, F0⟩ := d.def_ 0 (d := dT "is_number" (topS 7)) rfl
  obtain ⟨_, F1⟩ := d.def_ 1 (d := dT "is_list" (topS 8)) rfl
  obtain ⟨_, F2⟩ := d.def_ 2 (d := dT "is_letter" (topS 9)) rfl
  obtain ⟨_, F3⟩ := d.def_ 3 (d := dT "clause_of" (topS 10)) rfl
  obtain ⟨_, F4⟩ := d.def_ 4 (d := dT "_unlike_clauses" (topS 15)) rfl
  obtain ⟨_, F5⟩ := d.def_ 5 (d := dT "_by_length" (topS 16)) rfl
  obtain ⟨_, F6⟩ := d.def_ 6 (d := dT "is_figures" (topS 21)) rfl
  obtain ⟨_, F7⟩ := d.def_ 7 (d := dT "is_letters_row" (topS 22)) rfl
  obtain ⟨_, F8⟩ := d.def_ 8 (d := dT "letters_row" (topS 23)) rfl
  obtain ⟨_, F9⟩ := d.def_ 9 (d := dT "letters_of" (topS 24)) rfl
  obtain ⟨_, F10⟩ := d.def_ 10 (d := dT "is_clause_row" (topS 25)) rfl
  obtain ⟨_, F11⟩ := d.def_ 11 (d := dT "clause_row" (topS 26)) rfl
  obtain ⟨_, F12⟩ := d.def_ 12 (d := dT "letters_of_clause" (topS 27)) rfl
  obtain ⟨_, F13⟩ := d.def_ 13 (d := dT "problem_text" (topS 30)) rfl
  obtain ⟨_, F14⟩ := d.def_ 14 (d := dT "read_problem" (topS 31)) rfl
  obtain ⟨_, F15⟩ := d.def_ 15 (d := dT "_is_row" (topS 32)) rfl
  obtain ⟨_, F16⟩ := d.def_ 16 (d := dT "is_head_row" (topS 33)) rfl
  obtain ⟨_, F17⟩ := d.def_ 17 (d := dT "_law_mixed" (topS 35)) rfl
  obtain ⟨_, F18⟩ := d.def_ 18 (d := dT "_law_next" (topS 36)) rfl
  obtain ⟨_, F19⟩ := d.def_ 19 (d := dT "_law_row" (topS 37)) rfl
  obtain ⟨_, F20⟩ := d.def_ 20 (d := dT "_law_due" (topS 38)) rfl
  obtain ⟨_, F21⟩ := d.def_ 21 (d := dT "_law_mixed_up" (topS 39)) rfl
  obtain ⟨_, F22⟩ := d.def_ 22 (d := dT "_law_row_text" (topS 40)) rfl
  obtain ⟨_, F23⟩ := d.def_ 23 (d := dT "_law_text" (topS 41)) rfl
  obtain ⟨fd, F24⟩ := d.def_ 24 (d := dT "law" (topS 42)) rfl
  obtain ⟨_, FI⟩ := d.def_ 25 (d := dIn) rfl
  obtain ⟨_, FE⟩ := d.def_ 26 (d := dEq) rfl
  have D0 := df (x := "is_number") (st := topS 7) (ps := ["thing"]) X G (d.fact 0 (f := .glo "is_number") rfl) F0 fun _ _ _ _ _ _ us hl => match us, hl with | [_], _ => rfl
  have D1 := df (x := "is_list") (st := topS 8) (ps := ["thing"]) X G (d.fact 1 (f := .glo "is_list") rfl) F1 fun _ _ _ _ _ _ us hl => match us, hl with | [_], _ => rfl
  have D2 := df (x := "is_letter") (st := topS 9) (ps := ["thing", "many"]) X G (d.fact 2 (f := .glo "is_letter") rfl) F2 fun _ _ _ _ _ _ us hl => match us, hl with | [_, _], _ => rfl
  have D3 := df (x := "clause_of") (st := topS 10) (ps := ["thing", "many"]) X G (d.fact 3 (f := .glo "clause_of") rfl) F3 fun _ _ _ _ _ _ us hl => match us, hl with | [_, _], _ => rfl
  have D4 := df (x := "_unlike_clauses") (st := topS 15) (ps := ["things", "many"]) X G (d.fact 4 (f := .glo "_unlike_clauses") rfl) F4 fun _ _ _ _ _ _ us hl => match us, hl with | [_, _], _ => rfl
  have D5 := df (x := "_by_length") (st := topS 16) (ps := ["clause"]) X G (d.fact 5 (f := .glo "_by_length") rfl) F5 fun _ _ _ _ _ _ us hl => match us, hl with | [_], _ => rfl
  have D6 := df (x := "is_figures") (st := topS 21) (ps := ["word", "most"]) X G (d.fact 6 (f := .glo "is_figures") rfl) F6 fun _ _ _ _ _ _ us hl => match us, hl with | [_, _], _ => rfl
  have D7 := df (x := "is_letters_row") (st := topS 22) (ps := ["row"]) X G (d.fact 7 (f := .glo "is_letters_row") rfl) F7 fun _ _ _ _ _ _ us hl => match us, hl with | [_], _ => rfl
  have D8 := df (x := "letters_row") (st := topS 23) (ps := ["letters"]) X G (d.fact 8 (f := .glo "letters_row") rfl) F8 fun _ _ _ _ _ _ us hl => match us, hl with | [_], _ => rfl
  have D9 := df (x := "letters_of") (st := topS 24) (ps := ["row"]) X G (d.fact 9 (f := .glo "letters_of") rfl) F9 fun _ _ _ _ _ _ us hl => match us, hl with | [_], _ => rfl
  have D10 := df (x := "is_clause_row") (st := topS 25) (ps := ["row"]) X G (d.fact 10 (f := .glo "is_clause_row") rfl) F10 fun _ _ _ _ _ _ us hl => match us, hl with | [_], _ => rfl
  have D11 := df (x := "clause_row") (st := topS 26) (ps := ["clause"]) X G (d.fact 11 (f := .glo "clause_row") rfl) F11 fun _ _ _ _ _ _ us hl => match us, hl with | [_], _ => rfl
  have D12 := df (x := "letters_of_clause") (st := topS 27) (ps := ["row"]) X G (d.fact 12 (f := .glo "letters_of_clause") rfl) F12 fun _ _ _ _ _ _ us hl => match us, hl with | [_], _ => rfl
  have D13 := df (x := "problem_text") (st := topS 30) (ps := ["problem"]) X G (d.fact 13 (f := .glo "problem_text") rfl) F13 fun _ _ _ _ _ _ us hl => match us, hl with | [_], _ => rfl
  have D14 := df (x := "read_problem") (st := topS 31) (ps := ["text"]) X G (d.fact 14 (f := .glo "read_problem") rfl) F14 fun _ _ _ _ _ _ us hl => match us, hl with | [_], _ => rfl
  have D15 := df (x := "_is_row") (st := topS 32) (ps := ["row", "at"]) X G (d.fact 15 (f := .glo "_is_row") rfl) F15 fun _ _ _ _ _ _ us hl => match us, hl with | [_, _], _ => rfl
  have D16 := df (x := "is_head_row") (st := topS 33) (ps := ["row"]) X G (d.fact 16 (f := .glo "is_head_row") rfl) F16 fun _ _ _ _ _ _ us hl => match us, hl with | [_], _ => rfl
  have D17 := df (x := "_law_mixed") (st := topS 35) (ps := ["cell", "k"]) X G (d.fact 17 (f := .glo "_law_mixed") rfl) F17 fun _ _ _ _ _ _ us hl => match us, hl with | [_, _], _ => rfl
  have D18 := df (x := "_law_next") (st := topS 36) (ps := ["draw", "size"]) X G (d.fact 18 (f := .glo "_law_next") rfl) F18 fun _ _ _ _ _ _ us hl => match us, hl with | [_, _], _ => rfl
  have D19 := df (x := "_law_row") (st := topS 37) (ps := ["draw", "truths"]) X G (d.fact 19 (f := .glo "_law_row") rfl) F19 fun _ _ _ _ _ _ us hl => match us, hl with | [_, _], _ => rfl
  have D20 := df (x := "_law_due") (st := topS 38) (ps := ["rows"]) X G (d.fact 20 (f := .glo "_law_due") rfl) F20 fun _ _ _ _ _ _ us hl => match us, hl with | [_], _ => rfl
  have D21 := df (x := "_law_mixed_up") (st := topS 39) (ps := ["draw", "some"]) X G (d.fact 21 (f := .glo "_law_mixed_up") rfl) F21 fun _ _ _ _ _ _ us hl => match us, hl with | [_, _], _ => rfl
  have D22 := df (x := "_law_row_text") (st := topS 40) (ps := ["row"]) X G (d.fact 22 (f := .glo "_law_row_text") rfl) F22 fun _ _ _ _ _ _ us hl => match us, hl with | [_], _ => rfl
  have D23 := df (x := "_law_text") (st := topS 41) (ps := ["truths", "rows"]) X G (d.fact 23 (f := .glo "_law_text") rfl) F23 fun _ _ _ _ _ _ us hl => match us, hl with | [_, _], _ => rfl
  have e := hfa.symm.trans (He.glo_ok X G (d.fact 24 (f := .glo "law") rfl))
  cases e
  have La : Fun K "law" "law" (topS 42) _ fd := fun_of F24
  have m1 := He.meth_ok (d.fact 30 (f := .meth "Problem" "__eq__") rfl)
  obtain ⟨ds3, v3, bI⟩ := FI.binds1 (ps := ["self", "many", "clauses"]) 3 1 (by simp [He.DefD.dvs, dIn]) rfl fun _ _ _ _ _ _ _ us its hu hi => match us, its, hu, hi with | [_, _, _], [_], _, _ => ⟨_, rfl, rfl⟩
  obtain ⟨ds2, v2, bD⟩ := FI.binds1 (ps := ["self", "many", "clauses"]) 2 0 (by simp [He.DefD.dvs, dIn]) rfl fun _ _ _ _ _ _ _ us its hu hi => match us, its, hu, hi with | [_, _], [_], _, _ => ⟨_, rfl, rfl⟩
  have e3 : ds3 = [] := by cases v3; rfl
  subst e3
  have e2 : ds2 = [.ref (aE K)] := by
    cases v2 with
    | cons h t =>
      cases t
      cases h
      rfl
  subst e2
  have bl : Bl mg := ⟨He.free_ok X G (d.fact 37 (f := .free "max") rfl), He.free_ok X G (d.fact 38 (f := .free "min") rfl), He.free_ok X G (d.fact 39 (f := .free "len") rfl), He.free_ok X G (d.fact 40 (f := .free "range") rfl), He.free_ok X G (d.fact 41 (f := .free "type") rfl), He.free_ok X G (d.fact 42 (f := .free "int") rfl), He.free_ok X G (d.fact 43 (f := .free "list") rfl), He.free_ok X G (d.fact 44 (f := .free "tuple") rfl), He.free_ok X G (d.fact 45 (f := .free "dict") rfl), He.free_ok X G (d.fact 46 (f := .free "bool") rfl), He.free_ok X G (d.fact 47 (f := .free "abs") rfl), He.free_ok X G (d.fact 48 (f := .free "sorted") rfl), He.free_ok X G (d.fact 49 (f := .free "enumerate") rfl), He.free_ok X G (d.fact 50 (f := .free "isinstance") rfl), He.free_ok X G (d.fact 51 (f := .free "repr") rfl)⟩
  have bS := He.free_ok X G (d.fact 52 (f := .free "str") rfl)
  have bA := He.free_ok X G (d.fact 53 (f := .free "all") rfl)
  have gE := He.str_ok X G (d.fact 34 (f := .str "_EMPTY" "-") rfl)
  have gH := He.str_ok X G (d.fact 33 (f := .str "_HEAD" "truths") rfl)
  have gF := He.str_ok X G (d.fact 35 (f := .str "_FIGURES" "0123456789") rfl)
  have gM := He.int_ok X G (d.fact 36 (f := .int "MOST_FIGURES" 3) rfl)
  have Pg : Prog K mg (He.ga K "Problem") _ _ _ _ _ _ _ _ _ _ _ _ _ _ _ _ (aE K) := ⟨D0, D1, D2, D3, D4, D5, FI, (fun_of FE : Fun K "__eq__" "Problem.__eq__" sEq _ _), bI, bD, tup0_of x7, cl, He.noat_ok (d.fact 27 (f := .noat "Problem" "many") rfl), He.noat_ok (d.fact 28 (f := .noat "Problem" "clauses") rfl), He.glo_ok X G (d.fact 25 (f := .glo "Problem") rfl), He.mkr_ok (d.fact 29 (f := .mkr "Problem") rfl), He.int_ok X G (d.fact 31 (f := .int "MOST" 400) rfl), He.int_ok X G (d.fact 32 (f := .int "MOST_CLAUSES" 400) rfl)⟩
  refine ⟨fd, fun s v => FunD.bindsA (x := "law") (qual := "law") (params := defArgs (topS 42)) (body := defBody (topS 42)) (scope := defScope (topS 42)) (ps := ["script"]) F24 (fun _ _ _ _ _ _ us hl => match us, hl with | [_], _ => rfl) s [v] rfl, fun base _ _ TB => ?_⟩
  have GLr := ok_lettersrow (P := P) (w := w) (base := base) D8.F bl bS
  have GCl := ok_clauserow (P := P) (w := w) (base := base) D11.F gE D8 GLr
  have GPt := ok_ptext (P := P) (w := w) (base := base) D13.F bl bS gE gH cl Pg.nM Pg.nC D11 GCl
  have GLt := ok_lt (P := P) (w := w) (base := base) D23.F bl bS D22
  have GF := ok_fig (P := P) (w := w) (base := base) D6.F bl bA gF
  have GHr := ok_hrow (P := P) (w := w) (base := base) D16.F bl bA gH gM D6 GF
  have GIl := ok_ilr (P := P) (w := w) (base := base) D7.F bl bA gM D6 GF
  have GCr := ok_crow (P := P) (w := w) (base := base) D10.F gE D7 GIl
  have GIr := ok_isrow (P := P) (w := w) (base := base) D15.F D16 D10 GHr GCr
  have GLo := ok_lettersof (P := P) (w := w) (base := base) D9.F bl
  have GLc := ok_letters (P := P) (w := w) (base := base) D12.F gE D9 GLo
  have GRp := ok_rp (P := P) (w := w) (base := base) D14.F bl bS gE Pg D15 GIr D12 GLc
  exact ok_law La bl Pg ic TB D17 D18 D19 (funT_of (st := topS 38) F20) D20.g D20.b D21 D13 D23 D14 GPt GLt GRp m1.at_ m1.fn ((fun_of FE : Fun K "__eq__" "Problem.__eq__" sEq _ _).binds fun _ _ _ _ _ _ us hl => match us, hl with | [_, _], _ => rfl)
end
end Toy

-- part: LZ
open PySem PySem.W PySem.Calls PyProof.Rows
theorem PySem.Challenge.cw_turnless_k06_texts_of_problems_holds : PySem.Challenge.rw_turnless_k06_texts_of_problems.Holds := by
  w_on; o_law
  refine HandSHeadRun.head_any (r := Toy.R) (q := view Toy.R.prog [42]) (H := Toy.hk) (ob := Toy.ob) (M := 8000) (loose := Toy.loose) (d := HandSHeadRun.topDef Toy.R.prog 42) (kwd := []) Toy.ob_eq
    (by kernel_rfl) (fun s => by kernel_rfl) Toy.run (by kernel_rfl) (by kernel_rfl) (by kernel_rfl) (by rfl) (by first | assumption | decide +kernel) (by decide +kernel) ⟨rfl, rfl, rfl, rfl, rfl, by decide +kernel⟩ ?hw ?hc
  case hw => w_witness2
  case hc =>
    refine Toy.walkG (l := PySem.Challenge.rw_turnless_k06_texts_of_problems) (n := 63) (k := 8) (x := "script") rfl (by decide) (by kernel_rfl) ⟨rfl, by decide, by decide⟩ ?F
    intro w mg fa h Y G hmg0
    obtain ⟨K, KX, c⟩ := Y
    have hmg : mg ("law" : PySem.Str) = some (.ref fa) := by
      have e : (HandSHeadRun.topDef Toy.R.prog 42).name = ("law" : PySem.Str) := by kernel_rfl
      rw [← e]
      exact hmg0
    obtain ⟨fd, hb, hF⟩ := Toy.facts (P := (PySem.Challenge.rw_turnless_k06_texts_of_problems).prog) (w := w) KX G hmg c
    have hm : (("_law_due", none) : He.Defn) ∈ Toy.tfK := List.mem_singleton.mpr rfl
    refine ⟨K, fd, _, _, _, KX, c.empty _ hm, c.out _ hm, codeHd_of_K KX (c.hd _ hm), hb, fun H a ns hl hT hS => ⟨a, ns, rfl, hS, hl, fun p hp => ?_, fun _ => rfl⟩, hF⟩
    rw [List.mem_singleton.mp hp]
    exact LamX.TabS.nil hT

