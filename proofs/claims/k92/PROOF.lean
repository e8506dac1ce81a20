import PyProof.Rows.All
import Wide.All
import OpenK.AllK
import Wide.FinOn
import PySem.Challenge.RW_floorcurves_k92_whole_that_hang_together
import Lean
import PyProof.EqAt
import PyProof.EqKinds
import PyProof.TupleCall
set_option compiler.extract_closed false
local macro_rules(kind:=choice)|s=>match s.getArgs.find? (·.isOfKind `«term{_}») with|some x=>pure x|_=>Lean.Macro.throwUnsupported
local macro_rules(kind:=«term{_}»)|s=>do
 let mut r:=#[]
 for x in s[1].getSepArgs do
  match (⟨x⟩:Lean.Term) with
  |`(0)=>r:=r.push (←`(rfl))
  |`(1)=>r:=r++#[←`(_),←`(rfl)]
  |`(2)=>r:=r++#[←`(_),←`(_),←`(rfl),←`(rfl)]
  |`(3)=>r:=r++#[←`(_),←`(_),←`(rfl)]
  |`(4)=>r:=r.push (←`(by lia))
  |`(5)=>r:=r.push (←`(by decide))
  |`(7)=>r:=r.push (←`(by simp))
  |x=>r:=r.push x
 `(⟨$r,*⟩)
local macro_rules|`(tactic|show $t)=>`(tactic|refine $t)
local macro_rules(kind:=Lean.Parser.Tactic.tacticHave__)|s=>do
 let d:=s[2][0]
 if !d.isOfKind `Lean.Parser.Term.letPatDecl then Lean.Macro.throwUnsupported
 let n (k:String) (a:Array Lean.Syntax):Lean.Syntax:=Lean.mkNode (`Lean.Parser.Tactic++k.toName) a
 let w (e:Lean.Syntax):Lean.Syntax:=n "rcasesPatMed" #[Lean.mkNullNode #[e]]
 let p:=d[0].rewriteBottomUp λx=>if x.isOfKind `choice then (x.getArgs.find? (·.getKind==`Lean.Parser.Tactic.rcasesPat.tuple)).getD x else if x.isOfKind `«term{_}» then n "rcasesPat.tuple" #[Lean.mkAtom "⟨",Lean.mkNullNode (Lean.mkSepArray (x[1].getSepArgs.map λe=>n "rcasesPatLo" #[w (if e.isIdent then n "rcasesPat.one" #[e] else if e.isOfKind `Lean.Parser.Term.hole then n "rcasesPat.ignore" #[Lean.mkAtom "_"] else if e.isOfKind `num then n "rcasesPat.one" #[Lean.mkIdent `rfl] else e),Lean.mkNullNode]) (Lean.mkAtom ",")),Lean.mkAtom "⟩"] else x
 `(tactic|obtain $(⟨w p⟩):rcasesPatMed:=$(⟨d[4]⟩))
local macro_rules(kind:=Lean.Parser.Command.declaration)|s=>if s.getPos?.isNone then Lean.Macro.throwUnsupported else pure (s.rewriteBottomUp (·.setInfo .none))
local macro_rules|`(command|def $n:declId $s:optDeclSig $v:declVal)=>do
 let q:Lean.TSyntax ``Lean.Parser.Command.declSig:=⟨Lean.mkNode ``Lean.Parser.Command.declSig #[s.raw[0],s.raw[1][0]]⟩
 Lean.MonadRef.withRef .missing<|if v.raw[1].isOfKind ``Lean.Parser.Term.byTactic then `(command|theorem $n:declId $q:declSig $v:declVal) else `(command|noncomputable def $n:declId $s:optDeclSig $v:declVal)
local macro_rules | `(command|abbrev $n:declId $s:optDeclSig $v:declVal)=>Lean.MonadRef.withRef .missing `(command|noncomputable abbrev $n:declId $s:optDeclSig $v:declVal)
local macro_rules | `(tactic| and_intros) => `(tactic| exact ⟨rfl,rfl,rfl,by decide +kernel,rfl,by decide +kernel,by decide +kernel⟩)
local macro_rules | `(tactic| lia) => `(tactic| first | lia -verbose | omega)
local macro_rules | `(tactic| ac_nf) => `(tactic| decide +kernel)
local macro_rules | `(tactic| trivial) => `(tactic| first|exact Or.inl rfl|exact Or.inr rfl|exact Or.inr (Or.inl rfl)|exact Or.inr (Or.inr rfl))
abbrev Sv:=@PySem.Value
abbrev Sw:=@PySem.Shared
abbrev Sx:=@PySem.Addr
abbrev Sy:=@PySem.Program
abbrev SA:=@PySem.FuncData
abbrev SB:=@PySem.World
abbrev SC:=@PySem.Around
abbrev SD:=@List
abbrev SE:=@PySem.Expr
abbrev SF:=@PySem.Heap
abbrev SG:=@Option
abbrev SH:=@PySem.Stmt
abbrev A0:=@PySem.wpAny_bind
abbrev A1:=@List.length_map
abbrev A2:=@List.getElem?_eq_getElem
abbrev A3:=@PySem.wpAny_pure
abbrev A4:=@PySem.Heap.get?_push_of_some
abbrev A5:=@if_neg
abbrev A6:=@if_pos
abbrev A7:=@List.map_append
abbrev A8:=@List.getElem?_eq_some_iff
abbrev A9:=@Nat.le_refl
abbrev A':=@List.getD_eq_getElem?_getD
abbrev AA:=@List.length_append
abbrev AB:=@Option.map_eq_some_iff
abbrev AC:=@Option.bind_eq_some_iff
abbrev AD:=@List.getElem?_map
abbrev AE:=@PySem.Heap.get?_push_size
abbrev AF:=@PySem.PassesOwn.never
abbrev AG:=@List.map_cons
abbrev AH:=@List.mem_of_getElem?
abbrev AI:=@List.take_length
abbrev AJ:=@List.mem_cons
abbrev AK:=@List.size_toArray
abbrev AL:=@List.take_add_one
abbrev AM:=@Bool.and_eq_true
abbrev AN:=@Bool.false_eq_true
abbrev AO:=@Nat.zero_le
abbrev AQ:=@PySem.Heap.lt_size
abbrev AR:=@Nat.ne_of_lt
abbrev AS:=@Bool.false_ne_true
abbrev AT:=@List.mem_cons_of_mem
abbrev AU:=@PySem.F.plainAttrs_list
abbrev AV:=@List.length_take
abbrev AW:=@List.length_cons
abbrev AX:=@List.all_eq_true
abbrev AY:=@List.mem_range
abbrev AZ:=@PyProof.Rows.wpS_bind
abbrev Aa:=@List.mem_cons_self
abbrev Ab:=@Array.getElem?_eq_getElem
abbrev Ac:=@PySem.Heap.get?_update_other
abbrev Ad:=@Option.some.inj
abbrev Ae:=@PySem.F.type_list_append
abbrev Af:=@PySem.F.slot_list_append
abbrev Ag:=@List.mem_singleton
abbrev Ah:=@Nat.le_of_lt
abbrev Ai:=@List.mem_map
abbrev Aj:=@Array.length_toList
abbrev Ak:=@decide_eq_false
abbrev Al:=@List.drop_eq_getElem_cons
abbrev Am:=@Nat.lt_of_lt_of_le
abbrev An:=@PySem.wpAny_call_entry
abbrev Ao:=@Nat.lt_succ_of_lt
abbrev Ap:=@PySem.wpAny_newObj_type
abbrev Aq:=@PySem.Heap.size_push
abbrev Ar:=@decide_eq_true_eq
abbrev As:=@List.map_congr_left
abbrev At:=@PySem.sizeLine_eq
abbrev Au:=@if_false
abbrev Av:=@PySem.wpAny_holding
abbrev Aw:=@List.not_mem_nil
abbrev Ax:=@List.flatMap_append
abbrev Ay:=@List.sum_cons
abbrev Az:=@PyProof.Rows.wpS_pure
abbrev B0:=@List.range_succ
abbrev B1:=@Int.toNat_natCast
abbrev B2:=@Option.bind_some
abbrev B3:=@List.mem_append_right
abbrev B4:=@decide_eq_true
abbrev B5:=@PySem.W.mg_none_of
abbrev B6:=@PySem.wpAny_callSpecial?_slot
abbrev B7:=@PyProof.Rows.callWith_type1
abbrev B8:=@PySem.Heap.get?_update_self
abbrev B9:=@PySem.Heap.size_update
abbrev B':=@of_decide_eq_true
abbrev BA:=@Nat.le_trans
abbrev BB:=@List.mem_flatMap
abbrev BC:=@List.map_map
abbrev BD:=@PySem.Around.under_plainId
abbrev BE:=@List.append_nil
abbrev BF:=@PySem.Heap.get?_push_ne
abbrev BG:=@Ne.symm
abbrev BH:=@PySem.wpAny_seqItems
abbrev BI:=@PySem.Heap.SameBut.update
abbrev BJ:=@List.length_replicate
abbrev BK:=@Array.getElem?_toList
abbrev BL:=@List.take_succ_cons
abbrev BM:=@List.nodup_cons
abbrev BN:=@List.length_range
abbrev BO:=@PySem.Paired.length
abbrev BP:=@List.mem_append
abbrev BQ:=@Nat.lt_succ_self
abbrev BR:=@List.getElem?_append_right
abbrev BS:=@Int.eq_ofNat_of_zero_le
abbrev BU:=@Nat.lt_irrefl
abbrev BV:=@List.append_assoc
abbrev BW:=@Bool.not_true
abbrev BX:=@PySem.codeAny_builtin
abbrev BY:=@Array.getElem?_eq_none
abbrev BZ:=@congrArg
abbrev Ba:=@List.replicate_succ
abbrev Bb:=@List.take_append_drop
abbrev Bc:=@List.flatMap_cons
abbrev Bd:=@PySem.plainId_quiet
abbrev Be:=@PyProof.Rows.slot_tuple_getitem
abbrev Bf:=@PySem.wpAny_truthy_bool
abbrev Bg:=@PySem.wpAny_setState_of
abbrev Bh:=@List.mem_iff_getElem
abbrev Bi:=@List.filter_append
abbrev Bj:=@List.find?_cons
abbrev Bk:=@List.drop_of_length_le
abbrev Bl:=@PySem.wpAny_Call_Name_kw
abbrev Bm:=@List.getElem?_append_left
abbrev Bn:=@PySem.F.slot_dict_valueiterator_next
abbrev Bo:=@List.foldl_append
abbrev Bp:=@List.length_filter_le
abbrev Bq:=@PySem.W.kia_one
abbrev Br:=@Nat.ne_of_gt
abbrev Bs:=@Nat.lt_or_ge
abbrev Bt:=@PySem.wpAny_field
abbrev Bu:=@PySem.F.slot_dict_keyiterator_next
abbrev Bv:=@List.length_eq_zero_iff
abbrev Bw:=@List.length_drop
abbrev Bx:=@PySem.wpAny_mono
abbrev By:=@or_false
abbrev Bz:=@List.filter_cons
abbrev C0:=@PyProof.Rows.size_push'
abbrev C1:=@PySem.wpAny_rule
abbrev C2:=@PySem.wpAny_isInstance
abbrev C3:=@PySem.wpAny_forIn_list
abbrev C4:=@PySem.Obj.data_mapFields
abbrev C5:=@List.sum_append
abbrev C6:=@List.length_set
abbrev C7:=@Bool.or_eq_true
abbrev C8:=@PySem.mem_of_lookup
abbrev C9:=@if_true
abbrev C':=@Nat.le_succ
abbrev CA:=@PySem.wpAny_updateSeq
abbrev CB:=@List.drop_zero
abbrev CC:=@Array.perm_iff_toList_perm
abbrev CD:=@Array.getElem?_eq_none_iff
abbrev CF:=@List.getElem?_eq_none
abbrev CG:=@List.length_nil
abbrev CH:=@List.foldl_cons
abbrev CI:=@PySem.wpAny_setField
abbrev CJ:=@PySem.wpAny_pyIter_tuple
abbrev CK:=@Nat.pow_le_pow_right
abbrev CL:=@PySem.F.type_list_extend
abbrev CM:=@PySem.F.slot_list_extend
abbrev CN:=@PySem.wpAny_specialOf
abbrev CO:=@PySem.wpAny_loadPart'
abbrev CP:=@beq_eq_false_iff_ne
abbrev CQ:=@PySem.wpAny_letGo
abbrev CS:=@List.lookup_cons
abbrev CT:=@List.getElem_mem
abbrev CU:=@PySem.wpAny_attempt
abbrev CV:=@List.pairwise_cons
abbrev CW:=@PySem.wpAny_tryCatch
abbrev CY:=@List.cons.injEq
abbrev CZ:=@PySem.F.plain_min_loop
abbrev Ca:=@PySem.F.plain_max_loop
abbrev Cb:=@PySem.wpAny_typeNameOfWhole_valiter
abbrev Cc:=@PySem.wpAny_typeNameOfWhole_keyiter
abbrev Cd:=@Nat.lt_of_succ_lt
abbrev Ce:=@PySem.Calls.spliced_cons
abbrev Cf:=@List.mem_of_mem_take
abbrev Cg:=@List.getElem?_set_ne
abbrev Ch:=@Int.mul_nonneg
abbrev Ci:=@Bool.and_false
abbrev Cj:=@Nat.zero_add
abbrev Ck:=@Nat.succ_mul
abbrev Cm:=@List.ext_getElem
abbrev Cn:=@PySem.wpAny_dictEntries
abbrev Co:=@List.filterMap_cons
abbrev Cp:=@PyProof.Rows.wpS_modify
abbrev Cq:=@PySem.wpAny_of_eq
abbrev Cr:=@PySem.F.slot_tuple_iterator_next
abbrev Cs:=@PyProof.Rows.get?_update_seq
abbrev Ct:=@List.mem_filter
abbrev Cu:=@List.forIn_cons
abbrev Cv:=@Int.emod_nonneg
abbrev Cw:=@Bool.eq_iff_iff
abbrev Cy:=@PySem.wpAny_typeOf
abbrev Cz:=@of_decide_eq_false
abbrev D0:=@PyProof.Rows.listUpdate_at
abbrev D1:=@List.map_replicate
abbrev D2:=@PySem.F.called_set
abbrev D3:=@Array.forIn_toList
abbrev D4:=@List.getElem?_replicate
abbrev D5:=@PySem.Calls.call_function_entry
abbrev D6:=@PySem.wpAny_typeNameOf_valiter
abbrev D7:=@PySem.wpAny_typeNameOf_keyiter
abbrev D8:=@PySem.wpAny_newList
abbrev D9:=@bne_self_eq_false
abbrev D':=@List.take_of_length_le
abbrev DA:=@List.nodup_append
abbrev DB:=@List.flatten_cons
abbrev DC:=@Int.zero_add
abbrev DD:=@Int.mul_le_mul
abbrev DE:=@Bool.not_false
abbrev DF:=@Bool.false_and
abbrev DH:=@PySem.wpAny_dictEpoch
abbrev DI:=@PySem.wpAny_setField_rec
abbrev DJ:=@List.length_singleton
abbrev DK:=@PyProof.Rows.callWith_builtin1
abbrev DL:=@List.cons_append
abbrev DO:=@Nat.add_assoc
abbrev DP:=@PySem.wpAny_fieldsOf
abbrev DQ:=@List.mem_of_mem_drop
abbrev DR:=@Int.le_refl
abbrev DS:=@PySem.F.slot_tuple_hash
abbrev DT:=@Option.map_some
abbrev DU:=@PySem.Obj.isFreed_of_fields
abbrev DV:=@PySem.wpAny_askSetting
abbrev DW:=@Nat.sub_zero
abbrev DX:=@PySem.boot_len
abbrev DY:=@beq_iff_eq
abbrev DZ:=@List.nodup_nil
abbrev Da:=@List.Perm.refl
abbrev Db:=@PySem.wpAny_passesOwn
abbrev Dc:=@PySem.Heap.get?_update_ne
abbrev Dd:=@PyProof.Rows.wpS_get
abbrev De:=@PyProof.Rows.entry_list_sort
abbrev Df:=@PyProof.Rows.boot_isinstance
abbrev Dg:=@PyProof.Rows.slot_list_sort
abbrev Dh:=@PyProof.Rows.args_list_sort
set_option Elab.async false
set_option linter.all false
set_option maxRecDepth 100000
set_option maxHeartbeats 4000000
namespace L2
open PySem PySem.Spec PyProof.Rows
variable{A:SC}{E Q:Sv->Sw->Prop}{K:W.Frag}{M:Model}{MO:SD (Sx×Obj)}{MV x:Str}{N ps:SD Str}{P:Sy}{a b dx it:Sx}{base h:SF}{body:SD SH}{c e l tg:SE}{ch fp:SD Sx}{es:SD SE}{f:Sv->Sv->Sem Sv}{i j n:Nat}{lo:Int}{mA mg:Str->SG Sv}{o:Obj}{op:CmpOp}{s:Sw}{scope:Scope}{u:Sv}{us:SD Sv}{w:SB}
abbrev Key:=Sum Int Str
def fK:Key->Sv->Bool
 |.inl k,v=>Value.isInt k v
 |.inr x,v=>Value.isStrOf x v
def yL(w:SB):Key->Int
 |.inl k=>hashInt k
 |.inr x=>hashStr w x
theorem eI:∀{k:Key}{v:Sv},fK k v=true->(∃i t,k=Sum.inl i/\v=Value.int i t)\/(∃x t,k=Sum.inr x/\v=Value.str x t)
 |.inl i,v,h=>by
  have{t,e}:=Value.isInt_shape (k:=i) (v:=v) h;show .inl {i,t,0,e}
 |.inr x,v,h=>by
  have{t,e}:=Value.isStrOf_shape (x:=x) (v:=v) h;show .inr {x,t,0,e}
def yM(i:Int)(t:Tok):fK (.inl i) (.int i t)=true:=by simp[fK,Value.isInt]
def yN(x:Str)(t:Tok):fK (.inr x) (.str x t)=true:=by simp[fK,Value.isStrOf]
def yO(a b:Int):decide ((Sum.inl a:Key)=Sum.inl b)=(a==b):=by
 by_cases e:a=b
 .subst e;simp
 .have h:¬(Sum.inl a:Key)=Sum.inl b:=λq=>e (Sum.inl.inj q);rw[Ak h];show(CP.mpr e).symm
def yP(a b:Str):decide ((Sum.inr a:Key)=Sum.inr b)=decide (a=b):=by
 by_cases e:a=b
 .subst e;simp
 .have h:¬(Sum.inr a:Key)=Sum.inr b:=λq=>e (Sum.inr.inj q);rw[Ak h,Ak e]
def yQ(a:Int)(b:Str):decide ((Sum.inl a:Key)=Sum.inr b)=false:=Ak (λq=>nomatch q)
def yR(a:Str)(b:Int):decide ((Sum.inr a:Key)=Sum.inl b)=false:=Ak (λq=>nomatch q)
def bV(prog:Sy)(w:SB):PySem.KeyKind prog w Key where
 is:=fK
 hash:=yL w
 inj:=λv a b ha hb=>by
  rcases eI ha with⟨i,t,rfl,rfl⟩|⟨x,t,rfl,rfl⟩
  .rcases eI hb with⟨j,u,rfl,e⟩|⟨y,u,rfl,e⟩
   .injection e with e1 _;rw[e1]
   .show nomatch e
  .rcases eI hb with⟨j,u,rfl,e⟩|⟨y,u,rfl,e⟩
   .show nomatch e
   .injection e with e1 _;rw[e1]
 byValue:=λk v h=>by
  rcases eI h with⟨i,t,rfl,rfl⟩|⟨x,t,rfl,rfl⟩<;>rfl
 pyHash:=λhv h=>by
  rcases eI hv with⟨i,t,rfl,rfl⟩|⟨x,t,rfl,rfl⟩
  .show wpAny_pyHash_int h
  .show wpAny_pyHash_str h
 eqBool:=λhu hv h=>by
  rcases eI hu with⟨i,t,rfl,rfl⟩|⟨x,t,rfl,rfl⟩
  .rcases eI hv with⟨j,u,rfl,rfl⟩|⟨y,u,rfl,rfl⟩
   .rw[yO] at h;show wpAny_eqBool_int h
   .rw[yQ] at h;show SeqAt.EqAt.int_str i t y u _ _ _ _ h
  .rcases eI hv with⟨j,u,rfl,rfl⟩|⟨y,u,rfl,rfl⟩
   .rw[yR] at h;show SeqAt.EqAt.str_int x t j u _ _ _ _ h
   .rw[yP] at h;show wpAny_eqBool_str h
 «strs»:=λk x t v h=>by
  rcases eI h with⟨i,u,rfl,e⟩|⟨y,u,rfl,e⟩
  .show nomatch e
  .injection e with e1 _;subst e1;cases v<;>rfl
def yS(prog:Sy)(w:SB)(i:Int)(t:Tok):(bV prog w).is (.inl i) (.int i t)=true:=yM i t
def yT(prog:Sy)(w:SB)(x:Str)(t:Tok):(bV prog w).is (.inr x) (.str x t)=true:=yN x t
inductive V where
 |non|bl (b:Bool)|int (i:Int)|str (x:Str)|byt (b:Array UInt8)|flt (b:UInt64)|ref (a:Addr)|ty (n:String)
 deriving DecidableEq
variable{v:V}{vs xs:SD V}
def aw:V->Sv->Prop
 |.non,u=>u=Value.none
 |.bl b,u=>u=Value.bool b
 |.int i,u=>∃t,u=Value.int i t
 |.str x,u=>∃t,u=Value.str x t
 |.byt b,u=>∃t,u=Value.bytes b t
 |.flt b,u=>∃t,u=Value.float b t
 |.ref a,u=>u=Value.ref a
 |.ty n,u=>u=Value.type n
abbrev ax:SD V->SD Sv->Prop:=Paired aw
theorem ax.length{xs:SD V}{us:SD Sv}(r:ax xs us):xs.length=us.length:=BO r
def ax.get:∀{xs:SD V}{us:SD Sv}{i:Nat}{x:V},ax xs us->xs[i]? =some x->∃u,us[i]? =some u/\aw x u:=by
 intro xs us i x h e;induction h generalizing i with
 |nil=>simp at e
 |cons r t ih=>
  cases i with
  |zero=>simp at e;subst e;show{1,r}
  |succ i=>show ih (i:=i) (by simpa using e)
theorem ax.set{x:V}{u:Sv}(r:aw x u):∀{xs:SD V}{us:SD Sv} (i:Nat),ax xs us->ax (xs.set i x) (us.set i u)
 |_,_,_,.nil=>.nil
 |_,_,0,.cons _ t=>.cons r t
 |_,_,i+1,.cons q t=>.cons q (ax.set r i t)
def ax.append:∀{xs ys:SD V}{us ws:SD Sv},ax xs us->ax ys ws->ax (xs++ys) (us++ws):=by
 intro xs ys us ws h s;induction h with
 |nil=>show s
 |cons r t ih=>show .cons r ih
theorem ax.take:∀{xs:SD V}{us:SD Sv} (n:Nat),ax xs us->ax (xs.take n) (us.take n)
 |_,_,0,_=>.nil
 |_,_,_+1,.nil=>.nil
 |_,_,n+1,.cons r t=>.cons r (ax.take n t)
theorem ax.drop:∀{xs:SD V}{us:SD Sv} (n:Nat),ax xs us->ax (xs.drop n) (us.drop n)
 |_,_,0,r=>r
 |_,_,_+1,.nil=>.nil
 |_,_,n+1,.cons _ t=>ax.drop n t
def cS:SG V->SG Sv->Prop
 |some v,some u=>aw v u
 |none,none=>True
 |_,_=>False
def KV{κ:Type}:SD (κ×V)->SD (κ×Sv)->Prop:=Paired fun(p:κ×V) (q:κ×Sv)=>p.1=q.1/\aw p.2 q.2
def kV:Key->V
 |.inl i=>.int i
 |.inr x=>.str x
inductive HO where
  |lst (xs:List V)
  |tup (xs:List V)
  |dK (kvs:List (Key×V))|dT (kvs:List (List Key×V))
  |set (S:Int->Bool) (n:Nat)
  |ins (C dx:Addr) (fs:List (Str×V))
  |own (x:Addr)
  |xd (fs:List (Str×V))
  |met (f x:Addr)
  |rng (lo hi:Int)
  |frz (o:Obj) (u:HO)
  |tbl (ps:Array Value)
  |ext (φ:Heap->Prop)
abbrev Hp:=Sx->SG HO
variable{H:Hp}
def upd(H:Hp)(a:Sx)(o:HO):Hp:=λb=>if b=a then some o else H b
def ak{o:HO}:upd H a o a=some o:=by unfold upd;rw[A6 rfl]
def au{o:HO}(h:b≠a):upd H a o b=H b:=by unfold upd;rw[A5 h]
def rq{o u:HO}:upd (upd H a o) a u=upd H a u:=by
 funext b;unfold upd;split<;>rfl
def my{o u:HO}(h:H a=some o)(h':H b=some u)(d:o≠u):a≠b:=by
 intro e;subst e;rw[h] at h';show d (Ad h')
def bz{o:HO}(h:H a=some o)(h':H b=none):a≠b:=by
 intro e;subst e;rw[h] at h';cases h'
section
variable(P:Sy)(w:SB)
def aE(H:Hp)(h:SF)(a:Sx):HO->Prop
 |.lst xs=>xs.length<=sizeLine/\∃(MQ:SD Sv) (n:Nat),ax xs MQ/\h.get? a=some {cls:= .type "list",data:= .seq MQ.toArray n}
 |.tup xs=>xs.length<=sizeLine/\∃MQ:SD Sv,ax xs MQ/\IsTup h a MQ.toArray
 |.dK kvs=>kvs.length<=sizeLine/\(a==sysModules)=false/\∃vs,KV kvs vs/\h.DictOf (bV P w) a vs
 |.dT kvs=>kvs.length<=sizeLine/\(a==sysModules)=false/\∃xs:SD (SD Key×Sx×Sv),
   Paired (fun(p:SD Key×V) (q:SD Key×Sx×Sv)=>p.1=q.1/\H q.2.1=some (.tup (p.1.map kV))/\aw p.2 q.2.2) kvs xs/\
   ∃o es ep,h.get? a=some o/\o.ExactDict/\o.data=.dict es ep/\es.toList=xs.map (entryOfKey (tupleKind (bV P w)))/\(xs.map (·.1)).Nodup
 |.set S n=>h.SetOf (intKind P w) a S n
 |.ins C dx fs=>H dx=some (.own a)/\fs.length<=1000/\dx≠a/\h.get? a=some (W.instObj C dx)/\
   ∃mA,h.Ns1 dx mA/\(∀f,cS (fs.lookup f) (mA f))/\PySem.Within mA (fs.map (·.1))
 |.own _=>∃o,h.get? a=some o
 |.xd fs=>∃mA,h.Ns1 a mA/\∀f,cS (fs.lookup f) (mA f)
 |.rng lo hi=>∃t u v,h.get? a=some {cls:= .type "range",data:= .fields #[.int lo t,.int hi u,.int 1 v]}
 |.frz o u=>h.get? a=some o/\aE H h a u
 |.tbl ps=>h.get? a=some {cls:= .none,data:= .fields ps}
 |.met f x=>h.get? a=some (W.methodObj (.ref f) (.ref x))
 |.ext φ=>φ h/\(∃o,h.get? a=some o)/\∀h1 h2:SF,φ h1->(∀o,h1.get? a=some o->h2.get? a=some o)->φ h2
def HOk(H:Hp)(h:SF):Prop:=∀a o,H a=some o->aE P w H h a o
end
section
variable{P:Sy}{w:SB}{H H':Hp}{h h':SF}{a:Sx}{o:HO}
def aE.lt(x:aE P w H h a o):a<h.objs.size:=by
 cases o with
 |lst xs=>have{_,_,_,_,e}:=x;show AQ e
 |tup xs=>have{_,_,_,p}:=x;show p.lt
 |dK kvs=>have{_,_,_,_,o,_,_,e,_}:=x;show AQ e
 |dT kvs=>have{_,_,_,_,o,_,_,e,_}:=x;show AQ e
 |set S n=>have{o,_,_,_,e,_}:=x;show AQ e
 |ins C dx fs=>have{_,_,_,e,_}:=x;show AQ e
 |own y=>have{_,e}:=x;show AQ e
 |xd fs=>have{_,{_,_,_,e,_},_}:=x;show AQ e
 |rng lo hi=>have{_,_,_,e}:=x;show AQ e
 |frz ob u=>have{e,_}:=x;show AQ e
 |tbl ps=>show AQ (show h.get? a=some _ from x)
 |met f y=>show AQ (show h.get? a=some _ from x)
 |ext φ=>have{_,{_,e},_}:=x;show AQ e
def Paired.mapP{α β:Type}{F G:α->β->Prop}:∀{l₁:SD α}{l₂:SD β},Paired F l₁ l₂->(∀a b,F a b->G a b)->Paired G l₁ l₂:=by
 intro l₁ l₂ h f;induction h with
 |nil=>show .nil
 |cons r t ih=>show .cons (f _ _ r) ih
def aE.stay(x:aE P w H h a o)(k:∀b u,(b=a\/H b=some (.own a))->h.get? b=some u->h'.get? b=some u)
  (ho:∀b,H b=some (.own a)->H' b=some (.own a)) (ht:∀b xs,H b=some (.tup xs)->H' b=some (.tup xs)):aE P w H' h' a o:=by
 induction o with
 |lst xs=>have{z,MQ,n,r,e}:=x;show{z,MQ,n,r,k _ _ (.inl rfl) e}
 |tup xs=>have{z,MQ,r,ob,e,c}:=x;show{z,MQ,r,ob,k _ _ (.inl rfl) e,c}
 |dK kvs=>have{z,y,vs,r,ob,es,ep,e,c}:=x;show{z,y,vs,r,ob,es,ep,k _ _ (.inl rfl) e,c}
 |dT kvs=>
  have{z,y,xs,r,ob,es,ep,e,c}:=x;show{z,y,xs,Paired.mapP r λp q z=>{z.1,ht _ _ z.2.1,z.2.2},ob,es,ep,k _ _ (.inl rfl) e,c}
 |set S n=>have{ob,es,ep,t,e,c}:=x;show{ob,es,ep,t,k _ _ (.inl rfl) e,c}
 |ins C dx fs=>
  have{d,z,ne,e,mA,{od,es,ep,e2,c},r}:=x;show{ho _ d,z,ne,k _ _ (.inl rfl) e,mA,{od,es,ep,k _ _ (.inr d) e2,c},r}
 |own y=>have{ob,e}:=x;show{ob,k _ _ (.inl rfl) e}
 |xd fs=>have{mA,{od,es,ep,e,c},r}:=x;show{mA,{od,es,ep,k _ _ (.inl rfl) e,c},r}
 |rng lo hi=>have{t,u,v,e}:=x;show{t,u,v,k _ _ (.inl rfl) e}
 |frz ob u ih=>have{e,q}:=x;show{k _ _ (.inl rfl) e,ih q}
 |tbl ps=>
  have e:h.get? a=some {cls:= .none,data:= .fields ps}:=x;change h'.get? a=some {cls:= .none,data:= .fields ps};show k a _ (.inl rfl) e
 |met f y=>
  have e:h.get? a=some (W.methodObj (.ref f) (.ref y)):=x;change h'.get? a=some (W.methodObj (.ref f) (.ref y));show k a _ (.inl rfl) e
 |ext φ=>have{p,{o,e},st}:=x;show{st _ _ p λo q=>k _ _ (.inl rfl) q,{o,k _ _ (.inl rfl) e},st}
theorem HOk.lt(x:HOk P w H h)(e:H a=some o):a<h.objs.size:=(x a o e).lt
def HOk.fresh(x:HOk P w H h)(e:h.objs.size<=a):H a=none:=by
 cases q:H a with
 |none=>rfl
 |some u=>show absurd (Am (x.lt q) e) (BU _)
def HOk.kept(x:HOk P w H h)(k:∀b u,h.get? b=some u->h'.get? b=some u):HOk P w H h':=λa o e=>
 (x a o e).stay (λb u _ q=>k b u q) (λ_ q=>q) λ_ _ q=>q
theorem HOk.laid(x:HOk P w H h)(k:∀b u,h.get? b=some u->h'.get? b=some u)(hp:h.objs.size<=a)(new:aE P w (upd H a o) h' a o):HOk P w (upd H a o) h':=λb u e=>by
 have hn:=x.fresh hp;by_cases hb:b=a
 .subst hb;rw[ak] at e;cases e;show new
 .rw[au hb] at e;show(x b u e).stay (λc v _ q=>k c v q) (λc q=>by rw[au (bz q hn)];show q) λc xs q=>by rw[au (bz q hn)];show q
end
def Rd(H:Hp)(a:Sx)(u:HO):Prop:=H a=some u\/∃o,H a=some (.frz o u)
def Rd.ok{u:HO}(r:Rd H a u)(x:HOk P w H h):aE P w H h a u:=by
 rcases r with r|⟨o,r⟩
 .show x a u r
 .have{_,q}:=x a _ r;show q
def Mut:SG HO->Prop
 |some (.lst _)=>True
 |some (.dK _)=>True
 |some (.dT _)=>True
 |some (.set _ _)=>True
 |some (.ins _ _ _)=>True
 |some (.ext _)=>True
 |_=>False
section
variable{P:Sy}{w:SB}{H:Hp}{h h':SF}{x e:Sx}{o':HO}
theorem HOk.write(ok:HOk P w H h)(mu:Mut (H x))(he:e=x\/H e=some (.own x))(k:∀b u,b≠e->h.get? b=some u->h'.get? b=some u)(heo:∃u,h'.get? e=some u)
  (new:aE P w (upd H x o') h' x o'):HOk P w (upd H x o') h':=λb u q=>by
 have nown:∀c y,H c=some (.own y)->c≠x:=λc y r z=>by subst z;rw[r] at mu;show mu
 have ntup:∀c xs,H c=some (.tup xs)->c≠x:=λc xs r z=>by subst z;rw[r] at mu;show mu
 by_cases hb:b=x
 .subst hb;rw[ak] at q;cases q;show new
 .rw[au hb] at q;by_cases RA:b=e
  .have q':H b=some (.own x):=by
    rcases he with z|z
    .show absurd (RA.trans z) hb
    .rw[RA];show z
   rw[q] at q';cases q';have{v,hv}:=heo;show{v,by rw[RA];show hv}
  .show(ok b u q).stay (λc v hc r=>k c v ?_ r) (λc r=>by rw[au (nown c b r)];show r) λc xs r=>by rw[au (ntup c xs r)];show r
   rcases hc with rfl|hc
   .show RA
   .rintro rfl;rcases he with z|z
    .show nown c b hc z
    .rw[hc] at z;cases z;show hb rfl
end
structure Un(fs ex:SD Sx)(H H':Hp)(h h':SF):Prop where
 keep:∀b o,h.get? b=some o->H b=none->b∉fs->b∉ex->h'.get? b=some o
 slot:∀b o,h.get? b=some o->H b=none->b∈fs->b∉ex->∃sl,h'.get? b=some {o with slots:=sl}
 free:∀b o,h.get? b=some o->H b=none->b∉ex->H' b=none
 there:∀b o,h.get? b=some o->b∉ex->∃o',h'.get? b=some o'
 tups:∀b xs,H b=some (.tup xs)->H' b=some (.tup xs)
 frzs:∀b o u,H b=some (.frz o u)->H' b=some (.frz o u)
 tbls:∀b ps,H b=some (.tbl ps)->∃more,H' b=some (.tbl (ps++more))
section
variable{fs fs' ex ex':SD Sx}{H H1 H2:Hp}{h h1 h2 h':SF}{a x e:Sx}{o:HO}
def Un.any(u:Un fs ex H H1 h h1){ob:Obj}(q:h.get? b=some ob)(n:H b=none)(hx:b∉ex):∃sl,h1.get? b=some {ob with slots:=sl}:=by
 by_cases hb:b∈fs
 .show u.slot b ob q n hb hx
 .show{ob.slots,u.keep b ob q n hb hx}
theorem Un.kept(k:∀b u,h.get? b=some u->h'.get? b=some u):Un fs ex H H h h':=
 {λb ob q _ _ _=>k b ob q,λb ob q _ _ _=>{ob.slots,k b ob q},λ_ _ _ n _=>n,λb ob q _=>{ob,k b ob q},λ_ _ q=>q,λ_ _ _ q=>q,λ_ ps q=>{#[],by rw[q];simp}}
def Un.refl:Un fs ex H H h h:=Un.kept λ_ _ q=>q
theorem Un.laid(k:∀b u,h.get? b=some u->h'.get? b=some u)(hp:h.objs.size<=a)(hn:H a=none):Un fs ex H (upd H a o) h h' where
 keep:=λb u q _ _ _=>k b u q
 slot:=λb u q _ _ _=>{u.slots,k b u q}
 free:=λb u q n _=>by rw[au (AR (Am (AQ q) hp))];show n
 there:=λb u q _=>{u,k b u q}
 tups:=λb xs q=>by rw[au (bz q hn)];show q
 frzs:=λb u xs q=>by rw[au (bz q hn)];show q
 tbls:=λb ps q=>{#[],by rw[au (bz q hn),q];simp}
def Un.write(mu:Mut (H x))(he:e=x\/H e=some (.own x))(k:∀b u,b≠e->h.get? b=some u->h'.get? b=some u)(heo:∃u,h'.get? e=some u):Un fs ex H (upd H x o) h h':=by
 have hx:∀b,H b=none->b≠x:=λb n z=>by subst z;rw[n] at mu;show mu
 have hb:∀b,H b=none->b≠e:=λb n z=>by
  subst z;rcases he with r|r
  .show hx b n r
  .rw[n] at r;cases r
 have hm:∀b u,H b=some u->¬Mut (some u)->b≠x:=λb u q nm z=>by subst z;rw[q] at mu;show nm mu
 show{λb u q n _ _=>k b u (hb b n) q,λb u q n _ _=>{u.slots,k b u (hb b n) q},λb u q n _=>by rw[au (hx b n)];show n,λb u q _=>?_,
  λb xs q=>by rw[au (hm b _ q λz=>z)];show q,λb u xs q=>by rw[au (hm b _ q λz=>z)];show q,λb ps q=>{#[],by rw[au (hm b _ q λz=>z),q];simp}}
 by_cases RA:b=e
 .subst RA;show heo
 .show{u,k b u RA q}
end
def trk(h:SF)(H:Hp):SD Sx:=(List.range h.objs.size).filter λa=>(H a).isSome
def e7(h:SF)(H:Hp):SF:=W.hideAll h (trk h H)
def yU(h:SF)(H:Hp):(e7 h H).objs.size=h.objs.size:=W.hideAll_size _ _
theorem yV(e:h.get? b=some o)(n:H b=none):(e7 h H).get? b=some o:=
 W.hideAll_get _ e λhm=>by
  have q:(H b).isSome=true:=(Ct.mp hm).2;rw[n] at q;simp at q
def yW(e:(e7 h H).get? b=some o):h.get? b=some o/\H b=none:=by
 have e':h.get? b=some o:=W.of_hideAll (trk h H) e;show{e',?_};cases q:H b with
 |none=>rfl
 |some x=>
  have hm:b∈trk h H:=Ct.mpr {AY.mpr (AQ e'),by simp[q]};have z:(e7 h H).get? b=none:=W.hideAll_none (trk h H) hm;rw[z] at e;cases e
def yX(g h:SF)(L:Sx):SD (Sx×Obj):=(List.range h.objs.size).filterMap λa=>if a=L\/(g.get? a).isSome=true then none else(h.get? a).map λo=>(a,o)
def aS(g h:SF)(L d:Sx):SD (Sx×Obj):=(yX g h L).filter λp=>decide (p.1≠d)
structure Mod(K:W.Frag)(mg:Str->SG Sv)(base:SF):Prop where
 kin:K.In base
 glob:base.Ns mainGlobals mg
 blt:∃mb,base.Ns builtinsNs mb/\∀x:Str,x≠"__name__"->mb x=bootBuiltins x
 nolimit:base.NoLimit
structure Cx where
 prog:Program
 w:World
 K:W.Frag
 mg:Str->Option Value
 base:Heap
 A:Around
 N:List Str
 s₀:Shared
 H₀:Hp
 env:Env
 outer:List Env
 stack:List Env
 ex:List Addr
 fn:Str->Bool
 calm:Bool
 pn:List (Addr×Obj)
 xe:Value->Shared->Prop
variable{X:Cx}
def frs(l:SD Env):SD Sx:=l.filterMap (·.frame)
abbrev Cx.fs(X:Cx):SD Sx:=frs X.outer
def Vis(sc:Scope)(x:Str):Prop:=sc.names.lookup x=some .local\/sc.names.lookup x=some .cell\/sc.names.lookup x=some .free
def Loc(sc:Scope)(x:Str):Prop:=sc.names.lookup x=some .local\/sc.names.lookup x=some .cell
def yY(env:Env)(h:SF)(m:Str->SG Sv)(x:Str)(u:Sv):Prop:=
 (env.kindOf x=some .local/\m x=some u)\/((env.kindOf x=some .cell\/env.kindOf x=some .free)/\∃c,env.cells.lookup x=some c/\h.IsCell c (some u))
structure Cx.Ok(X:Cx):Prop where
 mod:Mod X.K X.mg X.base
 kind:X.env.scope.kind=.function
 glob:X.env.globals=mainGlobals
 blt:X.env.builtins=builtinsNs
 above:X.s₀.heap.objs.size<=X.env.locals
 inj:∀x y c,X.env.cells.lookup x=some c->X.env.cells.lookup y=some c->x=y
 has:∀x,(X.env.kindOf x=some .cell\/X.env.kindOf x=some .free)->∃c,X.env.cells.lookup x=some c
 cab:∀x c,X.fn x=true->X.env.cells.lookup x=some c->X.s₀.heap.objs.size<=c
 hd:X.calm=true->X.A.handled=none
 frames:X.A.frames=some X.stack
 stk:X.stack=X.outer\/(X.stack=X.env::X.outer/\X.env.frame=some X.env.locals)
 exf:∀b∈X.ex,b≠X.env.locals/\∀x c,X.env.cells.lookup x=some c->c≠b
 bs:∀b o,X.base.get? b=some o->X.s₀.heap.get? b=some o/\X.H₀ b=none
 bsz:X.base.objs.size<=X.s₀.heap.objs.size
 noex:∀b o,X.base.get? b=some o->b∉X.ex
 exfs:∀b∈X.ex,b∉X.fs
 funs:X.s₀.heap.FunFrames X.base X.outer
 frf:∀b∈X.fs,X.H₀ b=none
structure Inv(X:Cx)(MO:SD (Sx×Obj))(σ:SD (SG V))(H:Hp)(s:Sw):Prop where
 ok:X.Ok
 os:s.os=X.s₀.os
 bare:AllBare s.gens
 base:Un X.fs X.ex X.H₀ H X.s₀.heap s.heap
 loc:∃m,s.heap.Ns X.env.locals m/\∀(i:Nat) (x:Str) (v:V),X.N[i]? =some x->σ[i]? =some (some v)->Vis X.env.scope x->∃u,aw v u/\yY X.env s.heap m x u
 cell:∀x c,X.env.cells.lookup x=some c->∃v,s.heap.IsCell c v
 free:H X.env.locals=none
 freeC:∀x c,X.env.cells.lookup x=some c->H c=none
 pin:∀p∈X.pn++MO,s.heap.get? p.1=some p.2/\H p.1=none/\p.1≠X.env.locals/\p.1∉X.fs/\∀v,p.2.data≠ .cell v
 hok:HOk X.prog X.w H s.heap
 len:σ.length=X.N.length
section
variable{X:Cx}{MO:SD (Sx×Obj)}{σ:SD (SG V)}{H H':Hp}{s:Sw}{h':SF}
theorem Cx.Ok.nofr(ok:X.Ok)(e:X.base.get? b=some o):b∉X.fs:=λhb=>by
 have:=(ok.funs.mem hb).1;rw[e] at this;cases this
theorem Inv.bs(I:Inv X MO σ H s):∀b o,X.base.get? b=some o->s.heap.get? b=some o/\H b=none:=λb o e=>
 {I.base.keep b o (I.ok.bs b o e).1 (I.ok.bs b o e).2 (I.ok.nofr e) (I.ok.noex b o e),I.base.free b o (I.ok.bs b o e).1 (I.ok.bs b o e).2 (I.ok.noex b o e)}
def Inv.bk(I:Inv X MO σ H s):∀b o,X.base.get? b=some o->s.heap.get? b=some o:=λb o e=>(I.bs b o e).1
theorem Inv.mod(I:Inv X MO σ H s):Mod X.K X.mg X.base:=I.ok.mod
def Inv.kIn(I:Inv X MO σ H s):X.K.In s.heap:=I.ok.mod.kin.keeps I.bk
def Inv.lt(I:Inv X MO σ H s):X.env.locals<s.heap.objs.size:=by have{_,hn,_}:=I.loc;show hn.lt
def Inv.sz(I:Inv X MO σ H s):X.s₀.heap.objs.size<=s.heap.objs.size:=BA I.ok.above (Ah I.lt)
theorem Inv.nofs(I:Inv X MO σ H s)(h:s.heap.objs.size<=a):a∉X.fs:=λhb=>by
 have{_,o,ho,_}:=I.ok.funs.mem hb;show absurd (Am (AQ ho) (BA I.sz h)) (BU _)
theorem Inv.cne(I:Inv X MO σ H s):∀x c,X.env.cells.lookup x=some c->c≠X.env.locals:=λx c e z=>by
 have{v,o,ho,hd}:=I.cell x c e;have{m,{o',es,ep,NK,ON,_},_}:=I.loc;rw[z,NK] at ho;cases ho;rw[ON] at hd;cases hd
def Inv.funs(I:Inv X MO σ H s):s.heap.FunFrames X.base X.outer:=by
 have all:∀(l:SD Env),(∀b∈frs l,b∈X.fs)->X.s₀.heap.FunFrames X.base l->s.heap.FunFrames X.base l:=by
  intro l;induction l with
  |nil=>intro _ _;trivial
  |cons env r ih=>
   intro hs hl;have{hk,{L,o,hf,hn,ho,hd},hr}:=hl;have hL:L∈X.fs:=hs L (by unfold frs;rw[Co,hf];show Aa);have{sl,e}:=I.base.slot L o ho (I.ok.frf L hL) hL λz=>I.ok.exfs L z hL;show{hk,{L,_,hf,hn,e,hd},ih (λb hb=>hs b (by unfold frs;rw[Co,hf];show AT _ hb)) hr}
 show all X.outer (λ_ hb=>hb) I.ok.funs
def Inv.stack(I:Inv X MO σ H s):s.heap.FunFrames X.base X.stack:=by
 rcases I.ok.stk with e|⟨e,hf⟩
 .rw[e];show I.funs
 .rw[e];have{m,hn,_}:=I.loc;show .cons (by rw[I.ok.kind];decide) hf hn ?_ I.funs;show Heap.get?_none_of_le (BA I.ok.bsz I.ok.above)
theorem Inv.stkSub(I:Inv X MO σ H s):∀b∈frs X.stack,b∈X.env.locals::X.fs:=λb hb=>by
 rcases I.ok.stk with e|⟨e,hf⟩
 .rw[e] at hb;show AT _ hb
 .rw[e] at hb;unfold frs at hb;rw[Co,hf] at hb;show hb
theorem Inv.stkFree(I:Inv X MO σ H s):∀b∈frs X.stack,H b=none:=λb hb=>by
 rcases AJ.mp (I.stkSub b hb) with e|hb
 .rw[e];show I.free
 .have{_,o,ho,_}:=I.ok.funs.mem hb;show I.base.free b o ho (I.ok.frf b hb) λz=>I.ok.exfs b z hb
def Inv.step{g':Array GenState}{t':Nat}{d':Drawn}(I:Inv X MO σ H s)
  (OD:∀b∈ch,(b∈X.ex\/X.s₀.heap.objs.size<=b)/\b≠X.env.locals/\(∀x c,X.env.cells.lookup x=some c->c≠b)/\∀p∈X.pn++MO,p.1≠b)
  (keep:∀b o,b≠X.env.locals->b∉X.fs->b∉ch->s.heap.get? b=some o->H b=none->h'.get? b=some o)
  (slot:∀b o,b≠X.env.locals->b∈X.fs->b∉ch->s.heap.get? b=some o->H b=none->∃sl,h'.get? b=some {o with slots:=sl}) (free:∀b o,b∉ch->s.heap.get? b=some o->H b=none->H' b=none)
  (there:∀b o,b∉ch->s.heap.get? b=some o->∃o',h'.get? b=some o')
  (tups:∀b xs,H b=some (.tup xs)->H' b=some (.tup xs)) (frzs:∀b o u,H b=some (.frz o u)->H' b=some (.frz o u)) (tbls:∀b ps,H b=some (.tbl ps)->∃more,H' b=some (.tbl (ps++more)))
  (ns:∀m,s.heap.Ns X.env.locals m->h'.Ns X.env.locals m) (hok:HOk X.prog X.w H' h') (hg:AllBare g'):
  Inv X MO σ H' {s with heap:=h',gens:=g',drawn:=d',toks:=t'}:=by
 have neL:∀b o,X.s₀.heap.get? b=some o->b≠X.env.locals:=λb o e=>AR (Am (AQ e) I.ok.above);have neC:∀b o,X.s₀.heap.get? b=some o->b∉X.ex->b∉ch:=λb o e hx hb=>by
  rcases(OD b hb).1 with z|z
  .show hx z
  .show absurd (Am (AQ e) z) (BU _)
 have Q4:∀x c,X.env.cells.lookup x=some c->∀v,s.heap.IsCell c v->h'.IsCell c v:=λx c e v PK=>by
  have{o,ho,hd}:=PK;have nch:c∉ch:=λz=>(OD c z).2.2.1 x c e rfl;by_cases hc:c∈X.fs
  .have{sl,q}:=slot c o (I.cne x c e) hc nch ho (I.freeC x c e);show{_,q,hd}
  .show{o,keep c o (I.cne x c e) hc nch ho (I.freeC x c e),hd}
 show{I.ok,I.os,hg,{λb o e n hb hx=>?_,λb o e n hb hx=>?_,λb o e n hx=>?_,λb o e hx=>?_,λb xs e=>tups b xs (I.base.tups b xs e),λb o xs e=>frzs b o xs (I.base.frzs b o xs e),λb ps e=>?_},?_,λx c e=>?_,?_,λx c e=>?_,λp hp=>?_,hok,I.len}
 .show keep b o (neL b o e) hb (neC b o e hx) (I.base.keep b o e n hb hx) (I.base.free b o e n hx)
 .have{sl,e1}:=I.base.slot b o e n hb hx;have{sl',e2}:=slot b _ (neL b o e) hb (neC b o e hx) e1 (I.base.free b o e n hx);show{sl',e2}
 .have{o',e1}:=I.base.there b o e hx;show free b o' (neC b o e hx) e1 (I.base.free b o e n hx)
 .have{o',e1}:=I.base.there b o e hx;show there b o' (neC b o e hx) e1
 .have{m1,e1}:=I.base.tbls b ps e;have{m2,e2}:=tbls b _ e1;show{m1++m2,by rw[e2,Array.append_assoc]}
 .have{m,hn,hl}:=I.loc;show{m,ns m hn,λi x v e1 e2 e3=>?_};have{u,r,l}:=hl i x v e1 e2 e3;show{u,r,?_};rcases l with l|⟨k,c,e,z⟩
  .show .inl l
  .show .inr {k,c,e,Q4 x c e _ z}
 .have{v,z}:=I.cell x c e;show{v,Q4 x c e v z}
 .have{m,{o,_,_,ho,_},_}:=I.loc;show free _ o (λz=>(OD _ z).2.1 rfl) ho I.free
 .have{v,o,ho,hd}:=I.cell x c e;show free c o (λz=>(OD c z).2.2.1 x c e rfl) ho (I.freeC x c e)
 .have{e,n,ne,nf,d}:=I.pin p hp;have nch:p.1∉ch:=λz=>(OD p.1 z).2.2.2 p hp rfl;show{keep p.1 p.2 ne nf nch e n,free p.1 p.2 nch e n,ne,nf,d}
def Inv.un{t':Nat}(I:Inv X MO σ H s)(u:Un X.fs [] H H' s.heap h')(hok:HOk X.prog X.w H' h'):Inv X MO σ H' {s with heap:=h',toks:=t'}:=by
 have{m,{o,es,ep,ho,r},_}:=id I.loc;have{sl,hL}:=u.any ho I.free (by simp);show I.step (g':=s.gens) (d':=s.drawn) (ch:=[]) (λ_ z=>nomatch z) (λb o _ hb _ e n=>u.keep b o e n hb (by simp)) (λb o _ hb _ e n=>u.slot b o e n hb (by simp)) (λb o _ e n=>u.free b o e n (by simp)) (λb o _ e=>u.there b o e (by simp)) u.tups u.frzs u.tbls (λm' hm=>by
  have{o',Nq,Oj,NK,r'}:=hm;rw[ho] at NK;cases NK;show{_,Nq,Oj,hL,r'}) hok I.bare
def Inv.call{g':Array GenState}{t':Nat}{d':Drawn}(I:Inv X MO σ H s)(u:Un (frs X.stack) ch H H' s.heap h')(hok:HOk X.prog X.w H' h')(hg:AllBare g')
  (OD:∀b∈ch,(b∈X.ex\/X.s₀.heap.objs.size<=b)/\b≠X.env.locals/\(∀x c,X.env.cells.lookup x=some c->c≠b)/\∀p∈X.pn++MO,p.1≠b):
  Inv X MO σ H' {s with heap:=h',gens:=g',drawn:=d',toks:=t'}:=by
 have{m,{o,es,ep,ho,r},_}:=id I.loc;have{sl,hL}:=u.any ho I.free λz=>(OD _ z).2.1 rfl;show I.step (ch:=ch) OD (λb o hL hb hc e n=>u.keep b o e n (λz=>(AJ.mp (I.stkSub b z)).elim hL hb) hc) (λb o _ _ hc e n=>u.any e n hc) (λb o hc e n=>u.free b o e n hc) (λb o hc e=>u.there b o e hc) u.tups u.frzs u.tbls (λm' hm=>by
  have{o',Nq,Oj,NK,r'}:=hm;rw[ho] at NK;cases NK;show{_,Nq,Oj,hL,r'}) hok hg
def Inv.turned{t':Nat}(I:Inv X MO σ H s)(k:∀b o,b≠it->s.heap.get? b=some o->h'.get? b=some o)(hn:H it=none)(hL:it≠X.env.locals)
  (h1:it∈X.ex\/X.s₀.heap.objs.size<=it) (h2:∀x c,X.env.cells.lookup x=some c->c≠it) (h3:∀p∈X.pn++MO,p.1≠it):Inv X MO σ H {s with heap:=h',toks:=t'}:=by
 have nit:∀b u,H b=some u->b≠it:=λb u e z=>by rw[z,hn] at e;cases e
 show I.step (g':=s.gens) (d':=s.drawn) (ch:=[it]) (λb hb=>?_) (λb o _ _ hc e _=>k b o (λz=>hc (by simp[z])) e) (λb o _ _ hc e _=>{o.slots,k b o (λz=>hc (by simp[z])) e}) (λ_ _ _ _ n=>n)
  (λb o hc e=>{o,k b o (λz=>hc (by simp[z])) e}) (λ_ _ e=>e) (λ_ _ _ e=>e) (λb ps e=>{#[],by rw[e];simp}) (λm hm=>?_) (λb u e=>?_) I.bare
 .have e:b=it:=by simpa using hb
  subst e;show{h1,hL,h2,h3}
 .have{o,es,ep,ho,r}:=hm;show{o,es,ep,k _ o (BG hL) ho,r}
 .show(I.hok b u e).stay (λc v hc q=>k c v ?_ q) (λ_ q=>q) λ_ _ q=>q;rcases hc with z|z
  .rw[z];show nit b u e
  .show nit c _ z
def Inv.tok(I:Inv X MO σ H s)(t:Nat):Inv X MO σ H {s with toks:=t}:=I.un (h':=s.heap) (t':=t) Un.refl I.hok
theorem Inv.kept{t':Nat}(I:Inv X MO σ H s)(k:∀b u,s.heap.get? b=some u->h'.get? b=some u):Inv X MO σ H {s with heap:=h',toks:=t'}:=I.un (Un.kept k) (I.hok.kept k)
theorem Inv.laid{a:Sx}{o:HO}{t':Nat}(I:Inv X MO σ H s)(k:∀b u,s.heap.get? b=some u->h'.get? b=some u)(hp:s.heap.objs.size<=a)(new:aE X.prog X.w (upd H a o) h' a o):
  Inv X MO σ (upd H a o) {s with heap:=h',toks:=t'}:=I.un (Un.laid k hp (I.hok.fresh hp)) (I.hok.laid k hp new)
theorem Inv.write{x e:Sx}{o:HO}{t':Nat}(I:Inv X MO σ H s)(mu:Mut (H x))(he:e=x\/H e=some (.own x))(k:∀b u,b≠e->s.heap.get? b=some u->h'.get? b=some u)(heo:∃u,h'.get? e=some u)
  (new:aE X.prog X.w (upd H x o) h' x o):Inv X MO σ (upd H x o) {s with heap:=h',toks:=t'}:=I.un (Un.write mu he k heo) (I.hok.write mu he k heo new)
def Inv.weak{σ':SD (SG V)}(I:Inv X MO σ H s)(hl:σ'.length=σ.length)(w:∀(i:Nat) v,σ'[i]? =some (some v)->σ[i]? =some (some v)):Inv X MO σ' H s:=
 {I.ok,I.os,I.bare,I.base,let ⟨m,hn,Qz⟩:=I.loc;{m,hn,λi x v e1 e2 e3=>Qz i x v e1 (w i v e2) e3},I.cell,I.free,I.freeC,I.pin,I.hok,hl.trans I.len}
def Inv.pins_of{Q5:SD (Sx×Obj)}(I:Inv X MO σ H s)(h:∀p∈Q5,s.heap.get? p.1=some p.2/\H p.1=none/\p.1≠X.env.locals/\p.1∉X.fs/\∀v,p.2.data≠ .cell v):Inv X Q5 σ H s:=
 {I.ok,I.os,I.bare,I.base,I.loc,I.cell,I.free,I.freeC,λp hp=>(BP.mp hp).elim (λz=>I.pin p (List.mem_append_left _ z)) (h p),I.hok,I.len}
def rA(hN:N.Nodup)(a:N[i]? =some x)(b:N[j]? =some x):i=j:=by
 have{h1,e1}:=A8.mp a;have{h2,e2}:=A8.mp b;show(List.getElem_inj hN).mp (e1.trans e2.symm)
def yZ{M:Model}{A:SC}{E:Sv->Sw->Prop}{Q:Unit->Sw->Prop}(I:Inv X MO σ H s)(hN:X.N.Nodup)(hi:X.N[i]? =some x)(hx:Loc X.env.scope x)(r:aw v u)
  (h:∀s',Inv X MO (σ.set i (some v)) H s'->(∃a,Heap.SameBut a s.heap s'.heap/\(a=X.env.locals\/X.env.cells.lookup x=some a))->Q () s') (hf:X.fn x=true\/X.env.scope.names.lookup x=some .local:=by trivial):wpAny M A (storeName X.env x u) Q E s:=by
 have{m,hn,hl}:=id I.loc;have hcls:(X.env.scope.kind== .class||(X.env.scope.kind== .module&&X.env.locals !=X.env.globals))=false:=by rw[I.ok.kind];rfl
 have hiσ:i<σ.length:=by rw[I.len];show(A8.mp hi).1
 have cne:=I.cne;have O9:∀{a:Sx}{h':SF},(∃o,s.heap.get? a=some o/\H a=none)->Heap.SameBut a s.heap h'->HOk X.prog X.w H h':=fun{a h'} ha hs b ob e=>by
  have{_,_,NL}:=ha;show(I.hok b ob e).stay (λc w' hc q=>(hs.2 c ?_).trans q) (λ_ q=>q) λ_ _ q=>q;rintro rfl;rcases hc with rfl|hc
  .rw[NL] at e;cases e
  .rw[NL] at hc;cases hc
 rcases hx with hk|hk
 .show wpAny_storeName_local hk hn (λh' Q6 hs=>?_) hcls;have{oL,_,_,Qp,_}:=id hn;show h _ {I.ok,I.os,I.bare,{λb o e n hb hx=>?_,λb o e n hb hx=>?_,I.base.free,λb o e hx=>?_,I.base.tups,I.base.frzs,I.base.tbls},{_,Q6,λj y v' e1 e2 e3=>?_},λy c e=>?_,I.free,I.freeC,λp hp=>?_,O9 {oL,Qp,I.free} hs,by simpa using I.len} {_,hs,.inl rfl}
  .show(hs.2 b (AR (Am (AQ e) I.ok.above))).trans (I.base.keep b o e n hb hx)
  .have{sl,e1}:=I.base.slot b o e n hb hx;show{sl,(hs.2 b (AR (Am (AQ e) I.ok.above))).trans e1}
  .have{o',e1}:=I.base.there b o e hx;show{o',(hs.2 b (AR (Am (AQ e) I.ok.above))).trans e1}
  .by_cases hj:j=i
   .subst hj;rw[hi] at e1;cases e1;rw[List.getElem?_set_self hiσ] at e2;cases e2;show{u,r,.inl {hk,7}}
   .rw[Cg (BG hj)] at e2;have{u',r',q}:=hl j y v' e1 e2 e3;show{u',r',?_};rcases q with⟨k,e⟩|⟨k,c,e,z⟩
    .show .inl {k,?_};have:y≠x:=λe=>hj (rA hN e1 (e▸hi));simp[this,e]
    .show .inr {k,c,e,z.sameBut hs (cne y c e)}
  .have{w',z}:=I.cell y c e;show{w',z.sameBut hs (cne y c e)}
  .have{e,n,ne,nf,d}:=I.pin p hp;show{(hs.2 p.1 ne).trans e,n,ne,nf,d}
 .have hfn:X.fn x=true:=by
   rcases hf with z|z
   .show z
   .rw[z] at hk;cases hk
  have{c,hc}:=I.ok.has x (.inl hk);have{w',z}:=I.cell x c hc;show wpAny_storeName_cell I.ok.kind hk hc z (λh' hc' hs=>?_);have{oc,hoc,hocd}:=id z;show h {s with heap:=h'} {I.ok,I.os,I.bare,{λb o e n hb hx=>?_,λb o e n hb hx=>?_,I.base.free,λb o e hx=>?_,I.base.tups,I.base.frzs,I.base.tbls},{m,hn.sameBut hs (BG (cne x c hc)),λj y v' e1 e2 e3=>?_},λy c' e=>?_,I.free,I.freeC,λp hp=>?_,O9 {oc,hoc,I.freeC x c hc} hs,by simpa using I.len} {c,hs,.inr hc}
  .show(hs.2 b (AR (Am (AQ e) (I.ok.cab x c hfn hc)))).trans (I.base.keep b o e n hb hx)
  .have{sl,e1}:=I.base.slot b o e n hb hx;show{sl,(hs.2 b (AR (Am (AQ e) (I.ok.cab x c hfn hc)))).trans e1}
  .have{o',e1}:=I.base.there b o e hx;show{o',(hs.2 b (AR (Am (AQ e) (I.ok.cab x c hfn hc)))).trans e1}
  .by_cases hj:j=i
   .subst hj;rw[hi] at e1;cases e1;rw[List.getElem?_set_self hiσ] at e2;cases e2;show{u,r,.inr {.inl hk,c,hc,hc'}}
   .rw[Cg (BG hj)] at e2;have{u',r',q}:=hl j y v' e1 e2 e3;show{u',r',?_};rcases q with q|⟨k,c',e,z'⟩
    .show .inl q
    .show .inr {k,c',e,z'.sameBut hs ?_};rintro rfl;show hj (rA hN e1 (I.ok.inj _ _ _ e hc▸hi))
  .by_cases hcc:c'=c
   .subst hcc;show{_,hc'}
   .have{w2,z2}:=I.cell y c' e;show{w2,z2.sameBut hs hcc}
  .have{e,n,ne,nf,d}:=I.pin p hp;show{(hs.2 p.1 ?_).trans e,n,ne,nf,d};intro q;rw[q,hoc] at e;have q':oc=p.2:=Ad e;show d w' (by rw[<-q'];show hocd)
theorem j'{M:Model}{A:SC}{E:Sv->Sw->Prop}{Q:Unit->Sw->Prop}(I:Inv X MO σ H s)(hN:X.N.Nodup)(hi:X.N[i]? =some x)(hx:Loc X.env.scope x)(r:aw v u)
  (h:∀s',Inv X MO (σ.set i (some v)) H s'->Q () s') (hf:X.fn x=true\/X.env.scope.names.lookup x=some .local:=by trivial):wpAny M A (storeName X.env x u) Q E s:=
 yZ I hN hi hx r (λs' I' _=>h s' I') hf
def Inv.call'{s':Sw}(I:Inv X MO σ H s)(ho:s'.os=s.os)(u:Un (frs X.stack) ch H H' s.heap s'.heap)(hok:HOk X.prog X.w H' s'.heap)(hg:AllBare s'.gens)
  (OD:∀b∈ch,(b∈X.ex\/X.s₀.heap.objs.size<=b)/\b≠X.env.locals/\(∀x c,X.env.cells.lookup x=some c->c≠b)/\∀p∈X.pn++MO,p.1≠b):Inv X MO σ H' s':=by
 have{h',g',d',t',o'}:=s';have e:o'=s.os:=ho;subst e;show I.call (g':=g') (t':=t') (d':=d') u hok hg OD
end
abbrev XK:=Sv->SG Sx->Hp->Prop
abbrev St:=SD (SG V)
abbrev VK:=V->Hp->Prop
abbrev TE:=St->Hp->VK->Prop
variable{te tl to:TE}
abbrev TT:=St->Hp->(Bool->Hp->Prop)->Prop
abbrev TA:=St->Hp->(SD V->Hp->Prop)->Prop
variable{ta:TA}
structure Ends where
 nx:St->Hp->Prop
 rt:VK
 bk:St->Hp->Prop:=λ_ _=>False
 ct:St->Hp->Prop:=λ_ _=>False
abbrev TS:=Ends->St->Hp->Prop
variable{tb:TS}
abbrev eTo(D:Ends)(n:St->Hp->Prop):Ends:={n,D.rt,D.bk,D.ct}
abbrev eLp(D:Ends)(n:St->Hp->Prop):Ends:={n,D.rt,D.nx,n}
inductive rB(X:Cx)(MO:List (Addr×Obj))(σ:St)(Q:VK)(u:Value)(s':Shared):Prop
 |mk v H':Inv X MO σ H' s'->aw v u->Q v H'->rB X MO σ Q u s'
def EP(X:Cx)(MO:SD (Sx×Obj))(σ:St)(Q:VK)(u:Sv)(s':Sw):Prop:=rB X MO σ Q u s'
inductive rC(X:Cx)(MO:List (Addr×Obj))(σ:St)(Q:Bool->Hp->Prop)(b:Bool)(s':Shared):Prop
 |mk H':Inv X MO σ H' s'->Q b H'->rC X MO σ Q b s'
def TP(X:Cx)(MO:SD (Sx×Obj))(σ:St)(Q:Bool->Hp->Prop)(b:Bool)(s':Sw):Prop:=rC X MO σ Q b s'
inductive rD(X:Cx)(MO:List (Addr×Obj))(σ:St)(Q:List V->Hp->Prop)(us:List Value)(s':Shared):Prop
 |mk vs H':Inv X MO σ H' s'->ax vs us->Q vs H'->rD X MO σ Q us s'
def AP(X:Cx)(MO:SD (Sx×Obj))(σ:St)(Q:SD V->Hp->Prop)(us:SD Sv)(s':Sw):Prop:=rD X MO σ Q us s'
def SP(X:Cx)(MO:SD (Sx×Obj))(D:Ends)(f:Flow)(s':Sw):Prop:=
 match f with
 |.next=>∃σ' H',Inv X MO σ' H' s'/\D.nx σ' H'
 |.brk=>∃σ' H',Inv X MO σ' H' s'/\D.bk σ' H'
 |.cont=>∃σ' H',Inv X MO σ' H' s'/\D.ct σ' H'
 |.ret u=>∃v σ' H',Inv X MO σ' H' s'/\aw v u/\D.rt v H'
def PE(X:Cx)(e:SE)(t:TE):Prop:=
 ∀(MO:SD (Sx×Obj)) (s:Sw) (σ:St) (H:Hp) (Q:VK),Inv X MO σ H s->t σ H Q->wpAny (model X.prog X.w) X.A (eval e X.env) (EP X MO σ Q) X.xe s
def PT(X:Cx)(e:SE)(t:TT):Prop:=
 ∀(MO:SD (Sx×Obj)) (s:Sw) (σ:St) (H:Hp) (Q:Bool->Hp->Prop),Inv X MO σ H s->t σ H Q->wpAny (model X.prog X.w) X.A (isTrue e X.env (eval e X.env)) (TP X MO σ Q) X.xe s
def PW(X:Cx)(e:SE)(t:TT):Prop:=
 ∀(NV:Sem Sv) (MO:SD (Sx×Obj)) (s:Sw) (σ:St) (H:Hp) (Q:Bool->Hp->Prop),Inv X MO σ H s->t σ H Q->wpAny (model X.prog X.w) X.A (isTrue e X.env NV) (TP X MO σ Q) X.xe s
def PW.pt{t:TT}(h:PW X e t):PT X e t:=h _
def PA(X:Cx)(es:SD SE)(t:TA):Prop:=
 ∀(pos:Pos) (MO:SD (Sx×Obj)) (s:Sw) (σ:St) (H:Hp) (Q:SD V->Hp->Prop),Inv X MO σ H s->t σ H Q->wpAny (model X.prog X.w) X.A (spliced (backTo pos (starEach es X.env))) (AP X MO σ Q) X.xe s
def PS(X:Cx)(st:SH)(t:TS):Prop:=
 ∀(MO:SD (Sx×Obj)) (s:Sw) (σ:St) (H:Hp) (D:Ends),Inv X MO σ H s->t D σ H->wpAny (model X.prog X.w) X.A (exec st X.env) (SP X MO D) X.xe s
def PSs(X:Cx)(st:SD SH)(t:TS):Prop:=
 ∀(MO:SD (Sx×Obj)) (s:Sw) (σ:St) (H:Hp) (D:Ends),Inv X MO σ H s->t D σ H->wpAny (model X.prog X.w) X.A (execs st X.env) (SP X MO D) X.xe s
def thn{α:Type}{t:Sem α}{Q Q':α->Sw->Prop}(h:wpAny M A t Q E s)(hQ:∀a s,Q a s->Q' a s):wpAny M A t Q' E s:=Bx h hQ λ_ _ x=>x
section
variable{X:Cx}
inductive tVar(i:Nat)(σ:St)(H:Hp)(Q:VK):Prop
 |mk v:σ[i]? =some (some v)->Q v H->tVar i σ H Q
def tC(v:V):TE:=λ_ H Q=>Q v H
def y4{pos:Pos}(hN:X.N[i]? =some x)(hv:Vis X.env.scope x)(hd:(x==("__debug__":Str))=false:=by decide)(PL:(x==("__classdict__":Str))=false:=by decide):PE X (.Name x pos) (tVar i):=by
 intro MO s σ H Q I h;have{v,e,h}:=h;have{m,hn,hl}:=I.loc;have{u,r,l}:=hl i x v hN e hv;have fin:EP X MO σ Q u s:={v,H,I,r,h};rcases l with⟨hk,hm⟩|⟨hk,c,hc,Nk⟩
 .show wpAny_Name (wpAny_loadName_local I.ok.kind hk hn hm fin) hd
 .rcases hk with hk|hk
  .show wpAny_Name (wpAny_loadName_cell I.ok.kind hk hc Nk fin) hd
  .show wpAny_Name (wpAny_loadName_free I.ok.kind hk hc Nk fin PL) hd
def ag{i j pos}:PE X (.Constant (.int i) j pos) (tC (.int i)):=λ_ _ _ H _ I h=>wpAny_Constant_int {.int i,H,I.tok _,{1},h}
def iS{b j pos}:PE X (.Constant (.bool b) j pos) (tC (.bl b)):=λ_ _ _ H _ I h=>Constant_bool {.bl b,H,I,0,h}
def rE{j pos}:PE X (.Constant .none j pos) (tC .non):=λ_ _ _ H _ I h=>Constant_none {.non,H,I,0,h}
def Gl(X:Cx)(x:Str):Prop:=X.env.kindOf x=some .globalImplicit
theorem rF{E:Sv->Sw->Prop}{σ:St}{pos:Pos}(I:Inv X MO σ H s)(hg:Gl X x)(hm:X.mg x=some u)(h:Q u s)
  (hd:(x==("__debug__":Str))=false:=by decide):wpAny (model X.prog X.w) X.A (eval (.Name x pos) X.env) Q E s:=
 Calls.Name_function_global I.ok.kind hg (Calls.loadGlobal_global (by rw[I.ok.glob];show I.mod.glob.keeps I.bk) hm h) hd
def cY{E:Sv->Sw->Prop}{σ:St}{pos:Pos}(I:Inv X MO σ H s)(hg:Gl X x)(hm:X.mg x=none)(hv:bootBuiltins x=some u)(h:Q u s)
  (hn:x≠"__name__":=by decide) (hd:(x==("__debug__":Str))=false:=by decide):wpAny (model X.prog X.w) X.A (eval (.Name x pos) X.env) Q E s:=by
 have{mb,h1,h2}:=I.mod.blt;show Calls.Name_function_global I.ok.kind hg (Calls.loadGlobal_builtin (by rw[I.ok.glob];show I.mod.glob.keeps I.bk) hm (by rw[I.ok.blt];show h1.keeps I.bk) ((h2 x hn).trans hv) h) hd
theorem ka{pos:Pos}(hg:Gl X x)(hm:X.mg x=some u)(r:aw v u)(hd:(x==("__debug__":Str))=false:=by decide):PE X (.Name x pos) (tC v):=
 λ_ _ _ H _ I h=>rF I hg hm {v,H,I,r,h} hd
theorem iT{pos:Pos}(hg:Gl X x)(hm:X.mg x=none)(hv:bootBuiltins x=some u)(r:aw v u)(hn:x≠"__name__":=by decide)(hd:(x==("__debug__":Str))=false:=by decide):PE X (.Name x pos) (tC v):=
 λ_ _ _ H _ I h=>cY I hg hm hv {v,H,I,r,h} hn hd
variable{a b:SE}{ta tb:TE}{pos:Pos}
def PC(X:Cx)(op:CmpOp)(a b:SE)(t:TE):Prop:=
 ∀(MO:SD (Sx×Obj)) (s:Sw) (σ:St) (H:Hp) (Q:VK),Inv X MO σ H s->t σ H Q->
  wpAny (model X.prog X.w) X.A (eval a X.env) (λv s₁=>wpAny (model X.prog X.w) X.A (eval b X.env) (λu s₂=>wpAny (model X.prog X.w) X.A (compareOp op v u) (EP X MO σ Q) X.xe s₂) X.xe s₁) X.xe s
def y6(b:SE)(h:op≠ .In)(h2:op≠ .NotIn):behindInMarks op b=false:=by
 have e1:(op==CmpOp.In)=false:=by cases op<;>first|rfl|show absurd rfl h
 have e2:(op==CmpOp.NotIn)=false:=by cases op<;>first|rfl|show absurd rfl h2
 cases b<;>first|rfl|(show(_&&(op==CmpOp.In||op==CmpOp.NotIn)&&_)=false;rw[e1,e2,Bool.or_self,Ci,DF])
inductive rG(Q:(Bool->Hp->Prop))(x:V)(H1:Hp):Prop
 |mk c:x=.bl c->Q c H1->rG Q x H1
def tB(t:TE):TT:=λσ H Q=>t σ H λx H1=>rG Q x H1
local macro_rules | `(tactic| rfl') => `(tactic| first|exact y6 _ (by decide) (by decide)|rfl)
def rH{t:TE}(h:PC X op a b t)(h1:behindInMarks op b=false:=by rfl'):PT X (.Compare a [op] [b] pos) (tB t):=by
 intro MO s σ H Q I hw;show wpAny_isTrue_Compare1 (thn (h MO s σ H _ I hw) λv s1 h1=>thn h1 λu s2 h2=>thn h2 λc s3 zu0=>?_) h1;have{x,H1,I1,r1,q1}:=zu0;have{d,0,q}:=q1;cases r1;show Bf {H1,I1,q}
def e9{e:Expr}{t:TE}(h:PE X e t)(he:∀NV,isTrue e X.env NV=(do let v<-NV;standAt e.pos;holding [v] (truthy v)):=by intro _;rfl):PT X e (tB t):=by
 intro MO s σ H Q I hw;show isTrue_plain (thn (h MO s σ H _ I hw) λv s1 zu1=>?_) (he _);have{x,H1,I1,r1,q1}:=zu1;have{d,0,q}:=q1;cases r1;show Bf {H1,I1,q}
variable{tA tB':TT}{aS:SD SE}
def y7(t u:TT):TT:=λσ H Q=>t σ H λc H1=>if c=true then u σ H1 Q else Q false H1
def tOr(t u:TT):TT:=λσ H Q=>t σ H λc H1=>if c=true then Q true H1 else u σ H1 Q
def y8(t:TT):TT:=λσ H Q=>t σ H λc H1=>Q (!c) H1
def rJ(ha:PT X a tA):PW X (.BoolOp .And [a] pos) tA:=by
 intro wh MO s σ H Q I h;show isTrue_and (thn (ha MO s σ H Q I h) λc s1 e=>?_);cases c with
 |true=>show isTrue_and_nil e
 |false=>show e
def gd(ha:PT X a tA):PW X (.BoolOp .Or [a] pos) tA:=by
 intro wh MO s σ H Q I h;show isTrue_or (thn (ha MO s σ H Q I h) λc s1 e=>?_);cases c with
 |false=>show isTrue_or_nil e
 |true=>show e
def rK(ha:PT X a tA)(hb:PW X (.BoolOp .And (b::aS) pos) tB'):PW X (.BoolOp .And (a::b::aS) pos) (y7 tA tB'):=by
 intro wh MO s σ H Q I h;show isTrue_and (thn (ha MO s σ H _ I h) λc s1 zu2=>?_);have{H1,I1,q1}:=zu2;cases c with
 |true=>show hb wh MO s1 σ H1 Q I1 q1
 |false=>show{H1,I1,q1}
def fb(ha:PT X a tA)(hb:PW X (.BoolOp .Or (b::aS) pos) tB'):PW X (.BoolOp .Or (a::b::aS) pos) (tOr tA tB'):=by
 intro wh MO s σ H Q I h;show isTrue_or (thn (ha MO s σ H _ I h) λc s1 zu3=>?_);have{H1,I1,q1}:=zu3;cases c with
 |true=>show{H1,I1,q1}
 |false=>show hb wh MO s1 σ H1 Q I1 q1
def ge(ha:PT X a tA):PT X (.UnaryOp .Not a pos) (y8 tA):=by
 intro MO s σ H Q I h;show isTrue_not (thn (ha MO s σ H _ I h) λc s1 Np=>by have{H1,I1,q}:=Np;show{H1,I1,q})
inductive tAndV_(tb:TE)(σ:St)(Q:VK)(x:V)(H1:Hp):Prop
 |mk c:x=.bl c->(if c=true then tb σ H1 Q else Q (.bl false) H1)->tAndV_ tb σ Q x H1
def y9(ta tb:TE):TE:=λσ H Q=>ta σ H λx H1=>tAndV_ tb σ Q x H1
inductive tOrV_(tb:TE)(σ:St)(Q:VK)(x:V)(H1:Hp):Prop
 |mk c:x=.bl c->(if c=true then Q (.bl true) H1 else tb σ H1 Q)->tOrV_ tb σ Q x H1
def zc(ta tb:TE):TE:=λσ H Q=>ta σ H λx H1=>tOrV_ tb σ Q x H1
inductive tNotV_(Q:VK)(x:V)(H1:Hp):Prop
 |mk c:x=.bl c->Q (.bl (!c)) H1->tNotV_ Q x H1
def zd(ta:TE):TE:=λσ H Q=>ta σ H λx H1=>tNotV_ Q x H1
def mz{op}{t:TE}(h:PE X a t):PE X (.BoolOp op [a] pos) t:=λMO s σ H Q I hw=>BoolOp_one (h MO s σ H Q I hw)
def mB(ha:PE X a ta)(hb:PE X (.BoolOp .And (b::aS) pos) tb):PE X (.BoolOp .And (a::b::aS) pos) (y9 ta tb):=by
 intro MO s σ H Q I h;show BoolOp_and (thn (ha MO s σ H _ I h) λv s1 zu4=>?_);have{x,H1,I1,r1,q1}:=zu4;have{c,0,q1}:=q1;cases r1;show Bf ?_;cases c with
 |true=>show hb MO s1 σ H1 Q I1 q1
 |false=>show{.bl false,H1,I1,0,q1}
def ze(ha:PE X a ta)(hb:PE X (.BoolOp .Or (b::aS) pos) tb):PE X (.BoolOp .Or (a::b::aS) pos) (zc ta tb):=by
 intro MO s σ H Q I h;show BoolOp_or (thn (ha MO s σ H _ I h) λv s1 zu5=>?_);have{x,H1,I1,r1,q1}:=zu5;have{c,0,q1}:=q1;cases r1;show Bf ?_;cases c with
 |false=>show hb MO s1 σ H1 Q I1 q1
 |true=>show{.bl true,H1,I1,0,q1}
def zf(ha:PE X a ta):PE X (.UnaryOp .Not a pos) (zd ta):=by
 intro MO s σ H Q I h;show UnaryOp_ (thn (ha MO s σ H _ I h) λv s1 zu6=>?_);have{x,H1,I1,r1,q1}:=zu6;have{c,0,q1}:=q1;cases r1;show not_of (Bf {.bl (!c),H1,I1,0,q1})
def tIf(t:TT)(ta tb:TE):TE:=λσ H Q=>t σ H λc H1=>if c=true then ta σ H1 Q else tb σ H1 Q
def rL(hc:PT X c tA)(ha:PE X a ta)(hb:PE X b tb):PE X (.IfExp c a b pos) (tIf tA ta tb):=by
 intro MO s σ H Q I h;show wpAny_IfExp (thn (hc MO s σ H _ I h) λd s1 zu7=>?_);have{H1,I1,q1}:=zu7;cases d with
 |true=>show ha MO s1 σ H1 Q I1 q1
 |false=>show hb MO s1 σ H1 Q I1 q1
end
def SqL(K:W.Frag)(H:Hp)(a:Sx)(xs:SD V):Prop:=
 Rd H a (.lst xs)\/
  ∃(o:Obj) (MQ:Array Sv) (n:Nat),K.lookup a=some o/\o.cls=.type "list"/\o.dict=none/\o.data=.seq MQ n/\MQ.size<=sizeLine/\ax xs MQ.toList
def SqT(K:W.Frag)(H:Hp)(a:Sx)(xs:SD V):Prop:=
 Rd H a (.tup xs)\/
  ∃(o:Obj) (MQ:Array Sv) (n:Nat),K.lookup a=some o/\o.cls=.type "tuple"/\o.data=.seq MQ n/\MQ.size<=sizeLine/\ax xs MQ.toList
def zg:Sv->SG V
 |.none=>some .non
 |.bool b=>some (.bl b)
 |.int i _=>some (.int i)
 |.str x _=>some (.str x)
 |.bytes b _=>some (.byt b)
 |.float b _=>some (.flt b)
 |.ref a=>some (.ref a)
 |.type n=>some (.ty n)
 |_=>none
def aw.abs{x:V}(r:aw x u):zg u=some x:=by
 cases x with
 |non=>cases r;rfl
 |bl _=>cases r;rfl
 |int _=>have{t,0}:=r;rfl
 |str _=>have{t,0}:=r;rfl
 |byt _=>have{t,0}:=r;rfl
 |flt _=>have{t,0}:=r;rfl
 |ref _=>cases r;rfl
 |ty _=>cases r;rfl
def aw.inj{x y:V}{u:Sv}(r:aw x u)(q:aw y u):x=y:=Ad (r.abs.symm.trans q.abs)
def ax.inj:∀{xs ys:SD V}{us:SD Sv},ax xs us->ax ys us->xs=ys:=by
 intro xs ys us h;induction h generalizing ys with
 |nil=>intro k;cases k;rfl
 |cons r t ih=>intro k;cases k with|cons r' t'=>rw[r.inj r',ih t']
section
variable{X:Cx}{MO:SD (Sx×Obj)}{σ:St}{H:Hp}{s:Sw}{a:Sx}{xs ys:SD V}
def SqL.of(h:H a=some (.lst xs)):SqL K H a xs:= .inl (.inl h)
def SqT.of(h:H a=some (.tup xs)):SqT K H a xs:= .inl (.inl h)
def Inv.list(I:Inv X MO σ H s)(h:SqL X.K H a xs):∃MQ:SD Sv,ax xs MQ/\PlainL s.heap a MQ.toArray/\xs.length<=sizeLine:=by
 rcases h with h|⟨o,MQ,n,hk,hc,hd,hs,hz,r⟩
 .have{z,MQ,n,r,e}:=h.ok I.hok;show{MQ,r,{_,n,e,0,0,0},z}
 .show{MQ.toList,r,{o,n,I.kIn a o hk,hc,hd,by simpa using hs},?_};have e:=r.length;simp only[Aj] at e;lia
def Inv.tuple(I:Inv X MO σ H s)(h:SqT X.K H a xs):∃MQ:SD Sv,ax xs MQ/\IsTup s.heap a MQ.toArray/\xs.length<=sizeLine:=by
 rcases h with h|⟨o,MQ,n,hk,hc,hs,hz,r⟩
 .have{z,MQ,r,p}:=h.ok I.hok;show{MQ,r,p,z}
 .show{MQ.toList,r,{o,I.kIn a o hk,hc,n,by simpa using hs},?_};have e:=r.length;simp only[Aj] at e;lia
def Inv.list_inj(I:Inv X MO σ H s)(h:SqL X.K H a xs)(h':SqL X.K H a ys):xs=ys:=by
 have{MQ,r,{o,n,e,_,_,d},_}:=I.list h;have{its',r',{o',n',e',_,_,d'},_}:=I.list h';rw[e] at e';cases e';rw[d] at d';injection d' with d1 _;have:MQ=its':=by simpa using congrArg Array.toList d1
 subst this;show r.inj r'
def Inv.tuple_inj(I:Inv X MO σ H s)(h:SqT X.K H a xs)(h':SqT X.K H a ys):xs=ys:=by
 have{MQ,r,{o,e,_,n,d},_}:=I.tuple h;have{its',r',{o',e',_,n',d'},_}:=I.tuple h';rw[e] at e';cases e';rw[d] at d';injection d' with d1 _;have:MQ=its':=by simpa using congrArg Array.toList d1
 subst this;show r.inj r'
end
abbrev Cx.wish(X:Cx)(E:Sv->Sw->Prop):Cx:={X with xe:=E}
abbrev Cx.nox(X:Cx):Cx:=X.wish λ_ _=>False
theorem Cx.Ok.wish{X:Cx}(ok:X.Ok)(E:Sv->Sw->Prop):(X.wish E).Ok:=
 {ok.mod,ok.kind,ok.glob,ok.blt,ok.above,ok.inj,ok.has,ok.cab,ok.hd,ok.frames,ok.stk,ok.exf,ok.bs,ok.bsz,ok.noex,ok.exfs,ok.funs,ok.frf}
def Cx.Ok.unwish(ok:(X.wish E).Ok):X.Ok:=
 {ok.mod,ok.kind,ok.glob,ok.blt,ok.above,ok.inj,ok.has,ok.cab,ok.hd,ok.frames,ok.stk,ok.exf,ok.bs,ok.bsz,ok.noex,ok.exfs,ok.funs,ok.frf}
section
variable{X:Cx}{MO:SD (Sx×Obj)}{σ:St}{H:Hp}{s:Sw}{E:Sv->Sw->Prop}
theorem Inv.wish(I:Inv X MO σ H s)(E:Sv->Sw->Prop):Inv (X.wish E) MO σ H s:={I.ok.wish E,I.os,I.bare,I.base,I.loc,I.cell,I.free,I.freeC,I.pin,I.hok,I.len}
theorem Inv.unwish(I:Inv (X.wish E) MO σ H s):Inv X MO σ H s:={I.ok.unwish,I.os,I.bare,I.base,I.loc,I.cell,I.free,I.freeC,I.pin,I.hok,I.len}
def SP.unwish{D:Ends}{f:Flow}{s':Sw}(h:SP (X.wish E) MO D f s'):SP X MO D f s':=by
 cases f with
 |next=>have{σ',H',I,q}:=h;show{σ',H',I.unwish,q}
 |brk=>have{σ',H',I,q}:=h;show{σ',H',I.unwish,q}
 |cont=>have{σ',H',I,q}:=h;show{σ',H',I.unwish,q}
 |ret u=>have{v,σ',H',I,r,q}:=h;show{v,σ',H',I.unwish,r,q}
theorem PSs.nox{st:SD SH}{t:TS}(h:PSs X.nox st t):PSs X st t:=λMO s σ H D I hw=>
 Bx (h MO s σ H D (I.wish _) hw) (λ_ _ q=>q.unwish) λ_ _ z=>False.elim z
end
section
variable{X:Cx}{st:SH}{aS:SD SH}{t u:TS}{e:SE}{te:TE}{pos:Pos}
def zh:TS:=λD σ H=>D.nx σ H
def zi(t u:TS):TS:=λD σ H=>t (eTo D (u D)) σ H
def aU:PSs X [] zh:=λ_ _ σ H _ I h=>wpAny_execs_nil {σ,H,I,h}
def ai(h1:PS X st t)(h2:PSs X aS u):PSs X (st::aS) (zi t u):=by
 intro MO s σ H D I h;show wpAny_execs_cons (thn (h1 MO s σ H (eTo D (u D)) I h) λf s1 q=>?_);cases f with
 |next=>
  have{σ',H',I',q}:=q;show h2 MO s1 σ' H' D I' q
 |ret v=>show q
 |brk=>show q
 |cont=>show q
def aj(h1:PS X st t):PSs X [st] t:=by
 intro MO s σ H D I h;show wpAny_execs_cons (thn (h1 MO s σ H D I h) λf s1 q=>?_);cases f with
 |next=>show wpAny_execs_nil q
 |ret v=>show q
 |brk=>show q
 |cont=>show q
def Inv.quiet{σ:St}(I:Inv X MO σ H s):interactive X.env=false:=by simp[interactive,I.ok.kind]
def zj(te:TE):TS:=λD σ H=>te σ H λ_ H1=>D.nx σ H1
def aL(he:PE X e te)(hs:swapsWith e none pos.line X.env=pure false:=by rfl):PS X (.Expr e pos) (zj te):=by
 intro MO s σ H D I h;show wpAny_Expr_any (thn (he MO s σ H _ I h) λv s1 Np=>by have{x,H1,I1,r1,q1}:=Np;show{σ,H1,I1,q1}) I.quiet hs
def zm(te:TE):TS:=λD σ H=>te σ H D.rt
def ap(he:PE X e te):PS X (.Return (some e) pos) (zm te):=by
 intro MO s σ H D I h;show wpAny_Return_some (thn (he MO s σ H _ I h) λv s1 Np=>by have{x,H1,I1,r1,q1}:=Np;show{x,σ,H1,I1,r1,q1})
def zn(c:TT)(t u:TS):TS:=λD σ H=>c σ H λb H1=>if b=true then t D σ H1 else u D σ H1
def aT{a b:SD SH}{tc:TT}(hc:PT X c tc)(ha:PSs X a t)(hb:PSs X b u):PS X (.If c a b pos) (zn tc t u):=by
 intro MO s σ H D I h;show wpAny_If (thn (hc MO s σ H _ I h) λd s1 zu8=>?_);have{H1,I1,q1}:=zu8;cases d with
 |true=>show ha MO s1 σ H1 D I1 q1
 |false=>show hb MO s1 σ H1 D I1 q1
def zo:TS:=λ_ _ _=>False
def kb:PS X st zo:=λ_ _ _ _ _ _ h=>h.elim
end
abbrev TG:=V->St->Hp->(St->Hp->Prop)->Prop
variable{g:TG}
abbrev TGs:=SD V->St->Hp->(St->Hp->Prop)->Prop
def PG(X:Cx)(NF:SE)(t:TG):Prop:=
 ∀(MO:SD (Sx×Obj)) (s:Sw) (σ:St) (H:Hp) (v:V) (u:Sv) (Q:St->Hp->Prop),Inv X MO σ H s->aw v u->t v σ H Q->
  wpAny (model X.prog X.w) X.A (assign NF X.env u) (λ_ s'=>∃σ' H',Inv X MO σ' H' s'/\Q σ' H') X.xe s
def PGs(X:Cx)(ts:SD SE)(t:TGs):Prop:=
 ∀(MO:SD (Sx×Obj)) (s:Sw) (σ:St) (H:Hp) (vs:SD V) (us:SD Sv) (Q:St->Hp->Prop),Inv X MO σ H s->ax vs us->t vs σ H Q->
  wpAny (model X.prog X.w) X.A (assignInOrder ((assignEach ts X.env).map (·.2)) us) (λ_ s'=>∃σ' H',Inv X MO σ' H' s'/\Q σ' H') X.xe s
abbrev iU:=V->V->V->Hp->(Hp->Prop)->Prop
def mC(X:Cx)(t:iU):Prop:=
 ∀(MO:SD (Sx×Obj)) (s:Sw) (σ:St) (H:Hp) (o i v:V) (ov iv u:Sv) (Q:Hp->Prop),Inv X MO σ H s->aw o ov->aw i iv->aw v u->t o i v H Q->
  wpAny (model X.prog X.w) X.A (setItem ov iv u) (λ_ s'=>∃H',Inv X MO σ H' s'/\Q H') X.xe s
abbrev TIp:=V->V->Hp->VK->Prop
def PIp(X:Cx)(op:Operator)(t:TIp):Prop:=
 ∀(MO:SD (Sx×Obj)) (s:Sw) (σ:St) (H:Hp) (x y:V) (v u:Sv) (Q:VK),Inv X MO σ H s->aw x v->aw y u->t x y H Q->
  wpAny (model X.prog X.w) X.A (inplaceOp op v u) (EP X MO σ Q) X.xe s
section
variable{X:Cx}{pos:Pos}
def cx(i:Nat):TG:=λv σ H Q=>Q (σ.set i (some v)) H
def bN(hN:X.N.Nodup)(hi:X.N[i]? =some x)(hx:Loc X.env.scope x)(hf:X.fn x=true\/X.env.scope.names.lookup x=some .local:=by trivial):PG X (.Name x pos) (cx i):=by
 intro MO s σ H v u Q I r h;show wpAny_assign_Name (j' I hN hi hx r (λs' I'=>{_,H,I',h}) hf)
def kc:TGs:=λvs σ H Q=>vs=[]/\Q σ H
inductive gCons(t:TG)(u:TGs)(vs:List V)(σ:St)(H:Hp)(Q:(St->Hp->Prop)):Prop
 |mk v r:vs=v::r->(t v σ H λσ' H'=>u r σ' H' Q)->gCons t u vs σ H Q
def cg:PGs X [] kc:=by
 intro MO s σ H vs us Q I r h;have{e,h}:=h;subst e;cases r;show assignInOrder_nil {σ,H,I,h}
def aV{t:TG}{u:TGs}(h1:PG X e t)(h2:PGs X es u)
  (hs:(assignEach (e::es) X.env).map (·.2)=assign e X.env::(assignEach es X.env).map (·.2):=by rfl):PGs X (e::es) (gCons t u):=by
 intro MO s σ H vs us Q I r h;have{v,vr,e1,h}:=h;subst e1;cases r with
 |cons r rr=>
  rw[hs];show assignInOrder_cons (thn (h1 MO s σ H _ _ _ I r h) λ_ s1 zu9=>?_);have{σ1,H1,I1,q1}:=zu9;show h2 MO s1 σ1 H1 _ _ Q I1 rr q1
inductive gTup(K:W.Frag)(n:Nat)(t:TGs)(v:V)(σ:St)(H:Hp)(Q:(St->Hp->Prop)):Prop
 |mk a xs:v=.ref a->SqT K H a xs->xs.length=n->t xs σ H Q->gTup K n t v σ H Q
def cy{k:Nat}{t:TGs}(hc:X.calm=true)(h:PGs X es t)
  (hn:(assignEach es X.env).length=n:=by rfl) (M3:(assignEach es X.env).findIdx? (·.1)=none:=by rfl):PG X (.Tuple es k pos) (gTup X.K n t):=by
 intro MO s σ H v u Q I r hw;have{a,xs,e1,hq,hl,hw}:=hw;subst e1;cases r;have{MQ,rv,ht,hz}:=I.tuple hq;show assign_Tuple_tuple (I.ok.hd hc) ht (by simp[hn,<-hl,rv.length]) M3 λh' hx=>?_;have I1:Inv X MO σ H {s with heap:=h'}:=I.kept (t':=s.toks) λb o e=>hx b o (AR (AQ e)) e;show h MO _ σ H xs _ Q I1 (by simpa using rv) hw
def zp(to ti:TE)(t:iU):TG:=λv σ H Q=>to σ H λo H1=>ti σ H1 λi H2=>t o i v H2 λH3=>Q σ H3
def rM{o i:Expr}{ti:TE}{t:iU}(ho:PE X o to)(hi:PE X i ti)(hs:mC X t)
  (ha:∀v,assign (.Subscript o i pos) X.env v=(do
   let ov<-holding [v] (eval o X.env)
   let iv<-holding [v,ov] (eval i X.env)
   standAt pos
   holding [v,ov,iv] (setItem ov iv v)
   release [v,ov,iv] []):=by intro _;rfl):PG X (.Subscript o i pos) (zp to ti t):=by
 intro MO s σ H v u Q I r h;rw[ha];show A0 (Av (thn (ho MO s σ H _ I h) λov s1 zu10=>?_));have{x,H1,I1,r1,q1}:=zu10;show A0 (Av (thn (hi MO s1 σ H1 _ I1 q1) λiv s2 zu11=>?_));have{y,H2,I2,r2,q2}:=zu11;show A0 (wpAny_standAt (A0 (Av (thn (hs MO s2 σ H2 x y v ov iv u _ I2 r1 r2 r q2) λ_ s3 zu12=>?_))));have{H3,I3,q3}:=zu12;show wpAny_release {σ,H3,I3,q3}
def iV(te:TE)(g:TG):TS:=λD σ H=>te σ H λx H1=>g x σ H1 D.nx
def mE(he:PE X e te)(hg:PG X tg g)(hs:swapsWithSole [tg] e pos.line X.env=pure false:=by rfl)(hw:swappedStores [tg] e X.env=pure none:=by rfl)
  (h1:(assignEach [tg] X.env).map (·.2)=[assign tg X.env]:=by rfl):PS X (.Assign [tg] e pos) (iV te g):=by
 intro MO s σ H D I h;show wpAny_Assign_stores (thn (he MO s σ H _ I h) λv s1 zu13=>?_) hs hw;have{x,H1,I1,r1,q1}:=zu13;rw[h1];show thn (hg MO s1 σ H1 x v _ I1 r1 q1) λ_ s2 q=>q
def zq{M8:Pos}(hN:X.N.Nodup)(hi:X.N[i]? =some x)(hx:Loc X.env.scope x)(he:PE X e te)(hs:swapsWith e (some (.Name x M8)) pos.line X.env=pure false:=by rfl)(hf:X.fn x=true\/X.env.scope.names.lookup x=some .local:=by trivial):
  PS X (.Assign [.Name x M8] e pos) (iV te (cx i)):=by
 intro MO s σ H D I h;show wpAny_Assign_Name (thn (he MO s σ H _ I h) λv s1 zu14=>?_) hs;have{y,H1,I1,r1,q1}:=zu14;show j' I1 hN hi hx r1 (λs2 I2=>{_,H1,I2,q1}) hf
inductive tAug(i:Nat)(te:TE)(ti:TIp)(D:Ends)(σ:St)(H:Hp):Prop
 |mk x:σ[i]? =some (some x)->(te σ H λy H1=>ti x y H1 λz H2=>D.nx (σ.set i (some z)) H2)->tAug i te ti D σ H
def gf{op:Operator}{ti:TIp}{M8:Pos}(hN:X.N.Nodup)(hi:X.N[i]? =some x)(hx:Loc X.env.scope x)(he:PE X e te)(ho:PIp X op ti)(hf:X.fn x=true\/X.env.scope.names.lookup x=some .local:=by trivial):
  PS X (.AugAssign (.Name x M8) op e pos) (tAug i te ti):=by
 intro MO s σ H D I h;have{v,e1,h}:=h;have{m,hn,hl}:=I.loc;have vis:Vis X.env.scope x:=by rcases hx with k|k;show .inl k;show .inr (.inl k)
 have{u,r,l}:=hl i x v hi e1 vis;show wpAny_AugAssign_Name ?_;have go:wpAny (model X.prog X.w) X.A (eval e X.env) (λw s₂=>wpAny (model X.prog X.w) X.A (inplaceOp op u w) (λr s₃=>wpAny (model X.prog X.w) X.A (storeName X.env x r) (λ_=>SP X MO D .next) X.xe s₃) X.xe s₂) X.xe s:=by
  show thn (he MO s σ H _ I h) λw s1 zu15=>?_;have{y,H1,I1,r1,q1}:=zu15;show thn (ho MO s1 σ H1 v y u w _ I1 r r1 q1) λz s2 zu16=>?_;have{zv,H2,I2,r2,q2}:=zu16;show j' I2 hN hi hx r2 (λs3 I3=>{_,H2,I3,q2}) hf
 rcases l with⟨hk,hm⟩|⟨hk,c,hc,Nk⟩
 .show wpAny_loadName_local I.ok.kind hk hn hm go
 .rcases hk with hk|hk
  .show wpAny_loadName_cell I.ok.kind hk hc Nk go
  .rcases hx with k|k
   .have:X.env.scope.names.lookup x=some .free:=hk;rw[k] at this;cases this
   .have:X.env.scope.names.lookup x=some .free:=hk;rw[k] at this;cases this
def zr(to ti te:TE)(QA:V->V->Hp->VK->Prop)(tip:TIp)(QB:iU):TS:=λD σ H=>to σ H λo H1=>ti σ H1 λi H2=>QA o i H2 λx H3=>te σ H3 λy H4=>tip x y H4 λz H5=>QB o i z H5 λH6=>D.nx σ H6
def rN(X:Cx)(t:V->V->Hp->VK->Prop):Prop:=
 ∀(MO:SD (Sx×Obj)) (s:Sw) (σ:St) (H:Hp) (o i:V) (ov iv:Sv) (Q:VK),Inv X MO σ H s->aw o ov->aw i iv->t o i H Q->
  wpAny (model X.prog X.w) X.A (getItem ov iv) (EP X MO σ Q) X.xe s
def rO{o i:SE}{ti:TE}{QA:V->V->Hp->VK->Prop}{tip:TIp}{QB:iU}{op:Operator}{N6:Pos}(ho:PE X o to)(hi:PE X i ti)(hg:rN X QA)(he:PE X e te)(hp:PIp X op tip)(hs:mC X QB)
  (ha:∀ov iv new,augStore i ov iv new=(do holding [new,ov,iv] (setItem ov iv new);release [new,ov,iv] [];pure .next):=by intros;rfl):PS X (.AugAssign (.Subscript o i N6) op e pos) (zr to ti te QA tip QB):=by
 intro MO s σ H D I h;show wpAny_AugAssign_SubscriptAny (thn (ho MO s σ H _ I h) λov s1 zu17=>?_) ha;have{x1,H1,I1,r1,q1}:=zu17;show thn (hi MO s1 σ H1 _ I1 q1) λiv s2 zu18=>?_;have{x2,H2,I2,r2,q2}:=zu18;show thn (hg MO s2 σ H2 x1 x2 ov iv _ I2 r1 r2 q2) λNN s3 zu19=>?_;have{x3,H3,I3,r3,q3}:=zu19;show thn (he MO s3 σ H3 _ I3 q3) λv s4 zu20=>?_;have{x4,H4,I4,r4,q4}:=zu20;show thn (hp MO s4 σ H4 x3 x4 NN v _ I4 r3 r4 q4) λnew s5 zu21=>?_;have{x5,H5,I5,r5,q5}:=zu21;show thn (hs MO s5 σ H5 x1 x2 x5 ov iv new _ I5 r1 r2 r5 q5) λ_ s6 Np=>by have{H6,I6,q6}:=Np;show{σ,H6,I6,q6}
inductive ipI(f:Int->Int->Int)(x:V)(y:V)(H:Hp)(Q:VK):Prop
 |mk i j:x=.int i->y=.int j->Q (.int (f i j)) H->ipI f x y H Q
def ke:PIp X .Add (ipI λi j=>i+j):=by
 intro MO s σ H x y v u Q I r1 r2 h;have{i,j,e1,e2,q}:=h;subst e1;subst e2;have{t,0}:=r1;have{t',0}:=r2;show iadd_int {.int _,H,I.tok _,{1},q}
def zt:PIp X .Sub (ipI λi j=>i-j):=by
 intro MO s σ H x y v u Q I r1 r2 h;have{i,j,e1,e2,q}:=h;subst e1;subst e2;have{t,0}:=r1;have{t',0}:=r2;show isub_int {.int _,H,I.tok _,{1},q}
end
structure It where
 go:Nat->Hp->Prop
 yld:Nat->Hp->V->Hp->Prop
 stop:Nat->Hp->Prop
def cz(X:Cx)(MO:SD (Sx×Obj))(H:Hp)(b:Sx):Prop:=
 H b=none/\b≠X.env.locals/\b∉X.fs/\(b∈X.ex\/X.s₀.heap.objs.size<=b)/\(∀x c,X.env.cells.lookup x=some c->c≠b)/\∀p∈X.pn++MO,p.1≠b
def Inv.fpOk{σ:St}{H':Hp}(I:Inv X MO σ H s)(hb:s.heap.objs.size<=b)(hn:H' b=none):cz X MO H' b:=by
 show{hn,Br (Am I.lt hb),I.nofs hb,.inr (BA I.sz hb),λx c e z=>?_,λp hp z=>?_}
 .have{v,q}:=I.cell x c e;show absurd (Am q.lt (by rw[z];show hb)) (BU _)
 .show absurd (Am (AQ (I.pin p hp).1) (by rw[z];show hb)) (BU _)
structure Turn(P:Sy)(w:SB)(K:W.Frag)(tg:SE)(J:It)(fp:SD Sx)(it:Sx)(tn:Nat->SF->Prop):Prop where
 mem:it∈fp
 obj:∀i h,tn i h->∀b∈fp,∃o,h.get? b=some o/\∀v,o.data≠ .cell v
 keep:∀i h h',tn i h->(∀b∈fp,∀o,h.get? b=some o->h'.get? b=some o)->tn i h'
 item:∀(X:Cx),X.prog=P->X.w=w->X.K=K->X.calm=true->∀(i:Nat) (MO:List (Addr×Obj)) (s:Shared) (σ:St) (H:Hp) (E:Value->Shared->Prop),Inv X MO σ H s->(∀b∈fp,cz X MO H b)->tn i s.heap->J.go i H->
  wpAny (model P w) X.A (pyNext (.ref it)) (λr s1=>∃u,r=some u/\
   wpAny (model P w) X.A (letOwnedTupleGo tg (.ref it) u) (λ_ s2=>∃x H',Inv X MO σ H' s2/\aw x u/\J.yld i H x H'/\tn (i+1) s2.heap/\∀b∈fp,H' b=none) E s1) E s
 done:∀(X:Cx),X.prog=P->X.w=w->X.K=K->X.calm=true->∀(i:Nat) (MO:List (Addr×Obj)) (s:Shared) (σ:St) (H:Hp) (E:Value->Shared->Prop),Inv X MO σ H s->(∀b∈fp,cz X MO H b)->tn i s.heap->J.stop i H->
  wpAny (model P w) X.A (pyNext (.ref it)) (λr s1=>r=none/\Inv X MO σ H s1) E s
 self:∀(A:Around) (i:Nat) (s:Shared) (Q:Value->Shared->Prop) (E:Value->Shared->Prop),tn i s.heap->Q (.ref it) s->wpAny (model P w) A (pyIter (.ref it)) Q E s
abbrev TI:=St->Hp->(It->Hp->Prop)->Prop
def PIE(X:Cx)(MO:SD (Sx×Obj))(σ:St)(tg:SE)(R:It->Hp->Prop)(itv:Sv)(s2:Sw):Prop:=
 ∃(it:Sx) (fp:SD Sx) (tn:Nat->SF->Prop) (J:It) (H':Hp),itv=.ref it/\Inv X MO σ H' s2/\Turn X.prog X.w X.K tg J fp it tn/\tn 0 s2.heap/\(∀b∈fp,cz X MO H' b)/\R J H'
def PI(X:Cx)(tg aB:SE)(wi:TI):Prop:=
 ∀(MO:SD (Sx×Obj)) (s:Sw) (σ:St) (H:Hp) (R:It->Hp->Prop),Inv X MO σ H s->wi σ H R->
  wpAny (model X.prog X.w) X.A (eval aB X.env) (λv s1=>wpAny (model X.prog X.w) X.A (pyIter v) (PIE X MO σ tg R) X.xe s1) X.xe s
def go_of{E : Sv -> Sw -> Prop}{n : String}{vs : Array Sv}{Q : Unit -> Sw -> Prop}(ho : s.heap.get? it = some o)(hc : o.cls = .type n)(hd : o.data = .fields vs)
    (hn : ["enumerate", "zip", "dict_itemiterator", "dict_reverseitemiterator", "odict_iterator", "itertools.zip_longest", "itertools.pairwise"].contains n = false) (hQ : Q () s) : wpAny M A (letOwnedTupleGo tg (.ref it) u) Q E s := by
  unfold letOwnedTupleGo;cases tg <;> first
    |show A3 hQ
    | (cases u <;> first
        |show A3 hQ
        | (show A0 (wpAny_load ho ?_)
           rw[hc, hd];change wpAny M A (if (["enumerate", "zip", "dict_itemiterator", "dict_reverseitemiterator", "odict_iterator", "itertools.zip_longest", "itertools.pairwise"].contains n && vs[0]? == some (rawInt _)) = true then _ else _) Q E s;rw[A5 (by intro h; rw[hn, DF] at h; cases h)];show A3 hQ))
def Itl(K:W.Frag)(a:Sx):It:=
 {λi H=>∃xs x,SqL K H a xs/\xs[i]? =some x,λi H x H'=>H'=H/\∀xs,SqL K H a xs->xs[i]? =some x,λi H=>∃xs,SqL K H a xs/\xs.length<=i}
def Itt(K:W.Frag)(a:Sx):It:=
 {λi H=>∃xs x,SqT K H a xs/\xs[i]? =some x,λi H x H'=>H'=H/\∀xs,SqT K H a xs->xs[i]? =some x,λi H=>∃xs,SqT K H a xs/\xs.length<=i}
def Itr(lo:Int)(n:Nat):It:={λi _=>i<n,λi H x H'=>H'=H/\x=.int (lo+i),λi _=>n<=i}
def zu(a it:Sx):Turn P w K tg (Itl K a) [it] it (λi h=>h.IsListIter it a i) where
 mem:=by simp
 obj:=λi h st b hb=>by
  have e:b=it:=by simpa using hb
  subst e;have{o,e,c,d}:=st;show{o,e,λv z=>by rw[d] at z;cases z}
 keep:=λi h h' st k=>st.at λo e=>k it (by simp) o e
 item:=by
  intro X hP hw hK hc i MO s σ H E I hf st hg;subst hP hw hK;have{xs,x,hq,hx}:=hg;have{MQ,rv,p,hz}:=I.list hq;have{u,hu,ru}:=rv.get hx;have{f0,f1,f2,f3,f4,f5}:=hf it (by simp);show wpAny_pyNext_list_item st p.isList (x:=u) (by simpa using hu) λh' M0 sb=>?_;have I1:Inv X MO σ H {s with heap:=h'}:=I.turned (t':=s.toks) (λb o hb e=>(sb.2 b hb).trans e) f0 f1 f3 f4 f5;have{o,e,c,d}:=id M0;show{u,0,go_of (s:={s with heap:=h'}) e c d (by decide) {x,H,I1,ru,{0,λys hy=>by rw[I.list_inj hy hq];show hx},M0,λb hb=>(hf b hb).1}}
 done:=by
  intro X hP hw hK hc i MO s σ H E I hf st hg;subst hP hw hK;have{xs,hq,hx}:=hg;have{MQ,rv,p,hz}:=I.list hq;have{f0,f1,f2,f3,f4,f5}:=hf it (by simp);have hl:=rv.length;show wpAny_pyNext_list_end (I.ok.hd hc) st p.isList (by simp;lia) λh' eb=>{0,I.turned (t':=s.toks) (λb o hb e=>eb b o hb e) f0 f1 f3 f4 f5}
 self:=λ_ _ _ _ _ st h=>wpAny_pyIter_listiter st h
def zw(a it:Sx):Turn P w K tg (Itt K a) [it] it (λi h=>h.IsTupleIter it a i) where
 mem:=by simp
 obj:=λi h st b hb=>by
  have e:b=it:=by simpa using hb
  subst e;have{o,e,c,d}:=st;show{o,e,λv z=>by rw[d] at z;cases z}
 keep:=λi h h' st k=>st.at λo e=>k it (by simp) o e
 item:=by
  intro X hP hw hK hc i MO s σ H E I hf st hg;subst hP hw hK;have{xs,x,hq,hx}:=hg;have{MQ,rv,p,hz}:=I.tuple hq;have{u,hu,ru}:=rv.get hx;have{f0,f1,f2,f3,f4,f5}:=hf it (by simp);show wpAny_pyNext_tuple_item st (show s.heap.IsTuple a MQ.toArray from p) (x:=u) (by simpa using hu) λh' M0 sb=>?_;have I1:Inv X MO σ H {s with heap:=h'}:=I.turned (t':=s.toks) (λb o hb e=>(sb.2 b hb).trans e) f0 f1 f3 f4 f5;have{o,e,c,d}:=id M0;show{u,0,go_of (s:={s with heap:=h'}) e c d (by decide) {x,H,I1,ru,{0,λys hy=>by rw[I.tuple_inj hy hq];show hx},M0,λb hb=>(hf b hb).1}}
 done:=by
  intro X hP hw hK hc i MO s σ H E I hf st hg;subst hP hw hK;have{xs,hq,hx}:=hg;have{MQ,rv,p,hz}:=I.tuple hq;have{f0,f1,f2,f3,f4,f5}:=hf it (by simp);have hl:=rv.length;show wpAny_pyNext_tuple_end (I.ok.hd hc) st (show s.heap.IsTuple a MQ.toArray from p) (by simp;lia) λh' eb=>{0,I.turned (t':=s.toks) (λb o hb e=>eb b o hb e) f0 f1 f3 f4 f5}
 self:=λ_ _ _ _ _ st h=>wpAny_pyIter_tupleiter st h
def zx(it:Sx)(lo:Int)(n:Nat):Turn P w K tg (Itr lo n) [it] it (λi h=>IsRangeIter h it (lo+(i:Nat)*1) ((n:Int)-(i:Nat)) 1) where
 mem:=by simp
 obj:=λi h st b hb=>by
  have e:b=it:=by simpa using hb
  subst e;show{_,st,λv z=>by
   have z':Data.fields _=Data.cell v:=z;cases z'}
 keep:=λi h h' st k=>k it (by simp) _ st
 item:=by
  intro X hP hw hK hc i MO s σ H E I hf st hg;subst hP hw hK;have{f0,f1,f2,f3,f4,f5}:=hf it (by simp);have Wq:=Walks.range (prog:=X.prog) (w:=X.w) (I.ok.hd hc) it lo 1 n;show Wq.item i s _ _ hg st λv h' tk hv M0 kk=>?_;have{t,0}:=hv;have I1:Inv X MO σ H {s with heap:=h',toks:=tk}:=I.turned (λb o hb e=>kk b o (by simpa using hb) e) f0 f1 f3 f4 f5;show{1,go_of (s:={s with heap:=h',toks:=tk}) (n:="range_iterator") M0 rfl rfl (by decide) {.int (lo+i),H,I1,{t,?_},{0,0},M0,λb hb=>(hf b hb).1}};rw[Int.mul_one]
 done:=by
  intro X hP hw hK hc i MO s σ H E I hf st hg;subst hP hw hK;have{f0,f1,f2,f3,f4,f5}:=hf it (by simp);show wpAny_pyNext_range_end (I.ok.hd hc) st (by have:n<=i:=hg;lia) λh' eb=>{0,I.turned (t':=s.toks) (λb o hb e=>eb b o hb e) f0 f1 f3 f4 f5}
 self:=λ_ _ _ _ _ st h=>wpAny_pyIter_rangeiter st h
section
variable{X:Cx}{tg:SE}
inductive iList_(K:W.Frag)(R:(It->Hp->Prop))(x:V)(H1:Hp):Prop
 |mk a:x=.ref a->((∃xs,SqL K H1 a xs))->R (Itl K a) H1->iList_ K R x H1
def zy(K:W.Frag)(tl:TE):TI:=λσ H R=>tl σ H λx H1=>iList_ K R x H1
inductive iTup_(K:W.Frag)(R:(It->Hp->Prop))(x:V)(H1:Hp):Prop
 |mk a:x=.ref a->((∃xs,SqT K H1 a xs))->R (Itt K a) H1->iTup_ K R x H1
def zA(K:W.Frag)(tl:TE):TI:=λσ H R=>tl σ H λx H1=>iTup_ K R x H1
def aP(hl:PE X l tl):PI X tg l (zy X.K tl):=by
 intro MO s σ H R I h;show thn (hl MO s σ H _ I h) λv s1 zu22=>?_;have{x,H1,I1,r1,q1}:=zu22;have{a,e,{xs,hq},q}:=q1;subst e;cases r1;have{MQ,rv,p,hz}:=I1.list hq;show wpAny_pyIter_list p.isList ?_;show{s1.heap.objs.size,[s1.heap.objs.size],_,_,H1,0,I1.kept (t':=s1.toks) λb o e=>A4 _ e,zu a _,{_,AE _ rfl,0,0},λb hb=>?_,q};have e:b=s1.heap.objs.size:=by simpa using hb
 subst e;show I1.fpOk (A9 _) (I1.hok.fresh (A9 _))
def rP(hl:PE X l tl):PI X tg l (zA X.K tl):=by
 intro MO s σ H R I h;show thn (hl MO s σ H _ I h) λv s1 zu23=>?_;have{x,H1,I1,r1,q1}:=zu23;have{a,e,{xs,hq},q}:=q1;subst e;cases r1;have{MQ,rv,p,hz}:=I1.tuple hq;show CJ (show s1.heap.IsTuple a MQ.toArray from p) ?_;show{s1.heap.objs.size,[s1.heap.objs.size],_,_,H1,0,I1.kept (t':=s1.toks) λb o e=>A4 _ e,zw a _,{_,AE _ rfl,0,0},λb hb=>?_,q};have e:b=s1.heap.objs.size:=by simpa using hb
 subst e;show I1.fpOk (A9 _) (I1.hok.fresh (A9 _))
def rQ{σ:St}{R:It->Hp->Prop}{hi:Int}{t u v:Tok}{tk:Nat}(I:Inv X MO σ H s)(h1: -(2^62)<=lo)(h2:lo<2^62)(h3: -(2^62)<=hi)(h4:hi<2^62)
  (q:R (Itr lo (hi-lo).toNat) H):wpAny (model X.prog X.w) X.A (pyIter (.ref s.heap.objs.size)) (PIE X MO σ tg R) E {s with heap:=s.heap.push {cls:= .type "range",data:= .fields #[.int lo t,.int hi u,.int 1 v]},toks:=tk}:=by
 show wpAny_pyIter_range (IsRange.new ..) (small_one h1 h2 h3 h4) ?_;have I1:Inv X MO σ H {s with heap:=s.heap.push {cls:= .type "range",data:= .fields #[.int lo t,.int hi u,.int 1 v]},toks:=tk}:=I.kept λb o e=>A4 _ e;show{(s.heap.push {cls:= .type "range",data:= .fields #[.int lo t,.int hi u,.int 1 v]}).objs.size,[(s.heap.push {cls:= .type "range",data:= .fields #[.int lo t,.int hi u,.int 1 v]}).objs.size],_,_,H,0,
  I1.kept (t':=tk) λb o e=>A4 _ e,zx _ lo (hi-lo).toNat,?_,λb hb=>?_,q}
 .have e1:lo+((0:Nat):Int)*1=lo:=by simp
  have e2:(((hi-lo).toNat:Nat):Int)-((0:Nat):Int)=Builtin.Range.rangeSize lo hi 1:=by rw[rangeSize_one];split<;>lia
  change IsRangeIter _ _ (lo+((0:Nat):Int)*1) ((((hi-lo).toNat:Nat):Int)-((0:Nat):Int)) 1;rw[e1,e2];show AE _ rfl
 .have e:b=(s.heap.push {cls:= .type "range",data:= .fields #[.int lo t,.int hi u,.int 1 v]}).objs.size:=by simpa using hb
  subst e;show I1.fpOk (A9 _) (I1.hok.fresh (A9 _))
inductive iRng1_(R:(It->Hp->Prop))(vs:List V)(H1:Hp):Prop
 |mk (j:Int):vs=[.int j]->-(2^62)<=j->j<2^62->R (Itr 0 j.toNat) H1->iRng1_ R vs H1
def zC(ta:TA):TI:=λσ H R=>ta σ H λvs H1=>iRng1_ R vs H1
inductive iRng2_(R:(It->Hp->Prop))(vs:List V)(H1:Hp):Prop
 |mk (i j:Int):vs=[.int i,.int j]->(-(2^62)<=i/\i<2^62/\-(2^62)<=j/\j<2^62)->R (Itr i (j-i).toNat) H1->iRng2_ R vs H1
def zD(ta:TA):TI:=λσ H R=>ta σ H λvs H1=>iRng2_ R vs H1
def fc{a:SE}{p pos:Pos}(hg:Gl X "range")(hm:X.mg "range"=none)(ha:PA X [a] ta)(hs:starEach [a] X.env=[(false,eval a X.env)]:=by rfl):PI X tg (.Call (.Name "range" p) [a] [] pos) (zC ta):=by
 intro MO s σ H R I h;show Call_ (cY I hg hm boot_range (B7 (thn (ha pos MO s σ H _ I h) λus s1 zu24=>?_) hs rfl));have{vs,H1,I1,r1,q1}:=zu24;have{j,e,q1,q2,q}:=q1;subst e;cases r1 with
 |cons r rr=>
  cases rr;have{t,0}:=r;show call_range_1 (rQ I1 (by lia) (by lia) q1 q2 (by simpa using q))
def dS{a b:SE}{p pos:Pos}(hg:Gl X "range")(hm:X.mg "range"=none)(ha:PA X [a,b] ta)(hs:starEach [a,b] X.env=[(false,eval a X.env),(false,eval b X.env)]:=by rfl)(Qq:starEach [b] X.env=[(false,eval b X.env)]:=by rfl):
  PI X tg (.Call (.Name "range" p) [a,b] [] pos) (zD ta):=by
 intro MO s σ H R I h;show Call_ (cY I hg hm boot_range (B7 (thn (ha pos MO s σ H _ I h) λus s1 ⟨vs,H1,I1,r1,q1⟩=>?_) (by rw[hs,Qq]) (by rw[Qq];rfl)));have{i,j,e,{q1,q2,q3,q4},q}:=q1;subst e;cases r1 with
 |cons r rr=>
  cases rr with
  |cons r' rr=>
   cases rr;have{t,0}:=r;have{t',0}:=r';show call_range_2 (rQ I1 q1 q2 q3 q4 q)
def zE(wi:TI)(g:TG)(tb:TS):TS:=λD σ H=>wi σ H λJ H1=>∃Wq:Nat->Nat->St->Hp->Prop,(∃m,Wq 0 m σ H1)/\∀i m σ H,Wq i m σ H->
 (J.stop i H/\D.nx σ H)\/(J.go i H/\∃N:St->Hp->Prop,(∀σ' H',N σ' H'->∃m',m'<m/\Wq (i+1) m' σ' H')/\∀x H',J.yld i H x H'->g x σ H' λσ2 H2=>tb (eLp D (N)) σ2 H2)
def iW(fp:SD Sx)(h:SF):SD (Sx×Obj):=fp.filterMap λb=>(h.get? b).map λo=>(b,o)
theorem kf(hb:b∈fp)(e:h.get? b=some o):(b,o)∈iW fp h:=List.mem_filterMap.mpr {b,hb,by rw[e];rfl}
def zF{p:Sx×Obj}(hp:p∈iW fp h):p.1∈fp/\h.get? p.1=some p.2:=by
 have{b,hb,e}:=List.mem_filterMap.mp hp;cases q:h.get? b with
 |none=>rw[q] at e;cases e
 |some o=>
  rw[q] at e;have e':(b,o)=p:=Ad e;subst e';show{hb,q}
theorem Inv.pinned{σ:St}(I:Inv X MO σ H s)(hf:∀b∈fp,cz X MO H b)(ho:∀b∈fp,∃o,s.heap.get? b=some o/\∀v,o.data≠ .cell v):Inv X (MO++iW fp s.heap) σ H s:=
 I.pins_of λp hp=>(BP.mp hp).elim (λz=>I.pin p (B3 _ z)) λz=>by
  have{hb,e}:=zF z;have{f0,f1,f2,_}:=hf p.1 hb;have{o,e',d}:=ho p.1 hb;rw[e] at e';cases e';show{e,f0,f1,f2,d}
def Inv.unpinned{pl:SD (Sx×Obj)}{σ:St}(I:Inv X (MO++pl) σ H s):Inv X MO σ H s:=I.pins_of λp hp=>I.pin p (B3 _ (List.mem_append_left _ hp))
def aC{aB:SE}{wi:TI}{pos:Pos}(hp:PassesOwn (model X.prog X.w) X.A X.env X.xe)(hc:X.calm=true)(hi:PI X tg aB wi)(hg:PG X tg g)(hb:PSs X body tb)
  (hs:∀x,foldedSetIterable aB X.env x=pure x:=by intro _;rfl):PS X (.For tg aB body [] pos) (zE wi g tb):=by
 intro MO s σ H D I h;show wpAny_For (thn (hi MO s σ H _ I h) λv s1 h1=>thn h1 λitv s2 h2=>?_) hs;have{it,fp,tn,J,H2,e,I2,T,N7,f2,Wq,{m0,w0},turn}:=h2;subst e;have OR:∀{H':Hp},(∀b∈fp,H' b=none)->∀b∈fp,cz X MO H' b:=λhn b hb=>{hn b hb,(f2 b hb).2};show codeAny_forLoop_any (λn s'=>∃i σ' H',Inv X MO σ' H' s'/\tn i s'.heap/\(∀b∈fp,H' b=none)/\Wq i n σ' H') ?_ m0 {(0),σ,H2,I2,N7,λb hb=>(f2 b hb).1,w0};rintro n s3 ⟨i,σ3,H3,I3,st3,fr3,w3⟩;rcases turn i n σ3 H3 w3 with⟨stop,qn⟩|⟨go,N,hN,step⟩
 .show Db hp (thn (T.done X rfl rfl rfl hc i MO s3 σ3 H3 X.xe I3 (OR fr3) st3 stop) λr s4 zu25=>?_);have{hr,I4}:=zu25;subst hr;show wpAny_execs_nil {σ3,H3,I4,qn}
 .show Db hp (thn (T.item X rfl rfl rfl hc i MO s3 σ3 H3 X.xe I3 (OR fr3) st3 go) λr s4 zu26=>?_);have{u,hr,h4}:=zu26;subst hr;show Db hp (thn h4 λ_ s5 zu27=>?_);have{x,H5,I5,r5,y5,QC,fr5}:=zu27;have I5':=I5.pinned (OR fr5) (T.obj _ _ QC);show Db hp (thn (hg _ s5 σ3 H5 x u _ I5' r5 (step x H5 y5)) λ_ s6 zu28=>?_);have{σ6,H6,I6,q6}:=zu28;show Db hp (thn (hb _ s6 σ6 H6 _ I6 q6) λf s7 q7=>?_);have again:∀{σ7:St}{H7:Hp},Inv X (MO++iW fp s5.heap) σ7 H7 s7->N σ7 H7->∃m,m<n/\∃i σ' H',Inv X MO σ' H' s7/\tn i s7.heap/\(∀b∈fp,H' b=none)/\Wq i m σ' H':=fun{σ7 H7} I7 n7=>by
   have{m',hm,w7}:=hN σ7 H7 n7;show{m',hm,i+1,σ7,H7,I7.unpinned,T.keep _ _ _ QC λb hb o e=>(I7.pin (b,o) (B3 _ (B3 _ (kf hb e)))).1,λb hb=>?_,w7};have{o,e,d}:=T.obj _ _ QC b hb;show(I7.pin (b,o) (B3 _ (B3 _ (kf hb e)))).2.1
  cases f with
  |next=>have{σ7,H7,I7,n7}:=q7;show again I7 n7
  |cont=>have{σ7,H7,I7,n7}:=q7;show again I7 n7
  |brk=>have{σ7,H7,I7,q7}:=q7;show{σ7,H7,I7.unpinned,q7}
  |ret v=>have{x7,σ7,H7,I7,r7,q7}:=q7;show{x7,σ7,H7,I7.unpinned,r7,q7}
end
def aZ{D:Ends}{σ:St}(Pv:Nat->St->Hp->Prop)(h0:Pv 0 σ H)(hl:∀i σ H,i<=xs.length->Pv i σ H->SqL K H a xs)
  (hs:∀i x σ H,xs[i]? =some x->Pv i σ H->g x σ H λσ2 H2=>tb (eLp D (Pv (i+1))) σ2 H2) (hd:∀σ H,Pv xs.length σ H->D.nx σ H):
  ∃Wq:Nat->Nat->St->Hp->Prop,(∃m,Wq 0 m σ H)/\∀i m σ H,Wq i m σ H->
   ((Itl K a).stop i H/\D.nx σ H)\/((Itl K a).go i H/\∃N:St->Hp->Prop,(∀σ' H',N σ' H'->∃m',m'<m/\Wq (i+1) m' σ' H')/\∀x H',(Itl K a).yld i H x H'->g x σ H' λσ2 H2=>tb (eLp D (N)) σ2 H2):=by
 show{λi m σ H=>m=xs.length-i/\i<=xs.length/\Pv i σ H,{xs.length,7,AO _,h0},?_};rintro i m σ H ⟨rfl,hi,p⟩;have q:=hl i σ H hi p;by_cases MT:i<xs.length
 .show .inr {{xs,xs[i],q,by simp[MT]},Pv (i+1),λσ' H' p'=>{xs.length-(i+1),4,0,MT,p'},λx H' y=>?_};have{e,y}:=y;subst e;show hs i x σ _ (y xs q) p
 .have e:i=xs.length:=by lia
  subst e;show .inl {{xs,q,A9 _},hd σ H p}
def rR{D:Ends}{σ:St}(Pv:Nat->St->Hp->Prop)(h0:Pv 0 σ H)(hl:∀i σ H,i<=xs.length->Pv i σ H->SqT K H a xs)
  (hs:∀i x σ H,xs[i]? =some x->Pv i σ H->g x σ H λσ2 H2=>tb (eLp D (Pv (i+1))) σ2 H2) (hd:∀σ H,Pv xs.length σ H->D.nx σ H):
  ∃Wq:Nat->Nat->St->Hp->Prop,(∃m,Wq 0 m σ H)/\∀i m σ H,Wq i m σ H->
   ((Itt K a).stop i H/\D.nx σ H)\/((Itt K a).go i H/\∃N:St->Hp->Prop,(∀σ' H',N σ' H'->∃m',m'<m/\Wq (i+1) m' σ' H')/\∀x H',(Itt K a).yld i H x H'->g x σ H' λσ2 H2=>tb (eLp D (N)) σ2 H2):=by
 show{λi m σ H=>m=xs.length-i/\i<=xs.length/\Pv i σ H,{xs.length,7,AO _,h0},?_};rintro i m σ H ⟨rfl,hi,p⟩;have q:=hl i σ H hi p;by_cases MT:i<xs.length
 .show .inr {{xs,xs[i],q,by simp[MT]},Pv (i+1),λσ' H' p'=>{xs.length-(i+1),4,0,MT,p'},λx H' y=>?_};have{e,y}:=y;subst e;show hs i x σ _ (y xs q) p
 .have e:i=xs.length:=by lia
  subst e;show .inl {{xs,q,A9 _},hd σ H p}
def cA{D:Ends}{σ:St}(Pv:Nat->St->Hp->Prop)(h0:Pv 0 σ H)
  (hs:∀i σ H,i<n->Pv i σ H->g (.int (lo+i)) σ H λσ2 H2=>tb (eLp D (Pv (i+1))) σ2 H2) (hd:∀σ H,Pv n σ H->D.nx σ H):
  ∃Wq:Nat->Nat->St->Hp->Prop,(∃m,Wq 0 m σ H)/\∀i m σ H,Wq i m σ H->
   ((Itr lo n).stop i H/\D.nx σ H)\/((Itr lo n).go i H/\∃N:St->Hp->Prop,(∀σ' H',N σ' H'->∃m',m'<m/\Wq (i+1) m' σ' H')/\∀x H',(Itr lo n).yld i H x H'->g x σ H' λσ2 H2=>tb (eLp D (N)) σ2 H2):=by
 show{λi m σ H=>m=n-i/\i<=n/\Pv i σ H,{n,7,AO _,h0},?_};rintro i m σ H ⟨rfl,hi,p⟩;by_cases MT:i<n
 .show .inr {MT,Pv (i+1),λσ' H' p'=>{n-(i+1),4,0,MT,p'},λx H' y=>?_};have{e,y}:=y;subst e y;show hs i σ _ MT p
 .have e:i=n:=by lia
  subst e;show .inl {A9 _,hd σ H p}
abbrev R2:=V->V->Hp->VK->Prop
variable{r:R2}
def OpR(X:Cx)(f:Sv->Sv->Sem Sv)(r:R2):Prop:=
 ∀(MO:SD (Sx×Obj)) (s:Sw) (σ:St) (H:Hp) (x y:V) (v u:Sv) (Q:VK),Inv X MO σ H s->aw x v->aw y u->r x y H Q->
  wpAny (model X.prog X.w) X.A (f v u) (EP X MO σ Q) X.xe s
def UnR(X:Cx)(f:Sv->Sem Sv)(r:V->Hp->VK->Prop):Prop:=
 ∀(MO:SD (Sx×Obj)) (s:Sw) (σ:St) (H:Hp) (x:V) (v:Sv) (Q:VK),Inv X MO σ H s->aw x v->r x H Q->
  wpAny (model X.prog X.w) X.A (f v) (EP X MO σ Q) X.xe s
def bE(X:Cx)(f:Sv)(r:SD V->Hp->VK->Prop):Prop:=
 ∀(MO:SD (Sx×Obj)) (s:Sw) (σ:St) (H:Hp) (xs:SD V) (us:SD Sv) (Q:VK),Inv X MO σ H s->ax xs us->r xs H Q->
  wpAny (model X.prog X.w) X.A (call f us) (EP X MO σ Q) X.xe s
def zG(X:Cx)(r:V->Hp->(Bool->Hp->Prop)->Prop):Prop:=
 ∀(MO:SD (Sx×Obj)) (s:Sw) (σ:St) (H:Hp) (x:V) (v:Sv) (Q:Bool->Hp->Prop),Inv X MO σ H s->aw x v->r x H Q->
  wpAny (model X.prog X.w) X.A (truthy v) (TP X MO σ Q) X.xe s
def tOp(r:R2)(ta tb:TE):TE:=λσ H Q=>ta σ H λx H1=>tb σ H1 λy H2=>r x y H2 Q
def tUn(r:V->Hp->VK->Prop)(ta:TE):TE:=λσ H Q=>ta σ H λx H1=>r x H1 Q
inductive rI(C:Int->Int->Prop)(g:Int->Int->V)(x:V)(y:V)(H:Hp)(Q:VK):Prop
 |mk i j:x=.int i->y=.int j->C i j->Q (g i j) H->rI C g x y H Q
inductive rI0(g:Int->Int->V)(x:V)(y:V)(H:Hp)(Q:VK):Prop
 |mk i j:x=.int i->y=.int j->Q (g i j) H->rI0 g x y H Q
inductive rU(g:Int->V)(x:V)(H:Hp)(Q:VK):Prop
 |mk i:x=.int i->Q (g i) H->rU g x H Q
section
variable{X:Cx}{a b c:SE}{ta tb tc:TE}{pos:Pos}
def mF(ha:PE X a ta)(hb:PE X b tb){σ:St}{R:V->V->Hp->Prop}(I:Inv X MO σ H s)
  (h:ta σ H λx H1=>tb σ H1 λy H2=>R x y H2) 
  (hf:∀v u s2 x y H2,Inv X MO σ H2 s2->aw x v->aw y u->R x y H2->wpAny (model X.prog X.w) X.A (f v u) Q X.xe s2):
  wpAny (model X.prog X.w) X.A (eval a X.env) (λv s₁=>wpAny (model X.prog X.w) X.A (eval b X.env) (λu s₂=>wpAny (model X.prog X.w) X.A (f v u) Q X.xe s₂) X.xe s₁) X.xe s:=by
 show thn (ha MO s σ H _ I h) λv s1 zu29=>?_;have{x,H1,I1,r1,q1}:=zu29;show thn (hb MO s1 σ H1 _ I1 q1) λu s2 zu30=>?_;have{y,H2,I2,r2,q2}:=zu30;show hf v u s2 x y H2 I2 r1 r2 q2
def ah{op:Operator}(ho:OpR X (binaryOp op) r)(ha:PE X a ta)(hb:PE X b tb):PE X (.BinOp a op b pos) (tOp r ta tb):=by
 intro MO s σ H Q I h;show wpAny_BinOp (mF ha hb I h λv u s2 x y H2 I2 rx ry q=>ho MO s2 σ H2 x y v u Q I2 rx ry q)
def fL{op:UnaryOp}{r:V->Hp->VK->Prop}(ho:UnR X (unaryOp op) r)(ha:PE X a ta):PE X (.UnaryOp op a pos) (tUn r ta):=by
 intro MO s σ H Q I h;show UnaryOp_ (thn (ha MO s σ H _ I h) λv s1 Np=>by have{x,H1,I1,r1,q1}:=Np;show ho MO s1 σ H1 x v Q I1 r1 q1)
def opI{f:Sv->Sv->Sem Sv}{C:Int->Int->Prop}{g:Int->Int->Int}
  (rule:∀(i j:Int) (t u:Tok) (s:Sw) (Q:Sv->Sw->Prop) (E:Sv->Sw->Prop),C i j->Q (.int (g i j) s.toks) {s with toks:=s.toks+1}->wpAny (model X.prog X.w) X.A (f (.int i t) (.int j u)) Q E s):
  OpR X f (rI C λi j=>.int (g i j)):=by
 intro MO s σ H x y v u Q I rx ry h;have{i,j,0,0,hc,q}:=h;have{t,0}:=rx;have{t',0}:=ry;show rule i j t t' s _ _ hc {.int (g i j),H,I.tok _,{1},q}
def rS{f:Sv->Sv->Sem Sv}{g:Int->Int->Int}
  (rule:∀(i j:Int) (t u:Tok) (s:Sw) (Q:Sv->Sw->Prop) (E:Sv->Sw->Prop),Q (.int (g i j) s.toks) {s with toks:=s.toks+1}->wpAny (model X.prog X.w) X.A (f (.int i t) (.int j u)) Q E s):
  OpR X f (rI0 λi j=>.int (g i j)):=by
 intro MO s σ H x y v u Q I rx ry h;have{i,j,0,0,q}:=h;have{t,0}:=rx;have{t',0}:=ry;show rule i j t t' s _ _ {.int (g i j),H,I.tok _,{1},q}
def kg{g:Int->Int->Bool}
  (rule:∀(i j:Int) (t u:Tok) (s:Sw) (Q:Sv->Sw->Prop) (E:Sv->Sw->Prop),Q (.bool (g i j)) s->wpAny (model X.prog X.w) X.A (f (.int i t) (.int j u)) Q E s):
  OpR X f (rI0 λi j=>.bl (g i j)):=by
 intro MO s σ H x y v u Q I rx ry h;have{i,j,0,0,q}:=h;have{t,0}:=rx;have{t',0}:=ry;show rule i j t t' s _ _ {.bl (g i j),H,I,0,q}
def zH(i j:Int):Prop:=0<j/\j<1073741824
def zI(i j:Int):Prop:=0<=j/\j<=1000000/\i.natAbs<2^64
def gP(i j:Int):Prop:=(-(2^64)<i/\i<2^64)\/(-(2^64)<j/\j<2^64)
def gP.ok{i j:Int}(h:gP i j):IntMulOk i j:=by
 rcases h with⟨h1,h2⟩|⟨h1,h2⟩
 .show .of_left (intBits_le_64 h1 h2)
 .show .of_right (intBits_le_64 h1 h2)
def aI:OpR X (binaryOp .Add) (rI0 λi j=>.int (i+j)):=rS λ_ _ _ _ _ _ _ q=>add_int q
def aF:OpR X (binaryOp .Sub) (rI0 λi j=>.int (i-j)):=rS λ_ _ _ _ _ _ _ q=>sub_int q
def aW:OpR X (binaryOp .Mult) (rI gP λi j=>.int (i*j)):=opI λ_ _ _ _ _ _ _ hc q=>mul_int q hc.ok
theorem gg:OpR X (binaryOp .FloorDiv) (rI zH λi j=>.int (i/j)):=opI λi j _ _ _ _ _ hc q=>by
 have h1:(0:Int)<j:=hc.1;have h2:j<1073741824:=hc.2;show floordiv_int (by lia) (by rw[Int.fdiv_eq_ediv_of_nonneg i (by lia)];show q) (.inl (PyProof.noPylong_small (by lia)))
theorem gQ:OpR X (binaryOp .Mod) (rI (λ_ j=>0<j) λi j=>.int (i%j)):=opI λi j _ _ _ _ _ hc q=>by
 have h1:(0:Int)<j:=hc;show mod_int' (by lia) (by rw[Int.fmod_eq_emod_of_nonneg i (by lia)];show q)
def rT:OpR X (binaryOp .Pow) (rI zI λi j=>.int (i^j.toNat)):=opI λ_ _ _ _ _ _ _ hc q=>pow_int_small hc.1 hc.2.1 hc.2.2 q
def unI{f:Sv->Sem Sv}{g:Int->Int}
  (rule:∀(i:Int) (t:Tok) (s:Sw) (Q:Sv->Sw->Prop) (E:Sv->Sw->Prop),Q (.int (g i) s.toks) {s with toks:=s.toks+1}->wpAny (model X.prog X.w) X.A (f (.int i t)) Q E s):
  UnR X f (rU λi=>.int (g i)):=by
 intro MO s σ H x v Q I rx h;have{i,0,q}:=h;have{t,0}:=rx;show rule i t s _ _ {.int (g i),H,I.tok _,{1},q}
def fM:UnR X (unaryOp .USub) (rU λi=>.int (-i)):=unI λ_ _ _ _ _ q=>neg_int q
end
def rV:V->V->Bool
 |.non,.non=>true|.non,.int _=>true|.int _,.non=>true|.non,.bl _=>true|.bl _,.non=>true|.non,.str _=>true|.str _,.non=>true
 |.int _,.int _=>true|.bl _,.bl _=>true|.str _,.str _=>true|.byt _,.byt _=>true
 |.int _,.str _=>true|.str _,.int _=>true|.bl _,.str _=>true|.str _,.bl _=>true
 |_,_=>false
def rEq:R2:=λx y H Q=>rV x y=true/\Q (.bl (decide (x=y))) H
def rNe:R2:=λx y H Q=>rV x y=true/\Q (.bl (!decide (x=y))) H
def rW{i j:Int}:decide (V.int i=V.int j)=(i==j):=by
 rw[Cw];simp
def rX{i j:Bool}:decide (V.bl i=V.bl j)=(i==j):=by
 rw[Cw];simp
def rY{i j:Str}:decide (V.str i=V.str j)=(i==j):=by
 rw[Cw];simp
def rZ{i j:Array UInt8}:decide (V.byt i=V.byt j)=(i.toList==j.toList):=by
 rw[Cw];cases i;cases j;simp
section
variable{X:Cx}{a b c:SE}{ta tb tc:TE}{pos:Pos}
def bd{σ:St}{Q:VK}{k k':Bool}(I:Inv X MO σ H s)(q:Q (.bl k) H)(e:k=k'):EP X MO σ Q (.bool k') s:=by
 subst e;show{.bl k,H,I,0,q}
def cB:OpR X (compareOp .Eq) rEq:=by
 intro MO s σ H x y v u Q I rx ry h;have{hs,q}:=h;cases x with
 |non=>
  cases rx;cases y with
  |non=>cases ry;show PySem.EqNone.eq_none_none (bd I q (by simp))
  |bl j=>cases ry;show PySem.EqNone.eq_none_bool (bd I q (by simp))
  |int j=>have{t',0}:=ry;show PySem.EqNone.eq_none_int (bd I q (by simp))
  |str j=>have{t',0}:=ry;show PySem.EqNone.eq_none_str (bd I q (by simp))
  |_=>show absurd (show false=true from hs) AS
 |bl i=>
  cases rx;cases y with
  |non=>cases ry;show PySem.EqNone.eq_bool_none (bd I q (by simp))
  |bl j=>cases ry;show eq_bool (bd I q rX)
  |str j=>have{t',0}:=ry;show PySem.EqMixed.eq_bool_str (bd I q (by simp))
  |_=>show absurd (show false=true from hs) AS
 |int i=>
  have{t,0}:=rx;cases y with
  |non=>cases ry;show PySem.EqNone.eq_int_none (bd I q (by simp))
  |int j=>have{t',0}:=ry;show eq_int (bd I q rW)
  |str j=>have{t',0}:=ry;show PySem.EqMixed.eq_int_str (bd I q (by simp))
  |_=>show absurd (show false=true from hs) AS
 |str i=>
  have{t,0}:=rx;cases y with
  |non=>cases ry;show PySem.EqNone.eq_str_none (bd I q (by simp))
  |bl j=>cases ry;show PySem.EqMixed.eq_str_bool (bd I q (by simp))
  |int j=>have{t',0}:=ry;show PySem.EqMixed.eq_str_int (bd I q (by simp))
  |str j=>have{t',0}:=ry;show eq_str (bd I q rY)
  |_=>show absurd (show false=true from hs) AS
 |byt i=>
  have{t,0}:=rx;cases y with
  |byt j=>have{t',0}:=ry;show W.eq_bytes (bd I q rZ)
  |_=>show absurd (show false=true from hs) AS
 |_=>cases y<;>show absurd (show false=true from hs) AS
def r6:OpR X (compareOp .NotEq) rNe:=by
 intro MO s σ H x y v u Q I rx ry h;have{hs,q}:=h;cases x with
 |non=>
  cases rx;cases y with
  |non=>cases ry;show PySem.EqNone.ne_none_none (bd I q (by simp))
  |bl j=>cases ry;show PySem.EqNone.ne_none_bool (bd I q (by simp))
  |int j=>have{t',0}:=ry;show PySem.EqNone.ne_none_int (bd I q (by simp))
  |str j=>have{t',0}:=ry;show PySem.EqNone.ne_none_str (bd I q (by simp))
  |_=>show absurd (show false=true from hs) AS
 |bl i=>
  cases rx;cases y with
  |non=>cases ry;show PySem.EqNone.ne_bool_none (bd I q (by simp))
  |bl j=>cases ry;show ne_bool (bd I q (BZ not rX))
  |str j=>have{t',0}:=ry;show PySem.EqMixed.ne_bool_str (bd I q (by simp))
  |_=>show absurd (show false=true from hs) AS
 |int i=>
  have{t,0}:=rx;cases y with
  |non=>cases ry;show PySem.EqNone.ne_int_none (bd I q (by simp))
  |int j=>have{t',0}:=ry;show ne_int (bd I q (BZ not rW))
  |str j=>have{t',0}:=ry;show PySem.EqMixed.ne_int_str (bd I q (by simp))
  |_=>show absurd (show false=true from hs) AS
 |str i=>
  have{t,0}:=rx;cases y with
  |non=>cases ry;show PySem.EqNone.ne_str_none (bd I q (by simp))
  |bl j=>cases ry;show PySem.EqMixed.ne_str_bool (bd I q (by simp))
  |int j=>have{t',0}:=ry;show PySem.EqMixed.ne_str_int (bd I q (by simp))
  |str j=>have{t',0}:=ry;show ne_str (bd I q (BZ not rY))
  |_=>show absurd (show false=true from hs) AS
 |byt i=>
  have{t,0}:=rx;cases y with
  |byt j=>have{t',0}:=ry;show W.ne_bytes (bd I q (BZ not rZ))
  |_=>show absurd (show false=true from hs) AS
 |_=>cases y<;>show absurd (show false=true from hs) AS
def dU:OpR X (compareOp .Lt) (rI0 λi j=>.bl (decide (i<j))):=kg λ_ _ _ _ _ _ _ q=>lt_int q
def iX:OpR X (compareOp .LtE) (rI0 λi j=>.bl (decide (i<=j))):=kg λ_ _ _ _ _ _ _ q=>le_int q
def fe:OpR X (compareOp .Gt) (rI0 λi j=>.bl (decide (j<i))):=kg λ_ _ _ _ _ _ _ q=>gt_int q
def kh:OpR X (compareOp .GtE) (rI0 λi j=>.bl (decide (j<=i))):=kg λ_ _ _ _ _ _ _ q=>ge_int q
def zJ:OpR X (compareOp .Is) (λx y H Q=>y=.non/\Q (.bl (decide (x=.non))) H):=by
 intro MO s σ H x y v u Q I rx ry h;have{0,q}:=h;cases ry;show is_none_gen (bd I q ?_);cases x<;>first
  |(cases rx;rfl)
  |(have{t,0}:=rx;rfl)
def aH(b:SE)(h:op≠ .In:=by decide)(h2:op≠ .NotIn:=by decide):behindInMarks op b=false:=by
 have e1:(op==CmpOp.In)=false:=by cases op<;>first|rfl|show absurd rfl h
 have e2:(op==CmpOp.NotIn)=false:=by cases op<;>first|rfl|show absurd rfl h2
 cases b<;>first|rfl|(show(_&&(op==CmpOp.In||op==CmpOp.NotIn)&&_)=false;rw[e1,e2,Bool.or_self,Ci,DF])
def iY(ho:OpR X (compareOp op) r)(ha:PE X a ta)(hb:PE X b tb)(hm:behindInMarks op b=false):PE X (.Compare a [op] [b] pos) (tOp r ta tb):=by
 intro MO s σ H Q I h;show wpAny_Compare1 (mF ha hb I h λv u s2 x y H2 I2 rx ry q=>ho MO s2 σ H2 x y v u Q I2 rx ry q) hm
inductive tTest_(Q:(Bool->Hp->Prop))(x:V)(H':Hp):Prop
 |mk k:x=.bl k->Q k H'->tTest_ Q x H'
def zK(t:TE):TT:=λσ H Q=>t σ H λx H'=>tTest_ Q x H'
def aJ(ho:OpR X (compareOp op) r)(ha:PE X a ta)(hb:PE X b tb)(hm:behindInMarks op b=false):PT X (.Compare a [op] [b] pos) (zK (tOp r ta tb)):=by
 intro MO s σ H Q I h;show wpAny_isTrue_Compare1 (thn (ha MO s σ H _ I h) λv s1 ⟨x,H1,I1,r1,q1⟩=>thn (hb MO s1 σ H1 _ I1 q1) λu s2 ⟨y,H2,I2,r2,q2⟩=>
  thn (ho MO s2 σ H2 x y v u _ I2 r1 r2 q2) λc s3 ⟨z,H3,I3,r3,k,e,q3⟩=>?_) hm
 subst e;cases r3;show Bf {H3,I3,q3}
def r9(K:W.Frag)(x:V)(H:Hp)(k:Bool):Prop:=
 match x with
 |.non=>k=false
 |.bl b=>k=b
 |.int i=>k=(i !=0)
 |.str y=>y.length<=sizeLine/\k=((y.length:Int) !=0)
 |.byt y=>y.size<=sizeLine/\k=((y.size:Int) !=0)
 |.ref p=>(∃xs,SqL K H p xs/\k= !xs.isEmpty)\/(∃xs,SqT K H p xs/\k= !xs.isEmpty)\/∃kvs,H p=some (.dK kvs)/\k= !kvs.isEmpty
 |_=>False
def zL{κ:Type}{kvs:SD (κ×V)}{vs:SD (κ×Sv)}(r:KV kvs vs):(!vs.isEmpty)= !kvs.isEmpty:=by
 cases r<;>rfl
def mG{MQ:SD Sv}(r:ax xs MQ):(!MQ.toArray.isEmpty)= !xs.isEmpty:=by
 cases r<;>simp
def gh:(sizeLine:Nat)<2^63:=by rw[At];decide
def zM:zG X (λx H Q=>∃k,r9 X.K x H k/\Q k H):=by
 intro MO s σ H x v Q I rx h;have{k,e,q}:=h;have hl:=gh;have hs:sizeLine=16777216:=At;cases x with
 |non=>
  cases rx;have e':k=false:=e;subst e';show truthy_none {H,I,q}
 |bl b=>
  cases rx;have e':k=b:=e;subst e';show Bf {H,I,q}
 |int i=>
  have{t,0}:=rx;have e':k=(i !=0):=e;subst e';show PySem.P.truthy_int {H,I,q}
 |str y=>
  have{t,0}:=rx;obtain⟨hy,e'⟩:y.length<=sizeLine/\k=((y.length:Int) !=0):=e;subst e';show PySem.P.truthy_str (by lia) {H,I.tok _,q}
 |byt y=>
  have{t,0}:=rx;obtain⟨hy,e'⟩:y.size<=sizeLine/\k=((y.size:Int) !=0):=e;subst e';show W.truthy_bytes (by lia) {H,I.tok _,q}
 |ref p=>
  cases rx;have e':(∃xs,SqL X.K H p xs/\k= !xs.isEmpty)\/(∃xs,SqT X.K H p xs/\k= !xs.isEmpty)\/∃kvs,H p=some (.dK kvs)/\k= !kvs.isEmpty:=e;rcases e' with⟨xs,hx,e'⟩|⟨xs,hx,e'⟩|⟨kvs,hx,e'⟩
  .subst e';have{MQ,r,pl,hz}:=I.list hx;have MS:=r.length;show wpAny_truthy_list pl.isList (by simp only[AK];lia) {H,I.tok _,by rw[mG r];show q}
  .subst e';have{MQ,r,pl,hz}:=I.tuple hx;have MS:=r.length;show truthy_tuple pl (by simp only[AK];lia) {H,I.tok _,by rw[mG r];show q}
  .subst e';obtain⟨hz,hS,vs,r,m⟩:kvs.length<=sizeLine/\(p==sysModules)=false/\∃vs,KV kvs vs/\s.heap.DictOf (bV X.prog X.w) p vs:=I.hok p _ hx;have MS:kvs.length=vs.length:=BO r;show wpAny_truthy_dict hS m (by lia) {H,I.tok _,by rw[zL r];show q}
 |_=>show(show False from e).elim
def zN(ha:PE X a ta)(he:∀NV,isTrue a X.env NV=(do let v<-NV;standAt a.pos;holding [v] (truthy v))):
  PT X a (λσ H Q=>ta σ H λx H'=>∃k,r9 X.K x H' k/\Q k H'):=by
 intro MO s σ H Q I h;show isTrue_plain (thn (ha MO s σ H _ I h) λv s1 Np=>by have{x,H1,I1,r1,q1}:=Np;show zM MO s1 σ H1 x v Q I1 r1 q1) (he _)
def dq{x:V}(r:ax [x] us):∃u,us=[u]/\aw x u:=by
 cases r with
 |cons r1 r2=>cases r2;show{1,r1}
def gi{x y:V}(r:ax [x,y] us):∃u w',us=[u,w']/\aw x u/\aw y w':=by
 cases r with
 |cons r1 r2=>
  cases r2 with
  |cons r3 r4=>cases r4;show{3,r1,r3}
def si:bE X (.builtin "abs") (λxs H Q=>∃i,xs=[.int i]/\Q (.int (if i<0 then -i else i)) H):=by
 intro MO s σ H xs us Q I r h;have{i,0,q}:=h;have{u,0,t,0}:=dq r;show call_abs_int λu tk=>{.int (if i<0 then -i else i),H,I.tok _,{1},q}
def zO(hc:X.calm=true):bE X (.builtin "min") (λxs H Q=>∃i j,xs=[.int i,.int j]/\Q (.int (if j<i then j else i)) H):=by
 intro MO s σ H xs us Q I r h;have{i,j,0,q}:=h;have{u,w',0,{t,0},{t',0}}:=gi r;show min_two_ints (I.ok.hd hc) λh' tk k=>{_,H,I.kept k,?_,q};by_cases hj:j<i
 .rw[A6 hj,A6 hj];show{1}
 .rw[A5 hj,A5 hj];show{1}
end
structure ObjM(h:SF)(x dx C:Sx)(mA:Str->SG Sv):Prop where
 obj:h.get? x=some (W.instObj C dx)
 ns:h.Ns1 dx mA
 ne:dx≠x
def zQ(n:h.Ns1 dx mA):∃od,h.get? dx=some od/\∀name,W.lookIn name od=some (mA name):=by
 have{o,es,ep,ho,hd,hk,_,hm}:=n;show{o,ho,λname=>?_};have e:=hm name;unfold nsFind findBy at e;rw[<-Array.find?_toList] at e;unfold W.lookIn;rw[hd];dsimp only;split
 .rename_i y q;rw[q] at e;show BZ some e
 .rename_i q;rw[q] at e;have a:es.toList.any (·.refKey)=false:=by
   rw[List.any_eq_false];intro y hy;have{z,t,QD}:=hk y (Array.mem_toList_iff.mp hy);simp[DictEntry.refKey,QD]
  have a':¬es.toList.any (·.refKey)=true:=by rw[a];show AS
  rw[A5 a'];show BZ some e
def ObjM.look{x C:Sx}(I:ObjM h x dx C mA):∃od,W.InstAt h x (W.instObj C dx) C (some od)/\∀name,W.lookIn name od=some (mA name):=
 let ⟨od,ho,hl⟩:=zQ I.ns
 {od,{I.obj,0,0,ho},hl}
def cS.some_of{o:SG Sv}(r:cS (some v) o):∃u,o=some u/\aw v u:=by
 cases o with
 |none=>show(show False from r).elim
 |some u=>show{u,0,r}
section
variable{P:Sy}{w:SB}{H H':Hp}{h h':SF}{a C dx:Sx}{fs fs':SD (Str×V)}
def zR(hok:HOk P w H h)(e:H a=some (.ins C dx fs)):∃mA,ObjM h a dx C mA/\(∀f,cS (fs.lookup f) (mA f))/\PySem.Within mA (fs.map (·.1))/\fs.length<=1000/\H dx=some (.own a):=by
 have{d,z,ne,ob,mA,n,r,q}:=(show aE P w H h a (.ins C dx fs) from hok a _ e);show{mA,{ob,n,ne},r,q,z,d}
end
structure Cls(K:W.Frag)(C:Sx):Prop where
 pg:W.plainGet K C Str.empty=true
 hd:W.hasDictIn K C=true
 po:W.plainOver K C=true
 sa:W.findIn K (.ref C) "__setattr__"=some (some (.builtin "object.__setattr__"))
def Cls.get{K:W.Frag}{C:Sx}(c:Cls K C)(f:Str):W.plainGet K C f=true:=c.pg
section
variable{X:Cx}{MO:SD (Sx×Obj)}{σ:St}{H:Hp}{s:Sw}{A:SC}{E:Sv->Sw->Prop}{Q:Sv->Sw->Prop}{c:Sv}{b:Bool}
inductive TyOf(K:W.Frag)(H:Hp):V->Value->Prop where
 |non:TyOf K H .non (.type "NoneType")
 |bl (x:Bool):TyOf K H (.bl x) (.type "bool")
 |int (i:Int):TyOf K H (.int i) (.type "int")
 |str (x:Str):TyOf K H (.str x) (.type "str")
 |flt (x:UInt64):TyOf K H (.flt x) (.type "float")
 |lst {a:Addr}{xs:List V} (e:H a=some (.lst xs)):TyOf K H (.ref a) (.type "list")
 |frz {a:Addr}{o:Obj}{xs:List V} (e:H a=some (.frz o (.lst xs))):TyOf K H (.ref a) (.type "list")
 |tup {a:Addr}{xs:List V} (e:H a=some (.tup xs)):TyOf K H (.ref a) (.type "tuple")
 |dK {a:Addr}{kvs:List (Key×V)} (e:H a=some (.dK kvs)):TyOf K H (.ref a) (.type "dict")
 |dT {a:Addr}{kvs:List (List Key×V)} (e:H a=some (.dT kvs)):TyOf K H (.ref a) (.type "dict")
 |ins {a C dx:Addr}{fs:List (Str×V)} (e:H a=some (.ins C dx fs)) (cl:Cls K C) (ha:W.findIn K (.ref C) "__class__"=some (some (.builtin "object.__class__")))
   (hn:W.specialIn K (.builtin "object.__class__") "__get__"=some (some (.builtin "getset_descriptor.__get__"))) (htk:W.takesIn K (.builtin "object.__class__")=some true)
   (hm:W.mroIn K C (.type "object")=some true):TyOf K H (.ref a) (.ref C)
def zS{x:V}{t:Sv}(I:Inv X MO σ H s)(rx:aw x u)(ty:TyOf X.K H x t)(e:W.kitOne X.K t c=some b)(h:∀tk,Q (.bool b) {s with toks:=tk}):
  wpAny (model X.prog X.w) A (call (.builtin "isinstance") [u,c]) Q E s:=by
 cases ty with
 |non=>cases (show u=Value.none from rx);show Bq W.kitx_none I.kIn True.intro e (λz=>nomatch z) h
 |bl y=>cases (show u=Value.bool y from rx);show Bq W.kitx_bool I.kIn True.intro e (λz=>nomatch z) h
 |int i=>have{t,q}:=(show∃t,u=Value.int i t from rx);cases q;show Bq W.kitx_int I.kIn True.intro e (λz=>nomatch z) h
 |str y=>have{t,q}:=(show∃t,u=Value.str y t from rx);cases q;show Bq W.kitx_str I.kIn True.intro e (λz=>nomatch z) h
 |flt y=>have{t,q}:=(show∃t,u=Value.float y t from rx);cases q;show Bq W.kitx_float I.kIn True.intro e (λz=>nomatch z) h
 | @lst a xs ea=>
  cases (show u=Value.ref a from rx);have{_,_,n,_,h1}:=(show aE X.prog X.w H s.heap a (.lst xs) from I.hok a _ ea);show Bq W.kitx_list I.kIn {_,h1,0} e (λz=>nomatch z) h
 | @frz a ob xs ea=>
  cases (show u=Value.ref a from rx);have{_,_,_,n,_,h1}:=(show aE X.prog X.w H s.heap a (.frz ob (.lst xs)) from I.hok a _ ea);show Bq W.kitx_list I.kIn {_,h1,0} e (λz=>nomatch z) h
 | @tup a xs ea=>
  cases (show u=Value.ref a from rx);have{_,_,_,p}:=(show aE X.prog X.w H s.heap a (.tup xs) from I.hok a _ ea);have{o,h1,h2,_}:=p;show Bq W.kitx_tuple I.kIn {o,h1,h2} e (λz=>nomatch z) h
 | @dK a kvs ea=>
  cases (show u=Value.ref a from rx);have{_,_,vs,_,p}:=(show aE X.prog X.w H s.heap a (.dK kvs) from I.hok a _ ea);have{o,es,ep,h1,h2,_}:=p;show Bq W.kitx_dict I.kIn {o,h1,h2.1} e (λz=>nomatch z) h
 | @dT a kvs ea=>
  cases (show u=Value.ref a from rx);have{_,_,xs,_,o,es,ep,h1,h2,_}:=(show aE X.prog X.w H s.heap a (.dT kvs) from I.hok a _ ea);show Bq W.kitx_dict I.kIn {o,h1,h2.1} e (λz=>nomatch z) h
 | @ins a C dx fs ea cl ha hn htk hm=>
  cases (show u=Value.ref a from rx);have{mA,O,_}:=zR I.hok ea;have{od,J,_}:=O.look;show Bq (W.kitx_own (cl.get _) cl.hd ha hn htk hm) I.kIn J e (λz=>nomatch z) h
end
structure Room(k:Nat)(A:SC):Prop where
 hd:A.handled=none
 dp:A.depth+3*k+5<recursionLimit
 un:A.units+16*k+200<cLine
theorem Room.mono{k:Nat}(r:Room k A)(h:j<=k):Room j A:={r.hd,by have:=r.dp;lia,by have:=r.un;lia}
theorem Room.deeper{k:Nat}{A:SC}(r:Room (k+1) A)(env:Env):Room k (A.deeper env):=
 {r.hd,by have:=r.dp;change A.depth+1+3*k+5<_;lia,by have:=r.un;change A.units+3+16*k+200<_;lia}
def Room.depth{k:Nat}{A:SC}(r:Room k A):A.depth<recursionLimit:=by have:=r.dp;lia
def Room.units{k:Nat}{A:SC}(r:Room k A):A.units+64<cLine:=by have:=r.un;lia
def zT:TA:=λ_ H Q=>Q [] H
def zU(ta:TE)(tr:TA):TA:=λσ H Q=>ta σ H λx H1=>tr σ H1 λxs H2=>Q (x::xs) H2
section
variable{X:Cx}{e:SE}{es:SD SE}{te:TE}{t:TA}{pos:Pos}
def af:PA X [] zT:=λ_ _ _ _ H Q I h=>Calls.spliced_nil {[],H,I,.nil,h}
def ab(ha:PE X e te)(hr:PA X es t)(hs:starEach (e::es) X.env=(false,eval e X.env)::starEach es X.env:=by rfl):PA X (e::es) (zU te t):=by
 intro pos MO s σ H Q I h;rw[hs];change wpAny _ _ (spliced ((false,eval e X.env)::backTo pos (starEach es X.env))) _ _ s;show Ce (thn (ha MO s σ H _ I h) λu s1 zu31=>?_);have{x,H1,I1,r1,q1}:=zu31;show thn (hr pos MO s1 σ H1 _ I1 q1) λus s2 Np=>by have{xs,H2,I2,r2,q2}:=Np;show{x::xs,H2,I2,.cons r1 r2,q2}
def zV(t:TA):TE:=λσ H Q=>t σ H λxs H1=>xs.length<=sizeLine/\∀p,H1 p=none->Q (.ref p) (upd H1 p (.lst xs))
def iZ(h:PA X es t):PE X (.List es pos) (zV t):=by
 intro MO s σ H Q I hq;show wpAny_List_spliced (thn (h pos MO s σ H _ I hq) λus s1 ⟨xs,H1,I1,r,z,q⟩=>{by rw[<-r.length];show z,?_});have hf:H1 s1.heap.objs.size=none:=I1.hok.fresh (A9 _);show{.ref s1.heap.objs.size,upd H1 s1.heap.objs.size (.lst xs),I1.laid (t':=s1.toks) (λb u e=>A4 _ e) (A9 _) ?_,0,q _ hf};show{z,us,(0),r,AE _ rfl}
end
abbrev Sp:=SD V->Hp->VK->XK->Prop
abbrev CXT:=SD Env->Hp->Sw->XK->Sv->Sw->Prop
variable{CX:CXT}
structure Env0(P:Sy)(w:SB)(K:W.Frag)(mg:Str->SG Sv)(base:SF)(A:SC)(outer:SD Env)(s:Sw)(H:Hp):Prop where
 frames:A.frames=some outer
 mod:Mod K mg base
 bs:∀b o,base.get? b=some o->s.heap.get? b=some o/\H b=none
 bsz:base.objs.size<=s.heap.objs.size
 funs:s.heap.FunFrames base outer
 frf:∀b∈frs outer,H b=none
 hok:HOk P w H s.heap
 bare:AllBare s.gens
def CE(outer:SD Env)(P:Sy)(w:SB)(H:Hp)(s:Sw)(Q:VK)(u:Sv)(s':Sw):Prop:=
 ∃v H',s'.os=s.os/\AllBare s'.gens/\Un (frs outer) [] H H' s.heap s'.heap/\HOk P w H' s'.heap/\aw v u/\Q v H'
def CR(CX:CXT)(outer:SD Env)(P:Sy)(w:SB)(H:Hp)(s:Sw)(Q:VK)(E:XK)(r:Result)(s':Sw):Prop:=
 match r with
 |.ok (.ret u)=>CE outer P w H s Q u s'
 |.ok _=>False
 |.error e=>CX outer H s E e s'
structure FnOk(P:Sy)(w:SB)(K:W.Frag)(mg:Str->SG Sv)(base:SF)(CX:CXT)(k:Nat)(f:Sx)(fd:SA)(ps:SD Str)(sp:Sp):Prop where
 len:∀vs H Q E,sp vs H Q E->vs.length=ps.length
 run:∀(A:Around) (outer:List Env) (s:Shared) (H:Hp) (args:Args) (us:List Value) (vs:List V) (Q:VK) (E:XK),Room k A->Env0 P w K mg base A outer s H->BindsTo s fd args (ps.zip us)->ax vs us->sp vs H Q E->
  codeAny (model P w) A (.call (.ref f) args) (CR CX outer P w H s Q E) s
section
variable{X:Cx}{MO:SD (Sx×Obj)}{σ:St}{H:Hp}{s s':Sw}
def Inv.env0(I:Inv X MO σ H s):Env0 X.prog X.w X.K X.mg X.base X.A X.stack s H:=
 {I.ok.frames,I.ok.mod,I.bs,BA I.ok.bsz I.sz,I.stack,I.stkFree,I.hok,I.bare}
def Inv.after{Q:VK}(I:Inv X MO σ H s)(h:CE X.stack X.prog X.w H s Q u s'):EP X MO σ Q u s':=by
 have{v,H',os,bare,un,hok,r,q}:=h;have{hh,g,d,t,RB}:=s';obtain rfl:RB=s.os:=os;show{v,H',I.call (h':=hh) (g':=g) (d':=d) (t':=t) (ch:=[]) un hok bare (λb z=>absurd z (by simp)),r,q}
end
def sj(sp:Sp)(M5:SD V)(E:XK)(t:TA):TE:=λσ H Q=>t σ H λvs H1=>sp (vs++M5) H1 Q E
def gR(K:W.Frag)(fd:SA)(ps:SD Str)(ds:SD Sv):Prop:=
 ∀(s:Sw) (us:SD Sv),K.In s.heap->(us++ds).length=ps.length->BindsTo s fd {us,[]} (ps.zip (us++ds))
theorem gR.all{fd:SA}(h:∀us:SD Sv,us.length=ps.length->bindArgs fd {us,[]}=pure (ps.zip us)):gR K fd ps []:=λs us _ hl=>by
 rw[BE] at hl⊢;show .of_eq (h us hl)
def mH(CX:CXT)(X:Cx)(E:XK):Prop:=∀(MO:SD (Sx×Obj)) (σ:St) (H:Hp) (s:Sw) (e:Sv) (s':Sw),Inv X MO σ H s->CX X.stack H s E e s'->X.xe e s'
section
variable{X:Cx}{CX:CXT}{k:Nat}{f C:Sx}{fd:SA}{ps:SD Str}{sp:Sp}{M5:SD V}{ds:SD Sv}{E:XK}{x m:Str}{p pos Nh:Pos}{e o:SE}{es:SD SE}{ta:TE}{t:TA}
def zW{σ:St}{Q:VK}(F:FnOk X.prog X.w X.K X.mg X.base CX k f fd ps sp)(hr:Room k X.A)(hb:gR X.K fd ps ds)(hd:ax M5 ds)(hx:mH CX X E)
  (I:Inv X MO σ H s) (r:ax vs us) (h:sp (vs++M5) H Q E):wpAny (model X.prog X.w) X.A (call (.ref f) us) (EP X MO σ Q) X.xe s:=by
 have r2:ax (vs++M5) (us++ds):=r.append hd;have hl:(us++ds).length=ps.length:=by rw[<-r2.length];show F.len _ _ _ _ h
 show wpAny_call (codeAny_mono (F.run X.A X.stack s H {us,[]} (us++ds) (vs++M5) Q E hr I.env0 (hb s us I.kIn hl) r2 h) λr s' hq=>?_);cases r with
 |error e=>show hx MO σ H s e s' I hq
 |ok fl=>
  cases fl with
  |ret u=>show I.after hq
  |next=>show False.elim hq
  |brk=>show False.elim hq
  |cont=>show False.elim hq
def fN(F:FnOk X.prog X.w X.K X.mg X.base CX k f fd ps sp)(hr:Room k X.A)(hg:Gl X x)(hm:X.mg x=some (.ref f))(hk:W.keepIn X.K (.ref f)=true)(hb:gR X.K fd ps ds)(hd:ax M5 ds)(hx:mH CX X E)
  (ha:PA X (e::es) t) (QE:(x==("__debug__":Str))=false:=by decide) (he:starEach (e::es) X.env=(false,eval e X.env)::starEach es X.env:=by rfl) (OS:(backTo pos (starEach es X.env)).any (·.1)=false:=by rfl):
  PE X (.Call (.Name x p) (e::es) [] pos) (sj sp M5 E t):=by
 intro MO s σ H Q I h;show Bl (rF I hg hm ?_ QE);show W.callWith_K (h₀:=X.base) I.ok.mod.kin hk (thn (ha pos MO s σ H _ I h) λus s1 zu32=>?_) he OS;have{vs,H1,I1,r,q}:=zu32;show{I1.kIn,?_};show zW F hr hb hd hx I1 r q
end
structure FnScope(N P:SD Str)(sc:Scope):Prop where
 kind:sc.kind=.function
 co:sc.isCoroutine=false
 gen:sc.isGenerator=false
 nd:N.Nodup
 pre:N.take P.length=P
 par:∀x∈P,sc.names.lookup x=some .local\/sc.names.lookup x=some .cell
 nofree:∀y∈sc.names,y.2≠ .free
theorem sk{kindOf:Str->SG NameKind}{x:Str}:∀{binds:SD (Str×Sv)}{m:Str->SG Sv},(∀v,(x,v)∉binds)->bindL kindOf binds m x=m x
 |[],_,_=>rfl
 |(n,v)::r,m,h=>by
  unfold bindL;rw[sk λw hw=>h w (AT _ hw)];split
  .have:x≠n:=by rintro rfl;show h v Aa
   simp[this]
  .rfl
theorem sr{kindOf:Str->SG NameKind}{x:Str}:∀{binds:SD (Str×Sv)}{m:Str->SG Sv},(∀v,(x,v)∉binds)->bindC kindOf binds m x=m x
 |[],_,_=>rfl
 |(n,v)::r,m,h=>by
  unfold bindC;rw[sr λw hw=>h w (AT _ hw)];split
  .rfl
  .have:x≠n:=by rintro rfl;show h v Aa
   simp[this]
theorem su{kindOf:Str->SG NameKind}{x:Str}{v:Sv}:∀{P:SD Str}{vs:SD Sv}{i:Nat}{m:Str->SG Sv},P.Nodup->P[i]? =some x->vs[i]? =some v->kindOf x=some .local->
  bindL kindOf (P.zip vs) m x=some v
 |[],_,_,_,_,h,_,_=>by simp at h
 |_::_,[],_,_,_,_,h,_=>by simp at h
 |p::P,w::vs,0,m,nd,h1,h2,hk=>by
  simp at h1 h2;subst h1;subst h2;change bindL kindOf ((p,w)::P.zip vs) m p=_;unfold bindL;rw[sk λv hv=>(BM.mp nd).1 (List.of_mem_zip hv).1,A6 hk];simp
 |p::P,w::vs,i+1,m,nd,h1,h2,hk=>by
  change bindL kindOf ((p,w)::P.zip vs) m x=_;unfold bindL;show su (i:=i) (BM.mp nd).2 (by simpa using h1) (by simpa using h2) hk
theorem sv{kindOf:Str->SG NameKind}{x:Str}{v:Sv}:∀{P:SD Str}{vs:SD Sv}{i:Nat}{m:Str->SG Sv},P.Nodup->P[i]? =some x->vs[i]? =some v->kindOf x≠some .local->
  bindC kindOf (P.zip vs) m x=some v
 |[],_,_,_,_,h,_,_=>by simp at h
 |_::_,[],_,_,_,_,h,_=>by simp at h
 |p::P,w::vs,0,m,nd,h1,h2,hk=>by
  simp at h1 h2;subst h1;subst h2;change bindC kindOf ((p,w)::P.zip vs) m p=_;unfold bindC;rw[sr λv hv=>(BM.mp nd).1 (List.of_mem_zip hv).1,A5 hk];simp
 |p::P,w::vs,i+1,m,nd,h1,h2,hk=>by
  change bindC kindOf ((p,w)::P.zip vs) m x=_;unfold bindC;show sv (i:=i) (BM.mp nd).2 (by simpa using h1) (by simpa using h2) hk
def start(N:SD Str)(vs:SD V):St:=vs.map some++List.replicate (N.length-vs.length) none
def gj(CX:CXT)(P:Sy)(w:SB)(K:W.Frag)(mg:Str->SG Sv)(base:SF)(N:SD Str)(MV:Str)(scope:Scope)(f:Sx)(cd:Sv)(A:SC)(outer:SD Env)(s:Sw)(H:Hp)(E:XK):Cx where
 prog:=P
 w:=w
 K:=K
 mg:=mg
 base:=base
 A:=A.deeper (envOfC MV scope s.heap.objs.size f cd)
 N:=N
 s₀:=s
 H₀:=H
 env:=envOfC MV scope s.heap.objs.size f cd
 outer:=outer
 stack:=envOfC MV scope s.heap.objs.size f cd::outer
 ex:=[]
 calm:=true
 fn:=λ_=>true
 pn:=[]
 xe:=λe s'=>wpAny (model P w) (A.deeper (envOfC MV scope s.heap.objs.size f cd)) (leaving (envOfC MV scope s.heap.objs.size f cd) e) (λ_ s''=>CX outer H s E e s'') (λe' s''=>CX outer H s E e' s'') s'
def sw{sc:Scope}(h:sc.names.lookup x=some .cell):∃c,(cellsFrom n sc.names []).lookup x=some c:=by
 have q:=W.cellsFrom_some sc.names n [] (.inl h);show Option.isSome_iff_exists.mp q
def zX{f:Sx}{cd:Sv}{outer:SD Env}{s1:Sw}{E:XK}
  (S:FnScope N ps scope) (hd:A.handled=none) (e0:Env0 P w K mg base A outer s H) (hl:vs.length=ps.length) (r:ax vs us)
  (x:InCallC s s.heap.objs.size (bindL (envOfC MV scope s.heap.objs.size f cd).kindOf (ps.zip us) λ_=>none) (cellsFrom (s.heap.objs.size+1) scope.names []) (bindC (envOfC MV scope s.heap.objs.size f cd).kindOf (ps.zip us) λ_=>none) s1):
  Inv (gj CX P w K mg base N MV scope f cd A outer s H E) [] (start N vs) H s1:=by
 have OS:ps.length<=N.length:=by have:=BZ List.length S.pre;rw[AV] at this;lia
 have{h1,tk,0,hk}:=x.done;have noA:∀b:Sx,b∉(gj CX P w K mg base N MV scope f cd A outer s H E).ex:=λb z=>absurd (show b∈([]:SD Sx) from z) (by simp);show{{e0.mod,S.kind,0,0,A9 _,λy z c h1 h2=>?_,λy hy=>?_,λy c _ h=>?_,λ_=>hd,Around.frames_deeper e0.frames,.inr {0,0},λb z=>absurd z (noA b),e0.bs,e0.bsz,λb _ _=>noA b,λb z=>absurd z (noA b),e0.funs,e0.frf},0,e0.bare,Un.kept hk,{_,x.toInCall.ns,λi y v h1 h2 h3=>?_},λy c h=>{_,x.cell y c h},e0.hok.fresh (A9 _),λy c h=>?_,λp hp=>absurd (show p∈([]:SD (Sx×Obj)) from hp) (by simp),e0.hok.kept hk,?_}
 .show name_of_addr x.apart (C8 h1) (C8 h2)
 .have hy:scope.names.lookup y=some .cell\/scope.names.lookup y=some .free:=hy;rcases hy with hy|hy
  .show sw hy
  .show absurd rfl (S.nofree _ (C8 hy))
 .show Ah (x.above y c (C8 h))
 .have hi:i<vs.length:=by
   unfold start at h2;by_cases hi:i<vs.length
   .show hi
   .rw[BR (by simpa using hi)] at h2;rw[D4] at h2;split at h2<;>cases h2
  have ha:vs[i]? =some v:=by
   unfold start at h2;rw[Bm (by simpa using hi),AD] at h2;cases e:vs[i]? with
   |none=>rw[e] at h2;cases h2
   |some a=>rw[e] at h2;cases h2;rfl
  have{u,hu,rv}:=r.get ha;have hp:ps[i]? =some y:=by
   rw[<-S.pre,List.getElem?_take_of_lt (by lia)];show h1
  have ndP:ps.Nodup:=by rw[<-S.pre];show S.nd.sublist (List.take_sublist _ _)
  show{u,rv,?_};rcases S.par y (AH hp) with k|k
  .show .inl {k,su ndP hp hu k}
  .have{c,e}:=sw (n:=s.heap.objs.size+1) k;show .inr {.inl k,c,e,?_};have q:=x.cell y c e;rw[sv ndP hp hu (by change scope.names.lookup y≠_;rw[k];decide)] at q;show q
 .show e0.hok.fresh (Ah (x.above y c (C8 h)))
 .unfold start;change _=N.length;rw[AA,A1,BJ];lia
def zY{k:Nat}{f:Sx}{name:Str}{params:Arguments}{dV kV Ow pm Na ct oc:Sv}{an od:SG Sx}
  {Q7:Array (SG Sv)}{sp:Sp} (lk:K.lookup f=some {oc,od,.func (W.fnOf name MV params body scope dV kV Ow pm an Na ct),Q7}) (PL:W.codeIn K Na MV=true) (S:FnScope N ps scope)
  (len:∀vs H Q E,sp vs H Q E->vs.length=ps.length)
  (OE:∀(A:SC) (outer:SD Env) (s:Sw) (H:Hp) (vs:SD V) (Q:VK) (E:XK),Room k (A.deeper (envOfC MV scope s.heap.objs.size f Na))->sp vs H Q E->
   ∃t,PSs (gj CX P w K mg base N MV scope f Na A outer s H E) body t/\t {nx:=λ_ H'=>Q .non H',rt:=Q} (start N vs) H):
  FnOk P w K mg base CX (k+1) f (W.fnOf name MV params body scope dV kV Ow pm an Na ct) ps sp:=by
 show{len,λA outer s H args us vs Q E hr e0 hb r Q8=>?_};have hl:=len _ _ _ _ Q8;have KX:K.In s.heap:=e0.mod.kin.keeps λb o e=>(e0.bs b o e).1;have lim:s.heap.NoLimit:=e0.mod.nolimit.keeps λb o e=>(e0.bs b o e).1;have Nz:∀y∈ps.zip us,scope.names.lookup y.1=some .local\/(scope.names.lookup y.1=some .cell/\((cellsFrom (s.heap.objs.size+1) scope.names []).lookup y.1).isSome=true):=λPK hy=>by
  have{n,v}:=PK;rcases S.par n (List.of_mem_zip hy).1 with q|q
  .show .inl q
  .show .inr {q,W.cellsFrom_some _ _ _ (.inl q)}
 show codeAny_call_function hr.depth (KX _ _ lk) rfl S.co S.gen rfl (W.codeRec_of KX PL) (hb _ _ _ _ ?_);show wpAny_newFunctionEnv_cells S.kind Nz λenv he s1 x=>?_;subst he;show{lim.keeps x.toInCall.keep,codeAny_func ?_};have{t,ht,hq}:=OE A outer s H vs Q E (hr.deeper _) Q8;have I:Inv (gj CX P w K mg base N MV scope f Na A outer s H E) [] (start N vs) H s1:=zX S hr.hd e0 hl r x;show Bx (ht [] s1 (start N vs) H _ I hq) (λfl s' hs=>?_) λe s' hs=>hs;have fin:∀{σ':St}{H':Hp}{v:V}{u:Sv},Inv (gj CX P w K mg base N MV scope f Na A outer s H E) [] σ' H' s'->aw v u->Q v H'->CE outer P w H s Q u s':=
  fun{σ' H' v u} J rv q=>{v,H',J.os,J.bare,J.base,J.hok,rv,q}
 cases fl with
 |ret u=>
  have{v,σ',H',J,rv,q}:=hs;show fin J rv q
 |next=>
  have{σ',H',J,q}:=hs;show fin (v:=V.non) (u:=Value.none) J rfl q
 |brk=>
  have{_,_,_,q}:=hs;show False.elim q
 |cont=>
  have{_,_,_,q}:=hs;show False.elim q
section
variable{X:Cx}{x:Str}{p pos:Pos}{e:SE}{es:SD SE}{t:TA}{id T:String}{r:SD V->Hp->VK->Prop}
def tCB(r:SD V->Hp->VK->Prop)(t:TA):TE:=λσ H Q=>t σ H λvs H1=>r vs H1 Q
def bf(hc:bE X (.builtin id) r)(hg:Gl X x)(hm:X.mg x=none)(hv:bootBuiltins x=some (.builtin id))(ha:PA X (e::es) t)(hn:x≠"__name__":=by decide)(QE:(x==("__debug__":Str))=false:=by decide)
  (he:starEach (e::es) X.env=(false,eval e X.env)::starEach es X.env:=by rfl) (OS:(backTo pos (starEach es X.env)).any (·.1)=false:=by rfl):PE X (.Call (.Name x p) (e::es) [] pos) (tCB r t):=by
 intro MO s σ H Q I h;show Bl (cY I hg hm hv ?_ hn QE);show DK (thn (ha pos MO s σ H _ I h) λus s1 Np=>by have{vs,H1,I1,r1,q1}:=Np;show hc MO s1 σ H1 vs us Q I1 r1 q1) he OS
def i0(hc:bE X (.type T) r)(hg:Gl X x)(hm:X.mg x=none)(hv:bootBuiltins x=some (.type T))(ha:PA X (e::es) t)(hn:x≠"__name__":=by decide)(QE:(x==("__debug__":Str))=false:=by decide)
  (he:starEach (e::es) X.env=(false,eval e X.env)::starEach es X.env:=by rfl) (OS:(backTo pos (starEach es X.env)).any (·.1)=false:=by rfl):PE X (.Call (.Name x p) (e::es) [] pos) (tCB r t):=by
 intro MO s σ H Q I h;show Bl (cY I hg hm hv ?_ hn QE);show B7 (thn (ha pos MO s σ H _ I h) λus s1 Np=>by have{vs,H1,I1,r1,q1}:=Np;show hc MO s1 σ H1 vs us Q I1 r1 q1) he OS
end
end L2
namespace HT
open PySem PyProof.Rows
variable{Q:Sv->Sw->Prop}{hi lo:SG Int}{sl:Sx}{vl vu:Sv}
section
open PySem.SeqAt
open PySem.AutoSeq1 (wpAny_loadPart')
open PySem.MeetsSeq PySem.MeetsSeq2 PySem.MeetsSeq3
end
section
variable{prog:Sy}{w:SB}{A:SC}{E:Sv->Sw->Prop}{s:Sw}
def cat_tup{t b:Sx}{vs ws:SD Sv}(ht:IsTup s.heap t vs.toArray)(hb:IsTup s.heap b ws.toArray)(hv:vs≠[])
  (h1:ws=[]->Q (.ref t) s) (h2:ws≠[]->Q (.ref s.heap.objs.size) {s with heap:=s.heap.push {cls:= .type "tuple",data:= .seq (vs++ws).toArray}})
  (hsz:vs.length+ws.length<=sizeLine):wpAny (model prog w) A (binaryOp .Add (.ref t) (.ref b)) Q E s:=by
 have{{cls,dd,data,sl},ho,hc,n,hd}:=id ht;have{{PM,N8,data2,N9},NA,NS,n2,N'}:=id hb;simp only at hc hd NS N';subst hc hd NS N';have e:vs.toArray++ws.toArray=(vs++ws).toArray:=by simp
 by_cases hw:ws=[]
 .show concat_meets {_,ho,0} {_,NA,0} noFill_tuple_add seq_tuple_add PySem.F.slot_tuple_add PySem.F.entry_tuple_add (PySem.F.args_tuple_add_2 _ _)
   (tuple_addW1 t b vs.toArray ws.toArray n n2 dd N8 sl N9 (by simpa using hv) (by simp[hw])) {ho,NA,h1 hw}
 .show concat_meets {_,ho,0} {_,NA,0} noFill_tuple_add seq_tuple_add PySem.F.slot_tuple_add PySem.F.entry_tuple_add (PySem.F.args_tuple_add_2 _ _)
   (tuple_addW2 t b vs.toArray ws.toArray n n2 dd N8 sl N9 (by simpa using hv) (by simpa using hw) (by rw[AK,AK];show hsz)) {ho,NA,?_}
  rw[e];show h2 hw
def sIx(n d:Nat):SG Int->Nat
 |none=>d
 |some v=>if v<0 then(v+(n:Int)).toNat else min v.toNat n
def sIx_none(n d:Nat):sIx n d none=d:=rfl
def sIx_nat(n d k:Nat):sIx n d (some (k:Int))=min k n:=by
 change(if(k:Int)<0 then((k:Int)+(n:Int)).toNat else min (k:Int).toNat n)=min k n;rw[A5 (by lia),B1]
def zZ(n d:Nat)(hd:d<=n)(o:SG Int):sIx n d o<=n:=by
 cases o with
 |none=>show hd
 |some v=>
  change(if v<0 then(v+(n:Int)).toNat else min v.toNat n)<=n;by_cases hv:v<0
  .rw[A6 hv];lia
  .rw[A5 hv];show Nat.min_le_right _ _
def sD(v:Int)(n d:Nat):(if v<0 then max (v+(n:Int)) 0 else min v (n:Int))=((sIx n d (some v):Nat):Int):=by
 change(if v<0 then max (v+(n:Int)) 0 else min v (n:Int))=(((if v<0 then(v+(n:Int)).toNat else min v.toNat n):Nat):Int);by_cases hv:v<0
 .simp only[A6 hv];lia
 .simp only[A5 hv];lia
def z0(lo hi:SG Int)(n:Nat):Builtin.Slice.sliceAdjust lo hi 1 (n:Int)=(((sIx n 0 lo:Nat):Int),((sIx n n hi:Nat):Int)):=by
 have h1:¬((1:Int)<0):=by lia
 unfold Builtin.Slice.sliceAdjust;simp only[h1,Au];show Prod.ext ?_ ?_
 .cases lo with
  |none=>rfl
  |some v=>show sD v n 0
 .cases hi with
  |none=>rfl
  |some v=>show sD v n n
def z9(i j:Nat):Builtin.Slice.slicePlaces (i:Int) (j:Int) 1=j-i:=by
 unfold Builtin.Slice.slicePlaces;have h1:(1:Int)>0:=by lia
 simp only[h1,C9,Int.ediv_one];split<;>lia
def sE{v:Sv}{o:SG Int}{Q:SG Int->Sw->Prop}(p:IsPart v o)(h:Q o s):wpAny (model prog w) A (Builtin.Slice.slicePartIndex v) Q E s:=by
 cases p with
 |none=>show slicePart_none h
 |int i t=>show slicePart_int h
def sF{n:Nat}{Q:Int×Int×Nat->Sw->Prop}(hs:s.heap.IsSliceOf sl vl vu .none)(pl:IsPart vl lo)(pu:IsPart vu hi)
  (h:Q (((sIx n 0 lo:Nat):Int),1,sIx n n hi-sIx n 0 lo) s):wpAny (model prog w) A (Builtin.Slice.sliceApplied (.ref sl) (pure (n:Int))) Q E s:=by
 have{os,RC,Q9,hds}:=id hs;unfold Builtin.Slice.sliceApplied Builtin.Slice.sliceFields;show A0 (A0 (Bt RC hds (x:=vl) rfl (A0 (Bt RC hds (x:=vu) rfl (A0 (Bt RC hds (x:= .none) rfl (A3 ?_)))))));show A0 (slicePart_none ?_);change wpAny _ _ (if((1:Int)==0)=true then _ else _) _ _ s;rw[A5 (by decide)];show A0 (sE pl (A0 (sE pu (A0 (A3 ?_)))));change wpAny _ _ (match Builtin.Slice.sliceAdjust lo hi 1 (n:Int) with|(lo,hi)=>pure (lo,(1:Int),Builtin.Slice.slicePlaces lo hi 1)) _ _ s;rw[z0 lo hi n];change wpAny _ _ (pure (((sIx n 0 lo:Nat):Int),(1:Int),Builtin.Slice.slicePlaces ((sIx n 0 lo:Nat):Int) ((sIx n n hi:Nat):Int) 1)) _ _ s;rw[z9];show A3 h
def Di(xs:Array Sv)(i k:Nat):((List.range k).filterMap fun(m:Nat)=>xs[((i:Int)+(m:Int)*1).toNat]?).toArray=((xs.toList.drop i).take k).toArray:=by
 have e:(fun(m:Nat)=>xs[((i:Int)+(m:Int)*1).toNat]?)=λm=>xs[i+m]? :=by
  funext m
  have:((i:Int)+(m:Int)*1).toNat=i+m:=by lia
  rw[this]
 rw[e];have:=pick_run xs i k;rw[List.filterMap_map] at this;have e2:((λx=>xs[x]?)∘λx=>i+x)=λm=>xs[i+m]? :=rfl;rw[e2] at this;rw[this]
def getItem_tuple_cut{t:Sx}{items:Array Sv}(ht:IsTup s.heap t items)(hs:s.heap.IsSliceOf sl vl vu .none)(pl:IsPart vl lo)(pu:IsPart vu hi)
  (hw:¬(sIx items.size 0 lo=0/\sIx items.size items.size hi=items.size))
  (h:Q (.ref s.heap.objs.size) {s with heap:=s.heap.push {cls:= .type "tuple",data:= .seq ((items.toList.drop (sIx items.size 0 lo)).take (sIx items.size items.size hi-sIx items.size 0 lo)).toArray}})
  (hsz:items.size<=sizeLine):wpAny (model prog w) A (getItem (.ref t) (.ref sl)) Q E s:=by
 have O':sizeOk (.seq ((items.toList.drop (sIx items.size 0 lo)).take (sIx items.size items.size hi-sIx items.size 0 lo)).toArray):=by
  change((items.toList.drop (sIx items.size 0 lo)).take (sIx items.size items.size hi-sIx items.size 0 lo)).toArray.size<=sizeLine;rw[AK,AV,Bw,Aj];lia
 have hj:sIx items.size items.size hi<=items.size:=zZ _ _ (A9 _) hi;have{os,RC,Q9,hds}:=id hs;have hTs:s.TypeIs (.ref sl) "slice":={os,RC,Q9};unfold getItem;try with_reducible show Av ?_
 first|show A0 (A3 ?_)|skip
 show A0 (wpAny_sequenceKey ht.typeIs (by decide) ?_);show A0 (B6 (name:=Str.ofString "__getitem__") ht.typeIs Be
  (An Be ht.typeIs entry_tuple_getitem ?_ (args_tuple_getitem _ _)))
 change wpAny _ _ (Builtin.Tuple.tupleItemsOf (.ref t)>>=_) _ _ s;show A0 (tupleItemsOf_ ht ?_);show A0 (Cy hTs ?_);rw[A6 (by decide)];show A0 (sF hs pl pu ?_);have hno:¬((((sIx items.size 0 lo:Nat):Int)==0&&(1:Int)==1&&(sIx items.size items.size hi-sIx items.size 0 lo)==items.size)=true):=by
  intro q;rw[AM,AM] at q;have q1:((sIx items.size 0 lo:Nat):Int)=0:=eq_of_beq q.1.1;have q2:sIx items.size items.size hi-sIx items.size 0 lo=items.size:=eq_of_beq q.2;show hw {4,4}
 change wpAny _ _ (if(((sIx items.size 0 lo:Nat):Int)==0&&(1:Int)==1&&(sIx items.size items.size hi-sIx items.size 0 lo)==items.size)=true then _ else _) _ _ s;rw[A5 hno,Di];first
  |show A0 (m:=Builtin.Tuple.tupleExact _) (Ap (A3 {1,A3 h}) O')
  |show A0 (m:=Builtin.Tuple.tupleExact _) (Ap (A0 (A3 (A3 {1,A3 h}))) O')
  |show A0 (A0 (m:=Builtin.Tuple.tupleExact _) (Ap (A3 (A3 {1,A3 h})) O'))
  |show A0 (A0 (m:=Builtin.Tuple.tupleExact _) (Ap (A3 {1,A3 h}) O'))
end
end HT
namespace L2
open PySem PySem.Spec PyProof.Rows
variable{H:Hp}{MO:SD (Sx×Obj)}{i:Int}{j n:Nat}{s:Sw}{xs:SD V}
abbrev TO:=St->Hp->(SG Int->Hp->Prop)->Prop
def PO(X:Cx)(e:SG SE)(t:TO):Prop:=
 ∀(MO:SD (Sx×Obj)) (s:Sw) (σ:St) (H:Hp) (Q:SG Int->Hp->Prop),Inv X MO σ H s->t σ H Q->
  wpAny (model X.prog X.w) X.A (evalPart e X.env) (λu s'=>∃o H',Inv X MO σ H' s'/\IsPart u o/\Q o H') X.xe s
def Dj:TO:=λ_ H Q=>Q none H
inductive tPart_(Q:(Option Int->Hp->Prop))(x:V)(H1:Hp):Prop
 |mk i:x=.int i->Q (some i) H1->tPart_ Q x H1
def Dk(t:TE):TO:=λσ H Q=>t σ H λx H1=>tPart_ Q x H1
def mI{ns:SD Int}:∀{us:SD Sv},ax (ns.map V.int) us->IntsAre us ns:=by
 induction ns with
 |nil=>intro us r;rw[List.map_nil] at r;cases r;show .nil
 |cons n ns ih=>
  intro us r;rw[AG] at r;cases r with
  |cons r1 r2=>
   have{t,e}:=r1;subst e;show .cons n t (ih r2)
section
variable{X:Cx}{e:SE}{te:TE}{lo hi:SG SE}{tl th:TO}{pos p2:Pos}
def ff:PO X none Dj:=by
 intro MO s σ H Q I h;rw[evalPart_none];show A3 {none,H,I,.none,h}
def dW(h:PE X e te):PO X (some e) (Dk te):=by
 intro MO s σ H Q I hw;rw[evalPart_some];show thn (h MO s σ H _ I hw) λu s1 zu33=>?_;have{x,H1,I1,r1,q1}:=zu33;have{i,0,q}:=q1;have{t,0}:=r1;show{some i,H1,I1,.int i t,q}
def SlR(X:Cx)(r:V->SG Int->SG Int->Hp->VK->Prop):Prop:=
 ∀(MO:SD (Sx×Obj)) (s:Sw) (σ:St) (H:Hp) (x:V) (v vl vu:Sv) (lo hi:SG Int) (sl:Sx) (Q:VK),Inv X MO σ H s->aw x v->s.heap.IsSliceOf sl vl vu .none->IsPart vl lo->IsPart vu hi->r x lo hi H Q->
  ∃T id,typeLookup (.type T) "__getitem__"=pure (some (.builtin id))/\s.TypeIs v T/\wpAny (model X.prog X.w) X.A (getItem v (.ref sl)) (EP X MO σ Q) X.xe s
def tSl(r:V->SG Int->SG Int->Hp->VK->Prop)(te:TE)(tl th:TO):TE:=λσ H Q=>te σ H λx H1=>tl σ H1 λl H2=>th σ H2 λu H3=>r x l u H3 Q
def eJ{r:V->SG Int->SG Int->Hp->VK->Prop}(hr:SlR X r)(he:PE X e te)(hl:PO X lo tl)(hu:PO X hi th):PE X (.Subscript e (.Slice lo hi none p2) pos) (tSl r te tl th):=by
 intro MO s σ H Q I h;show Subscript_ (thn (he MO s σ H _ I h) λv s1 zu34=>?_);have{x,H1,I1,r1,q1}:=zu34;show wpAny_Slice (thn (hl MO s1 σ H1 _ I1 q1) λvl s2 zu35=>?_);have{l,H2,I2,pl,q2}:=zu35;show thn (hu MO s2 σ H2 _ I2 q2) λvu s3 zu36=>?_;have{u,H3,I3,pu,q3}:=zu36;rw[evalPart_none];show A3 ?_;have I4:Inv X MO σ H3 {s3 with heap:=s3.heap.push {cls:= .type "slice",data:= .fields #[vl,vu,.none]}}:=I3.kept (t':=s3.toks) λb ob q=>A4 _ q;have{T,id,hT,ht,hg}:=hr MO {s3 with heap:=s3.heap.push {cls:= .type "slice",data:= .fields #[vl,vu,.none]}} σ H3 x v vl vu l u s3.heap.objs.size Q I4 r1 (Heap.IsSliceOf.new ..) pl pu q3;change wpAny (model X.prog X.w) X.A (subscriptTail e (.Slice lo hi none p2) v (.ref s3.heap.objs.size)) (EP X MO σ Q) X.xe {s3 with heap:=s3.heap.push {cls:= .type "slice",data:= .fields #[vl,vu,.none]}};show tail_any (ops:=[.ref s3.heap.objs.size,v]) ht hT hg (by with_unfolding_all rfl)
def ci(xs:SD V)(lo hi:SG Int):SD V:=(xs.drop (HT.sIx xs.length 0 lo)).take (HT.sIx xs.length xs.length hi-HT.sIx xs.length 0 lo)
def sG(xs:SD V)(lo hi:SG Int):(ci xs lo hi).length<=xs.length:=by
 unfold ci;rw[AV,Bw];lia
inductive rSlT(K:W.Frag)(x:V)(lo:Option Int)(hi:Option Int)(H:Hp)(Q:VK):Prop
 |mk a xs:x=.ref a->SqT K H a xs->¬(HT.sIx xs.length 0 lo=0/\HT.sIx xs.length xs.length hi=xs.length)->(∀p,H p=none->Q (.ref p) (upd H p (.tup (ci xs lo hi))))->rSlT K x lo hi H Q
def Dl:SlR X (rSlT X.K):=by
 intro MO s σ H x v vl vu lo hi sl Q I rx hs pl pu h;have{a,xs,0,hx,hw,q}:=h;cases rx;have{MQ,r,ht,hz}:=I.tuple hx;have MS:MQ.toArray.size=xs.length:=by rw[AK];show r.length.symm
 show{"tuple",_,Be.lookup,ht.typeIs,?_};show HT.getItem_tuple_cut ht hs pl pu (by rw[MS];show hw) ?_ (by rw[MS];show hz);rw[MS];show{.ref s.heap.objs.size,_,I.laid (t':=s.toks) (o:= .tup (ci xs lo hi)) (λb ob q=>A4 _ q) (A9 _) ?_,0,q _ (I.hok.fresh (A9 _))};show{BA (sG xs lo hi) hz,_,(r.drop (HT.sIx xs.length 0 lo)).take (HT.sIx xs.length xs.length hi-HT.sIx xs.length 0 lo),IsTup.new _ _}
inductive rCatT(K:W.Frag)(x:V)(y:V)(H:Hp)(Q:VK):Prop
 |mk a b xs ys:x=.ref a->y=.ref b->SqT K H a xs->SqT K H b ys->xs≠[]->xs.length+ys.length<=sizeLine->((ys=[]->Q (.ref a) H))->((ys≠[]->∀p,H p=none->Q (.ref p) (upd H p (.tup (xs++ys)))))->rCatT K x y H Q
def ax.nil_iff{us:SD Sv}(r:ax xs us):us=[]↔xs=[]:=by
 cases r with
 |nil=>simp
 |cons _ _=>simp
def Dm:OpR X (binaryOp .Add) (rCatT X.K):=by
 intro MO s σ H x y v u Q I rx ry h;have{a,b,xs,ys,0,0,ha,hb,hx,hz,q1,q2}:=h;cases rx;cases ry;have{MQ,r1,p1,_}:=I.tuple ha;have{Ol,r2,p2,_}:=I.tuple hb;show HT.cat_tup p1 p2 (λz=>hx (r1.nil_iff.mp z)) (λz=>{.ref a,H,I,0,q1 (r2.nil_iff.mp z)}) (λz=>?_) (by rw[<-r1.length,<-r2.length];show hz);show{.ref s.heap.objs.size,_,I.laid (t':=s.toks) (o:= .tup (xs++ys)) (λb ob q=>A4 _ q) (A9 _) ?_,0,q2 (λw=>z (r2.nil_iff.mpr w)) _ (I.hok.fresh (A9 _))};show{by rw[AA];show hz,_,r1.append r2,IsTup.new _ _}
end
def ixN(n:Nat)(i:Int):SG Nat:=if 0<=i then(if i<n then some i.toNat else none) else if -(n:Int)<=i then some (i+n).toNat else none
def atI{α:Type}(xs:SD α)(i:Int):SG α:=(ixN xs.length i).bind λj=>xs[j]?
def sI(h:ixN n i=some j):seqIndex? i n=some j/\j<n/\-(n:Int)<=i/\i<n:=by
 unfold ixN at h;by_cases h0:0<=i
 .rw[A6 h0] at h;by_cases h1:i<n
  .rw[A6 h1] at h;have e:i.toNat=j:=Ad h;show{by rw[seqIndex_of h0 h1,e],4,4,h1}
  .rw[A5 h1] at h;cases h
 .rw[A5 h0] at h;by_cases h1: -(n:Int)<=i
  .rw[A6 h1] at h;have e:(i+n).toNat=j:=Ad h;show{by rw[seqIndex_neg (by lia) h1,e],4,h1,4}
  .rw[A5 h1] at h;cases h
def sJ{α:Type}{xs:SD α}{v:α}(h:atI xs i=some v):∃j,seqIndex? i xs.length=some j/\xs[j]? =some v/\j<xs.length/\-(xs.length:Int)<=i/\i<xs.length:=by
 unfold atI at h;cases e:ixN xs.length i with
 |none=>rw[e] at h;cases h
 |some j=>
  rw[e] at h;have{h1,h2,h3,h4}:=sI e;show{j,h1,h,h2,h3,h4}
def ki{α:Type}{xs:SD α}{v:α}(h:xs[j]? =some v):atI xs (j:Int)=some v:=by
 have hj:j<xs.length:=(A8.mp h).1;have e:ixN xs.length (j:Int)=some j:=by
  unfold ixN;rw[A6 (by lia),A6 (by lia)];simp
 unfold atI;rw[e];show h
def Do(b:SE):Prop:=∀o i,subscripted b false o i=operate [o,i] (getItem o i)
def IxR(X:Cx)(r:R2):Prop:=
 ∀(value M9:SE) (MO:SD (Sx×Obj)) (s:Sw) (σ:St) (H:Hp) (x y:V) (v u:Sv) (Q:VK),Inv X MO σ H s->aw x v->aw y u->r x y H Q->
  subscripted M9 false v u=operate [v,u] (getItem v u)->wpAny (model X.prog X.w) X.A (subscriptTail value M9 v u) (EP X MO σ Q) X.xe s
def MtR(X:Cx)(id:String)(r:V->SD V->Hp->VK->Prop):Prop:=
 ∀(MO:SD (Sx×Obj)) (s:Sw) (σ:St) (H:Hp) (x:V) (xs:SD V) (v:Sv) (us:SD Sv) (Q:VK),Inv X MO σ H s->aw x v->ax xs us->r x xs H Q->
  wpAny (model X.prog X.w) X.A (call (.builtin id) (v::us)) (EP X MO σ Q) X.xe s
section
variable{X:Cx}{a b:SE}{ta tb:TE}{pos:Pos}
def ay{r:R2}(hr:IxR X r)(ha:PE X a ta)(hb:PE X b tb)(hs:Do b):PE X (.Subscript a b pos) (tOp r ta tb):=by
 intro MO s σ H Q I h;show Subscript_ (mF ha hb I h λv u s2 x y H2 I2 rx ry q=>hr a b MO s2 σ H2 x y v u Q I2 rx ry q (hs _ _))
inductive rIxL(K:W.Frag)(x:V)(y:V)(H:Hp)(Q:VK):Prop
 |mk p xs i v:x=.ref p->y=.int i->SqL K H p xs->atI xs i=some v->Q v H->rIxL K x y H Q
inductive rIxT(K:W.Frag)(x:V)(y:V)(H:Hp)(Q:VK):Prop
 |mk p xs i v:x=.ref p->y=.int i->SqT K H p xs->atI xs i=some v->Q v H->rIxT K x y H Q
def cC:IxR X (rIxL X.K):=by
 intro value M9 MO s σ H x y v u Q I rx ry h hs;have{p,xs,i,z,0,0,hq,he,q}:=h;cases rx;have{t,0}:=ry;have{MQ,r,pl,hz}:=I.list hq;have{j,h1,h2,h3,h4,h5}:=sJ he;have{w,ew,Om}:=r.get h2;have hl:=r.length;have hn:=gh;have fin:EP X MO σ Q w s:={z,H,I,Om,q};by_cases h0:0<=i
 .have hj:i.toNat=j:=by
   rw[seqIndex_of h0 h5] at h1;show Ad h1
  show item_listR pl.isList h0 (by lia) (by rw[hj];simpa using ew) fin hs
 .have hj:(i+(MQ.toArray.size:Int)).toNat=j:=by
   rw[seqIndex_neg (by lia) h4] at h1;rw[AK,<-hl];show Ad h1
  show subscriptTail_builtinR (x:=w) pl.isList.typeIs slot_list_getitem.lookup
   (wpAny_getItem_list_neg (Q:=λr s'=>r=w/\EP X MO σ Q r s') pl.isList (by lia) (by rw[AK]<;>lia) (by lia) (by rw[hj];simpa using ew) {0,fin}) hs
def Dp:IxR X (rIxT X.K):=by
 intro value M9 MO s σ H x y v u Q I rx ry h hs;have{p,xs,i,z,0,0,hq,he,q}:=h;cases rx;have{t,0}:=ry;have{MQ,r,pl,hz}:=I.tuple hq;have{j,h1,h2,h3,h4,h5}:=sJ he;have{w,ew,Om}:=r.get h2;have hl:=r.length;have hn:=gh;have fin:EP X MO σ Q w s:={z,H,I,Om,q};show subscriptTail_builtinR (x:=w) pl.typeIs slot_tuple_getitem.lookup
  (getItem_tuple (j:=j) (Q:=λr s'=>r=w/\EP X MO σ Q r s') pl (by lia) (by lia) (by rw[AK,<-hl];show h1) (by simpa using ew) {0,fin}) hs
def Dq(MQ:SD Sv)(n j:Nat)(u:Sv):Obj.mapSeq (·.setIfInBounds j u) {cls:= .type "list",data:= .seq MQ.toArray n}={cls:= .type "list",data:= .seq (MQ.set j u).toArray n}:=by
 simp[Obj.mapSeq]
def Inv.lst{MO:SD (Sx×Obj)}{σ:St}{H:Hp}{s:Sw}{p:Sx}{xs:SD V}(I:Inv X MO σ H s)(h:H p=some (.lst xs)):
  ∃(MQ:SD Sv) (n:Nat),ax xs MQ/\s.heap.get? p=some {cls:= .type "list",data:= .seq MQ.toArray n}/\xs.length<=sizeLine:=by
 have{z,MQ,n,r,e}:=I.hok p _ h;show{MQ,n,r,e,z}
def Inv.lstUpd{σ:St}{p:Sx}{ys:SD V}{MQ its':SD Sv}{n n':Nat}{f:Obj->Obj}(I:Inv X MO σ H s)(h:H p=some (.lst xs))
  (ho:s.heap.get? p=some {cls:= .type "list",data:= .seq MQ.toArray n}) (hf:f {cls:= .type "list",data:= .seq MQ.toArray n}={cls:= .type "list",data:= .seq its'.toArray n'}) (r:ax ys its') (hz:ys.length<=sizeLine) (t:Nat):
  Inv X MO σ (upd H p (.lst ys)) {s with heap:=s.heap.update p f,toks:=t}:=by
 have e:(s.heap.update p f).get? p=some {cls:= .type "list",data:= .seq its'.toArray n'}:=by
  rw[B8 f ho (by rw[hf]<;>rfl),hf]
 show I.write (x:=p) (e:=p) (by rw[h];trivial) (.inl rfl) (λb u hb q=>(Ac _ _ (BG hb)).trans q) {_,e} ?_;show{hz,its',n',r,e}
inductive rSetL(o:V)(i:V)(v:V)(H:Hp)(Q:(Hp->Prop)):Prop
 |mk p xs k j:o=.ref p->i=.int k->H p=some (.lst xs)->ixN xs.length k=some j->Q (upd H p (.lst (xs.set j v)))->rSetL o i v H Q
def kj:mC X rSetL:=by
 intro MO s σ H o i v ov iv u Q I ro ri rv h;have{p,xs,k,j,0,0,hp,hj,q}:=h;cases ro;have{t,0}:=ri;have{MQ,n,r,ho,hz}:=I.lst hp;have{h1,h2,h3,h4}:=sI hj;have hl:=r.length;have hn:=gh;have I':Inv X MO σ (upd H p (.lst (xs.set j v))) {s with heap:=s.heap.update p (Obj.mapSeq (·.setIfInBounds j u))}:=
  I.lstUpd hp ho (Dq MQ n j u) (r.set rv j) (by rw[C6];show hz) s.toks
 by_cases h0:0<=k
 .have hk:k.toNat=j:=by
   rw[seqIndex_of h0 h4] at h1;show Ad h1
  show W.ki_setAt ho h0 (by lia) (by rw[AK,<-hl];show h4) (by rw[hk];show{_,I',q})
 .have hk:(k+(MQ.toArray.size:Int)).toNat=j:=by
   rw[seqIndex_neg (by lia) h3] at h1;rw[AK,<-hl];show Ad h1
  show W.ki_setBack ho (by lia) (by rw[AK,<-hl];show h3) (by lia) (by rw[hk];show{_,I',q})
def Dr(lo hi:SG Int)(n:Nat):(sliceBounds lo hi none n).1=((HT.sIx n 0 lo:Nat):Int)/\(sliceBounds lo hi none n).2.1=((HT.sIx n n hi:Nat):Int)/\(sliceBounds lo hi none n).2.2=1:=by
 show{?_,?_,0}
 .cases lo with
  |none=>simp[sliceBounds,HT.sIx]
  |some i=>
   simp only[sliceBounds,HT.sIx,Option.getD_none,show(1:Int)>0 by decide,C9];by_cases h:i<0
   .simp only[h,C9]<;>lia
   .simp only[h,Au]<;>lia
 .cases hi with
  |none=>simp[sliceBounds,HT.sIx]
  |some i=>
   simp only[sliceBounds,HT.sIx,Option.getD_none,show(1:Int)>0 by decide,C9];by_cases h:i<0
   .simp only[h,C9]<;>lia
   .simp only[h,Au]<;>lia
def Ds(MQ:SD Sv)(lo hi:SG Int):slicePick MQ.toArray lo hi none=((MQ.drop (HT.sIx MQ.length 0 lo)).take (HT.sIx MQ.length MQ.length hi-HT.sIx MQ.length 0 lo)).toArray:=by
 have{h1,h2,h3}:=Dr lo hi MQ.toArray.size;unfold slicePick;rw[h1,h2,h3];simp only[sliceRange_one,pick_run,AK]<;>rfl
inductive rSlL(K:W.Frag)(x:V)(lo:Option Int)(hi:Option Int)(H:Hp)(Q:VK):Prop
 |mk a xs:x=.ref a->SqL K H a xs->(∀p,H p=none->Q (.ref p) (upd H p (.lst (ci xs lo hi))))->rSlL K x lo hi H Q
def fO:SlR X (rSlL X.K):=by
 intro MO s σ H x v vl vu lo hi sl Q I rx hs pl pu h;have{a,xs,0,hx,q}:=h;cases rx;have{MQ,r,ht,hz}:=I.list hx;have MS:=r.length;show{"list",_,slot_list_getitem.lookup,ht.isList.typeIs,?_};show wpAny_getItem_list_slice ht.isList hs pl pu .none (by simp) ?_ (by rw[AK]<;>lia)
 rw[Ds,<-MS];show{.ref s.heap.objs.size,_,I.laid (t':=s.toks) (o:= .lst (ci xs lo hi)) (λb ob q=>A4 _ q) (A9 _) ?_,0,q _ (I.hok.fresh (A9 _))};show{BA (sG xs lo hi) hz,_,(0),(r.drop (HT.sIx xs.length 0 lo)).take (HT.sIx xs.length xs.length hi-HT.sIx xs.length 0 lo),AE _ rfl}
def i5:bE X (.builtin "len") (λxs H Q=>∃p ys,xs=[.ref p]/\(SqL X.K H p ys\/SqT X.K H p ys)/\Q (.int ys.length) H):=by
 intro MO s σ H xs us Q I r h;have{p,ys,0,hq,q}:=h;have{u,0,rx}:=dq r;cases rx;have hn:=gh;rcases hq with hq|hq
 .have{MQ,r',pl,hz}:=I.list hq;have MS:=r'.length;show Calls.call_len_list pl.isList (by simp only[AK]<;>lia) {.int ys.length,H,I.tok _,{s.toks+1,by rw[AK,MS]},q}
 .have{MQ,r',pl,hz}:=I.tuple hq;have MS:=r'.length;show len_tuple pl (by simp only[AK]<;>lia) {.int ys.length,H,I.tok _,{s.toks+1,by rw[AK,MS]},q}
def Dt:bE X (.type "list") (λxs H Q=>∃p ys,xs=[.ref p]/\(SqL X.K H p ys\/SqT X.K H p ys)/\∀l,H l=none->Q (.ref l) (upd H l (.lst ys))):=by
 intro MO s σ H xs us Q I r h;have{p,ys,0,hq,q}:=h;have{u,0,rx}:=dq r;cases rx;have fin:∀(MQ:SD Sv),ax ys MQ->ys.length<=sizeLine->∀(h':SF) (c':Nat),(∀b o',s.heap.get? b=some o'->h'.get? b=some o')->
   h'.get? s.heap.objs.size=some {cls:= .type "list",dict:=none,data:= .seq MQ.toArray c',slots:= #[]}->EP X MO σ Q (.ref s.heap.objs.size) {s with heap:=h'}:=λMQ r' hz h' c' kp e=>
  {.ref s.heap.objs.size,_,I.laid (t':=s.toks) kp (A9 _) (show aE X.prog X.w _ h' _ (.lst ys) from{hz,MQ,c',r',e}),0,q _ (I.hok.fresh (A9 _))}
 rcases hq with hq|hq
 .have{MQ,r',pl,hz}:=I.list hq;have MS:=r'.length;have{o,ho,hc,n,hd}:=pl.isList;show call_list_seq p (.inl rfl) ho hc hd (λh' c' kp e=>fin MQ r' hz h' c' kp e) (by simp only[AK]<;>lia)
 .have{MQ,r',pl,hz}:=I.tuple hq;have MS:=r'.length;have{o,ho,hc,n,hd}:=pl;show call_list_seq p (.inr rfl) ho hc hd (λh' c' kp e=>fin MQ r' hz h' c' kp e) (by simp only[AK]<;>lia)
def Du:bE X (.type "tuple") (λxs H Q=>∃p ys,xs=[.ref p]/\((SqL X.K H p ys/\∀l,H l=none->Q (.ref l) (upd H l (.tup ys)))\/(SqT X.K H p ys/\Q (.ref p) H))):=by
 intro MO s σ H xs us Q I r h;have{p,ys,0,h}:=h;have{u,0,rx}:=dq r;cases rx;rcases h with⟨hq,q⟩|⟨hq,q⟩
 .have{MQ,r',pl,hz}:=I.list hq;have MS:=r'.length;show call_tuple_list pl.isList (λh' kp=>?_) (by simp only[AK]<;>lia)
  have I1:Inv X MO σ H {s with heap:=h'}:=I.kept (t':=s.toks) kp;have I2:Inv X MO σ (upd H h'.objs.size (.tup ys)) {s with heap:=h'.push {cls:= .type "tuple",data:= .seq MQ.toArray}}:=
   I1.laid (t':=s.toks) (λb o e=>A4 _ e) (A9 _) (show aE X.prog X.w _ _ _ (.tup ys) from{hz,MQ,r',IsTup.new _ _})
  show{.ref h'.objs.size,_,I2,0,q _ (I1.hok.fresh (A9 _))}
 .have{MQ,r',pl,hz}:=I.tuple hq;show call_tuple_same pl {.ref p,H,I,0,q}
def tyV(K:W.Frag)(T:String)(x:V)(H:Hp):Prop:=match x with
 |.str _=>T="str"
 |.int _=>T="int"
 |.ref p=>(T="list"/\∃xs,SqL K H p xs)\/(T="tuple"/\∃o,K.lookup p=some o/\o.cls=.type "tuple"/\o.dict=none)\/
   (T="dict"/\((∃kvs,H p=some (.dK kvs))\/∃kvs,H p=some (.dT kvs)))\/(T="set"/\∃S n,H p=some (.set S n))
 |_=>False
def Dv{σ:St}{T:String}{x:V}{v:Sv}(I:Inv X MO σ H s)(r:aw x v)(ty:tyV X.K T x H):
  s.TypeIs v T/\∀a,v=.ref a->∃ob,s.heap.get? a=some ob/\ob.dict=none:=by
 cases x with
 |str z=>
  have{t,0}:=r;cases (show T="str" from ty);show{typeIs_str s z t,λ_ e=>nomatch e}
 |int i=>
  have{t,0}:=r;cases (show T="int" from ty);show{typeIs_int s i t,λ_ e=>nomatch e}
 |ref p=>
  cases r;rcases ty with⟨rfl,xs,hq⟩|⟨rfl,o,hk,hc,hd⟩|⟨rfl,hk⟩|⟨rfl,S,n,hk⟩
  .have{MQ,_,pl,_}:=I.list hq;show{pl.isList.typeIs,λa e=>?_};cases e;have{o,n,e,c,hd,_}:=pl;show{o,e,hd}
  .show{{o,I.kIn p o hk,hc},λa e=>?_};cases e;show{o,I.kIn _ o hk,hd}
  .have z:∃o,s.heap.get? p=some o/\o.ExactDict:=by
    rcases hk with⟨kvs,hk⟩|⟨kvs,hk⟩
    .have{_,_,_,_,o,_,_,e,ex,_}:=I.hok p _ hk;show{o,e,ex}
    .have{_,_,_,_,o,_,_,e,ex,_}:=I.hok p _ hk;show{o,e,ex}
   have{o,e,ex}:=z;show{{o,e,ex.1},λa e2=>?_};cases e2;show{o,e,ex.2.1}
  .have{o,_,_,_,e,ex,_}:=I.hok p _ hk;show{{o,e,ex.1},λa e2=>?_};cases e2;show{o,e,ex.2.1}
 |_=>show False.elim ty
def tBM(K:W.Frag)(T:String)(r:V->SD V->Hp->VK->Prop)(to:TE)(t:TA):TE:=λσ H Q=>to σ H λx H1=>tyV K T x H1/\t σ H1 λxs H2=>r x xs H2 Q
variable{o e:SE}{es:SD SE}{to:TE}{t:TA}{name:Str}{Nh M1:Pos}{T id:String}{r:V->SD V->Hp->VK->Prop}
def bA(pa:PlainAttrs T)(slot:Slot T name id)(hty:typeOf (.builtin id)=pure (.type "method_descriptor"))(hm:MtR X id r)(ho:PE X o to)(ha:PA X (e::es) t)
  (PN:attributeBase o name X.env (eval o X.env)=eval o X.env:=by rfl)
  (hfew:((backTo M1 (starEach (e::es) X.env)).all (λx=> !x.1)&&(backToKw M1 (keywordEach [] X.env)).all (λx=>x.1.isSome)
   &&decide ((e::es).length+([]:SD Keyword).length+(if([]:SD Keyword).isEmpty then 0 else 1)<30))=true:=by rfl)
  (PP:(Nh.endLine==M1.line)=true:=by rfl) (hs:starEach (e::es) X.env=(false,eval e X.env)::starEach es X.env:=by rfl) (RD:(backTo M1 (starEach es X.env)).any (·.1)=false:=by rfl):
  PE X (.Call (.Attribute o name Nh) (e::es) [] M1) (tBM X.K T r to t):=by
 intro MO s σ H Q I h;show wpAny_Call_method_late PN hfew PP rfl (thn (ho MO s σ H _ I h) λv s1 zu37=>?_);have{x,H1,I1,r1,ty,q1}:=zu37;have{h1,h2}:=Dv I1 r1 ty;show{T,id,pa,slot,hty,h1,h2,?_};have hA:=ha M1 MO s1 σ H1 _ I1 q1;rw[hs] at hA⊢;show Calls.callWith_builtin (by change(false||(backTo M1 (starEach es X.env)).any (·.1))=false;rw[RD]<;>rfl) (Calls.evalArgs_plain ?_)
 show thn hA λus s2 Np=>by have{vs,H2,I2,r2,q2}:=Np;show hm MO s2 σ H2 x vs v us Q I2 r1 r2 q2
end
def MtM(X:Cx)(id:String)(r:V->SD V->Hp->VK->Prop):Prop:=
 ∀(MO:SD (Sx×Obj)) (s:Sw) (σ:St) (H:Hp) (x:V) (xs:SD V) (v:Sv) (us:SD Sv) (Q:VK),Inv X MO σ H s->aw x v->ax xs us->r x xs H Q->
  wpAny (model X.prog X.w) X.A (call (.builtin id) (v::us)) (EP X MO σ Q) X.xe s
def ax.one:∀{x:V}{us:SD Sv},ax [x] us->∃u,us=[u]/\aw x u:=by
 intro x us h;cases h with|cons r t=>cases t;show{1,r}
theorem ax.rep{xs:SD V}{us:SD Sv}(h:ax xs us):∀k:Nat,ax (List.replicate k xs).flatten (List.replicate k us).flatten
 |0=>.nil
 |k+1=>by
  rw[Ba,Ba,DB,DB];show ax.append h (ax.rep h k)
theorem sK(MQ:SD Sv):∀(k:Nat) (acc:SD Sv),
  List.foldl (λx1 x2=>x1++x2) acc.toArray (List.replicate k MQ.toArray)=(acc++(List.replicate k MQ).flatten).toArray
 |0,acc=>by simp
 |k+1,acc=>by
  have e:acc.toArray++MQ.toArray=(acc++MQ).toArray:=by simp
  have e2:(acc++MQ)++(List.replicate k MQ).flatten=acc++(List.replicate (k+1) MQ).flatten:=by
   rw[Ba,DB,BV]
  rw[<-e2,<-sK MQ k (acc++MQ),<-e,Ba,CH]
section
variable{X:Cx}{MO:SD (Sx×Obj)}{σ:St}{H:Hp}{s:Sw}{l b:Sx}{xs ys zs:SD V}
def Inv.lset{MQ its':SD Sv}{n:Nat}{f:Array Sv->Array Sv}{t':Nat}(I:Inv X MO σ H s)(hH:H l=some (.lst xs))
  (e:s.heap.get? l=some {cls:= .type "list",data:= .seq MQ.toArray n}) (hf:f MQ.toArray=its'.toArray) (hv:ax ys its') (hz:ys.length<=sizeLine):
  Inv X MO σ (upd H l (.lst ys)) {s with heap:=s.heap.update l (Obj.mapSeq f),toks:=t'}:=by
 have q:=PySem.IsL.update e f;rw[hf] at q;show I.write (x:=l) (e:=l) (by rw[hH];show trivial) (.inl rfl) (λb' u hb hu=>(Ac s.heap (Obj.mapSeq f) (BG hb)).trans hu) {_,q} ?_;show{hz,its',_,hv,q}
def Inv.lnew{MQ:SD Sv}{t':Nat}(I:Inv X MO σ H s)(hv:ax ys MQ)(hz:ys.length<=sizeLine):
  Inv X MO σ (upd H s.heap.objs.size (.lst ys)) {s with heap:=s.heap.push {cls:= .type "list",data:= .seq MQ.toArray},toks:=t'}:=
 I.laid (λ_ _ q=>A4 _ q) (A9 _) {hz,MQ,(0),hv,AE _ rfl}
theorem Inv.fresh(I:Inv X MO σ H s):H s.heap.objs.size=none:=I.hok.fresh (A9 _)
def Inv.lstM(I:Inv X MO σ H s)(hH:H l=some (.lst xs)):xs.length<=sizeLine/\∃(MQ:SD Sv) (n:Nat),ax xs MQ/\xs.length=MQ.length/\s.heap.get? l=some {cls:= .type "list",data:= .seq MQ.toArray n}:=by
 have{z,MQ,n,r,e}:=I.hok l _ hH;show{z,MQ,n,r,r.length,e}
def sL(h:n<=sizeLine):Builtin.List.listTooLong n=false:=by
 unfold Builtin.List.listTooLong;show Ak (by lia)
end
section
variable{X:Cx}
inductive rAppend(x:V)(vs:List V)(H:Hp)(Q:VK):Prop
 |mk l xs y:x=.ref l->vs=[y]->H l=some (.lst xs)->xs.length<sizeLine->Q .non (upd H l (.lst (xs++[y])))->rAppend x vs H Q
def b8:MtM X "list.append" rAppend:=by
 intro MO s σ H x vs v us Q I rx rv h;have{l,xs,y,0,0,hH,hz,q}:=h;cases rx;have{u,0,ru}:=rv.one;have{z,MQ,n,r,hl,e}:=I.lstM hH;show call_meets F.slot_list_append {_,e,0} F.entry_list_append (F.args_list_append_2 _ _) (PySem.list_append l MQ.toArray n u (by rw[AK];lia)) {e,?_};show{.non,_,I.lset (its':=MQ++[u]) hH e (by simp) (r.append (.cons ru .nil)) ?_,0,q};rw[AA,DJ];lia
inductive rExtend(x:V)(vs:List V)(H:Hp)(Q:VK):Prop
 |mk l b xs zs:x=.ref l->vs=[.ref b]->H l=some (.lst xs)->H b=some (.lst zs)->xs.length+zs.length<=sizeLine->Q .non (upd H l (.lst (xs++zs)))->rExtend x vs H Q
def i6:MtM X "list.extend" rExtend:=by
 intro MO s σ H x vs v us Q I rx rv h;have{l,b,xs,zs,0,0,hH,hB,hz,q}:=h;cases rx;have{u,0,ru}:=rv.one;cases ru;have{z,MQ,n,r,hl,e}:=I.lstM hH;have{z2,Ol,n2,r2,NB,e2}:=I.lstM hB;have hsz:MQ.toArray.size+Ol.toArray.size<=sizeLine:=by rw[AK,AK];lia
 have PQ:¬(!MQ.toArray.isEmpty&&Builtin.List.listTooLong (MQ.toArray.size+Ol.toArray.size))=true:=by
  rw[sL hsz,Ci];show AS
 show call_meets F.slot_list_extend {_,e,0} F.entry_list_extend (F.args_list_extend_2 _ _)
  (AutoSeq1.list_extend_list_list_0 l MQ.toArray n b Ol.toArray n2 PQ (by rw[AK];lia) (by lia)) {e,e2,?_}
 show{.non,_,I.lset (its':=MQ++Ol) hH e (by simp) (r.append r2) ?_,0,q};rw[AA];lia
inductive rCat(x:V)(y:V)(H:Hp)(Q:VK):Prop
 |mk l b xs zs:x=.ref l->y=.ref b->H l=some (.lst xs)->H b=some (.lst zs)->xs.length+zs.length<=sizeLine->(∀p,H p=none->Q (.ref p) (upd H p (.lst (xs++zs))))->rCat x y H Q
def km:OpR X (binaryOp .Add) rCat:=by
 intro MO s σ H x y v u Q I rx ry h;have{l,b,xs,zs,0,0,hH,hB,hz,q}:=h;cases rx;cases ry;have{z,MQ,n,r,hl,e}:=I.lstM hH;have{z2,Ol,n2,r2,NB,e2}:=I.lstM hB;show PySem.P.add_list e e2 ?_ (by rw[AK,AK];lia);have ea:MQ.toArray++Ol.toArray=(MQ++Ol).toArray:=by simp
 rw[ea];show{.ref _,_,I.lnew (t':=s.toks) (r.append r2) (by rw[AA];lia),0,q _ I.fresh}
inductive rRep(x:V)(y:V)(H:Hp)(Q:VK):Prop
 |mk l k xs:x=.ref l->y=.int k->H l=some (.lst xs)->-(2^63)<=k->k<2^63->xs.length*k.toNat<=sizeLine->(∀p,H p=none->Q (.ref p) (upd H p (.lst (List.replicate k.toNat xs).flatten)))->rRep x y H Q
def Dw{α:Type}(xs:SD α)(k:Nat):(List.replicate k xs).flatten.length=k*xs.length:=by
 induction k with
 |zero=>simp
 |succ k ih=>rw[Ba,DB,AA,ih,Ck,Nat.add_comm]
def Dx:OpR X (binaryOp .Mult) rRep:=by
 intro MO s σ H x y v u Q I rx ry h;have{l,k,xs,0,0,hH,h1,h2,hz,q}:=h;cases rx;have{t,0}:=ry;have{z,MQ,n,r,hl,e}:=I.lstM hH;have MS:MQ.toArray.size*k.toNat<=sizeLine:=by rw[AK,<-hl];show hz
 have OT:¬MQ.toArray.size*k.toNat>(2^63-1)/8:=by
  have:(sizeLine:Nat)<=(2^63-1)/8:=by decide
  lia
 have hfit:¬(!Builtin.List.listFitsIndex k)=true:=by
  rw[fitsIndex_both h1 h2];show AS
 have PQ:¬Builtin.List.listTooLong (MQ.toArray.size*k.toNat)=true:=by
  rw[sL MS];show AS
 have hnew:List.foldl (λx1 x2=>x1++x2) #[] (List.replicate (if MQ.toArray.isEmpty=true then 0 else k.toNat) MQ.toArray)=(List.replicate k.toNat MQ).flatten.toArray:=by
  have f0:∀m:Nat,List.foldl (λx1 x2=>x1++x2) #[] (List.replicate m MQ.toArray)=(List.replicate m MQ).flatten.toArray:=λm=>by
   have:=sK MQ m [];rw[List.nil_append] at this;show this
  rw[f0];cases MQ with
  |nil=>simp
  |cons a r'=>rw[A5 (by simp)]
 show wpAny_binaryOp_repeat_ref (T:="list") (U:="int") (by decide) {_,e,0} (λs'=>typeIs_int s' k t) noFill_list_mul F.fills_int_mul F.slot_int_rmul repeat_list F.slot_int_index.lookup
  (call_meets F.slot_int_rmul (typeIs_int s k t) F.entry_int_rmul (F.args_int_rmul_2 _ _) (int___rmul___int_list k t l MQ.toArray n)
   {e,0,{_,e,0},call_meets F.slot_list_mul {_,e,0} F.entry_list_mul (F.args_list_mul_2 _ _) (AutoListH.list___mul___list_int_3 l MQ.toArray n k t hfit OT PQ) {e,?_}})
 rw[hnew];show{.ref _,_,I.lnew (t':=s.toks) (r.rep k.toNat) (by rw[Dw,Nat.mul_comm];show hz),0,q _ I.fresh}
end
end L2
namespace Att
open PySem PySem.W PySem.Calls PyProof.Rows
variable{P:Params}{h:SF}{l:OpenLaw}{n:Nat}
def Dy :∀(ns:SD Int) (vs:SD Sv),WellAll P h vs (ns.map WData.int)->IntsAre vs ns:=by
 intro ns;induction ns with
 |nil=>
  intro vs w;rw[List.map_nil] at w;cases w;show .nil
 |cons n ns ih=>
  intro vs w;rw[AG] at w;cases w with
  |cons a b=>
   cases a;show .cons _ _ (ih _ b)
def Dz(hn:l.most=some n){args:SD WData}{PR:SD Sv}
  (QF:l.row.toRowW.claim.pre args=true) (hwl:WellAll P h PR args):
  ∃a vs ns,PR=[Value.ref a]/\args=[WData.list (ns.map WData.int)]/\h.get? a=some {cls:= .type "list",data:= .seq vs.toArray}/\IntsAre vs ns/\ns.length<=n:=by
 have RE:WShape.hasAll [] args [.list .int]=true:=(pre_splitW QF).1;have hc:l.pre.holds [] {args:=args}=true:=(pre_splitW QF).2;have{d,r,0,h1,h2}:=hasAllW_cons RE;obtain rfl:=hasAllW_nil h2;have{xs,0,h3}:=hasW_list h1;have{ns,0}:=items_int h3;have MS:ns.length<=n:=by
  unfold OpenLaw.pre at hc;have h4:(WTm.not (.lt (.lit (.int (n:Int))) (.len (.arg 0)))).holds [] {args:=[.list (ns.map .int)]}=true:=by
   have h4:=(holds_andW hc).1;rw[hn] at h4;show h4
  have h5:=condW_of h4 (w_not (w_lt w_lit (w_len_list (w_arg rfl))));rw[A1] at h5;show Nat.le_of_not_lt λq=>?_;have q':(n:Int)<((ns.length:Nat):Int):=by lia
  first
   |(rw[B4 q'] at h5;show absurd h5 (by decide))
   |(simp at h5;lia)
 cases hwl with
 |cons w1 w2=>
  cases w2;cases w1 with
  |list ho Nt=>show{_,_,ns,0,0,ho,Dy ns _ Nt,MS}
theorem Ea(l:OpenLaw)(args:SD WData):l.row.toRowW.claim.post args (.bool true) args=true:=
 postW_of (r:=l.row.toRowW) (X:=(true==true))
  (show WShape.has [] (.bool true) .bool=true by first|rfl|decide|simp[WShape.has,WShape.arms,WShape.armsAll])
  (show(WTm.eq .res (.lit (.bool true))).value [] {args:=args,res:=some (.bool true),after:=args}=some (.bool (true==true)) from w_eq_bool (w_res rfl) w_lit) rfl
def attach_call{q:Sy}{Of:SD Str}{XP:(Str->SG Sv)->SF->Prop}{YP:SB->SF->Prop}{d:DefRec}
  (hn:l.most=some n) (hdf:d.params.defaults=[])
  (call:∀(w:SB) (s₀ s₁:Sw) (mg mb:Str->SG Sv) (fa:Sx) (o:Obj) (pm cd Ow:Sv) (a:Sx) (vs:SD Sv) (ns:SD Int),
   Ground q Of [] XP w s₀ mg mb s₁.heap->YP w s₁.heap->
   s₁.heap.get? fa=some o->o.data=.func (docDef d.name d.params d.body d.scope pm cd Ow)->s₁.heap.CodeRec cd d.name->mg d.name=some (.ref fa)->
   s₁.heap.get? a=some {cls:= .type "list",data:= .seq vs.toArray}->IntsAre vs ns->ns.length<=n->s₁.gens= #[]->
   codeAny (model l.prog w) callerA (.call (.ref fa) {[.ref a],[]}) (λr s'=>r=.ok (.ret (.bool true))/\OldK s₁.heap s'.heap/\s'.os=s₁.os/\AllBare s'.gens) s₁):
  WalkO q Of XP YP l.row.toRowW d [] (λf vs=>PySem.call f vs):=by
 intro w s₀ s₁ mg mb G Y fa o pm cd Ow dV kV ho hd PL hD hmg hg args PR as QF hlay hrd hwl hlo;obtain rfl:dV=.none:=Dflts.none hD hdf;obtain rfl:kV=.none:=Dflts.noKw hD;have{a,vs,ns,0,0,RF,PU,MS}:=Dz hn QF hwl;show enter_call (codeAny_mono (call w s₀ s₁ mg mb fa o pm cd Ow a vs ns G Y ho (fd_plain hd) PL hmg RF PU MS hg) λr s' hq=>?_);have{0,h2,h3,h4}:=hq;show{.inl {.bool true,.bool true,[],0,λ_=>rfl,.bool true,Ea l _,λ_=>{List.Pairwise.nil,λ_ hm=>(nomatch hm)}},h2,h3,h4}
section
variable{prog:Sy}{w:SB}{A:SC}{E:Sv->Sw->Prop}{s:Sw}{K:Frag}
def MM(h:SF)(L d:Sx):SD (Sx×Obj):=(List.range h.objs.size).filterMap λa=>if a=L\/a=d then none else(h.get? a).map λo=>(a,o)
end
end Att
namespace L2
open PySem PySem.Spec PyProof.Rows
variable{A B c:Prop}{E Q:Sv->Sw->Prop}{H H':Hp}{K:W.Frag}{MO:SD (Sx×Obj)}{MV x:Str}{N ps:SD Str}{NW:List Expr}{Oa:Expr}{P:Sy}{PV pos py:Pos}{X:Cx}{a acc b f l:Sx}{d i n own:Nat}{e:Bool}{env:Env}{fd:SA}{g:TG}{h':SF}{j:Int}{js:SD Nat}{kvs:SD (SD Key×V)}{o:SG V}{s:Sw}{scope:Scope}{st:SH}{te:TE}{tg:SE}{u:Sv}{v y:V}{w:SB}{xs:SD (SD Key×Sx×Sv)}
def Eb:∀{vs:SD Sv}{ns:SD Int},IntsAre vs ns->ax (ns.map V.int) vs:=by
 intro vs ns h;induction h with
 |nil=>show .nil
 |cons n t h ih=>show .cons {t,0} ih
def mJ(H:Hp):Prop:=∀b,H b=none\/∃o xs,H b=some (.frz o (.lst xs))
def Ec{P:Sy}{w:SB}{mg mb:Str->SG Sv}{CX:CXT}{k:Nat}{fa:Sx}{fd:SA}{sp:Sp}{s₁:Sw}{vs:SD Sv}{ns:SD Int}
  (KX:K.In s₁.heap) (hns:s₁.heap.Ns mainGlobals mg) (hb:s₁.heap.Ns builtinsNs mb) (hbb:∀x:Str,x≠"__name__"->mb x=bootBuiltins x) (hlim:s₁.heap.NoLimit) (hg:s₁.gens= #[])
  (ha:s₁.heap.get? a=some {cls:= .type "list",data:= .seq vs.toArray}) (hi:IntsAre vs ns) (hl:ns.length<=sizeLine) (hr:Room k callerA)
  (F:∀base:SF,K.In base->base.Ns mainGlobals mg->FnOk P w K mg base CX k fa fd [x] sp) (hbind:∀(s:Sw) (u:Sv),BindsTo s fd {[u],[]} [(x,u)])
  (Q8:∀H:Hp,mJ H->SqL K H a (ns.map V.int)->sp [.ref a] H (λv _=>v=.bl true) λ_ _ _=>False)
  (hCX:∀H e s',CX [] H s₁ (λ_ _ _=>False) e s'->False):
  codeAny (model P w) callerA (.call (.ref fa) {[.ref a],[]}) (λr s'=>r=.ok (.ret (.bool true))/\OldK s₁.heap s'.heap/\s'.os=s₁.os/\AllBare s'.gens) s₁:=by
 have rv:=Eb hi;have lenV:=hi.length;have core:∀H:Hp,mJ H->SqL K H a (ns.map V.int)->HOk P w H s₁.heap->(∀b,H b≠none->b=a)->(H a≠none->K.lookup a=none)->
   codeAny (model P w) callerA (.call (.ref fa) {[.ref a],[]}) (λr s'=>r=.ok (.ret (.bool true))/\OldK s₁.heap s'.heap/\s'.os=s₁.os/\AllBare s'.gens) s₁:=by
  intro H hO hS hok hA hK;have base_of:∀{b:Sx}{o:Obj},s₁.heap.get? b=some o->H b=none->(e7 s₁.heap H).get? b=some o:=λe n=>yV e n;have noA:∀{b:Sx}{o:Obj}{es:Array DictEntry}{ep:Nat},s₁.heap.get? b=some o->o.data=.dict es ep->H b=none:=fun{b o es ep} e d=>by
   cases q:H b with
   |none=>rfl
   |some u=>
    have e':b=a:=hA b (by rw[q];simp);subst e';rw[ha] at e;cases e;have d':Data.seq vs.toArray _=Data.dict es ep:=d;cases d'
  have nsK:∀{b:Sx}{m:Str->SG Sv},s₁.heap.Ns b m->(e7 s₁.heap H).Ns b m:=fun{b m} Np=>by have{o,es,ep,e,d,r}:=Np;show{o,es,ep,base_of e (noA e d),d,r}
  have hKb:K.In (e7 s₁.heap H):=λb o e=>base_of (KX b o e) (by
   cases q:H b with
   |none=>rfl
   |some u=>
    have e':b=a:=hA b (by rw[q];simp);subst e';rw[hK (by rw[q];simp)] at e;cases e)
  have hM:Mod K mg (e7 s₁.heap H):={hKb,nsK hns,{mb,nsK hb,hbb},let ⟨mc,h1,h2⟩:=hlim;{mc,nsK h1,h2}};have e0:Env0 P w K mg (e7 s₁.heap H) callerA [] s₁ H:={0,hM,λb o e=>yW e,Nat.le_of_eq (yU _ _),trivial,λb hb=>absurd (show b∈([]:SD Sx) from hb) (by simp),hok,.of_eq hg};show codeAny_mono ((F _ hKb (nsK hns)).run callerA [] s₁ H {[.ref a],[]} [.ref a] [.ref a] _ _ hr e0 (hbind s₁ (.ref a)) (.cons rfl .nil) (Q8 H hO hS)) λr s' h=>?_;cases r with
  |error e=>show(hCX H e s' h).elim
  |ok fl=>
   cases fl with
   |next=>show False.elim h
   |brk=>show False.elim h
   |cont=>show False.elim h
   |ret u=>
    have{v,H',os,bare,un,hok',r',q}:=h;have q':v=.bl true:=q;subst q';obtain rfl:u=Value.bool true:=r';show{0,OldK.of_keep λb o e=>?_,os,bare};cases q:H b with
    |none=>show un.keep b o e q (by intro z;show absurd (show b∈([]:SD Sx) from z) (by simp)) (by simp)
    |some u=>
     rcases hO b with z|⟨ob,xs,z⟩
     .rw[q] at z;cases z
     .have z2:=un.frzs b ob _ z;have{e1,_}:=hok b _ z;have{e2,_}:=hok' b _ z2;rw[e] at e1;cases e1;show e2
 cases hk:K.lookup a with
 |some o=>
  have e:=KX a o hk;rw[ha] at e;cases e;show core (λ_=>none) (λ_=>.inl rfl) (.inr {_,vs.toArray,_,hk,0,0,0,by rw[AK,lenV];show hl,by simpa using rv}) (λb u z=>by have z':(none:SG HO)=some u:=z;cases z') (λb z=>absurd rfl z) λz=>absurd rfl z
 |none=>
  show core (λb=>if b=a then some (.frz {cls:= .type "list",data:= .seq vs.toArray} (.lst (ns.map V.int))) else none) (λb=>?_) (.inl (.inr {{cls:= .type "list",data:= .seq vs.toArray},A6 rfl})) (λb u z=>?_) (λb z=>?_) λ_=>hk
  .by_cases hb:b=a
   .show .inr {_,_,A6 hb}
   .show .inl (A5 hb)
  .by_cases hb:b=a
   .have z':=(A6 hb).symm.trans z;cases z';subst hb;show{ha,by rw[A1];show hl,vs,_,rv,ha}
   .have z':=(A5 hb).symm.trans z;cases z'
  .by_cases hb:b=a
   .show hb
   .show absurd (A5 hb) z
def Ed{l:W.OpenLaw}{k:Nat}{q:Sy}{Of:SD Str}{XP:(Str->SG Sv)->SF->Prop}{YP:SB->SF->Prop}{d:DefRec}{K:Params->W.Frag}{CX:SB->CXT}{sp:SB->Sp}
  (hn:l.most=some n) (Qr:n<=sizeLine) (hdf:d.params.defaults=[]) (hr:Room k callerA)
  (hY:∀(w:SB) (h:SF),YP w h->(K w.params).In h)
  (F:∀(w:SB) (mg:Str->SG Sv) (fa:Sx) (h:SF),(K w.params).In h->h.Ns mainGlobals mg->mg d.name=some (.ref fa)->
   ∃fd:SA,(∀(s:Sw) (u:Sv),BindsTo s fd {[u],[]} [(x,u)])/\
    ∀base:SF,(K w.params).In base->base.Ns mainGlobals mg->FnOk l.prog w (K w.params) mg base (CX w) k fa fd [x] (sp w))
  (Q8:∀(w:SB) (H:Hp) (a:Sx) (ns:SD Int),ns.length<=n->mJ H->SqL (K w.params) H a (ns.map V.int)->sp w [.ref a] H (λv _=>v=.bl true) λ_ _ _=>False)
  (hCX:∀(w:SB) (H:Hp) (s:Sw) (e:Sv) (s':Sw),CX w [] H s (λ_ _ _=>False) e s'->False):
  W.WalkO q Of XP YP l.row.toRowW d [] (λf vs=>PySem.call f vs):=by
 show Att.attach_call hn hdf λw s₀ s₁ mg mb fa o pm cd Ow a vs ns G Y ho hd PL hmg RF PU MS hg=>?_;have KX:=hY w _ Y;have{fd,hb,hF}:=F w mg fa _ KX G.T.g hmg;show Ec KX G.T.g G.T.b G.T.builtins G.T.nolimit hg RF PU (BA MS Qr) hr hF hb (λH hO hS=>Q8 w H a ns MS hO hS) λH e s'=>hCX w H s₁ e s'
def fg(s:SH):Arguments:=match s with
 |.FunctionDef _ a _ _ _ _ _ _ _ _=>a
 |_=>{posonlyargs:=[],args:=[],vararg:=none,kwonlyargs:=[],kw_defaults:=[],kwarg:=none,defaults:=[]}
def dX(s:SH):SD SH:=match s with
 |.FunctionDef _ _ b _ _ _ _ _ _ _=>b
 |_=>[]
def al(s:SH):Scope:=match s with
 |.FunctionDef _ _ _ _ _ _ sc _ _ _=>sc
 |_=>{kind:= .function,names:=[],isGenerator:=false,isCoroutine:=false}
abbrev CX0:CXT:=λ_ _ _ _ _ _=>False
abbrev E0:XK:=λ_ _ _=>False
def fP :mH CX0 X E0:=λ_ _ _ _ _ _ _ h=>h.elim
structure Fun(K:W.Frag)(x MV:Str)(st:SH)(f:Sx)(fd:SA):Prop where
 ex:∃(oc:Value) (od:Option Addr) (kV Ow pm:Value) (an:Option Addr) (Na ct:Value) (Q7:Array (Option Value)),
  fd=W.fnOf x MV (fg st) (dX st) (al st) .none kV Ow pm an Na ct/\K.lookup f=some {oc,od,.func fd,Q7}/\W.codeIn K Na MV=true
 kp:W.keepIn K (.ref f)=true
section
variable{P:Sy}{w:SB}{K:W.Frag}{mg:Str->SG Sv}{base:SF}
def Fun.ok{k:Nat}{sp:Sp}(F:Fun K x MV st f fd)(S:FnScope N ps (al st))(len:∀vs H Q E,sp vs H Q E->vs.length=ps.length)
  (OE:∀(Na:Sv) (A:SC) (outer:SD Env) (s:Sw) (H:Hp) (vs:SD V) (Q:VK) (E:XK),Room k (A.deeper (envOfC MV (al st) s.heap.objs.size f Na))->sp vs H Q E->
   ∃t,PSs (gj CX0 P w K mg base N MV (al st) f Na A outer s H E).nox (dX st) t/\t {nx:=λ_ H'=>Q .non H',rt:=Q} (start N vs) H):FnOk P w K mg base CX0 (k+1) f fd ps sp:=by
 have{oc,od,kV,Ow,pm,an,Na,ct,Q7,0,lk,PL}:=F.ex;show zY lk PL S len λA outer s H vs Q E hr Q8=>?_;have{t,h,q}:=OE Na A outer s H vs Q E hr Q8;show{t,h.nox,q}
def Fun.binds(F:Fun K x MV st f fd)
  (h:∀(kV Ow pm:Sv) (an:SG Sx) (Na ct:Sv) (us:SD Sv),us.length=ps.length->bindArgs (W.fnOf x MV (fg st) (dX st) (al st) .none kV Ow pm an Na ct) {us,[]}=pure (ps.zip us)):gR K fd ps []:=by
 have{oc,od,kV,Ow,pm,an,Na,ct,Q7,0,lk,PL}:=F.ex;show .all (h kV Ow pm an Na ct)
def Ee{oc:Sv}{od an:SG Sx}{Q7:Array (SG Sv)}{kV Ow pm Na ct:Sv}(l:K.lookup f=some {oc,od,.func (W.fnOf x MV (fg st) (dX st) (al st) .none kV Ow pm an Na ct),Q7})
  (c:W.codeIn K Na MV=true) (k:W.keepIn K (.ref f)=true):Fun K x MV st f (W.fnOf x MV (fg st) (dX st) (al st) .none kV Ow pm an Na ct):={{oc,od,kV,Ow,pm,an,Na,ct,Q7,0,l,c},k}
end
theorem bB{A:SC}{k:Nat}(hr:Room k A):A.units+1<cLine:=Nat.lt_of_le_of_lt (Nat.add_le_add_left (by decide:1<=64) _) hr.units
theorem az(h:n<=1000):n<sizeLine:=Nat.lt_of_le_of_lt h (by decide)
section
variable{X:Cx}
theorem pv(i:Nat){pos:Pos}(hN:X.N[i]? =some x:=by rfl)(hv:Vis X.env.scope x:=by trivial)(hd:(x==("__debug__":Str))=false:=by decide)
  (PL:(x==("__classdict__":Str))=false:=by decide):PE X (.Name x pos) (tVar i):=y4 hN hv hd PL
end
def bJ(h:B):if false=true then A else B:=by
 rw[A5 AS];show h
def dY(h:A):if true=true then A else B:=by
 rw[A6 rfl];show h
def Ef[Decidable c](hc:c)(h:B):if(!decide c)=true then A else B:=by
 rw[B4 hc];show bJ h
def ae(H H':Hp):Prop:=∀b o,H b=some o->H' b=some o
def ae.refl(H:Hp):ae H H:=λ_ _ h=>h
def ae.trans{H1 H2:Hp}(a:ae H H1)(b:ae H1 H2):ae H H2:=λc o h=>b c o (a c o h)
def ae.free(e:ae H H')(h:H' l=Option.none):H l=Option.none:=by
 cases q:H l with
 |none=>rfl
 |some o=>
  rw[e l o q] at h;cases h
def ae.seq{xs:SD V}(e:ae H H')(h:SqL K H a xs):SqL K H' a xs:=by
 rcases h with(h|⟨o,h⟩)|h
 .show .inl (.inl (e _ _ h))
 .show .inl (.inr {o,e _ _ h})
 .show .inr h
section
variable{κ:Type}[DecidableEq κ]
def aM(kvs:SD (κ×V))(k:κ):SG V:=(kvs.find? λkv=>decide (kv.1=k)).map (·.2)
def aX(kvs:SD (κ×V))(k:κ)(v:V):SD (κ×V):=
 if(kvs.any λkv=>decide (kv.1=k))=true then kvs.map (λkv=>if kv.1=k then(kv.1,v) else kv) else kvs++[(k,v)]
def dr{p:κ×V}{r:SD (κ×V)}{k:κ}(e:p.1=k):aM (p::r) k=some p.2:=by simp[aM,Bj,e]
def cZ{p:κ×V}{r:SD (κ×V)}{k:κ}(e:¬p.1=k):aM (p::r) k=aM r k:=by simp[aM,Bj,e]
theorem fQ(k:κ):∀kvs:SD (κ×V),(kvs.any λkv=>decide (kv.1=k))=(aM kvs k).isSome
 |[]=>rfl
 |p::r=>by
  rw[List.any_cons];by_cases e:p.1=k
  .simp only[dr e,B4 e,Bool.true_or,Option.isSome_some]
  .rw[cZ e,Ak e,Bool.false_or];show fQ k r
theorem sM(k j:κ)(y:V):∀kvs:SD (κ×V),aM kvs k=none->aM (kvs++[(k,y)]) j=if j=k then some y else aM kvs j
 |[],_=>by
  by_cases e:k=j
  .rw[A6 e.symm];show dr (p:=(k,y)) e
  .rw[A5 (λz=>e z.symm)];show cZ (p:=(k,y)) e
 |p::r,hn=>by
  rw[DL];have hk:¬p.1=k:=λz=>by rw[dr z] at hn;cases hn
  rw[cZ hk] at hn;have ih:=sM k j y r hn;by_cases e:p.1=j
  .rw[dr e,dr e,A5 (λz=>hk (e.trans z))]
  .rw[cZ e,cZ e,ih]
def mL(kvs:SD (κ×V))(k:κ)(v:V):(aX kvs k v).length<=kvs.length+1:=by
 unfold aX;split
 .rw[A1];lia
 .rw[AA,AW,CG];lia
def mM{kvs:SD (κ×V)}{k:κ}(v:V)(h:aM kvs k=none):aX kvs k v=kvs++[(k,v)]:=by
 unfold aX;rw[fQ,h];show A5 (by decide)
def cS.isSome_eq{u:SG Sv}(r:cS o u):o.isSome=u.isSome:=by
 cases o with
 |none=>cases u with
  |none=>rfl
  |some _=>show(show False from r).elim
 |some _=>cases u with
  |none=>show(show False from r).elim
  |some _=>rfl
def cS.getD{o:SG V}{u:SG Sv}{d:V}{d':Sv}(r:cS o u)(rd:aw d d'):aw (o.getD d) (u.getD d'):=by
 cases o with
 |none=>cases u with
  |none=>show rd
  |some _=>show(show False from r).elim
 |some _=>cases u with
  |none=>show(show False from r).elim
  |some _=>show r
def KV.val{kvs:SD (κ×V)}{vs:SD (κ×Sv)}(r:KV kvs vs)(k:κ):cS (aM kvs k) (valueAt vs k):=by
 unfold KV at r;induction r with
 |nil=>show True.intro
 | @cons p q ps qs h t ih=>
  have{h1,h2}:=h;by_cases e:p.1=k
  .have e':q.1=k:=h1.symm.trans e;have b:valueAt (q::qs) k=some q.2:=by simp[valueAt,Bj,e']
   rw[dr e,b];show h2
  .have e':¬q.1=k:=λz=>e (h1.trans z);have b:valueAt (q::qs) k=valueAt qs k:=by simp[valueAt,Bj,e']
   rw[cZ e,b];show ih
def KV.any{kvs:SD (κ×V)}{vs:SD (κ×Sv)}(r:KV kvs vs)(k:κ):(kvs.any λkv=>decide (kv.1=k))=vs.any λkv=>decide (kv.1=k):=by
 unfold KV at r;induction r with
 |nil=>rfl
 |cons h t ih=>rw[List.any_cons,List.any_cons,ih,h.1]
def KV.repl{kvs:SD (κ×V)}{vs:SD (κ×Sv)}(r:KV kvs vs)(k:κ)(ry:aw y u):
  KV (kvs.map λkv=>if kv.1=k then(kv.1,y) else kv) (vs.map λkv=>if kv.1=k then(kv.1,u) else kv):=by
 unfold KV at r⊢;induction r with
 |nil=>show .nil
 | @cons p q ps qs h t ih=>
  rw[AG,AG];show .cons ?_ ih;have{h1,h2}:=h;by_cases e:p.1=k
  .rw[A6 e,A6 (h1.symm.trans e)];show{h1,ry}
  .rw[A5 e,A5 (λz=>e (h1.trans z))];show{h1,h2}
def KV.put{kvs:SD (κ×V)}{vs:SD (κ×Sv)}(r:KV kvs vs)(k:κ)(ry:aw y u):KV (aX kvs k y) (stored vs k u):=by
 unfold aX stored;rw[r.any k];by_cases e:(vs.any λkv=>decide (kv.1=k))=true
 .rw[A6 e,A6 e];show r.repl k ry
 .rw[A5 e,A5 e];show Paired.snoc r {0,ry}
theorem KV.length{kvs:SD (κ×V)}{vs:SD (κ×Sv)}(r:KV kvs vs):kvs.length=vs.length:=BO r
end
def ko{k:Key}(r:aw (kV k) u):(bV P w).is k u=true:=by
 cases k with
 |inl i=>have{t,e}:=(show∃t,u=Value.int i t from r);subst e;show yS P w i t
 |inr x=>have{t,e}:=(show∃t,u=Value.str x t from r);subst e;show yT P w x t
theorem sN{P:Sy}{w:SB}:∀{ks:SD Key}{us:SD Sv},ax (ks.map kV) us->ItemsAre (bV P w) ks us
 |[],_,r=>by rw[List.map_nil] at r;cases r;show .nil
 |k::ks,_,r=>by
  rw[AG] at r;cases r with
  |cons h t=>show .cons (ko h) (sN t)
abbrev KT(H:Hp):SD (SD Key×V)->SD (SD Key×Sx×Sv)->Prop:=Paired λp q=>p.1=q.1/\H q.2.1=some (.tup (p.1.map kV))/\aw p.2 q.2.2
def KT.val{H:Hp}{kvs:SD (SD Key×V)}{xs:SD (SD Key×Sx×Sv)}(r:KT H kvs xs)(k:SD Key):cS (aM kvs k) ((atKey xs k).map (·.2)):=by
 induction r with
 |nil=>show True.intro
 | @cons p q ps qs h t ih=>
  have{h1,_,h2}:=h;by_cases e:p.1=k
  .have e':q.1=k:=h1.symm.trans e;have b:atKey (q::qs) k=some q.2:=by simp[atKey,Bj,e']
   rw[dr e,b];show h2
  .have e':¬q.1=k:=λz=>e (h1.trans z);have b:atKey (q::qs) k=atKey qs k:=by simp[atKey,Bj,e']
   rw[cZ e,b];show ih
def KT.repl(r:KT H kvs xs)(k:SD Key)(ry:aw y u):
  KT H (kvs.map λkv=>if kv.1=k then(kv.1,y) else kv) (xs.map (putAt k u)):=by
 induction r with
 |nil=>show .nil
 | @cons p q ps qs h t ih=>
  rw[AG,AG];show .cons ?_ ih;have{h1,h2,h3}:=h;unfold putAt;by_cases e:p.1=k
  .rw[A6 e,A6 (h1.symm.trans e)];show{h1,h2,ry}
  .rw[A5 e,A5 (λz=>e (h1.trans z))];show{h1,h2,h3}
def KT.put(r:KT H kvs xs)(k:SD Key)(hb:H b=some (.tup (k.map kV)))(ry:aw y u):
  KT H (aX kvs k y) (storedH xs k b u):=by
 have e:(kvs.any λkv=>decide (kv.1=k))=(atKey xs k).isSome:=by
  rw[fQ,(r.val k).isSome_eq,Option.isSome_map]
 unfold aX storedH;rw[e];by_cases q:(atKey xs k).isSome=true
 .rw[A6 q,A6 q];show r.repl k ry
 .rw[A5 q,A5 q];show Paired.snoc r {0,hb,ry}
def KT.keeps(r:KT H kvs xs)(ht:∀b ys,H b=some (.tup ys)->H' b=some (.tup ys)):KT H' kvs xs:=
 Paired.mapP r λ_ _ z=>{z.1,ht _ _ z.2.1,z.2.2}
section
variable{P:Sy}{w:SB}{H:Hp}{h:SF}{a:Sx}
def i7{u:HO}(ok:HOk P w H h)(e:Rd H a u):aE P w H h a u:=e.ok ok
def gS{kvs:SD (Key×V)}(ok:HOk P w H h)(e:Rd H a (.dK kvs)):kvs.length<=sizeLine/\(a==sysModules)=false/\∃vs,KV kvs vs/\h.DictOf (bV P w) a vs:=
 show aE P w H h a (.dK kvs) from i7 ok e
def Eg{kvs:SD (Key×V)}(ok:HOk P w H h)(e:H a=some (.dK kvs)):kvs.length<=sizeLine/\(a==sysModules)=false/\∃vs,KV kvs vs/\h.DictOf (bV P w) a vs:=gS ok (.inl e)
def i8{ks:SD Key}(ok:HOk P w H h)(e:H a=some (.tup (ks.map kV))):(tupleKind (bV P w)).is h ks a:=by
 have{_,MQ,r,o,h1,h2,n,h3}:=(show aE P w H h a (.tup (ks.map kV)) from ok a _ e);show{o,MQ.toArray,n,h1,h2,h3,by simpa using sN r}
def i9(ok:HOk P w H h)(e:Rd H a (.dT kvs)):kvs.length<=sizeLine/\(a==sysModules)=false/\
  ∃xs,KT H kvs xs/\h.DictOfH (tupleKind (bV P w)) a xs:=by
 have{z,y,xs,r,o,es,ep,h1,h2,h3,h4,h5}:=(show aE P w H h a (.dT kvs) from i7 ok e);show{z,y,xs,r,o,es,ep,h1,h2,h3,h4,λx hx=>?_,h5};have all:∀{l:SD (SD Key×V)}{m:SD (SD Key×Sx×Sv)},KT H l m->∀x∈m,(tupleKind (bV P w)).is h x.1 x.2.1:=by
  intro l m q;induction q with
  |nil=>intro x hx;show nomatch hx
  | @cons p q ps qs hq t ih=>
   intro x hx;rcases AJ.mp hx with e|hx
   .subst e;show i8 ok (by rw[<-hq.1];show hq.2.1)
   .show ih x hx
 show all r x hx
def sO(ok:HOk P w H h)(e:H a=some (.dT kvs)):kvs.length<=sizeLine/\(a==sysModules)=false/\
  ∃xs,KT H kvs xs/\h.DictOfH (tupleKind (bV P w)) a xs:=i9 ok (.inl e)
end
def cU(H:Hp)(a:Sx)(y:V)(r:SG V):Prop:=
 (∃kvs k,Rd H a (.dK kvs)/\y=kV k/\r=aM kvs k)\/∃kvs k b,Rd H a (.dT kvs)/\y=.ref b/\H b=some (.tup (k.map kV))/\r=aM kvs k
def c7(H:Hp)(a:Sx)(y v:V)(H':Hp):Prop:=
 (∃kvs k,H a=some (.dK kvs)/\y=kV k/\kvs.length<sizeLine/\H'=upd H a (.dK (aX kvs k v)))\/
 ∃kvs k b,H a=some (.dT kvs)/\y=.ref b/\H b=some (.tup (k.map kV))/\kvs.length<sizeLine/\H'=upd H a (.dT (aX kvs k v))
theorem cU.k{H:Hp}{a:Sx}{kvs:SD (Key×V)}{k:Key}(e:H a=some (.dK kvs)):cU H a (kV k) (aM kvs k):= .inl {kvs,k,.inl e,0,0}
def cU.t{k:SD Key}(e:H a=some (.dT kvs))(eb:H b=some (.tup (k.map kV))):cU H a (.ref b) (aM kvs k):= .inr {kvs,k,b,.inl e,0,eb,0}
theorem c7.k{H:Hp}{a:Sx}{kvs:SD (Key×V)}{k:Key}{v:V}(e:H a=some (.dK kvs))(hl:kvs.length<sizeLine):c7 H a (kV k) v (upd H a (.dK (aX kvs k v))):= .inl {kvs,k,e,0,hl,0}
def c7.t{k:SD Key}(e:H a=some (.dT kvs))(eb:H b=some (.tup (k.map kV)))(hl:kvs.length<sizeLine):
  c7 H a (.ref b) v (upd H a (.dT (aX kvs k v))):= .inr {kvs,k,b,e,0,eb,hl,0}
section
variable{X:Cx}{MO:SD (Sx×Obj)}{σ:St}{H:Hp}{s:Sw}{a:Sx}{y v:V}{u r:Sv}{o:SG V}{A:SC}{E:Sv->Sw->Prop}
def Inv.big(I:Inv X MO σ H s):sysModules<s.heap.objs.size:=by
 have h:mainGlobals<s.heap.objs.size:=(I.mod.glob.keeps I.bk).lt;show Nat.lt_trans (by decide) h
def Eh(hu:A.units+1<cLine)(I:Inv X MO σ H s)(g:cU H a y (some v))(ry:aw y u)(h:∀w' s',Inv X MO σ H s'->aw v w'->Q w' s'):
  wpAny (model X.prog X.w) A (getItem (.ref a) u) Q E s:=by
 rcases g with⟨kvs,k,e,ey,l⟩|⟨kvs,k,b,e,ey,eb,l⟩
 .subst ey;have{z,hd,vs,MZ,dd}:=gS I.hok e;have{w',hw,Om}:=cS.some_of (v:=v) (o:=valueAt vs k) (by rw[l];show MZ.val k);show wpAny_getItem_of (ko ry) dd.mapOf hw (h w' _ (I.tok _) Om)
 .subst ey;cases (show u=Value.ref b from ry);have{z,hd,xs,MZ,dd}:=i9 I.hok e;have{w',hw,Om}:=cS.some_of (v:=v) (o:=(atKey xs k).map (·.2)) (by rw[l];show MZ.val k);have{p,hp,QG}:=AB.mp hw;show wpAny_getItem_heap (tupleKind_room_in1 hu) (i8 I.hok eb) dd hp ?_;rw[QG];show h w' _ (I.tok _) Om
def gT{t':Nat}{ob:HO}(I:Inv X MO σ H s)(mu:Mut (H a))(hs:Heap.SameBut a s.heap h')(he:∃q,h'.get? a=some q)(new:aE X.prog X.w (upd H a ob) h' a ob):
  Inv X MO σ (upd H a ob) {s with heap:=h',toks:=t'}:=
 I.write (x:=a) (e:=a) mu (.inl rfl) (λb q hb z=>(hs.2 b hb).trans z) he new
def sP{kvs:SD (Key×V)}{vs:SD (Key×Sv)}(z:kvs.length<=sizeLine)(hd:(a==sysModules)=false)(MZ:KV kvs vs)(dd:h'.DictOf (bV P w) a vs):
  aE P w H' h' a (.dK kvs):={z,hd,vs,MZ,dd}
def Ei{Q:Unit->Sw->Prop}(hu:A.units+1<cLine)(I:Inv X MO σ H s)(g:c7 H a y v H')(ry:aw y u)(rv:aw v r)(h:∀s',Inv X MO σ H' s'->Q () s'):
  wpAny (model X.prog X.w) A (setItem (.ref a) u r) Q E s:=by
 rcases g with⟨kvs,k,e,ey,l,eH⟩|⟨kvs,k,b,e,ey,eb,l,eH⟩
 .subst ey eH;have{z,hd,vs,MZ,dd}:=Eg I.hok e;have hz:vs.length<=sizeLine:=by rw[<-MZ.length];show z
  have hl:(aX kvs k v).length<=sizeLine:=by have:=mL kvs k v;lia
  show wpAny_setItem_pairs (hsz:=hz) (ko ry) dd λh' Qs hs=>h _ ?_;have he:∃q,h'.get? a=some q:=let ⟨q,_,_,hq,_⟩:=Qs;{q,hq};show gT I (by rw[e];show True.intro) hs he (sP hl hd (MZ.put k rv) Qs)
 .subst ey eH;cases (show u=Value.ref b from ry);have{z,hd,xs,MZ,dd}:=sO I.hok e;have hz:xs.length<=sizeLine:=by rw[<-BO MZ];show z
  have hl:(aX kvs k v).length<=sizeLine:=by have:=mL kvs k v;lia
  show wpAny_setItem_heap (hsz:=hz) (tupleKind_room_in1 hu) (i8 I.hok eb) dd λh' Qs hs=>h _ ?_;have{q,es,ep,hq,h2,h3,h4,_,h5}:=Qs;show gT I (by rw[e];show True.intro) hs {q,hq} {hl,hd,_,(MZ.put k eb rv).keeps λc ys ec=>?_,q,es,ep,hq,h2,h3,h4,h5};rw[au (my ec e (λz=>nomatch z))];show ec
end
def gk(i:SE):Prop:=∀ov iv,subscripted i false ov iv=operate [ov,iv] (getItem ov iv)
def mN{prog:Sy}{A:SC}{value M9:SE}{T id:String}
  (hl:typeLookup (.type T) "__getitem__"=pure (some (.builtin id))) (hs:gk M9)
  (h:wpAny (model prog w) A (eval value env) (λo s₁=>wpAny (model prog w) A (eval M9 env) (λi s₂=>s₂.TypeIs o T/\wpAny (model prog w) A (getItem o i) Q E s₂) E s₁) E s):
  wpAny (model prog w) A (eval (.Subscript value M9 pos) env) Q E s:=by
 show Subscript_ (Bx h (λo s₁ h₁=>Bx h₁ (λi s₂ h₂=>?_) λ_ _ x=>x) λ_ _ x=>x);have{hT,h₂}:=h₂;unfold subscriptTail;show A0 ?_;rw[getitemInPython_of_ne hT.not_modules];show A0 (CN hT hl ?_);have fin:wpAny (model prog w) A (subscripted M9 false o i) (λr s₃=>wpAny (model prog w) A (letTemporaryGo value o r>>=λ_=>pure r) Q E s₃) E s₂:=by
  rw[hs o i];show wpAny_operating (Bx h₂ (λr s₃ h₃=>A0 (wpAny_letTemporaryGo (A3 h₃))) λ_ _ x=>x)
 first
  |show A3 (A0 fin)
  |show A0 (A3 (A0 fin))
  |show A0 fin
def Ej{σ:St}(I:Inv X MO σ H s)(g:cU H a y o):s.TypeIs (.ref a) "dict":=by
 rcases g with⟨kvs,k,e,_,_⟩|⟨kvs,k,b,e,_,_,_⟩
 .have{_,_,vs,_,dd}:=gS I.hok e;show dd.typeIs
 .have{_,_,xs,_,dd}:=i9 I.hok e;show dd.typeIs
inductive tDGet_(Q:VK)(x:V)(y:V)(H2:Hp):Prop
 |mk a v:x=.ref a->cU H2 a y (some v)->Q v H2->tDGet_ Q x y H2
def Ek(td ty:TE):TE:=λσ H Q=>td σ H λx H1=>ty σ H1 λy H2=>tDGet_ Q x y H2
inductive sDPut_(D:Ends)(σ:St)(v:V)(x:V)(y:V)(H3:Hp):Prop
 |mk a H4:x=.ref a->c7 H3 a y v H4->D.nx σ H4->sDPut_ D σ v x y H3
def El(td ty tv:TE):TS:=λD σ H=>tv σ H λv H1=>td σ H1 λx H2=>ty σ H2 λy H3=>sDPut_ D σ v x y H3
section
variable{X:Cx}{o i e value:SE}{pos M8 N6:Pos}{td ty tv:TE}
def du(hu:X.A.units+1<cLine)(ho:PE X o td)(hi:PE X i ty)(hs:gk i):PE X (.Subscript o i pos) (Ek td ty):=by
 intro MO s σ H Q I h;show mN PySem.F.slot_dict_getitem.lookup hs (thn (ho MO s σ H _ I h) λu s1 zu38=>?_);have{x,H1,I1,rx,q1}:=zu38;show thn (hi MO s1 σ H1 _ I1 q1) λiv s2 zu39=>?_;have{y,H2,I2,ry,a,v,ex,g,q2}:=zu39;subst ex;obtain rfl:u=Value.ref a:=rx;show{Ej I2 g,Eh hu I2 g ry λw' s3 I3 Om=>{v,H2,I3,Om,q2}}
def gp(hu:X.A.units+1<cLine)(ho:PE X o td)(hi:PE X i ty)(hv:PE X value tv)(hs:swapsWith value (some (.Subscript o i M8)) pos.line X.env=pure false):
  PS X (.Assign [.Subscript o i M8] value pos) (El td ty tv):=by
 intro MO s σ H D I h;show wpAny_Assign_Subscript (thn (hv MO s σ H _ I h) λr s1 zu40=>?_) hs;have{v,H1,I1,rv,q1}:=zu40;show thn (ho MO s1 σ H1 _ I1 q1) λu s2 zu41=>?_;have{x,H2,I2,rx,q2}:=zu41;show thn (hi MO s2 σ H2 _ I2 q2) λiv s3 zu42=>?_;have{y,H3,I3,ry,a,H4,ex,g,q3}:=zu42;subst ex;obtain rfl:u=Value.ref a:=rx;show Ei hu I3 g ry rv λs4 I4=>{σ,H4,I4,q3}
end
def Em(h:SF)(hb:sysModules<h.objs.size):aE P w H (h.push {cls:= .type "dict",data:= .dict #[]}) h.objs.size (.dK []):=
 {AO _,CP.mpr (BG (AR hb)),[],.nil,Heap.DictOf.new h}
def sQ(h:SF)(hb:sysModules<h.objs.size):aE P w H (h.push {cls:= .type "dict",data:= .dict #[]}) h.objs.size (.dT []):=
 {AO _,CP.mpr (BG (AR hb)),[],.nil,_, #[],(0),AE _ rfl,{0,0,0},0,0,DZ}
def En:TE:=λ_ H Q=>∀p,H p=none->Q (.ref p) (upd H p (.dK []))
def Eo:TE:=λ_ H Q=>∀p,H p=none->Q (.ref p) (upd H p (.dT []))
section
variable{X:Cx}{pos:Pos}
def kr:PE X (.Dict [] [] pos) En:=λMO s σ H Q I h=>
 wpAny_Dict_empty {.ref s.heap.objs.size,_,I.laid (a:=s.heap.objs.size) (o:= .dK []) (t':=s.toks) (λ_ _ q=>A4 _ q) (A9 _) (Em s.heap I.big),0,h _ (I.hok.fresh (A9 _))}
def Ep:PE X (.Dict [] [] pos) Eo:=λMO s σ H Q I h=>
 wpAny_Dict_empty {.ref s.heap.objs.size,_,I.laid (a:=s.heap.objs.size) (o:= .dT []) (t':=s.toks) (λ_ _ q=>A4 _ q) (A9 _) (sQ s.heap I.big),0,h _ (I.hok.fresh (A9 _))}
end
structure M2(X:Cx)(o:SE)(m:Str)(Nh:Pos)(e f:SE)(M1:Pos):Prop where
 base:attributeBase o m X.env (eval o X.env)=eval o X.env
 few:((backTo M1 (starEach [e,f] X.env)).all (λx=> !x.1)&&(backToKw M1 (keywordEach [] X.env)).all (λx=>x.1.isSome)
  &&decide (([e,f]:List Expr).length+([]:List Keyword).length+(if([]:List Keyword).isEmpty then 0 else 1)<30))=true
 line:(Nh.endLine==M1.line)=true
 trees:backTo M1 (starEach [e,f] X.env)=[(false,eval e X.env),(false,eval f X.env)]
def IsD(H:Hp)(a:Sx):Prop:=(∃kvs,Rd H a (.dK kvs))\/∃kvs,Rd H a (.dT kvs)
def sR{σ:St}(I:Inv X MO σ H s)(d:IsD H a):
  s.TypeIs (.ref a) "dict"/\(∀b,Value.ref a=.ref b->∃ob,s.heap.get? b=some ob/\ob.dict=none)/\(a==sysModules)=false:=by
 rcases d with⟨kvs,e⟩|⟨kvs,e⟩
 .have{_,hd,vs,_,dd}:=gS I.hok e;show{dd.typeIs,λb q=>?_,hd};cases q;have{ob,_,_,h1,h2,_}:=dd;show{ob,h1,h2.2.1}
 .have{_,hd,xs,_,dd}:=i9 I.hok e;show{dd.typeIs,λb q=>?_,hd};cases q;have{ob,_,_,h1,h2,_}:=dd;show{ob,h1,h2.2.1}
section
variable{X:Cx}{MO:SD (Sx×Obj)}{σ:St}{H:Hp}{s:Sw}{a:Sx}{y d:V}{u r:Sv}{o:SG V}{A:SC}{E:Sv->Sw->Prop}
def Er(hu:A.units+1<cLine)(I:Inv X MO σ H s)(g:cU H a y o)(ry:aw y u)(rd:aw d r)(h:∀w' s',Inv X MO σ H s'->aw (o.getD d) w'->Q w' s'):
  wpAny (model X.prog X.w) A (call (.builtin "dict.get") [.ref a,u,r]) Q E s:=by
 rcases g with⟨kvs,k,e,ey,l⟩|⟨kvs,k,b,e,ey,eb,l⟩
 .subst ey;have{z,hd,vs,MZ,dd}:=gS I.hok e;show call_meetsIn PySem.F.slot_dict_get dd.typeIs PySem.F.entry_dict_get (PySem.F.args_dict_get_3 _ _ _) (meets_dict_get_default (bV X.prog X.w) a (ko ry) hd r) {_,dd.mapOf,h _ _ (I.tok _) ?_};rw[l];show(MZ.val k).getD rd
 .subst ey;cases (show u=Value.ref b from ry);have{z,hd,xs,MZ,dd}:=i9 I.hok e;show call_meetsIn PySem.F.slot_dict_get dd.typeIs PySem.F.entry_dict_get (PySem.F.args_dict_get_3 _ _ _) (meetsH_dict_get_default (tupleKind (bV X.prog X.w)) a b hd r) {tupleKind_room_in1 hu,k,xs,i8 I.hok eb,dd,h _ _ (I.tok _) ?_};rw[l];show(MZ.val k).getD rd
end
inductive tDGet2_(ty:TE)(tx:TE)(σ:St)(Q:VK)(x:V)(H1:Hp):Prop
 |mk a:x=.ref a->IsD H1 a->(ty σ H1 λy H2=>tx σ H2 λz H3=>∃o,cU H3 a y o/\Q (o.getD z) H3)->tDGet2_ ty tx σ Q x H1
def Es(td ty tx:TE):TE:=λσ H Q=>td σ H λx H1=>tDGet2_ ty tx σ Q x H1
section
variable{X:Cx}{o e f:SE}{Nh M1:Pos}{td ty tx:TE}
def mO(hu:X.A.units+1<cLine)(ho:PE X o td)(he:PE X e ty)(hf:PE X f tx)(m:M2 X o "get" Nh e f M1):PE X (.Call (.Attribute o "get" Nh) [e,f] [] M1) (Es td ty tx):=by
 intro MO s σ H Q I h;show wpAny_Call_method m.base m.few m.line PySem.F.plainAttrs_dict PySem.F.slot_dict_get PySem.F.type_dict_get (thn (ho MO s σ H _ I h) λu s1 zu43=>?_);have{x,H1,I1,rx,a,ex,d,q1}:=zu43;subst ex;obtain rfl:u=Value.ref a:=rx;have{t1,t2,_}:=sR I1 d;show{t1,t2,?_};rw[m.trees];show Calls.callWith_builtin rfl (Calls.evalArgs_plain (Ce (thn (he MO s1 σ H1 _ I1 q1) λiv s2 ⟨y,H2,I2,ry,q2⟩=>
  Ce (thn (hf MO s2 σ H2 _ I2 q2) λfv s3 ⟨z,H3,I3,rz,ov,g,q3⟩=>Calls.spliced_nil ?_))))
 show Er hu I3 g ry rz λw' s4 I4 Om=>{_,H3,I4,Om,q3}
end
section
variable{X:Cx}{MO:SD (Sx×Obj)}{σ:St}{H:Hp}{s:Sw}{a:Sx}{kvs:SD (Key×V)}{A:SC}{E:Sv->Sw->Prop}
def Et(I:Inv X MO σ H s)(e:Rd H a (.dK kvs))(h:∀p s',H p=none->Inv X MO σ (upd H p (.dK kvs)) s'->Q (.ref p) s'):wpAny (model X.prog X.w) A (call (.type "dict") [.ref a]) Q E s:=by
 have{z,hd,vs,MZ,dd}:=gS I.hok e;show kt_call_dict hd dd (by rw[<-MZ.length];show z) λh' Qs hs=>?_;show h _ _ (I.hok.fresh (A9 _)) (I.laid (a:=s.heap.objs.size) (o:= .dK kvs) (t':=s.toks) (λb q hq=>?_) (A9 _) (sP z (CP.mpr (BG (AR I.big))) MZ Qs));show(hs.2 b (AR (AQ hq))).trans (A4 _ hq)
end
section
variable{X:Cx}{pos:Pos}{a b c d:SE}{ta tb tc td:TE}
def ja:bE X (.builtin "isinstance") (λxs H Q=>∃x n t b,xs=[x,.ty n]/\TyOf X.K H x t/\W.kitOne X.K t (.type n)=some b/\Q (.bl b) H):=by
 intro MO s σ H xs us Q I r h;have{x,n,t,b,0,ty,e,q}:=h;have{u,w',0,ru,Om}:=gi r;obtain rfl:w'=Value.type n:=Om;show zS I ru ty e λtk=>{.bl b,H,I.tok tk,0,q}
end
section
open PySem.W
variable{K:Frag}
def sS{t:String}:kitOne K (.type t) (.type t)=some true:=by
 unfold kitOne;rw[A6 (by simp)]
def gU{t c:String}{b:Bool}(h1:(Value.type t==Value.type c)=false)(h2:kitMeta c=true)(h3:(fastBuiltinMro t).map (·.contains (Value.type c))=some b):kitOne K (.type t) (.type c)=some b:=by
 unfold kitOne;rw[A5 (by rw[h1];decide)];unfold kitCls;change(if kitMeta c=true then subIn K (.type t) (.type c) else none)=some b;rw[A6 h2];show h3
theorem Eu:kitOne K (.type "int") (.type "bool")=some false:=gU (by ac_nf) (by ac_nf) (by ac_nf)
theorem Ev:kitOne K (.type "bool") (.type "int")=some true:=gU (by ac_nf) (by ac_nf) (by ac_nf)
end
def bq[Decidable c](h1:c->A)(h2:¬c->B):if decide c=true then A else B:=by
 by_cases h:c
 .rw[A6 (B4 h)];show h1 h
 .rw[A5 (by rw[Ak h];decide)];show h2 h
def Ew[Decidable c](h1:¬c->A)(h2:c->B):if(!decide c)=true then A else B:=by
 by_cases h:c
 .rw[A5 (by rw[B4 h];decide)];show h2 h
 .rw[A6 (by rw[Ak h];rfl)];show h1 h
def cD{i:Int}(h1:i=j->A)(h2:i≠j->B):if decide (V.int i=V.int j)=true then A else B:=bq (λh=>h1 (V.int.inj h)) λh=>h2 λe=>h (BZ V.int e)
def Ex{i:Int}(h1:i≠j->A)(h2:i=j->B):if(!decide (V.int i=V.int j))=true then A else B:=Ew (λh=>h1 λe=>h (BZ V.int e)) λh=>h2 (V.int.inj h)
theorem ae.put{H1:Hp}{o:HO}(s:ae H H1)(n:H l=none):ae H (upd H1 l o):=λb u e=>by
 rw[au (bz e n)];show s b u e
def ae.new{o:HO}(n:H l=none):ae H (upd H l o):=(ae.refl H).put n
def Ey{prog:Program}{w:World}{A:Around}{R:Result->Shared->Prop}{s:Shared}{NF aB:Expr}{it acc:Value}(I:Nat->Shared->Prop)
  (turn:∀n s,I n s->wpAny (model prog w) A (pyNext it) (λr s₁=>match r with
   |none=>R (.ok .next) s₁
   |some v=>wpAny (model prog w) A (letOwnedTupleGo NF it v) (λ_ s₁'=>wpAny (model prog w) A (assign NF env v) (λ_ s₂=>
     wpAny (model prog w) A (forIn NW true λc r=>if r=true then do let ok<-isTrue c env (eval c env);pure (ForInStep.yield ok) else pure (ForInStep.yield r)) (λok s₃=>
      if ok=true then wpAny (model prog w) A (eval Oa env) (λx s₄=>
       wpAny (model prog w) A (call (.builtin "list.append") [acc,x]) (λ_ s₅=>∃m,m<n/\I m s₅) (notedBy (model prog w) A env λe s'=>R (.error e) s') s₄) (notedBy (model prog w) A env λe s'=>R (.error e) s') s₃
      else∃m,m<n/\I m s₃) (notedBy (model prog w) A env λe s'=>R (.error e) s') s₂) (notedBy (model prog w) A env λe s'=>R (.error e) s') s₁') (notedBy (model prog w) A env λe s'=>R (.error e) s') s₁) (notedBy (model prog w) A env λe s'=>R (.error e) s') s)
  (n:Nat) (h:I n s):
  codeAny (model prog w) A (.compLoop (.ListComp Oa [{NF,aB,NW,(0)}] scope pos) 0 it acc env) R s:=by
 show codeAny_loop rfl I (λn s hI=>?_) n h;change wpAny _ A ((compTurn (.ListComp Oa [{NF,aB,NW,(0)}] scope pos) 0 it acc env).onRaise (λx=>do noteFrame x env;theTreesLotGoes x)) _ _ s;show wpAny_noted ?_;rw[compTurn_list];show A0 (wpAny_standAt (A0 (Bx (turn n s hI) (λr s₁ h₁=>?_) λ_ _ h'=>h')));cases r with
 |none=>show A3 h₁
 |some v=>
  show A0 (Bx h₁ (λ_ s₁' h₁'=>A0 (Bx h₁' (λ_ s₂ h₂=>A0 (Bx h₂ (λok s₃ h₃=>?_) λ_ _ h'=>h')) λ_ _ h'=>h')) λ_ _ h'=>h');cases ok with
  |false=>show A3 {0,h₃}
  |true=>
   show A0 (A0 (Bx h₃ (λx s₄ h₄=>A0 (Bx h₄ (λ_ s₅ h₅=>A3 (A3 {0,h₅})) λ_ _ h'=>h')) λ_ _ h'=>h'))
def cV(env:Env):SD (Str×NameKind)->SD (Str×Sx)->SD (Str×Sx)
 |[],cs=>cs
 |(n,k)::r,cs=>cV env r (if k=.free then(n,(env.cells.lookup n).getD 0)::cs else cs)
theorem mP{env:Env}:∀(ns:List (Str×NameKind)) (cs:List (Str×Addr)),(∀y∈ns,y.2=.free->∃c,env.cells.lookup y.1=some c)->
  (forIn ns cs fun(x:Str×NameKind) (r:List (Str×Addr))=>(if(x.2== .free)=true then do let c<-cellOf env x.1;pure (ForInStep.yield ((x.1,c)::r)) else pure (ForInStep.yield r):Sem (ForInStep (List (Str×Addr)))))=(pure (cV env ns cs):Sem _)
 |[],cs,_=>rfl
 |(n,k)::r,cs,h=>by
  have hr:=λy hy=>h y (AT _ hy);by_cases hk:k=.free
  .have{c,hc}:=h (n,k) Aa hk;subst hk;rw[Cu];have e:cellOf env n=pure c:=by unfold cellOf;rw[hc]
   simp only[beq_self_eq_true,C9,e,pure_bind];rw[mP r _ hr];change _=pure (cV env r (if NameKind.free=NameKind.free then(n,(env.cells.lookup n).getD 0)::cs else cs));rw[A6 rfl,show env.cells.lookup n=some c from hc];rfl
  .have hb:(k==NameKind.free)=false:=by simpa using hk
   rw[Cu];simp only[hb,AN,Au,pure_bind];rw[mP r _ hr];change _=pure (cV env r (if k=NameKind.free then(n,(env.cells.lookup n).getD 0)::cs else cs));rw[A5 hk]
def Ez(h:∀y∈scope.names,y.2=.free->∃c,env.cells.lookup y.1=some c):closureFor scope env=pure (cV env scope.names []):=by
 unfold closureFor;have e:=mP scope.names [] h;simp only[bind_pure] at e⊢;show e
theorem sT{env:Env}{x:Str}{c:Sx}:∀(ns:SD (Str×NameKind)) (cs:SD (Str×Sx)),(∀y∈ns,y.2=.free->∃c,env.cells.lookup y.1=some c)->(∀x c,cs.lookup x=some c->env.cells.lookup x=some c)->
  (cV env ns cs).lookup x=some c->env.cells.lookup x=some c
 |[],cs,_,hc,e=>hc x c e
 |(n,k)::r,cs,h,hc,e=>by
  unfold cV at e;show sT r _ (λy hy=>h y (AT _ hy)) (λx' c' e'=>?_) e;by_cases hk:k=.free
  .rw[A6 hk] at e';have{c0,h0}:=h (n,k) Aa hk;rw[h0] at e';rw[CS] at e';by_cases q:x'==n
   .rw[q] at e';cases e';rw[DY.mp q];show h0
   .have q':(x'==n)=false:=by simpa using q
    rw[q'] at e';show hc x' c' e'
  .rw[A5 hk] at e';show hc x' c' e'
theorem sU{env:Env}{x:Str}:∀(ns:SD (Str×NameKind)) (cs:SD (Str×Sx)),(∃c,cs.lookup x=some c)->∃c,(cV env ns cs).lookup x=some c
 |[],cs,h=>h
 |(n,k)::r,cs,h=>by
  unfold cV;show sU r _ ?_;by_cases hk:k=.free
  .rw[A6 hk,CS];by_cases q:x==n
   .rw[q];show{1}
   .have q':(x==n)=false:=by simpa using q
    rw[q'];show h
  .rw[A5 hk];show h
theorem mQ{env:Env}{x:Str}:∀(ns:SD (Str×NameKind)) (cs:SD (Str×Sx)),(x,NameKind.free)∈ns->∃c,(cV env ns cs).lookup x=some c
 |(n,k)::r,cs,h=>by
  unfold cV;rcases AJ.mp h with e|e
  .cases e;rw[A6 rfl];show sU r _ {_,by rw[CS,beq_self_eq_true]}
  .show mQ r _ e
def Cx.comp(X:Cx)(scope:Scope)(C:Sx)(N:SD Str)(s₀:Sw)(H₀:Hp)(ex:SD Sx)(E:Sv->Sw->Prop):Cx where
 prog:=X.prog
 w:=X.w
 K:=X.K
 mg:=X.mg
 base:=X.base
 A:=X.A
 N:=N
 s₀:=s₀
 H₀:=H₀
 env:=compEnvC scope (cV X.env scope.names []) C X.env
 outer:=X.stack
 stack:=X.stack
 ex:=ex
 fn:=λ_=>false
 calm:=X.calm
 pn:=[]
 xe:=E
def gq(X:Cx)(NW:List Expr)(t:TT):Prop:=
 ∀(MO:List (Addr×Obj)) (s:Shared) (σ:St) (H:Hp) (Q:Bool->Hp->Prop),Inv X MO σ H s->t σ H Q->
  wpAny (model X.prog X.w) X.A (forIn NW true λc r=>if r=true then do let ok<-isTrue c X.env (eval c X.env);pure (ForInStep.yield ok) else pure (ForInStep.yield r)) (TP X MO σ Q) X.xe s
def kt:TT:=λ_ H Q=>Q true H
def dG :gq X [] kt:=λ_ _ _ H _ I h=>wpAny_tests_nil {H,I,h}
def jb{c:SE}{t:TT}(h:PT X c t):gq X [c] t:=λMO s σ H Q I q=>wpAny_tests_one (h MO s σ H Q I q)
def dH(own:Nat)(js:SD Nat)(σ:St):St:=List.replicate own none++js.map λj=>(σ[j]?).getD none
def jc(J:It)(own:Nat)(js:SD Nat)(g:TG)(ti:TT)(te:TE)(σ:St)(H1:Hp)(acc:Sx)(Q:VK):Prop:=
 ∃Wq:Nat->Nat->Hp->Prop,(∃m,Wq 0 m (upd H1 acc (.lst [])))/\∀i m H2,Wq i m H2->
  (J.stop i H2/\Q (.ref acc) H2)\/(J.go i H2/\∀x H3,J.yld i H2 x H3->g x (dH own js σ) H3 λσ4 H4=>ti σ4 H4 λb H5=>
   if b=true then te σ4 H5 λy H6=>rAppend (.ref acc) [y] H6 λ_ H7=>∃m',m'<m/\Wq (i+1) m' H7 else∃m',m'<m/\Wq (i+1) m' H5)
def jd(own:Nat)(js:SD Nat)(wi:TI)(g:TG)(ti:TT)(te:TE):TE:=λσ H Q=>wi σ H λJ H1=>∀acc,H1 acc=none->jc J own js g ti te σ H1 acc Q
def gr{α:Type}{t:Sem α}{Q Q':α->Sw->Prop}{M:Model}{A:SC}(h:wpAny M A t Q (λ_ _=>False) s)(hQ:∀a s,Q a s->Q' a s):wpAny M A t Q' E s:=Bx h hQ λ_ _ f=>f.elim
theorem mR{scope:Scope}{env:Env}{x:Str}:∀{names:SD (Str×NameKind)},((names.map fun(n,k)=>if(k==NameKind.free&&env.scope.kind== .function&&env.kindOf n==some .cell) then(n,NameKind.cell) else(n,k)).lookup x=some .cell\/
  (names.map fun(n,k)=>if(k==NameKind.free&&env.scope.kind== .function&&env.kindOf n==some .cell) then(n,NameKind.cell) else(n,k)).lookup x=some .free)->(∀y∈names,y.2≠ .cell)->(x,NameKind.free)∈names
 |[],h,_=>by simp at h
 |(n,k)::r,h,hc=>by
  have hr:∀y∈r,y.2≠ .cell:=λy hy=>hc y (AT _ hy);have h0:k≠ .cell:=hc (n,k) Aa;rw[AG,CS] at h;by_cases hb:(k==NameKind.free&&env.scope.kind== .function&&env.kindOf n==some .cell)=true
  .rw[A6 hb] at h;dsimp only at h;by_cases q:x==n
   .have hk:k=.free:=by simp only[AM,DY] at hb;show hb.1.1
    rw[DY.mp q,hk];show Aa
   .have q':(x==n)=false:=by simpa using q
    rw[q'] at h;show AT _ (mR (scope:=scope) h hr)
  .rw[A5 hb] at h;dsimp only at h;by_cases q:x==n
   .rw[q] at h;dsimp only at h;have hk:k=.free:=by
     rcases h with h|h
     .show absurd (Ad h) h0
     .show Ad h
    rw[DY.mp q,hk];show Aa
   .have q':(x==n)=false:=by simpa using q
    rw[q'] at h;show AT _ (mR (scope:=scope) h hr)
def gs(own:Nat)(g:TG):Prop:=∀v σ H (Q:St->Hp->Prop),g v σ H Q->g v σ H λσ' H'=>Q σ' H'/\σ'.length=σ.length/\∀i,own<=i->σ'[i]? =σ[i]?
theorem c8(h:i<own):gs own (cx i):=λv σ H Q q=>{q,C6 ..,λj hj=>by rw[Cg (by lia)]}
def EA(own:Nat)(js:SD Nat)(σ:St):(dH own js σ).length=own+js.length:=by simp[dH]
def sV{σ:St}(h:(dH own js σ)[i]? =some (some v)):own<=i/\∃j,js[i-own]? =some j/\σ[j]? =some (some v):=by
 unfold dH at h;by_cases hi:i<own
 .rw[Bm (by simpa using hi),D4,A6 hi] at h;cases h
 .rw[BR (by simpa using hi),BJ,AD] at h;show{4,?_};cases e:js[i-own]? with
  |none=>rw[e] at h;cases h
  |some j=>
   rw[e] at h;show{j,0,?_};have h':(σ[j]?).getD none=some v:=Ad h;cases e2:σ[j]? with
   |none=>rw[e2] at h';cases h'
   |some o=>rw[e2] at h';show BZ some h'
def sW{Oa aB:SE}{NW:SD SE}{pos ps:Pos}{wi:TI}{ti:TT}(hc:X.calm=true)
  (Nk:∀y∈scope.names,y.2≠ .cell) (Nz:scope.kind=.function) (NX:∀y∈scope.names,y.2=.local->scope.names.lookup y.1=some .local)
  (NL:∀y∈scope.names,y.2=.free->X.env.kindOf y.1=some .cell\/X.env.kindOf y.1=some .free) (MS:N.length=own+js.length)
  (OT:∀(i j:Nat) (x:Str),js[i]? =some j->N[own+i]? =some x->X.N[j]? =some x/\(x,NameKind.free)∈scope.names/\(X.env.kindOf x=some .cell\/X.env.kindOf x=some .free)/\((relabel scope X.env).names.lookup x=some .cell\/(relabel scope X.env).names.lookup x=some .free))
  (hi:PI X tg aB wi) (hg:∀C s₀ H₀ ex,PG (X.comp scope C N s₀ H₀ ex λ_ _=>False) tg g) (ho:gs own g) (ht:∀C s₀ H₀ ex,gq (X.comp scope C N s₀ H₀ ex λ_ _=>False) NW ti) (he:∀C s₀ H₀ ex,PE (X.comp scope C N s₀ H₀ ex λ_ _=>False) Oa te)
  {σ:St}{Q:VK}{use:SG (Sv->Sem Unit)}{RQ:Sv->Sw->Prop} (I:Inv X MO σ H s) (h:jd own js wi g ti te σ H Q)
  (fin:∀(acc C:Sx) (H3:Hp) (s4:Sw) (m:Str->SG Sv),Inv X MO σ H3 s4->s4.heap.Ns C m->H3 C=none->C≠X.env.locals->C∉X.fs->X.s₀.heap.objs.size<=C->(∀x c,X.env.cells.lookup x=some c->c≠C)->(∀p∈X.pn++MO,p.1≠C)->
   Q (.ref acc) H3->compPost (model X.prog X.w) X.A X.xe use RQ (.ref acc) C (.ok .next) s4)
  (hs:∀x,foldedSetIterable aB X.env x=pure x:=by intro _;rfl):
  wpAny (model X.prog X.w) X.A (comprehension (.ListComp Oa [{tg,aB,NW,(0)}] scope pos) scope X.env ps (newList []) false (eval aB X.env) use) RQ X.xe s:=by
 have RG:∀y∈scope.names,y.2=.free->∃c,X.env.cells.lookup y.1=some c:=λy hy hf=>I.ok.has y.1 (NL y hy hf);show wpAny_comprehension_free (use:=use) rfl hs (Ez RG) Nz NX (thn (hi MO s σ H _ I h) λv s1 h1=>thn h1 λitv s2 h2=>?_);have{it,fp,tn,J,H2,e,I2,T,N7,f2,q}:=h2;subst e;have nf:H2 s2.heap.objs.size=none:=I2.hok.fresh (A9 _);have{Wq,{m0,w0},turn}:=q s2.heap.objs.size nf;show Ap (wpAny_newFunctionEnv Nk (by intro y hy;simp at hy) (λh₁ RH QH=>?_) Nz);dsimp only at RH QH⊢;generalize hP2:s2.heap.push {cls:= .type "list",dict:=none,data:= .seq ([]:SD Sv).toArray}=P2 at RH QH⊢;have hC:P2.objs.size=s2.heap.objs.size+1:=by rw[<-hP2,Aq]
 have Ra:s2.heap.objs.size<P2.objs.size:=by rw[hC];show BQ _
 have kp:∀b o,s2.heap.get? b=some o->h₁.get? b=some o:=λb o e=>QH.extBut b o (AR (Nat.lt_trans (AQ e) Ra)) (A4 _ (hP2▸A4 _ e));have MR:h₁.get? s2.heap.objs.size=some {cls:= .type "list",dict:=none,data:= .seq ([]:SD Sv).toArray}:=QH.extBut _ _ (AR Ra) (A4 _ (hP2▸AE _ rfl));have RI:∀x c,(cV X.env scope.names []).lookup x=some c->X.env.cells.lookup x=some c:=λx c e=>sT scope.names [] RG (λ_ _ z=>by simp at z) e;have cne:∀x c,(cV X.env scope.names []).lookup x=some c->c<s2.heap.objs.size/\H2 c=none:=λx c e=>by
  have{v,o,ho,hd}:=I2.cell x c (RI x c e);show{AQ ho,I2.freeC x c (RI x c e)}
 have fpl:∀b∈fp,b<s2.heap.objs.size:=λb hb=>by
  have{o,e,_}:=T.obj 0 _ N7 b hb;show AQ e
 have hX:(X.comp scope P2.objs.size N s2 H2 fp λ_ _=>False).Ok:={
  mod:=I.ok.mod
  kind:=Nz
  glob:=I.ok.glob
  blt:=I.ok.blt
  above:=Ah Ra
  inj:=λx y c a b=>I.ok.inj x y c (RI x c a) (RI y c b)
  has:=λx hx=>mQ scope.names [] (mR (scope:=scope) (env:=X.env) hx Nk)
  cab:=λx c a _=>by cases (show false=true from a)
  hd:=I.ok.hd
  frames:=I.ok.frames
  stk:= .inl rfl
  exf:=λb hb=>{AR (Nat.lt_trans (fpl b hb) Ra),λx c a=>(f2 b hb).2.2.2.2.1 x c (RI x c a)}
  bs:=I2.bs
  bsz:=BA I.ok.bsz I2.sz
  noex:=λb o e hb=>by
   rcases(f2 b hb).2.2.2.1 with z|z
   .show I.ok.noex b o e z
   .show absurd (Am (Am (AQ e) I.ok.bsz) z) (BU _)
  exfs:=λb hb z=>by
   rcases AJ.mp (I2.stkSub b z) with z|z
   .show(f2 b hb).2.1 z
   .show(f2 b hb).2.2.1 z
  funs:=I2.stack
  frf:=I2.stkFree}
 have I3:∀tk,Inv (X.comp scope P2.objs.size N s2 H2 fp λ_ _=>False) [] (dH own js σ) (upd H2 s2.heap.objs.size (.lst [])) {s2 with heap:=h₁,toks:=tk}:=λtk=>{
  ok:=hX
  os:=rfl
  bare:=I2.bare
  base:=Un.laid kp (A9 _) nf
  loc:={_,RH,λi x v a b c=>by
   have{hio,j,hj,hv}:=sV b;have{h3,h4,h5,h6}:=OT (i-own) j x hj (by rw[show own+(i-own)=i by lia];show a);have{m,hn,hl}:=I2.loc;have{u,ru,lk}:=hl j x v h3 hv (.inr h5);show{u,ru,.inr {h6,?_}};rcases lk with⟨z,_⟩|⟨_,c0,z1,z2⟩
   .rcases h5 with h5|h5<;>(rw[h5] at z;cases z)
   .have{c1,hc1}:=mQ (env:=X.env) scope.names [] h4;have:=RI x c1 hc1;rw[z1] at this;cases this;have{o,ho,hd}:=z2;show{c0,hc1,o,kp _ _ ho,hd}}
  cell:=λx c a=>by
   have{v,o,ho,hd}:=I2.cell x c (RI x c a);show{v,o,kp _ _ ho,hd}
  free:=by
   change upd H2 _ _ P2.objs.size=none;rw[au (Br Ra)];show I2.hok.fresh (Ah Ra)
  freeC:=λx c a=>by
   rw[au (AR (cne x c a).1)];show(cne x c a).2
  pin:=λp hp=>absurd (show p∈([]:SD (Sx×Obj)) from hp) (by simp)
  hok:=I2.hok.laid kp (A9 _) {AO _,[],(0),.nil,MR}
  len:=by rw[EA];show MS.symm}
 have fr0:∀b∈fp,upd H2 s2.heap.objs.size (.lst []) b=none:=λb hb=>by
  rw[au (AR (fpl b hb))];show(f2 b hb).1
 have st3:tn 0 h₁:=T.keep 0 _ _ N7 λb _ o e=>kp b o e;have OR:∀{H':Hp},(∀b∈fp,H' b=none)->∀b∈fp,cz (X.comp scope P2.objs.size N s2 H2 fp λ_ _=>False) [] H' b:=λhn b hb=>
  {hn b hb,(hX.exf b hb).1,hX.exfs b hb,.inl hb,λx c a=>(hX.exf b hb).2 x c a,λp hp=>absurd (show p∈([]:SD (Sx×Obj)) from hp) (by simp)}
 have loop:∀s₃:Sw,s₃={s2 with heap:=h₁,toks:=s2.toks+([]:SD (Str×Sv)).length}->
   codeAny (model X.prog X.w) X.A (.compLoop (.ListComp Oa [{tg,aB,NW,(0)}] scope pos) 0 (.ref it) (.ref s2.heap.objs.size) (compEnvC scope (cV X.env scope.names []) P2.objs.size X.env))
    (compPost (model X.prog X.w) X.A X.xe use RQ (.ref s2.heap.objs.size) P2.objs.size) s₃:=by
  rintro s₃ rfl;show Ey (λn s'=>∃i H',Inv (X.comp scope P2.objs.size N s2 H2 fp λ_ _=>False) [] (dH own js σ) H' s'/\tn i s'.heap/\(∀b∈fp,H' b=none)/\Wq i n H') ?_ m0 {(0),_,I3 _,st3,fr0,w0};rintro n s3 ⟨i,H3,J3,t3,fr3,w3⟩;rcases turn i n H3 w3 with⟨stop,qd⟩|⟨go,step⟩
  .show gr (T.done (X.comp scope P2.objs.size N s2 H2 fp λ_ _=>False) rfl rfl rfl hc i [] s3 _ H3 _ J3 (OR fr3) t3 stop) λr s4 zu44=>?_;have{hr,J4}:=zu44;subst hr;have{m,hn,_}:=J4.loc;have B:Un (frs X.stack) fp H2 H3 s2.heap s4.heap:=J4.base;have I5:Inv X MO σ H3 s4:=I2.call' J4.os B J4.hok J4.bare λb hb=>by
    have{a1,a2,a3,a4,a5,a6}:=f2 b hb;show{a4,a2,a5,a6}
   have hp:=I2.fpOk (H':=H3) (b:=P2.objs.size) (Ah Ra) J4.free;have{a1,a2,a3,a4,a5,a6}:=hp;show fin s2.heap.objs.size P2.objs.size H3 s4 m I5 hn a1 a2 a3 (BA I2.sz (Ah Ra)) a5 a6 qd
  .show gr (T.item (X.comp scope P2.objs.size N s2 H2 fp λ_ _=>False) rfl rfl rfl hc i [] s3 _ H3 _ J3 (OR fr3) t3 go) λr s4 zu45=>?_;have{u,hr,h4}:=zu45;subst hr;show gr h4 λ_ s5 zu46=>?_;have{x,H5,J5,r5,y5,t5,fr5}:=zu46;have J5':=J5.pinned (OR fr5) (T.obj _ _ t5);show gr (hg _ _ _ _ _ s5 _ H5 x u _ J5' r5 (ho _ _ _ _ (step x H5 y5))) λ_ s6 zu47=>?_;have{σ6,H6,J6,q6,Rb,Pw}:=zu47;have again:∀{s7:Sw}{H7:Hp},Inv (X.comp scope P2.objs.size N s2 H2 fp λ_ _=>False) ([]++iW fp s5.heap) σ6 H7 s7->(∃m',m'<n/\Wq (i+1) m' H7)->
     ∃m,m<n/\∃i H',Inv (X.comp scope P2.objs.size N s2 H2 fp λ_ _=>False) [] (dH own js σ) H' s7/\tn i s7.heap/\(∀b∈fp,H' b=none)/\Wq i m H':=fun{s7 H7} J7 z=>by
    have{m',hm,w7}:=z;show{m',hm,i+1,H7,J7.unpinned.weak (by rw[Rb]) (λk v z=>?_),T.keep _ _ _ t5 λb hb o e=>(J7.pin (b,o) (B3 _ (B3 _ (kf hb e)))).1,λb hb=>?_,w7}
    .rw[Pw k (sV z).1];show z
    .have{o,e,d}:=T.obj _ _ t5 b hb;show(J7.pin (b,o) (B3 _ (B3 _ (kf hb e)))).2.1
   show gr (ht _ _ _ _ _ s6 σ6 H6 _ J6 q6) λok s7 zu48=>?_;have{H7,J7,q7}:=zu48;cases ok with
   |false=>show again J7 q7
   |true=>
    show gr (he _ _ _ _ _ s7 σ6 H7 _ J7 q7) λy s8 zu49=>?_;have{yv,H8,J8,r8,q8}:=zu49;show gr (b8 _ s8 σ6 H8 (.ref s2.heap.objs.size) [yv] (.ref s2.heap.objs.size) [y] _ J8 rfl (.cons r8 .nil) q8) λ_ s9 Np=>by have{_,H9,J9,_,q9}:=Np;show again J9 q9
 show codeAny_compStart_list (loop _ rfl) (T.self X.A 0 _ _ _ st3 (loop _ rfl))
def EB{Oa aB:SE}{NW:SD SE}{pos:Pos}{wi:TI}{ti:TT}(hc:X.calm=true)
  (Nk:∀y∈scope.names,y.2≠ .cell) (Nz:scope.kind=.function) (NX:∀y∈scope.names,y.2=.local->scope.names.lookup y.1=some .local)
  (NL:∀y∈scope.names,y.2=.free->X.env.kindOf y.1=some .cell\/X.env.kindOf y.1=some .free) (MS:N.length=own+js.length)
  (OT:∀(i j:Nat) (x:Str),js[i]? =some j->N[own+i]? =some x->X.N[j]? =some x/\(x,NameKind.free)∈scope.names/\(X.env.kindOf x=some .cell\/X.env.kindOf x=some .free)/\((relabel scope X.env).names.lookup x=some .cell\/(relabel scope X.env).names.lookup x=some .free))
  (hi:PI X tg aB wi) (hg:∀C s₀ H₀ ex,PG (X.comp scope C N s₀ H₀ ex λ_ _=>False) tg g) (ho:gs own g) (ht:∀C s₀ H₀ ex,gq (X.comp scope C N s₀ H₀ ex λ_ _=>False) NW ti) (he:∀C s₀ H₀ ex,PE (X.comp scope C N s₀ H₀ ex λ_ _=>False) Oa te)
  (hs:∀x,foldedSetIterable aB X.env x=pure x:=by intro _;rfl):PE X (.ListComp Oa [{tg,aB,NW,(0)}] scope pos) (jd own js wi g ti te):=by
 intro MO s σ H Q I h;rw[eval_ListComp];show sW hc Nk Nz NX NL MS OT hi hg ho ht he I h (use:=none) (λacc C H3 s4 m I5 hn c1 c2 c3 c4 c5 c6 q=>?_) hs;show{m,hn,λh' sb=>{.ref acc,H3,?_,0,q}};show I5.turned (t':=s4.toks) (it:=C) (λb o hb e=>(sb.2 b hb).trans e) c1 c2 (.inr c4) c5 c6
def EC{y:Str}{tg aB:Expr}{N:List Str}{js:List Nat}{wi:TI}{ti:TT}(hN:X.N.Nodup)(NO:X.N[i]? =some y)(hy:Loc X.env.scope y)(hf:X.fn y=true\/X.env.scope.names.lookup y=some .local)
  (hc:X.calm=true)
  (Nk:∀y∈scope.names,y.2≠ .cell) (Nz:scope.kind=.function) (NX:∀y∈scope.names,y.2=.local->scope.names.lookup y.1=some .local)
  (NL:∀y∈scope.names,y.2=.free->X.env.kindOf y.1=some .cell\/X.env.kindOf y.1=some .free) (MS:N.length=own+js.length)
  (OT:∀(i j:Nat) (x:Str),js[i]? =some j->N[own+i]? =some x->X.N[j]? =some x/\(x,NameKind.free)∈scope.names/\(X.env.kindOf x=some .cell\/X.env.kindOf x=some .free)/\((relabel scope X.env).names.lookup x=some .cell\/(relabel scope X.env).names.lookup x=some .free))
  (hi:PI X tg aB wi) (hg:∀C s₀ H₀ ex,PG (X.comp scope C N s₀ H₀ ex λ_ _=>False) tg g) (ho:gs own g) (ht:∀C s₀ H₀ ex,gq (X.comp scope C N s₀ H₀ ex λ_ _=>False) NW ti) (he:∀C s₀ H₀ ex,PE (X.comp scope C N s₀ H₀ ex λ_ _=>False) Oa te)
  (hsw:swapsWith (.ListComp Oa [{tg,aB,NW,(0)}] scope pos) (some (.Name y py)) PV.line X.env=pure true:=by rfl)
  (hs:∀x,foldedSetIterable aB X.env x=pure x:=by intro _;rfl):PS X (.Assign [.Name y py] (.ListComp Oa [{tg,aB,NW,(0)}] scope pos) PV) (iV (jd own js wi g ti te) (cx i)):=by
 intro MO s σ H D I h;rw[exec_Assign_Name_used _ _ _ _ hsw];show A0 (wpAny_standAt (A0 ?_));change wpAny _ X.A (do let _<-comprehension (.ListComp Oa [⟨tg,aB,NW,0⟩] scope pos) scope X.env _ (newList []) false (eval aB X.env) (some (assign (.Name y py) X.env))) _ _ s;show A0 (Bx (sW hc Nk Nz NX NL MS OT hi hg ho ht he I h (use:=some (assign (.Name y py) X.env)) (RQ:=λ_ s'=>SP X MO D .next s') (λacc C H3 s4 m I5 hn c1 c2 c3 c4 c5 c6 q=>?_) hs) (λ_ s' hq=>A3 (A3 hq)) λ_ _ e=>e);change wpAny _ X.A (assign (.Name y py) X.env (.ref acc)) _ _ _;have{o,es,ep,NK,hd,hr}:=hn;have I6:Inv X (MO++[(C,o)]) σ H3 s4:=I5.pins_of λp hp=>by
  rcases BP.mp hp with z|z
  .show I5.pin p (B3 _ z)
  .rw[Ag.mp z];show{NK,c1,c2,c3,λv z=>by rw[hd] at z;cases z}
 show wpAny_assign_Name (j' I6 hN NO hy (v:= .ref acc) rfl (λs' I7=>?_) hf);have hp:=I7.pin (C,o) (B3 _ (B3 _ (by simp)));show{m,{o,es,ep,hp.1,hd,hr},λh' sb=>{_,H3,?_,q}};show I7.unpinned.turned (t':=s'.toks) (it:=C) (λb o hb e=>(sb.2 b hb).trans e) c1 c2 (.inr c4) c5 c6
def ku(XN:SD Str)(sc scope:Scope)(own:Nat)(js:SD Nat)(N:SD Str):Bool:=
 (scope.names.all λy=>decide (y.2≠ .cell)&&(decide (y.2≠ .local)||decide (scope.names.lookup y.1=some .local))&&(decide (y.2≠ .free)||decide (sc.names.lookup y.1=some .cell)||decide (sc.names.lookup y.1=some .free)))&&
  decide (scope.kind=.function)&&decide (N.length=own+js.length)&&
  (List.range js.length).all λi=>match js[i]?,N[own+i]? with
   |some j,some x=>decide (XN[j]? =some x)&&decide (scope.names.lookup x=some .free)&&(decide (sc.names.lookup x=some .cell)||decide (sc.names.lookup x=some .free))
   |_,_=>false
theorem mS{env:Env}:∀{names:SD (Str×NameKind)}{x:Str},names.lookup x=some .free->
  (names.map fun(n,k)=>if(k==NameKind.free&&env.scope.kind== .function&&env.kindOf n==some .cell) then(n,NameKind.cell) else(n,k)).lookup x=some .cell\/
  (names.map fun(n,k)=>if(k==NameKind.free&&env.scope.kind== .function&&env.kindOf n==some .cell) then(n,NameKind.cell) else(n,k)).lookup x=some .free
 |[],_,h=>by simp at h
 |(n,k)::r,x,h=>by
  have ih:= @mS env r x;rw[AG,CS];rw[CS] at h;by_cases hc:(k==NameKind.free&&env.scope.kind== .function&&env.kindOf n==some .cell)=true
  .rw[A6 hc];dsimp only;cases hx:x==n with
   |true=>show .inl rfl
   |false=>
    rw[hx] at h;show ih h
  .rw[A5 hc];dsimp only;cases hx:x==n with
   |true=>
    rw[hx] at h;show .inr h
   |false=>
    rw[hx] at h;show ih h
structure CompOk(XN:SD Str)(sc scope:Scope)(own:Nat)(js:SD Nat)(N:SD Str):Prop where
 cell:∀y∈scope.names,y.2≠ .cell
 names:∀y∈scope.names,y.2=.local->scope.names.lookup y.1=some .local
 free:∀y∈scope.names,y.2=.free->sc.names.lookup y.1=some .cell\/sc.names.lookup y.1=some .free
 kind:scope.kind=.function
 len:N.length=own+js.length
 cap:∀(i j:Nat) (x:Str),js[i]? =some j->N[own+i]? =some x->XN[j]? =some x/\scope.names.lookup x=some .free/\(sc.names.lookup x=some .cell\/sc.names.lookup x=some .free)
def sX{XN:SD Str}{sc:Scope}(h:ku XN sc scope own js N=true):CompOk XN sc scope own js N:=by
 unfold ku at h;rw[AM,AM,AM] at h;have{{{h1,h2},h3},h4}:=h;rw[AX] at h1 h4;show{λy hy=>?_,λy hy e=>?_,λy hy e=>?_,B' h2,B' h3,λi j x a b=>?_}
 .have:=h1 y hy;rw[AM,AM] at this;show B' this.1.1
 .have:=h1 y hy;rw[AM,AM,C7] at this;rcases this.1.2 with z|z
  .show absurd e (B' z)
  .show B' z
 .have:=h1 y hy;rw[AM,AM,C7,C7,C7] at this;rcases this.2 with(z|z)|z
  .show absurd e (B' z)
  .show .inl (B' z)
  .show .inr (B' z)
 .have hi:i<js.length:=(A8.mp a).1;have:=h4 i (AY.mpr hi);rw[a,b] at this;dsimp only at this;rw[AM,AM,C7] at this;show{B' this.1.1,B' this.1.2,this.2.imp B' B'}
section
variable{X:Cx}{XN:SD Str}{sc scope:Scope}{Oa tg aB:SE}{NW:SD SE}{pos:Pos}{N:SD Str}{own:Nat}{js:SD Nat}{wi:TI}{g:TG}{ti:TT}{te:TE}
def c9(hc:X.calm=true)(ok:ku XN sc scope own js N=true)(hsc:X.env.scope=sc)(hXN:X.N=XN)(hi:PI X tg aB wi)(hg:∀C s₀ H₀ ex,PG (X.comp scope C N s₀ H₀ ex λ_ _=>False) tg g)(ho:gs own g)
  (ht:∀C s₀ H₀ ex,gq (X.comp scope C N s₀ H₀ ex λ_ _=>False) NW ti) (he:∀C s₀ H₀ ex,PE (X.comp scope C N s₀ H₀ ex λ_ _=>False) Oa te)
  (hs:∀x,foldedSetIterable aB X.env x=pure x:=by intro _;rfl):PE X (.ListComp Oa [{tg,aB,NW,(0)}] scope pos) (jd own js wi g ti te):=by
 have{h1,h2,h3,h4,h5,h6}:=sX ok;subst hsc hXN;show EB hc h1 h4 h2 h3 h5 (λi j x a b=>?_) hi hg ho ht he hs;have{z1,z2,z3}:=h6 i j x a b;show{z1,C8 z2,z3,mS z2}
def mT{y:Str}(hN:X.N.Nodup)(NO:X.N[i]? =some y)(hy:Loc X.env.scope y)(hf:X.fn y=true\/X.env.scope.names.lookup y=some .local)(hc:X.calm=true)(ok:ku XN sc scope own js N=true)(hsc:X.env.scope=sc)(hXN:X.N=XN)(hi:PI X tg aB wi)
  (hg:∀C s₀ H₀ ex,PG (X.comp scope C N s₀ H₀ ex λ_ _=>False) tg g) (ho:gs own g)
  (ht:∀C s₀ H₀ ex,gq (X.comp scope C N s₀ H₀ ex λ_ _=>False) NW ti) (he:∀C s₀ H₀ ex,PE (X.comp scope C N s₀ H₀ ex λ_ _=>False) Oa te)
  (hsw:swapsWith (.ListComp Oa [{tg,aB,NW,(0)}] scope pos) (some (.Name y py)) PV.line X.env=pure true:=by rfl)
  (hs:∀x,foldedSetIterable aB X.env x=pure x:=by intro _;rfl):PS X (.Assign [.Name y py] (.ListComp Oa [{tg,aB,NW,(0)}] scope pos) PV) (iV (jd own js wi g ti te) (cx i)):=by
 have{h1,h2,h3,h4,h5,h6}:=sX ok;subst hsc hXN;show EC hN NO hy hf hc h1 h4 h2 h3 h5 (λi j x a b=>?_) hi hg ho ht he hsw hs;have{z1,z2,z3}:=h6 i j x a b;show{z1,C8 z2,z3,mS z2}
end
def kw{lo:Int}{ti:TT}{σ:St}{H1:Hp}{Q:VK}(Pv:Nat->Hp->Prop)(h0:Pv 0 (upd H1 acc (.lst [])))
  (hs:∀i H2,i<n->Pv i H2->g (.int (lo+i)) (dH own js σ) H2 λσ4 H4=>ti σ4 H4 λb H5=>if b=true then te σ4 H5 λy H6=>rAppend (.ref acc) [y] H6 λ_ H7=>Pv (i+1) H7 else Pv (i+1) H5) (hd:∀H2,Pv n H2->Q (.ref acc) H2)
  (mono:∀σ H (R R':St->Hp->Prop) x,(∀σ' H',R σ' H'->R' σ' H')->g x σ H R->g x σ H R') (NY:∀σ H (R R':Bool->Hp->Prop),(∀b H',R b H'->R' b H')->ti σ H R->ti σ H R') (NZ:∀σ H (R R':VK),(∀v H',R v H'->R' v H')->te σ H R->te σ H R'):
  jc (Itr lo n) own js g ti te σ H1 acc Q:=by
 show{λi m H2=>m=n-i/\i<=n/\Pv i H2,{n,7,AO _,h0},?_};rintro i m H2 ⟨rfl,hi,p⟩;by_cases MT:i<n
 .show .inr {MT,λx H3 y=>?_};have{e1,e2}:=y;subst e1 e2;show mono _ _ _ _ _ (λσ4 H4 q=>NY _ _ _ _ (λb H5 q=>?_) q) (hs i _ MT p);cases b with
  |true=>
   show NZ _ _ _ _ (λv H6 q=>?_) q;have{l,xs,y,a1,a2,a3,a4,a5}:=q;show{l,xs,y,a1,a2,a3,a4,n-(i+1),4,0,MT,a5}
  |false=>show{n-(i+1),4,0,MT,q}
 .have e:i=n:=by lia
  subst e;show .inl {A9 _,hd H2 p}
def dZ{xs:SD V}{ti:TT}{σ:St}{H1:Hp}{Q:VK}(Pv:Nat->Hp->Prop)(h0:Pv 0 (upd H1 acc (.lst [])))(hl:∀i H2,i<=xs.length->Pv i H2->SqL K H2 a xs)
  (hs:∀i x H2,xs[i]? =some x->Pv i H2->g x (dH own js σ) H2 λσ4 H4=>ti σ4 H4 λb H5=>if b=true then te σ4 H5 λy H6=>rAppend (.ref acc) [y] H6 λ_ H7=>Pv (i+1) H7 else Pv (i+1) H5) (hd:∀H2,Pv xs.length H2->Q (.ref acc) H2)
  (mono:∀σ H (R R':St->Hp->Prop) x,(∀σ' H',R σ' H'->R' σ' H')->g x σ H R->g x σ H R') (NY:∀σ H (R R':Bool->Hp->Prop),(∀b H',R b H'->R' b H')->ti σ H R->ti σ H R') (NZ:∀σ H (R R':VK),(∀v H',R v H'->R' v H')->te σ H R->te σ H R'):
  jc (Itl K a) own js g ti te σ H1 acc Q:=by
 show{λi m H2=>m=xs.length-i/\i<=xs.length/\Pv i H2,{xs.length,7,AO _,h0},?_};rintro i m H2 ⟨rfl,hi,p⟩;have q:=hl i H2 hi p;by_cases MT:i<xs.length
 .show .inr {{xs,xs[i],q,by simp[MT]},λx H3 y=>?_};have{e1,y}:=y;subst e1;show mono _ _ _ _ _ (λσ4 H4 q=>NY _ _ _ _ (λb H5 q=>?_) q) (hs i x _ (y xs q) p);cases b with
  |true=>
   show NZ _ _ _ _ (λv H6 q=>?_) q;have{l,xs,y,a1,a2,a3,a4,a5}:=q;show{l,xs,y,a1,a2,a3,a4,_,4,0,MT,a5}
  |false=>show{_,4,0,MT,q}
 .have e:i=xs.length:=by lia
  subst e;show .inl {{xs,q,A9 _},hd H2 p}
def db :∀(σ:St) (H:Hp) (R R':St->Hp->Prop) (x:V),(∀σ' H',R σ' H'->R' σ' H')->cx i x σ H R->cx i x σ H R':=λ_ _ _ _ _ k h=>k _ _ h
def fh{A B:St->Hp->Prop}{x:V}{σ:St}(h:A (σ.set i (some x)) H):cx i x σ H λσ4 H4=>kt σ4 H4 λb H5=>if b=true then A σ4 H5 else B σ4 H5:=by
 change if true=true then A (σ.set i (some x)) H else B (σ.set i (some x)) H
 rw[A6 rfl];show h
def sY(h:i<n):ixN n (i:Int)=some i:=by
 unfold ixN;rw[A6 (by lia),A6 (by lia),B1]
def dJ:∀(σ:St) (H:Hp) (R R':Bool->Hp->Prop),(∀b H',R b H'->R' b H')->kt σ H R->kt σ H R':=λ_ _ _ _ k h=>k _ _ h
section
variable{X:Cx}{K:W.Frag}
def ED(h:X.K=K):IxR X (rIxL K):=h▸cC
end
inductive EqR(K:W.Frag)(H:Hp):Nat->V->V->Bool->Prop where
 |int (d:Nat) (i j:Int):EqR K H d (.int i) (.int j) (decide (i=j))
 |lists {d:Nat}{a b:Addr}{xs ys:List V} (es:Nat->Bool) (h1:SqL K H a xs) (h2:SqL K H b ys) (hl:xs.length=ys.length) (he:∀(j:Nat) x y,xs[j]? =some x->ys[j]? =some y->EqR K H d x y (es j)):EqR K H (d+1) (.ref a) (.ref b) ((List.range xs.length).all es)
 |lens {d:Nat}{a b:Addr}{xs ys:List V} (h1:SqL K H a xs) (h2:SqL K H b ys) (hl:xs.length≠ys.length):EqR K H (d+1) (.ref a) (.ref b) false
 |tuples {d:Nat}{a b:Addr}{xs ys:List V} (es:Nat->Bool) (h1:SqT K H a xs) (h2:SqT K H b ys) (he:∀(j:Nat) x y,xs[j]? =some x->ys[j]? =some y->EqR K H d x y (es j)):EqR K H (d+1) (.ref a) (.ref b) ((List.range (min xs.length ys.length)).all es&&xs.length==ys.length)
section
variable{X:Cx}{MO:SD (Sx×Obj)}{σ:St}{H:Hp}{s:Sw}
def EqR.same(I:Inv X MO σ H s){x:V}(h:EqR X.K H d x y e):x=y->e=true:=by
 induction h with
 |int d i j=>intro q;cases q;simp
 |lists es h1 h2 hl he ih=>
  intro q;cases q;have z:=I.list_inj h1 h2;subst z;rw[AX];intro j hj;rw[AY] at hj;have hx:=A2 hj;show ih j _ _ hx hx rfl
 |lens h1 h2 hl=>
  intro q;cases q;show absurd (BZ List.length (I.list_inj h1 h2)) hl
 | @tuples d a b xs ys es h1 h2 he ih=>
  intro q;cases q;have z:=I.tuple_inj h1 h2;subst z;rw[AM];show{?_,7};rw[AX];intro j hj;rw[AY,Nat.min_self] at hj;have hx:=A2 hj;show ih j _ _ hx hx rfl
def b9(A:SC):A.in1.units=A.units+1:=rfl
def EqR.bO(I:Inv X MO σ H s){x:V}(h:EqR X.K H d x y e):∀{A:SC}{u v:Sv},A.units+d<cLine->aw x u->aw y v->SeqAt.RcAt A s u v e/\SeqAt.RcNeAt A s u v (!e)/\SeqAt.EqAt A s u v e:=by
 induction h with
 |int d i j=>
  intro A u v hu ru rv;have{t,0}:=ru;have{t',0}:=rv;have e:decide (i=j)=(i==j):=by rw[Bool.beq_eq_decide_eq]
  rw[e];show{SeqAt.RcAt.int_int i t j t',SeqAt.RcNeAt.int_int i t j t',SeqAt.EqAt.int_int i t j t'}
 | @lists d a b xs ys es h1 h2 hl he ih=>
  intro A u v hu ru rv;obtain rfl:u=Value.ref a:=ru;obtain rfl:v=Value.ref b:=rv;have{is,r1,p1,z1}:=I.list h1;have{js,r2,p2,z2}:=I.list h2;have l1:=r1.length;have l2:=r2.length;have ln:xs.length=is.toArray.size:=by simpa using l1
  have sz:is.toArray.size=js.toArray.size:=by simp only[AK];lia
  have it:∀j (q1:j<is.toArray.size) (q2:j<js.toArray.size),SeqAt.EqAt A.in1 s is.toArray[j] js.toArray[j] (es j):=λj q1 q2=>by
   simp only[AK] at q1 q2;have hx:xs[j]? =some xs[j]:=A2 (by lia);have hy:ys[j]? =some ys[j]:=A2 (by lia);have{u1,e1,ru1}:=r1.get hx;have{u2,e2,ru2}:=r2.get hy;have g1:is.toArray[j]=u1:=by
    rw[A2 q1] at e1;simpa using Option.some.inj e1
   have g2:js.toArray[j]=u2:=by
    rw[A2 q2] at e2;simpa using Option.some.inj e2
   rw[g1,g2];show(ih j _ _ hx hy (by rw[b9];lia) ru1 ru2).2.2
  rw[ln];have R:=SeqAt.RcAt.lists (A:=A) p1.isList p2.isList sz (by lia) it;show{R,SeqAt.RcNeAt.lists p1.isList p2.isList sz (by lia) it,?_};by_cases q:a=b
  .subst q;have:=(EqR.lists es h1 h2 hl he).same I rfl;rw[ln] at this;rw[this];show SeqAt.EqAt.same _
  .show SeqAt.EqAt.of_refs q R
 | @lens d a b xs ys h1 h2 hl=>
  intro A u v hu ru rv;obtain rfl:u=Value.ref a:=ru;obtain rfl:v=Value.ref b:=rv;have{is,r1,p1,z1}:=I.list h1;have{js,r2,p2,z2}:=I.list h2;have l1:=r1.length;have l2:=r2.length;have sz:(is.toArray.size !=js.toArray.size)=true:=by
   simp only[AK,bne_iff_ne,ne_eq];lia
  have R:=SeqAt.RcAt.lists_lengths (A:=A) p1.isList p2.isList sz (by lia);show{R,SeqAt.RcNeAt.lists_lengths p1.isList p2.isList sz (by lia),?_};by_cases q:a=b
  .subst q;show absurd (BZ List.length (I.list_inj h1 h2)) hl
  .show SeqAt.EqAt.of_refs q R
 | @tuples d a b xs ys es h1 h2 he ih=>
  intro A u v hu ru rv;obtain rfl:u=Value.ref a:=ru;obtain rfl:v=Value.ref b:=rv;have{is,r1,p1,z1}:=I.tuple h1;have{js,r2,p2,z2}:=I.tuple h2;have l1:=r1.length;have l2:=r2.length;have ln:xs.length=is.toArray.size:=by simpa using l1
  have ln2:ys.length=js.toArray.size:=by simpa using l2
  have it:∀j (q1:j<is.toArray.size) (q2:j<js.toArray.size),SeqAt.EqAt A.in1 s is.toArray[j] js.toArray[j] (es j):=λj q1 q2=>by
   simp only[AK] at q1 q2;have hx:xs[j]? =some xs[j]:=A2 (by lia);have hy:ys[j]? =some ys[j]:=A2 (by lia);have{u1,e1,ru1}:=r1.get hx;have{u2,e2,ru2}:=r2.get hy;have g1:is.toArray[j]=u1:=by
    rw[A2 q1] at e1;simpa using Option.some.inj e1
   have g2:js.toArray[j]=u2:=by
    rw[A2 q2] at e2;simpa using Option.some.inj e2
   rw[g1,g2];show(ih j _ _ hx hy (by rw[b9];lia) ru1 ru2).2.2
  rw[ln,ln2];have R:=SeqAt.RcAt.tuples (A:=A) (show s.heap.IsTuple a is.toArray from p1) (show s.heap.IsTuple b js.toArray from p2) (by lia) it;show{R,SeqAt.RcNeAt.tuples (show s.heap.IsTuple a is.toArray from p1) (show s.heap.IsTuple b js.toArray from p2) (by lia) it,?_};by_cases q:a=b
  .subst q;have:=(EqR.tuples es h1 h2 he).same I rfl;rw[ln,ln2] at this;rw[this];show SeqAt.EqAt.same _
  .show SeqAt.EqAt.of_refs q R
inductive rEqS(K:W.Frag)(neg:Bool)(x:V)(y:V)(H:Hp)(Q:VK):Prop
 |mk d e:EqR K H d x y e->d<=8->(Q (.bl (if neg then !e else e)) H)->rEqS K neg x y H Q
def mU{k:Nat}(hr:Room k X.A):OpR X (compareOp .Eq) (rEqS X.K false):=by
 intro MO s σ H x y v u Q I rx ry h;have{d,e,r,hd,q}:=h;have hu:=hr.un;show(r.bO I (A:=X.A) (by lia) rx ry).1 X.prog X.w X.xe _ {.bl e,H,I,0,q}
def je(hc:X.calm=true):bE X (.builtin "sum") (λxs H Q=>∃(p:Sx) (ns:SD Int),xs=[.ref p]/\SqL X.K H p (ns.map V.int)/\Q (.int ns.sum) H):=by
 intro MO s σ H xs us Q I r h;have{p,ns,0,hq,q}:=h;have{u,0,rx}:=dq r;cases rx;have{MQ,r',pl,hz}:=I.list hq;have hi:IntsAre MQ ns:=mI r';have{ys,e}:=hi.allInts.items;have hl:=pl.isList;rw[e] at hl;show sum_intListG (I.ok.hd hc) hl λh' tk t' hk=>{.int ns.sum,H,I.kept hk,{t',?_},q};have n1:=hi.numsOf;rw[show MQ=MQ.toArray.toList from rfl,e,nums_intItems] at n1;rw[preSum_eq,D' (by simp),n1]
def CDB(_ j:Int):Prop:=j≠0/\j.natAbs<2^512
theorem EE:OpR X (binaryOp .FloorDiv) (rI CDB λi j=>.int (i.fdiv j)):=opI λi j _ _ _ _ _ hc q=>floordiv_int hc.1 q (.inl (PyProof.noPylong_of_log2 (by
 have h0:j.natAbs≠0:=by have:=hc.1;lia
 have:=(Nat.log2_lt h0).mpr hc.2;lia)))
end
def Ite(K:W.Frag)(a:Sx):It:=
 {λi H=>∃xs x,SqL K H a xs/\xs[i]? =some x,λi H v H'=>∃x p,(∀xs,SqL K H a xs->xs[i]? =some x)/\v=.ref p/\H p=none/\H'=upd H p (.tup [.int i,x]),λi H=>∃xs,SqL K H a xs/\xs.length<=i}
def EF{NP:SD SE}{k:Nat}(a e it:Sx)(NM:e≠it):
  Turn P w K (.Tuple NP k pos) (Ite K a) [e,it] e (λi h=>(∃NN,IsEnum h e it (i:Nat) NN)/\h.IsListIter it a i) where
 mem:=by simp
 obj:=λi h st b hb=>by
  have{{NN,h1},o,h2,h3,h4}:=st;rcases AJ.mp hb with z|z
  .subst z;show{_,h1,λv y=>by cases y}
  .rw[Ag.mp z];show{o,h2,λv y=>by rw[h4] at y;cases y}
 keep:=λi h h' st kk=>{st.1.imp λNN z=>kk e (by simp) _ z,st.2.at λo z=>kk it (by simp) o z}
 item:=by
  intro X hP hw hK hc i MO s σ H E I hf st hg;subst hP hw hK;have{xs,x,hq,hx}:=hg;have{MQ,rv,p,hz}:=I.list hq;have{u,hu,ru}:=rv.get hx;have{{NN,he},MU}:=st;have nf:H s.heap.objs.size=none:=I.hok.fresh (A9 _);have ltE:e<s.heap.objs.size:=AQ he;show wpAny_pyNext_enum_item he MU p.isList (x:=u) (by simpa using hu) NM λh' ho On hT hsz hk=>{.ref s.heap.objs.size,0,?_};show wpAny_letOwnedTupleGo_enum ho λh2 QI sb=>?_;have k2:∀b o,b≠e->b≠it->s.heap.get? b=some o->h2.get? b=some o:=λb o n1 n2 z=>(sb.2 b n1).trans (hk b o n1 n2 z);have RJ:h2.get? s.heap.objs.size=some {cls:= .type "tuple",data:= .seq #[.int i s.toks,u]}:=(sb.2 _ (Br ltE)).trans hT;have OD:∀b,b∉[e,it]->b≠e/\b≠it:=λb z=>{λy=>z (by simp[y]),λy=>z (by simp[y])};show{.ref s.heap.objs.size,upd H s.heap.objs.size (.tup [.int i,x]),?_,0,{x,_,λys hy=>by rw[I.list_inj hy hq];show hx,0,nf,0},{{u,by simpa using QI},On.at λo z=>(sb.2 it NM.symm).trans z},λb hb=>?_}
  .show I.step (s:=s) (h':=h2) (g':=s.gens) (d':=s.drawn) (t':=s.toks+1) (ch:=[e,it]) (λb hb=>?_) (λb o _ _ c z _=>k2 b o (OD b c).1 (OD b c).2 z) (λb o _ _ c z _=>{o.slots,k2 b o (OD b c).1 (OD b c).2 z})
    (λb o c z n=>?_) (λb o c z=>{o,k2 b o (OD b c).1 (OD b c).2 z}) (λb ys z=>?_) (λb o v z=>?_) (λb ps z=>{#[],?_}) (λm hm=>?_) (λb v z=>?_) I.bare
   .have{a1,a2,a3,a4,a5,a6}:=hf b hb;show{a4,a2,a5,a6}
   .rw[au (AR (AQ z))];show n
   .rw[au (bz z nf)];show z
   .rw[au (bz z nf)];show z
   .rw[au (bz z nf),z];simp
   .have{o,es,ep,NK,r}:=hm;show{o,es,ep,k2 _ o (λy=>(hf e (by simp)).2.1 y.symm) (λy=>(hf it (by simp)).2.1 y.symm) NK,r}
   .by_cases hb:b=s.heap.objs.size
    .subst hb;rw[ak] at z;cases z;show{by change 2<=sizeLine;decide,[.int i s.toks,u],.cons {1} (.cons ru .nil),{_,RJ,0,1}}
    .rw[au hb] at z;show(I.hok b v z).stay (λc o hc y=>k2 c o ?_ ?_ y) (λc y=>?_) λc ys y=>?_
     .rcases hc with q|q
      .rw[q];show λy=>by rw[y,(hf e (by simp)).1] at z;cases z
      .show λy=>by rw[y,(hf e (by simp)).1] at q;cases q
     .rcases hc with q|q
      .rw[q];show λy=>by rw[y,(hf it (by simp)).1] at z;cases z
      .show λy=>by rw[y,(hf it (by simp)).1] at q;cases q
     .rw[au (bz y nf)];show y
     .rw[au (bz y nf)];show y
  .have{o,z,_}:=(show∃o,s.heap.get? b=some o/\True from by
    rcases AJ.mp hb with q|q
    .rw[q];show{_,he,trivial}
    .rw[Ag.mp q];have{o,y,_}:=MU;show{o,y,trivial})
   rw[au (AR (AQ z))];show(hf b hb).1
 done:=by
  intro X hP hw hK hc i MO s σ H E I hf st hg;subst hP hw hK;have{xs,hq,hx}:=hg;have{MQ,rv,p,hz}:=I.list hq;have{{NN,he},MU}:=st;have hl:=rv.length;have{f0,f1,f2,f3,f4,f5}:=hf it (by simp);show wpAny_pyNext_enum_end (I.ok.hd hc) he MU p.isList (by simp;lia) λh' eb=>{0,I.turned (t':=s.toks) (λb o hb z=>eb b o hb z) f0 f1 f3 f4 f5}
 self:=λ_ _ _ _ _ st h=>let ⟨⟨_,z⟩,_⟩:=st;wpAny_pyIter_enum z h
section
variable{X:Cx}{NP:SD SE}{k:Nat}{N6 p pos:Pos}{e:SE}{te:TE}
def EG(K:W.Frag)(tl:TE):TI:=λσ H R=>tl σ H λx H1=>∃a,x=.ref a/\(∃xs,SqL K H1 a xs)/\R (Ite K a) H1
def mV(hg:Gl X "enumerate")(hm:X.mg "enumerate"=none)(hl:PE X e te)(he:starEach [e] X.env=[(false,eval e X.env)]:=by rfl):PI X (.Tuple NP k N6) (.Call (.Name "enumerate" p) [e] [] pos) (EG X.K te):=by
 intro MO s σ H R I h;show Bl (cY I hg hm boot_enumerate ?_);show B7 (thn ((ab hl af he) _ MO s σ H (λvs H1=>match vs with|[x]=>(∃a,x=.ref a/\(∃xs,SqL X.K H1 a xs)/\R (Ite X.K a) H1)|_=>False) I h) λus s1 zu50=>?_) he (by rfl);have{vs,H1,I1,r1,q1}:=zu50
 match vs,q1,r1 with
 |[x],q1,r1=>
 have{a,0,{xs,hq},q}:=q1;have{u,0,ru}:=dq r1;obtain rfl:u=Value.ref a:=ru;have{MQ,rv,pl,hz}:=I1.list hq;show call_enumerate_list pl.isList λh' hen MU hsz hk=>?_;show wpAny_pyIter_enum hen ?_;show{_,[_,_],_,_,H1,0,I1.kept (t':=s1.toks) hk,EF a _ _ (Br (BQ _)),{{_,by simpa using hen},MU},λb hb=>?_,q};have fr:∀b,s1.heap.objs.size<=b->cz X MO H1 b:=λb z=>I1.fpOk z (I1.hok.fresh z);rcases AJ.mp hb with z|z
 .rw[z];show fr _ (C' _)
 .rw[Ag.mp z];show fr _ (A9 _)
end
def sZ{xs:SD V}{tb:TS}{D:Ends}{σ:St}(Pv:Nat->St->Hp->Prop)(h0:Pv 0 σ H)(hl:∀i σ H,i<=xs.length->Pv i σ H->SqL K H a xs)
  (hs:∀i x σ H p,xs[i]? =some x->Pv i σ H->H p=none->g (.ref p) σ (upd H p (.tup [.int i,x])) λσ2 H2=>tb (eLp D (Pv (i+1))) σ2 H2) (hd:∀σ H,Pv xs.length σ H->D.nx σ H):
  ∃Wq:Nat->Nat->St->Hp->Prop,(∃m,Wq 0 m σ H)/\∀i m σ H,Wq i m σ H->
   ((Ite K a).stop i H/\D.nx σ H)\/((Ite K a).go i H/\∃N:St->Hp->Prop,(∀σ' H',N σ' H'->∃m',m'<m/\Wq (i+1) m' σ' H')/\∀x H',(Ite K a).yld i H x H'->g x σ H' λσ2 H2=>tb (eLp D (N)) σ2 H2):=by
 show{λi m σ H=>m=xs.length-i/\i<=xs.length/\Pv i σ H,{xs.length,7,AO _,h0},?_};rintro i m σ H ⟨rfl,hi,p⟩;have q:=hl i σ H hi p;by_cases MT:i<xs.length
 .show .inr {{xs,xs[i],q,by simp[MT]},Pv (i+1),λσ' H' p'=>{xs.length-(i+1),4,0,MT,p'},λx H' y=>?_};have{z,pp,e1,e2,e3,e4}:=y;subst e2 e4;show hs i z σ H pp (e1 xs q) p e3
 .have e:i=xs.length:=by lia
  subst e;show .inl {{xs,q,A9 _},hd σ H p}
inductive rGetN(K:W.Frag)(o:V)(i:V)(H:Hp)(Q:VK):Prop
 |mk (p:Addr) (xs:List V) (j:Nat) (k:Int) (v:V):o=.ref p->i=.int k->k=j->SqL K H p xs->xs[j]? =some v->Q v H->rGetN K o i H Q
def tj :rN X (rGetN X.K):=by
 intro MO s σ H o i ov iv Q I r1 r2 h;have{p,xs,j,k,v,0,0,e,hq,hx,q}:=h;cases r1;have{t,0}:=r2;have{MQ,r,pl,hz}:=I.list hq;have{w,ew,Om}:=r.get hx;have hl:=r.length;have hn:=gh;have hj:j<xs.length:=(A8.mp hx).1;show wpAny_getItem_list pl.isList (by lia) (by lia) (by rw[e,B1];simpa using ew) {v,H,I,Om,q}
section
variable{X:Cx}{st:SH}{t:TS}
def EH(t:TS):TS:=λD σ H=>∃I:St->Hp->Prop,t (eTo D (I)) σ H/\∀σ' H',I σ' H'->D.nx σ' H'
theorem kx(h:PS X st t):PS X st (EH t):=λMO s σ H D Iv ⟨J,h1,h2⟩=>
 thn (h MO s σ H _ Iv h1) λf s' hf=>by
  cases f with
  |next=>have{σ',H',a,b}:=hf;show{σ',H',a,h2 _ _ b}
  |brk=>show hf
  |cont=>show hf
  |ret u=>show hf
end
inductive D where
 |i (n:Int)|l (xs:List D)|t (xs:List D)
mutual
def Is(H:Hp):D->V->Prop
 |.i n,v=>v=.int n
 |.l xs,v=>∃a vs,v=.ref a/\H a=some (.lst vs)/\Iss H xs vs
 |.t xs,v=>∃a vs,v=.ref a/\H a=some (.tup vs)/\Iss H xs vs
def Iss(H:Hp):SD D->SD V->Prop
 |[],vs=>vs=[]
 |x::xs,vs=>∃u us,vs=u::us/\Is H x u/\Iss H xs us
end
def bw{H:Hp}{n:Int}:Is H (.i n) (.int n):=by unfold Is;rfl
def aD{H:Hp}{a:Sx}{xs:SD D}{vs:SD V}(h:H a=some (.lst vs))(k:Iss H xs vs):Is H (.l xs) (.ref a):=by unfold Is;show{a,vs,0,h,k}
def bi{H:Hp}{a:Sx}{xs:SD D}{vs:SD V}(h:H a=some (.tup vs))(k:Iss H xs vs):Is H (.t xs) (.ref a):=by unfold Is;show{a,vs,0,h,k}
def aG{H:Hp}{n:Int}{v:V}(h:Is H (.i n) v):v=.int n:=by unfold Is at h;show h
def aA{H:Hp}{xs:SD D}{v:V}(h:Is H (.l xs) v):∃a vs,v=.ref a/\H a=some (.lst vs)/\Iss H xs vs:=by unfold Is at h;show h
def br{H:Hp}{xs:SD D}{v:V}(h:Is H (.t xs) v):∃a vs,v=.ref a/\H a=some (.tup vs)/\Iss H xs vs:=by unfold Is at h;show h
def ao{H:Hp}:Iss H [] []:=by unfold Iss;rfl
def am{H:Hp}{x:D}{xs:SD D}{u:V}{us:SD V}(h:Is H x u)(k:Iss H xs us):Iss H (x::xs) (u::us):=by unfold Iss;show{u,us,0,h,k}
def aN{H:Hp}{x:D}{xs:SD D}{vs:SD V}(h:Iss H (x::xs) vs):∃u us,vs=u::us/\Is H x u/\Iss H xs us:=by unfold Iss at h;show h
def bn{H:Hp}{vs:SD V}(h:Iss H [] vs):vs=[]:=by unfold Iss at h;show h
mutual
theorem Is.mono{H H':Hp}(s:ae H H'):∀{d:D}{v:V},Is H d v->Is H' d v
 |.i _,_,h=>by rw[aG h];show bw
 |.l xs,_,h=>by
  have{a,vs,e,q,r}:=aA h;rw[e];show aD (s _ _ q) (Iss.mono s r)
 |.t xs,_,h=>by
  have{a,vs,e,q,r}:=br h;rw[e];show bi (s _ _ q) (Iss.mono s r)
theorem Iss.mono{H H':Hp}(s:ae H H'):∀{xs:SD D}{vs:SD V},Iss H xs vs->Iss H' xs vs
 |[],_,h=>by rw[bn h];show ao
 |x::xs,_,h=>by
  have{u,us,e,q,r}:=aN h;rw[e];show am (Is.mono s q) (Iss.mono s r)
end
theorem Iss.length{H:Hp}:∀{xs:SD D}{vs:SD V},Iss H xs vs->vs.length=xs.length
 |[],_,h=>by rw[bn h];rfl
 |x::xs,_,h=>by
  have{u,us,0,_,r}:=aN h;rw[AW,AW,r.length]
theorem Iss.get{H:Hp}:∀{xs:SD D}{vs:SD V}{j:Nat}{x:D},Iss H xs vs->xs[j]? =some x->∃v,vs[j]? =some v/\Is H x v
 |[],_,_,_,_,e=>by simp at e
 |x::xs,_,0,_,h,e=>by
  have{u,us,0,q,_}:=aN h;simp at e;subst e;show{u,0,q}
 |x::xs,_,j+1,_,h,e=>by
  have{u,us,0,_,r}:=aN h;have{v,e',k}:=r.get (j:=j) (by simpa using e);show{v,by simpa using e',k}
def Iss.of_get{H:Hp}{xs:SD D}{vs:SD V}{j:Nat}{v:V}(h:Iss H xs vs)(e:vs[j]? =some v):∃x,xs[j]? =some x/\Is H x v:=by
 have hj:j<vs.length:=(A8.mp e).1;have hj':j<xs.length:=by rw[<-h.length];show hj
 have{u,e1,k}:=h.get (A2 hj');rw[e] at e1;cases e1;show{_,A2 hj',k}
theorem Iss.append{H:Hp}:∀{xs ys:SD D}{vs ws:SD V},Iss H xs vs->Iss H ys ws->Iss H (xs++ys) (vs++ws)
 |[],_,_,_,h,k=>by rw[bn h];show k
 |x::xs,_,_,_,h,k=>by
  have{u,us,0,q,r}:=aN h;show am q (r.append k)
theorem Iss.take{H:Hp}:∀{xs:SD D}{vs:SD V} (n:Nat),Iss H xs vs->Iss H (xs.take n) (vs.take n)
 |[],_,n,h=>by rw[bn h];simp;show ao
 |x::xs,_,0,h=>by simp;show ao
 |x::xs,_,n+1,h=>by
  have{u,us,0,q,r}:=aN h;show am q (r.take n)
theorem Iss.drop{H:Hp}:∀{xs:SD D}{vs:SD V} (n:Nat),Iss H xs vs->Iss H (xs.drop n) (vs.drop n)
 |[],_,n,h=>by rw[bn h];simp;show ao
 |x::xs,_,0,h=>h
 |x::xs,_,n+1,h=>by
  have{u,us,0,q,r}:=aN h;show r.drop n
theorem Iss.rep{H:Hp}{x:D}{v:V}(h:Is H x v):∀n:Nat,Iss H (List.replicate n x) (List.replicate n v)
 |0=>ao
 |n+1=>by rw[Ba,Ba];show am h (Iss.rep h n)
mutual
def Kin:D->D->Prop
 |.i _,.i _=>True
 |.l xs,.l ys=>cG xs ys
 |.t xs,.t ys=>cG xs ys
 |_,_=>False
def cG:SD D->SD D->Prop
 |x::xs,y::ys=>Kin x y/\cG xs ys
 |_,_=>True
end
mutual
def eqD:D->D->Bool
 |.i a,.i b=>decide (a=b)
 |.l xs,.l ys=>de xs ys
 |.t xs,.t ys=>de xs ys
 |_,_=>false
def de:SD D->SD D->Bool
 |[],[]=>true
 |x::xs,y::ys=>eqD x y&&de xs ys
 |_,_=>false
end
mutual
def dep:D->Nat
 |.i _=>0
 |.l xs=>df xs+1
 |.t xs=>df xs+1
def df:SD D->Nat
 |[]=>0
 |x::xs=>max (dep x) (df xs)
end
mutual
theorem jf:∀{a b:D},eqD a b=true↔a=b
 |.i a,.i b=>by simp[eqD]
 |.i _,.l _=>by simp[eqD]
 |.i _,.t _=>by simp[eqD]
 |.l _,.i _=>by simp[eqD]
 |.l xs,.l ys=>by simp[eqD,kz (xs:=xs) (ys:=ys)]
 |.l _,.t _=>by simp[eqD]
 |.t _,.i _=>by simp[eqD]
 |.t _,.l _=>by simp[eqD]
 |.t xs,.t ys=>by simp[eqD,kz (xs:=xs) (ys:=ys)]
theorem kz:∀{xs ys:SD D},de xs ys=true↔xs=ys
 |[],[]=>by simp[de]
 |[],_::_=>by simp[de]
 |_::_,[]=>by simp[de]
 |x::xs,y::ys=>by simp[de,jf (a:=x) (b:=y),kz (xs:=xs) (ys:=ys)]
end
def EI{a:D}:eqD a a=true:=jf.mpr rfl
def EJ{a b:D}(h:a≠b):eqD a b=false:=by
 cases e:eqD a b with
 |false=>rfl
 |true=>show absurd (jf.mp e) h
theorem mW:∀{xs ys:SD D},xs.length=ys.length->de xs ys=(List.range xs.length).all λj=>eqD (xs.getD j (.i 0)) (ys.getD j (.i 0))
 |[],[],_=>by simp[de]
 |x::xs,y::ys,h=>by
  have ih:=mW (xs:=xs) (ys:=ys) (by simpa using h);rw[de,ih,AW,List.range_succ_eq_map];simp[List.all_map,Function.comp_def]
def tq{xs ys:SD D}(h:xs.length≠ys.length):de xs ys=false:=by
 cases e:de xs ys with
 |false=>rfl
 |true=>show absurd (BZ List.length (kz.mp e)) h
mutual
theorem Is.eqr{K:W.Frag}{H:Hp}:∀{d e:D}{v w:V}{n:Nat},dep d<=n->Kin d e->Is H d v->Is H e w->EqR K H n v w (eqD d e)
 |.i a,.i b,_,_,n,_,_,h,k=>by
  rw[aG h,aG k,eqD];show EqR.int n a b
 |.l xs,.l ys,_,_,0,hn,_,_,_=>absurd hn (by unfold dep;lia)
 |.l xs,.l ys,_,_,n+1,hn,hk,h,k=>by
  have{a,vs,0,ha,ra}:=aA h;have{b,ws,0,hb,rb}:=aA k;have Q6:df xs<=n:=by unfold dep at hn;lia
  have PX:cG xs ys:=by unfold Kin at hk;show hk
  have l1:=ra.length;have l2:=rb.length;rw[eqD];by_cases hl:xs.length=ys.length
  .rw[mW hl,<-l1];show EqR.lists _ (SqL.of ha) (SqL.of hb) (by lia) λj x y hx hy=>Iss.eqr Q6 PX ra rb hx hy
  .rw[tq hl];show EqR.lens (SqL.of ha) (SqL.of hb) (by lia)
 |.t xs,.t ys,_,_,0,hn,_,_,_=>absurd hn (by unfold dep;lia)
 |.t xs,.t ys,_,_,n+1,hn,hk,h,k=>by
  have{a,vs,0,ha,ra}:=br h;have{b,ws,0,hb,rb}:=br k;have Q6:df xs<=n:=by unfold dep at hn;lia
  have PX:cG xs ys:=by unfold Kin at hk;show hk
  have l1:=ra.length;have l2:=rb.length;rw[eqD];have q:=EqR.tuples (d:=n) (λj=>eqD (xs.getD j (.i 0)) (ys.getD j (.i 0))) (SqT.of (K:=K) ha) (SqT.of (K:=K) hb) λj x y hx hy=>Iss.eqr Q6 PX ra rb hx hy;by_cases hl:xs.length=ys.length
  .rw[mW hl];rw[l1,l2,<-hl,Nat.min_self] at q;simpa using q
  .rw[tq hl];have z:(vs.length==ws.length)=false:=by rw[l1,l2];simpa using hl
   rw[z,Ci] at q;show q
 |.i _,.l _,_,_,_,_,hk,_,_=>by unfold Kin at hk;show hk.elim
 |.i _,.t _,_,_,_,_,hk,_,_=>by unfold Kin at hk;show hk.elim
 |.l _,.i _,_,_,_,_,hk,_,_=>by unfold Kin at hk;show hk.elim
 |.l _,.t _,_,_,_,_,hk,_,_=>by unfold Kin at hk;show hk.elim
 |.t _,.i _,_,_,_,_,hk,_,_=>by unfold Kin at hk;show hk.elim
 |.t _,.l _,_,_,_,_,hk,_,_=>by unfold Kin at hk;show hk.elim
theorem Iss.eqr{K:W.Frag}{H:Hp}:∀{xs ys:SD D}{vs ws:SD V}{n:Nat},df xs<=n->cG xs ys->Iss H xs vs->Iss H ys ws->∀{j:Nat}{x y:V},vs[j]? =some x->ws[j]? =some y->
  EqR K H n x y (eqD (xs.getD j (.i 0)) (ys.getD j (.i 0)))
 |[],_,_,_,_,_,_,h,_,_,_,_,e,_=>by rw[bn h] at e;simp at e
 |_::_,[],_,_,_,_,_,_,k,_,_,_,_,e=>by rw[bn k] at e;simp at e
 |x::xs,y::ys,_,_,n,hn,hk,h,k,0,u,w,e1,e2=>by
  have{u',us,0,q,_}:=aN h;have{w',ws,0,q',_}:=aN k;simp at e1 e2;subst e1 e2;have PX:Kin x y/\cG xs ys:=by unfold cG at hk;show hk
  have hd:dep x<=n:=by unfold df at hn;lia
  show Is.eqr (d:=x) (e:=y) hd PX.1 q q'
 |x::xs,y::ys,_,_,n,hn,hk,h,k,j+1,u,w,e1,e2=>by
  have{u',us,0,_,r}:=aN h;have{w',ws,0,_,r'}:=aN k;have PX:Kin x y/\cG xs ys:=by unfold cG at hk;show hk
  have hd:df xs<=n:=by unfold df at hn;lia
  have:=Iss.eqr (K:=K) hd PX.2 r r' (j:=j) (by simpa using e1) (by simpa using e2);simpa using this
end
abbrev Pt:=Int×Int
def pt(p:Pt):D:= .t [.i p.1,.i p.2]
def pts(ps:SD Pt):D:= .l (ps.map pt)
def tz{p q:Pt}(h:pt p=pt q):p=q:=by
 unfold pt at h;injection h with h;injection h with h1 h2;injection h2 with h2 _;injection h1 with h1;injection h2 with h2;show Prod.ext h1 h2
theorem mX:∀{ps qs:SD Pt},ps.map pt=qs.map pt->ps=qs
 |[],[],_=>rfl
 |[],_::_,h=>by simp at h
 |_::_,[],h=>by simp at h
 |p::ps,q::qs,h=>by
  rw[AG,AG] at h;injection h with h1 h2;rw[tz h1,mX h2]
def EK{p q:Pt}:eqD (pt p) (pt q)=decide (p=q):=by
 rw[Cw,jf,decide_eq_true_iff];show{tz,λh=>by rw[h]}
def EL{p q:SD Pt}:eqD (pts p) (pts q)=decide (p=q):=by
 rw[Cw,jf,decide_eq_true_iff];show{λh=>mX (by unfold pts at h;injection h),λh=>by rw[h]}
def tD{p q:Pt}:Kin (pt p) (pt q):=by simp[pt,Kin,cG]
theorem mY:∀{ps qs:SD Pt},cG (ps.map pt) (qs.map pt)
 |[],_=>by simp[cG]
 |_::_,[]=>by simp[cG]
 |p::ps,q::qs=>by simp only[AG,cG];show{tD,mY}
def EM{p q:SD Pt}:Kin (pts p) (pts q):=by unfold pts Kin;show mY
def tE{p:Pt}:dep (pt p)=1:=by simp[pt,dep,df]
theorem mZ:∀{ps:SD Pt},df (ps.map pt)<=1
 |[]=>by simp[df]
 |p::ps=>by have:=mZ (ps:=ps);rw[AG,df,tE];lia
def EN{p:SD Pt}:dep (pts p)<=2:=by have:=mZ (ps:=p);unfold pts dep;lia
def EO{K:W.Frag}{H:Hp}{p q:Pt}{v w:V}(h:Is H (pt p) v)(k:Is H (pt q) w):EqR K H 1 v w (decide (p=q)):=by
 rw[<-EK];show h.eqr (by rw[tE];lia) tD k
def EQ{K:W.Frag}{H:Hp}{p q:SD Pt}{v w:V}(h:Is H (pts p) v)(k:Is H (pts q) w):EqR K H 2 v w (decide (p=q)):=by
 rw[<-EL];show h.eqr EN EM k
def fR{H:Hp}{p:Pt}{v:V}(h:Is H (pt p) v):∃a,v=.ref a/\H a=some (.tup [.int p.1,.int p.2]):=by
 have{a,vs,e,q,r}:=br h;have{u,us,0,h1,r}:=aN r;have{u',us',0,h2,r}:=aN r;rw[bn r,aG h1,aG h2] at q;show{a,e,q}
def fj{H:Hp}{p:Pt}{a:Sx}(h:H a=some (.tup [.int p.1,.int p.2])):Is H (pt p) (.ref a):=bi h (am bw (am bw ao))
def gW{H:Hp}{ps:SD Pt}{v:V}(h:Is H (pts ps) v):∃a vs,v=.ref a/\H a=some (.lst vs)/\Iss H (ps.map pt) vs:=aA h
def hid(H:Hp)(a:Sx):Hp:=λb=>if b=a then none else H b
def dM{H:Hp}{a b:Sx}(h:b≠a):hid H a b=H b:=by unfold hid;rw[A5 h]
def ER{H:Hp}{a:Sx}:hid H a a=none:=by unfold hid;rw[A6 rfl]
theorem m3{H:Hp}{a:Sx}:ae (hid H a) H:=λb o e=>by
 unfold hid at e;split at e
 .cases e
 .show e
theorem dh{H H':Hp}{a:Sx}(s:ae H H'):ae (hid H a) (hid H' a):=λb o e=>by
 unfold hid at e⊢;split at e
 .cases e
 .rename_i h;rw[A5 h];show s b o e
def ES{H:Hp}{a:Sx}{o:HO}:hid (upd H a o) a=hid H a:=by
 funext b
 unfold hid;split
 .rfl
 .rename_i h;show au h
def bW(H:Hp)(a:Sx)(xs:SD D):Prop:=∃vs,H a=some (.lst vs)/\Iss (hid H a) xs vs
def bW.start{H:Hp}{a:Sx}:bW (upd H a (.lst [])) a []:={[],ak,ao}
def bW.mono{H H':Hp}{a:Sx}{xs:SD D}(s:ae H H')(g:bW H a xs):bW H' a xs:=by have{vs,e,h}:=g;show{vs,s _ _ e,h.mono (dh s)}
def bW.is{H:Hp}{a:Sx}{xs:SD D}(g:bW H a xs):Is H (.l xs) (.ref a):=by have{_,e,h}:=g;show aD e (h.mono m3)
theorem gX{H:Hp}{a:Sx}{xs:SD D}{x:D}{vs:SD V}{v:V}(h:Iss (hid H a) xs vs)(k:Is (hid H a) x v):bW (upd H a (.lst (vs++[v]))) a (xs++[x]):=
 {_,ak,by rw[ES];show h.append (am k ao)}
section
variable{X:Cx}{es:SD SE}{t:TA}{pos:Pos}
def New(H:Hp)(o:HO)(Q:VK):Prop:=∀p H2,H p=none->ae H H2->H2 p=some o->Q (.ref p) H2
def New.at{H:Hp}{o:HO}{Q:VK}(q:New H o Q){p:Sx}(np:H p=none):Q (.ref p) (upd H p o):=q p _ np (ae.new np) ak
def ET(t:TA):TE:=λσ H Q=>t σ H λxs H1=>xs.length<=sizeLine/\New H1 (.tup xs) Q
def EU(t:TA):TE:=λσ H Q=>t σ H λxs H1=>xs.length<=sizeLine/\New H1 (.lst xs) Q
def bh{x1}(h:PA X es t):PE X (.Tuple es x1 pos) (ET t):=by
 intro MO s σ H Q I hq;show wpAny_Tuple_spliced (thn (h pos MO s σ H _ I hq) λus s1 ⟨xs,H1,I1,r,z,q⟩=>{by rw[<-r.length];show z,?_});show{.ref s1.heap.objs.size,upd H1 s1.heap.objs.size (.tup xs),I1.laid (t':=s1.toks) (λb u e=>A4 _ e) (A9 _) ?_,0,q.at (I1.hok.fresh (A9 _))};show{z,us,r,{_,AE _ rfl,0,1}}
def aK(h:PA X es t):PE X (.List es pos) (EU t):=by
 intro MO s σ H Q I hq;show wpAny_List_spliced (thn (h pos MO s σ H _ I hq) λus s1 ⟨xs,H1,I1,r,z,q⟩=>{by rw[<-r.length];show z,?_});show{.ref s1.heap.objs.size,upd H1 s1.heap.objs.size (.lst xs),I1.laid (t':=s1.toks) (λb u e=>A4 _ e) (A9 _) ?_,0,q.at (I1.hok.fresh (A9 _))};show{z,us,(0),r,AE _ rfl}
def OpR.imp{f:Sv->Sv->Sem Sv}{r r':R2}(h:OpR X f r)(k:∀x y H Q,r' x y H Q->r x y H Q):OpR X f r':=λMO s σ H x y v u Q I rx ry q=>h MO s σ H x y v u Q I rx ry (k _ _ _ _ q)
def bE.imp{f:Sv}{r r':SD V->Hp->VK->Prop}(h:bE X f r)(k:∀xs H Q,r' xs H Q->r xs H Q):bE X f r':=λMO s σ H xs us Q I rs q=>h MO s σ H xs us Q I rs (k _ _ _ q)
theorem dw:OpR X (binaryOp .Add) (λx y H Q=>∃xs zs,Is H (.l xs) x/\Is H (.l zs) y/\xs.length+zs.length<=sizeLine/\∀p H2,H p=none->ae H H2->Is H2 (.l (xs++zs)) (.ref p)->Q (.ref p) H2):=
 km.imp λx y H Q PK=>by
  have{xs,zs,hx,hz,hl,q}:=PK;have{a,vs,0,ha,ra}:=aA hx;have{b,ws,0,hb,rb}:=aA hz;show{a,b,vs,ws,0,0,ha,hb,by rw[ra.length,rb.length];show hl,λp np=>q p _ np (ae.new np) (aD ak ((ra.append rb).mono (ae.new np)))}
theorem tF{α:Type}{x:α}:∀n:Nat,(List.replicate n [x]).flatten=List.replicate n x
 |0=>rfl
 |n+1=>by rw[Ba,DB,tF n,Ba];rfl
theorem jg:OpR X (binaryOp .Mult) (λx y H Q=>∃d n,Is H (.l [d]) x/\y=.int n/\-(2^63)<=n/\n<2^63/\n.toNat<=sizeLine/\∀p H2,H p=none->ae H H2->Is H2 (.l (List.replicate n.toNat d)) (.ref p)->Q (.ref p) H2):=
 Dx.imp λx y H Q PK=>by
  have{d,n,hx,ey,h1,h2,hl,q}:=PK;have{a,vs,0,ha,ra}:=aA hx;have{u,us,0,hu,ru}:=aN ra;rw[bn ru] at ha;show{a,n,1,ey,ha,h1,h2,by rw[DJ,Nat.one_mul];show hl,λp np=>q p _ np (ae.new np) ?_};rw[tF];show aD ak ((Iss.rep hu _).mono (ae.new np))
theorem tG:bE X (.type "tuple") (λvs H Q=>∃v xs,vs=[v]/\Is H (.l xs) v/\∀p H2,H p=none->ae H H2->Is H2 (.t xs) (.ref p)->Q (.ref p) H2):=
 Du.imp λvs H Q PK=>by
  have{v,xs,ev,hx,q}:=PK;subst ev;have{a,ws,0,ha,ra}:=aA hx;show{a,ws,0,.inl {SqL.of ha,λp np=>q p _ np (ae.new np) (bi ak (ra.mono (ae.new np)))}}
def gu{α:Type}{xs:SD α}{i:Int}{j:Nat}{x:α}(e:i=j)(h:xs[j]? =some x):atI xs i=some x:=by rw[e];show ki h
def Iss.atI{H:Hp}{xs:SD D}{vs:SD V}{i:Int}{x:D}(h:Iss H xs vs)(e:L2.atI xs i=some x):∃u,L2.atI vs i=some u/\Is H x u:=by
 unfold L2.atI at e⊢;rw[h.length];cases q:ixN xs.length i with
 |none=>rw[q] at e;cases e
 |some j=>
  rw[q] at e;have{u,e1,k}:=h.get (j:=j) e;show{u,e1,k}
def dN:IxR X (λx y H Q=>∃xs i d,Is H (.l xs) x/\y=.int i/\atI xs i=some d/\∀u,Is H d u->Q u H):=by
 intro value M9 MO s σ H x y v u Q I rx ry h hs;have{xs,i,d,hx,ey,e,q}:=h;have{a,vs,0,ha,ra}:=aA hx;have{z,ez,hz}:=ra.atI e;show cC value M9 MO s σ H (.ref a) y v u Q I rx ry {a,vs,i,z,0,ey,SqL.of ha,ez,q z hz} hs
def aQ:IxR X (λx y H Q=>∃xs i d,Is H (.t xs) x/\y=.int i/\atI xs i=some d/\∀u,Is H d u->Q u H):=by
 intro value M9 MO s σ H x y v u Q I rx ry h hs;have{xs,i,d,hx,ey,e,q}:=h;have{a,vs,0,ha,ra}:=br hx;have{z,ez,hz}:=ra.atI e;show Dp value M9 MO s σ H (.ref a) y v u Q I rx ry {a,vs,i,z,0,ey,SqT.of ha,ez,q z hz} hs
theorem gY:bE X (.builtin "len") (λvs H Q=>∃v xs,vs=[v]/\(Is H (.l xs) v\/Is H (.t xs) v)/\Q (.int xs.length) H):=
 i5.imp λvs H Q PK=>by
  have{v,xs,ev,hx,q}:=PK;subst ev;rcases hx with hx|hx
  .have{a,ws,0,ha,ra}:=aA hx;show{a,ws,0,.inl (SqL.of ha),by rw[ra.length];show q}
  .have{a,ws,0,ha,ra}:=br hx;show{a,ws,0,.inr (SqT.of ha),by rw[ra.length];show q}
end
section
variable{X:Cx}{pos np M1:Pos}{x:Str}{C:Sx}{E:XK}{e:SE}{es:SD SE}{t:TA}
abbrev bmV:SD Sv:=[.type "ValueError",.type "Exception",.type "BaseException",.type "object"]
end
end L2
namespace L2
open PySem PySem.Calls PyProof.Rows PySem.W Builtin Builtin.ObjectAttr Builtin.Getset_descriptor
structure XC(K:Frag)(C:Sx):Prop where
 cl:(clsIn K C).isSome=true
 ga:findIn K (.ref C) "__getattribute__"=some (some (.builtin "BaseException.__getattribute__"))
 gt:findIn K (.ref C) "__getattr__"=some none
 ca:findIn K (.ref C) "__class__"=some (some (.builtin "object.__class__"))
 gn:specialIn K (.builtin "object.__class__") "__get__"=some (some (.builtin "getset_descriptor.__get__"))
 tk:takesIn K (.builtin "object.__class__")=some true
 ob:mroIn K C (.type "object")=some true
 be:mroIn K C (.type "BaseException")=some true
end L2
namespace L2
open PySem PySem.Spec PyProof.Rows PySem.W
variable{H:Hp}{K:W.Frag}{hi:Int}{n:Nat}
def Itd(hi:Int)(n:Nat):It:={λi _=>i<n,λi H x H'=>H'=H/\x=.int (hi-i),λi _=>n<=i}
def EV{P:Sy}{w:SB}{tg:SE}(it:Sx)(hi:Int)(n:Nat):Turn P w K tg (Itd hi n) [it] it (λi h=>IsRangeIter h it (hi+(i:Nat)*(-1)) ((n:Int)-(i:Nat)) (-1)) where
 mem:=by simp
 obj:=λi h st b hb=>by
  obtain rfl:b=it:=by simpa using hb
  show{_,st,λv z=>by cases (show Data.fields _=Data.cell v from z)}
 keep:=λi h h' st k=>k it (by simp) _ st
 item:=by
  intro X hP hw hK hc i MO s σ H E I hf st hg;subst hP hw hK;have{f0,f1,f2,f3,f4,f5}:=hf it (by simp);show(Walks.range (prog:=X.prog) (w:=X.w) (I.ok.hd hc) it hi (-1) n).item i s _ _ hg st λv h' tk hv M0 kk=>?_;have{t,0}:=hv;have I1:Inv X MO σ H {s with heap:=h',toks:=tk}:=I.turned (λb o hb e=>kk b o (by simpa using hb) e) f0 f1 f3 f4 f5;show{1,go_of (s:={s with heap:=h',toks:=tk}) (n:="range_iterator") M0 rfl rfl (by decide) {.int (hi-i),H,I1,{t,?_},{0,0},M0,λb hb=>(hf b hb).1}};rw[show hi+(i:Int)*(-1)=hi-i by lia]
 done:=by
  intro X hP hw hK hc i MO s σ H E I hf st hg;subst hP hw hK;have{f0,f1,f2,f3,f4,f5}:=hf it (by simp);show wpAny_pyNext_range_end (I.ok.hd hc) st (by have:n<=i:=hg;lia) λh' eb=>{0,I.turned (t':=s.toks) (λb o hb e=>eb b o hb e) f0 f1 f3 f4 f5}
 self:=λ_ _ _ _ _ st h=>wpAny_pyIter_rangeiter st h
def tH(a b:Int):Builtin.Range.rangeSize a b (-1)=if a>b then a-b else 0:=by
 unfold Builtin.Range.rangeSize;rw[A5 (by decide)];split
 .rw[show -(-1:Int)=1 by decide,Int.ediv_one];lia
 .rfl
def EW{a b:Int}(ha: -(2^62)<=a)(ha':a<2^62)(hb: -(2^62)<=b)(OU:b<2^62):Builtin.Range.small a b (-1)=true:=by
 unfold Builtin.Range.small;rw[tH];simp only[Builtin.Range.rangeFitsLong,AM,C7,Ar,DY,show((-1:Int)>0)=False by simp,Au];split<;>lia
section
variable{X:Cx}{tg:SE}
def EX{MO:SD (Sx×Obj)}{σ:St}{s:Sw}{R:It->Hp->Prop}{E:Sv->Sw->Prop}{lo:Int}{t u v:Tok}{tk:Nat}(I:Inv X MO σ H s)(h1: -(2^62)<=hi)(h2:hi<2^62)(h3: -(2^62)<=lo)(h4:lo<2^62)
  (q:R (Itd hi (hi-lo).toNat) H):wpAny (model X.prog X.w) X.A (pyIter (.ref s.heap.objs.size)) (PIE X MO σ tg R) E {s with heap:=s.heap.push {cls:= .type "range",data:= .fields #[.int hi t,.int lo u,.int (-1) v]},toks:=tk}:=by
 show wpAny_pyIter_range (IsRange.new ..) (EW h1 h2 h3 h4) ?_;generalize hg:s.heap.push {cls:= .type "range",data:= .fields #[.int hi t,.int lo u,.int (-1) v]}=g;have I1:Inv X MO σ H {s with heap:=g,toks:=tk}:=I.kept λb o e=>by rw[<-hg];show A4 _ e
 show{g.objs.size,[g.objs.size],_,_,H,0,I1.kept (t':=tk) λb o e=>A4 _ e,EV _ hi (hi-lo).toNat,?_,λb hb=>?_,q}
 .have e1:hi+((0:Nat):Int)*(-1)=hi:=by simp
  have e2:(((hi-lo).toNat:Nat):Int)-((0:Nat):Int)=Builtin.Range.rangeSize hi lo (-1):=by rw[tH];split<;>lia
  change IsRangeIter _ _ (hi+((0:Nat):Int)*(-1)) ((((hi-lo).toNat:Nat):Int)-((0:Nat):Int)) (-1);rw[e1,e2];show AE _ rfl
 .obtain rfl:b=g.objs.size:=by simpa using hb
  show I1.fpOk (A9 _) (I1.hok.fresh (A9 _))
inductive iDown_(R:(It->Hp->Prop))(vs:List V)(H1:Hp):Prop
 |mk (i j:Int):vs=[.int i,.int j,.int (-1)]->(-(2^62)<=i/\i<2^62/\-(2^62)<=j/\j<2^62)->R (Itd i (i-j).toNat) H1->iDown_ R vs H1
def EY(ta:TA):TI:=λσ H R=>ta σ H λvs H1=>iDown_ R vs H1
def EZ{a b c:SE}{ta:TA}{p pos:Pos}(hg:Gl X "range")(hm:X.mg "range"=none)(ha:PA X [a,b,c] ta)(hs:starEach [a,b,c] X.env=(false,eval a X.env)::starEach [b,c] X.env:=by rfl)(Qq:(backTo pos (starEach [b,c] X.env)).any (·.1)=false:=by rfl):
  PI X tg (.Call (.Name "range" p) [a,b,c] [] pos) (EY ta):=by
 intro MO s σ H R I h;show Call_ (cY I hg hm boot_range (B7 (thn (ha pos MO s σ H _ I h) λus s1 zu51=>?_) hs Qq));have{vs,H1,I1,r1,q1}:=zu51;have{i,j,e,{q1,q2,q3,q4},q}:=q1;subst e;cases r1 with
 |cons r rr=>
  cases rr with
  |cons r' rr=>
   cases rr with
   |cons r2 rr=>
    cases rr;have{t,0}:=r;have{t',0}:=r';have{t2,0}:=r2;show call_range_3 (by decide) (EX I1 q1 q2 q3 q4 q) (.inl (PyProof.noPylong_small (by decide)))
end
def E1{g:TG}{tb:TS}{D:Ends}{σ:St}(Pv:Nat->St->Hp->Prop)(h0:Pv 0 σ H)
  (hs:∀i σ H,i<n->Pv i σ H->g (.int (hi-i)) σ H λσ2 H2=>tb (eLp D (Pv (i+1))) σ2 H2) (hd:∀σ H,Pv n σ H->D.nx σ H):
  ∃Wq:Nat->Nat->St->Hp->Prop,(∃m,Wq 0 m σ H)/\∀i m σ H,Wq i m σ H->
   ((Itd hi n).stop i H/\D.nx σ H)\/((Itd hi n).go i H/\∃N:St->Hp->Prop,(∀σ' H',N σ' H'->∃m',m'<m/\Wq (i+1) m' σ' H')/\∀x H',(Itd hi n).yld i H x H'->g x σ H' λσ2 H2=>tb (eLp D (N)) σ2 H2):=by
 show{λi m σ H=>m=n-i/\i<=n/\Pv i σ H,{n,7,AO _,h0},?_};rintro i m σ H ⟨rfl,NO,p⟩;by_cases MT:i<n
 .show .inr {MT,Pv (i+1),λσ' H' p'=>{n-(i+1),4,0,MT,p'},λx H' y=>?_};have{e,y}:=y;subst e y;show hs i σ _ MT p
 .obtain rfl:i=n:=by lia
  show .inl {A9 _,hd σ H p}
def E6(H:Hp)(v:V):Prop:=(∃i,v=.int i)\/(∃b,v=.bl b)\/v=.non\/(∃x,v=.str x)\/(∃a xs,v=.ref a/\H a=some (.lst xs))\/(∃a xs,v=.ref a/\H a=some (.tup xs))
def isI(v:V):Bool:=match v with
 |.int _=>true
 |_=>false
def Within(lo hi:Int)(v:V):Prop:=∃i,v=.int i/\lo<=i/\i<=hi
theorem E7 :W.kitOne K (.type "NoneType") (.type "int")=some false:=gU (by ac_nf) (by ac_nf) (by ac_nf)
theorem E8 :W.kitOne K (.type "str") (.type "int")=some false:=gU (by ac_nf) (by ac_nf) (by ac_nf)
theorem E9 :W.kitOne K (.type "list") (.type "int")=some false:=gU (by ac_nf) (by ac_nf) (by ac_nf)
theorem Fa :W.kitOne K (.type "tuple") (.type "int")=some false:=gU (by ac_nf) (by ac_nf) (by ac_nf)
inductive sp_whole(vs:List V)(H:Hp)(Q:VK)(E':XK):Prop
 |mk v:vs=[v]->E6 H v->Q (.bl (isI v)) H->sp_whole vs H Q E'
theorem Fc{ps:SD Pt}{i:Int}{j:Nat}{p:Pt}(e:i=j)(h:ps[j]? =some p):atI (ps.map pt) i=some (pt p):=gu e (by rw[AD,h];rfl)
section
variable{X:Cx}{MO:SD (Sx×Obj)}{σ:St}{H:Hp}{s:Sw}{h':SF}{ch:SD Sx}{t':Nat}
theorem cz.chs(hf:∀b∈ch,cz X MO H b):∀b∈ch,(b∈X.ex\/X.s₀.heap.objs.size<=b)/\b≠X.env.locals/\(∀x c,X.env.cells.lookup x=some c->c≠b)/\∀p∈X.pn++MO,p.1≠b:=λb hb=>by
 have{_,a2,_,a4,a5,a6}:=hf b hb;show{a4,a2,a5,a6}
def Inv.turnAll(I:Inv X MO σ H s)(hf:∀b∈ch,cz X MO H b)(k:∀b o,b∉ch->s.heap.get? b=some o->h'.get? b=some o):Inv X MO σ H {s with heap:=h',toks:=t'}:=by
 have nin:∀{b u},H b=some u->b∉ch:=λe z=>by rw[(hf _ z).1] at e;cases e
 show I.step (g':=s.gens) (d':=s.drawn) (ch:=ch) (cz.chs hf) (λb o _ _ c e _=>k b o c e) (λb o _ _ c e _=>{o.slots,k b o c e}) (λ_ _ _ _ n=>n) (λb o c e=>{o,k b o c e}) (λ_ _ e=>e) (λ_ _ _ e=>e) (λb ps e=>{#[],by rw[e];simp}) (λm hm=>?_) (λb u e=>?_) I.bare
 .have{o,es,ep,ho,r}:=hm;show{o,es,ep,k _ o (λz=>(hf _ z).2.1 rfl) ho,r}
 .show(I.hok b u e).stay (λc v hc q=>k c v ?_ q) (λ_ q=>q) λ_ _ q=>q;rcases hc with z|z
  .rw[z];show nin e
  .show nin z
def Inv.turnNew{o:HO}(I:Inv X MO σ H s)(hf:∀b∈ch,cz X MO H b)(k:∀b ob,b∉ch->s.heap.get? b=some ob->h'.get? b=some ob)(new:aE X.prog X.w (upd H s.heap.objs.size o) h' s.heap.objs.size o):
  Inv X MO σ (upd H s.heap.objs.size o) {s with heap:=h',toks:=t'}:=by
 have nf:H s.heap.objs.size=none:=I.hok.fresh (A9 _);have nin:∀{b u},H b=some u->b∉ch:=λe z=>by rw[(hf _ z).1] at e;cases e
 show I.step (g':=s.gens) (d':=s.drawn) (ch:=ch) (cz.chs hf) (λb o _ _ c e _=>k b o c e) (λb o _ _ c e _=>{o.slots,k b o c e}) (λb ob c e n=>?_) (λb o c e=>{o,k b o c e}) (λb ys e=>?_) (λb o u e=>?_) (λb ps e=>{#[],?_}) (λm hm=>?_) (λb u e=>?_) I.bare
 .rw[au (AR (AQ e))];show n
 .rw[au (bz e nf)];show e
 .rw[au (bz e nf)];show e
 .rw[au (bz e nf),e];simp
 .have{o,es,ep,ho,r}:=hm;show{o,es,ep,k _ o (λz=>(hf _ z).2.1 rfl) ho,r}
 .by_cases hb:b=s.heap.objs.size
  .subst hb;rw[ak] at e;cases e;show new
  .rw[au hb] at e;show(I.hok b u e).stay (λc v hc q=>k c v ?_ q) (λc q=>?_) λc ys q=>?_
   .rcases hc with z|z
    .rw[z];show nin e
    .show nin z
   .rw[au (bz q nf)];show q
   .rw[au (bz q nf)];show q
end
def m4 :gs 2 (gTup K 2 (gCons (cx 0) (gCons (cx 1) kc))):=by
 intro v σ H Q ⟨a,xs,e,hq,hl,x,r,ex,y,r2,er,en,q⟩;show{a,xs,e,hq,hl,x,r,ex,y,r2,er,en,q,?_,λi hi=>?_}
 .rw[C6,C6]
 .rw[Cg (by lia),Cg (by lia)]
theorem m5 :∀(σ:St) (H:Hp) (R R':St->Hp->Prop) (x:V),(∀σ' H',R σ' H'->R' σ' H')->gTup K 2 (gCons (cx 0) (gCons (cx 1) kc)) x σ H R->gTup K 2 (gCons (cx 0) (gCons (cx 1) kc)) x σ H R':=
 λσ H R R' v k Np=>by have{a,xs,e,hq,hl,x,r,ex,y,r2,er,en,q}:=Np;show{a,xs,e,hq,hl,x,r,ex,y,r2,er,en,k _ _ q}
theorem m6{X:Cx}{es:SD SE}{k:Nat}{pos:Pos}{t:TGs}(hK:X.K=K)(hc:X.calm=true)(h:PGs X es t)
  (hn:(assignEach es X.env).length=n:=by rfl) (M3:(assignEach es X.env).findIdx? (·.1)=none:=by rfl):PG X (.Tuple es k pos) (gTup K n t):=hK▸cy hc h hn M3
end L2
namespace PySem.SeqAt
open AutoSeq1 (wpAny_loadPart')
open MeetsSeq MeetsSeq2 MeetsSeq3 SeqRoads2
def LtAt(A:SC)(s:Sw)(y x:Sv)(b:Bool):Prop:=
 ∀(prog:Sy) (w:SB) (E:Sv->Sw->Prop) (Q:Sv->Sw->Prop),Q (.bool b) s->wpAny (model prog w) A (richCompare .Lt y x) Q E s
def lex(e f:Nat->Bool)(m n:Nat):Nat->Nat->Bool
 |0,_=>decide (m<n)
 |k+1,i=>if e i=true then lex e f m n k (i+1) else f i
def Fd(l b:Sx)(items MP:Array Sv)(n n2:Nat)(dd N8:SG Sx)(sl N9:Array (SG Sv))(e f:Nat->Bool)(k:Nat):
  ∀i:Nat,min items.size MP.size-i=k->Meets (Builtin.«list.__eq__.loop» {[.ref l,.ref b,rawInt i,rawInt 0],[]})
   (λA R s=>s.heap.get? l=some {cls:= .type "list",dict:=dd,data:= .seq items n,slots:=sl}/\s.heap.get? b=some {cls:= .type "list",dict:=N8,data:= .seq MP n2,slots:=N9}/\
    (∀j (h1:j<items.size) (h2:j<MP.size),EqAt A.in1 s items[j] MP[j] (e j))/\(∀j (h1:j<items.size) (h2:j<MP.size),e j=false->LtAt A.in1 s items[j] MP[j] (f j))/\
    R (.ok (.ret (.bool (lex e f items.size MP.size k i)))) s):=by
 induction k with
 |zero=>
  intro i hk prog w A R s h;have{hp,g,d,tk,os}:=s;have{hl,hb,he,hf,h}:=h
  wp_walk using wpAny_loadPart' hl,CO hb
  rcases(by lia:items.size<=i\/(i<items.size/\MP.size<=i)) with q|⟨q1,q2⟩
  .have hi1:items[((i:Nat):Int).toNat]? =none:=by simp;lia
   rw[hi1]
   wp_walk using wpAny_loadPart' hl,CO hb
   show h
  .have hi1:items[((i:Nat):Int).toNat]? =some items[i]:=by simp[q1]
   have Oo:MP[((i:Nat):Int).toNat]? =none:=by simp;lia
   rw[hi1,Oo]
   wp_walk using wpAny_loadPart' hl,CO hb
   show h
 |succ k ih=>
  intro i hk prog w A R s h;have{hp,g,d,tk,os}:=s;have{hl,hb,he,hf,h}:=h
  wp_walk using wpAny_loadPart' hl,CO hb
  have MT:i<items.size:=by lia
  have RK:i<MP.size:=by lia
  have hi1:items[((i:Nat):Int).toNat]? =some items[i]:=by simp[MT]
  have Oo:MP[((i:Nat):Int).toNat]? =some MP[i]:=by simp[RK]
  have hc:((i:Int)+1)=((i+1:Nat):Int):=by push_cast;rfl
  unfold lex at h;rw[hi1,Oo];show A0 (he i MT RK prog w _ _ ?_);cases OU:e i with
  |true=>
   rw[OU,A6 rfl] at h
   wp_walk
   rw[hc];show{Bd plain_eq_loop _,BX entry_eq_loop (by
    rw[BD plain_eq_loop _];show ih (i+1) (by lia) prog w A R _ {hl,hb,he,hf,h})}
  |false=>
   rw[OU,A5 (by simp)] at h
   wp_walk using wpAny_loadPart' hl,CO hb
   rw[hi1,Oo];show A0 (hf i MT RK OU prog w _ _ ?_)
   wp_walk
   show h
def tJ(l b:Sx)(items MP:Array Sv)(n n2:Nat)(dd N8:SG Sx)(sl N9:Array (SG Sv))(e f:Nat->Bool):
  Meets (Builtin.«list.__lt__» {[.ref l,.ref b],[]})
   (λA R s=>s.heap.get? l=some {cls:= .type "list",dict:=dd,data:= .seq items n,slots:=sl}/\s.heap.get? b=some {cls:= .type "list",dict:=N8,data:= .seq MP n2,slots:=N9}/\
    (∀j (h1:j<items.size) (h2:j<MP.size),EqAt A.in1 s items[j] MP[j] (e j))/\(∀j (h1:j<items.size) (h2:j<MP.size),e j=false->LtAt A.in1 s items[j] MP[j] (f j))/\
    R (.ok (.ret (.bool (lex e f items.size MP.size (min items.size MP.size) 0)))) s):=by
 intro prog w A R s h;have{hp,g,d,tk,os}:=s;have{hl,hb,he,hf,h}:=h;have f3:=AutoSeq1.sub_list_list
 wp_walk using wpAny_loadPart' hl,CO hb
 show{Bd plain_eq_loop _,BX entry_eq_loop (by
  rw[BD plain_eq_loop _];show Fd l b items MP n n2 dd N8 sl N9 e f _ 0 rfl prog w A R _ {hl,hb,he,hf,by simpa using h})}
theorem Fe(l b:Sx)(items MP:Array Sv)(n n2:Nat)(dd N8:SG Sx)(sl N9:Array (SG Sv))(e f:Nat->Bool):
  Meets (Builtin.«tuple.__lt__» {[.ref l,.ref b],[]})
   (λA R s=>s.heap.get? l=some {cls:= .type "tuple",dict:=dd,data:= .seq items n,slots:=sl}/\s.heap.get? b=some {cls:= .type "tuple",dict:=N8,data:= .seq MP n2,slots:=N9}/\
    (∀j (h1:j<items.size) (h2:j<MP.size),EqAt A.in1 s items[j] MP[j] (e j))/\(∀j (h1:j<items.size) (h2:j<MP.size),e j=false->LtAt A.in1 s items[j] MP[j] (f j))/\
    R (.ok (.ret (.bool (lex e f items.size MP.size (min items.size MP.size) 0)))) s):=
 .of_wp λprog w A R s h=>by
  have{hp,g,d,tk,os}:=s;have{hl,hb,he,hf,h}:=h;have f2:=AutoSeq1.sub_tuple_tuple;have hZ:(items.toList.zip MP.toList).length=min items.size MP.size:=by simp
  wp_walk using wpAny_loadPart' hl,CO hb,C3 _ (λaS b s'=>b.1=none/\s'={hp,g,d,tk,os}/\∃i,aS=(items.toList.zip MP.toList).drop i/\i<=min items.size MP.size/\
   R (.ok (.ret (.bool (lex e f items.size MP.size (min items.size MP.size-i) i)))) {hp,g,d,tk,os}) _
  case turn=>
   rintro⟨y,x⟩ aS b s' ⟨OU,rfl,i,hz,RL,hR⟩;have MT:i<(items.toList.zip MP.toList).length:=by
    rcases Bs i (items.toList.zip MP.toList).length with h'|h'
    .show h'
    .rw[Bk h'] at hz;cases hz
   have hm:i<min items.size MP.size:=hZ▸MT;have h1:i<items.size:=Am hm (Nat.min_le_left _ _);have h2:i<MP.size:=Am hm (Nat.min_le_right _ _);rw[Al MT] at hz;injection hz with hyx hrest;have hy:y=items[i]:=by have:=BZ Prod.fst hyx;simpa using this
   have hx:x=MP[i]:=by have:=BZ Prod.snd hyx;simpa using this
   subst hy hx;rw[show min items.size MP.size-i=(min items.size MP.size-(i+1))+1 by lia,lex] at hR;show A0 (he i h1 h2 prog w _ _ ?_);cases hy:e i with
   |true=>
    rw[hy,A6 rfl] at hR
    wp_walk
    show{0,0,i+1,hrest,4,hR}
   |false=>
    rw[hy,A5 (by simp)] at hR;rw[A6 (show(!false)=true from rfl)];show A0 (C1 ?_);show A0 (hf i h1 h2 hy prog w _ _ ?_)
    wp_walk
    show{1,hR}
  case fin=>
   rintro⟨b1,b2⟩ s' ⟨OU,rfl,i,hz,RL,hR⟩;simp only at OU;subst OU;have hi:i=min items.size MP.size:=by
    rcases Bs i (items.toList.zip MP.toList).length with h'|h'
    .rw[Al h'] at hz;cases hz
    .lia
   subst hi;rw[Nat.sub_self] at hR
   wp_walk
   show{1,hR}
  case h=>
   show{0,0,(0),0,AO _,by simpa using h}
section
variable{A:SC}{s:Sw}
def LtAt.int_int(i:Int)(t:Tok)(j:Int)(u:Tok):LtAt A s (.int i t) (.int j u) (decide (i<j)):=λprog w E Q h=>wpAny_lt_int h
theorem LtAt.lists{l b:Sx}{items MP:Array Sv}{e f:Nat->Bool}(hl:s.heap.IsList l items)(hb:s.heap.IsList b MP)(hu:A.units<cLine)
  (he:∀j (h1:j<items.size) (h2:j<MP.size),EqAt A.in1 s items[j] MP[j] (e j)) (hf:∀j (h1:j<items.size) (h2:j<MP.size),e j=false->LtAt A.in1 s items[j] MP[j] (f j)):
  LtAt A s (.ref l) (.ref b) (lex e f items.size MP.size (min items.size MP.size) 0):=λprog w E Q h=>by
 have{{cls,dd,data,sl},ho,hc,n,hd}:=id hl;have{{PM,N8,data2,N9},NA,NS,n2,N'}:=id hb;simp only at hc hd NS N';subst hc hd NS N';show richCompare_meets_room (op:= .Lt) {_,ho,0} {_,NA,0} F.slot_list_lt F.entry_list_lt (F.args_list_lt_2 _ _) (tJ l b items MP n n2 dd N8 sl N9 e f)
  {ho,NA,he,hf,show Value.bool (lex e f items.size MP.size (min items.size MP.size) 0)≠Value.notImplemented/\Q (.bool (lex e f items.size MP.size (min items.size MP.size) 0)) s from{(λx=>nomatch x),h}} hu
theorem LtAt.tuples{l b:Sx}{items MP:Array Sv}{e f:Nat->Bool}(hl:s.heap.IsTuple l items)(hb:s.heap.IsTuple b MP)(hu:A.units<cLine)
  (he:∀j (h1:j<items.size) (h2:j<MP.size),EqAt A.in1 s items[j] MP[j] (e j)) (hf:∀j (h1:j<items.size) (h2:j<MP.size),e j=false->LtAt A.in1 s items[j] MP[j] (f j)):
  LtAt A s (.ref l) (.ref b) (lex e f items.size MP.size (min items.size MP.size) 0):=λprog w E Q h=>by
 have{{cls,dd,data,sl},ho,hc,n,hd}:=id hl;have{{PM,N8,data2,N9},NA,NS,n2,N'}:=id hb;simp only at hc hd NS N';subst hc hd NS N';show richCompare_meets_room (op:= .Lt) {_,ho,0} {_,NA,0} F.slot_tuple_lt F.entry_tuple_lt (F.args_tuple_lt_2 _ _) (Fe l b items MP n n2 dd N8 sl N9 e f)
  {ho,NA,he,hf,show Value.bool (lex e f items.size MP.size (min items.size MP.size) 0)≠Value.notImplemented/\Q (.bool (lex e f items.size MP.size (min items.size MP.size) 0)) s from{(λx=>nomatch x),h}} hu
def key_lists{prog:Sy}{w:SB}{E:Sv->Sw->Prop}{l b:Sx}{items MP:Array Sv}{e f:Nat->Bool}{Q:Bool->Sw->Prop}(hl:s.heap.IsList l items)(hb:s.heap.IsList b MP)(hu:A.units<cLine)
  (he:∀j (h1:j<items.size) (h2:j<MP.size),EqAt A.in1 s items[j] MP[j] (e j)) (hf:∀j (h1:j<items.size) (h2:j<MP.size),e j=false->LtAt A.in1 s items[j] MP[j] (f j))
  (h:Q (lex e f items.size MP.size (min items.size MP.size) 0) s):wpAny (model prog w) A (PyProof.Rows.keyLt' PyProof.Rows.oneType' (.ref l) (.ref b)) Q E s:=by
 rw[PyProof.Rows.keyLt'_oneType,PyProof.Rows.oneLt'_eq];simp only[C9];show A0 (wpAny_cRoomFor hu ?_);have{{cls,dd,data,sl},ho,hc,n,hd}:=id hl;have{{PM,N8,data2,N9},NA,NS,n2,N'}:=id hb;simp only at hc hd NS N';subst hc hd NS N';show A0 (wpAny_callSpecialIfBound?_slot (T:="list") {_,ho,0} F.slot_list_lt (call_meets F.slot_list_lt {_,ho,0} F.entry_list_lt (F.args_list_lt_2 _ _) (tJ l b items MP n n2 dd N8 sl N9 e f) {ho,NA,he,hf,?_}));show Bf h
end
end PySem.SeqAt
namespace L2
open PySem PySem.Spec PyProof.Rows
variable{A:SC}{E:Sv->Sw->Prop}{H:Hp}{Q:Bool->Sw->Prop}{a b l:Sx}{n:Nat}{p:Array Nat}{prog:Sy}{q:SD Pt}{v:V}{vs:SD Sv}{w:SB}{xs:SD Int}
inductive LtR(K:W.Frag)(H:Hp):Nat->V->V->Bool->Prop where
 |int (d:Nat) (i j:Int):LtR K H d (.int i) (.int j) (decide (i<j))
 |lists {d:Nat}{a b:Addr}{xs ys:List V} (es fs:Nat->Bool) (h1:SqL K H a xs) (h2:SqL K H b ys) (he:∀(j:Nat) x y,xs[j]? =some x->ys[j]? =some y->EqR K H d x y (es j)) (hf:∀(j:Nat) x y,xs[j]? =some x->ys[j]? =some y->es j=false->LtR K H d x y (fs j)):
  LtR K H (d+1) (.ref a) (.ref b) (SeqAt.lex es fs xs.length ys.length (min xs.length ys.length) 0)
 |tuples {d:Nat}{a b:Addr}{xs ys:List V} (es fs:Nat->Bool) (h1:SqT K H a xs) (h2:SqT K H b ys) (he:∀(j:Nat) x y,xs[j]? =some x->ys[j]? =some y->EqR K H d x y (es j)) (hf:∀(j:Nat) x y,xs[j]? =some x->ys[j]? =some y->es j=false->LtR K H d x y (fs j)):
  LtR K H (d+1) (.ref a) (.ref b) (SeqAt.lex es fs xs.length ys.length (min xs.length ys.length) 0)
section
variable{X:Cx}{MO:SD (Sx×Obj)}{σ:St}{H:Hp}{s:Sw}
def dO{xs:SD V}{is:SD Sv}{j:Nat}(r:ax xs is)(q:j<is.toArray.size):∃x,xs[j]? =some x/\aw x is.toArray[j]:=by
 have l:=r.length;have q':j<is.length:=by simpa using q
 have hx:xs[j]? =some xs[j]:=A2 (by lia);have{u,e,ru}:=r.get hx;show{_,hx,?_};have g:is.toArray[j]=u:=by
  rw[A2 q'] at e;simpa using Option.some.inj e
 rw[g];show ru
def LtR.bO(I:Inv X MO σ H s){d:Nat}{x y:V}{b:Bool}(h:LtR X.K H d x y b):∀{A:SC}{u v:Sv},A.units+d<cLine->aw x u->aw y v->SeqAt.LtAt A s u v b:=by
 induction h with
 |int d i j=>
  intro A u v hu ru rv;have{t,0}:=ru;have{t',0}:=rv;show SeqAt.LtAt.int_int i t j t'
 | @lists d a b xs ys es fs h1 h2 he hf ih=>
  intro A u v hu ru rv;obtain rfl:u=Value.ref a:=ru;obtain rfl:v=Value.ref b:=rv;have{is,r1,p1,z1}:=I.list h1;have{js,r2,p2,z2}:=I.list h2;have l1:xs.length=is.toArray.size:=by have:=r1.length;simpa using this
  have l2:ys.length=js.toArray.size:=by have:=r2.length;simpa using this
  rw[l1,l2];show SeqAt.LtAt.lists p1.isList p2.isList (by lia) (λj q1 q2=>?_) (λj q1 q2 z=>?_)
  .have{x,hx,rx}:=dO r1 q1;have{y,hy,ry}:=dO r2 q2;show((he j _ _ hx hy).bO I (by rw[b9];lia) rx ry).2.2
  .have{x,hx,rx}:=dO r1 q1;have{y,hy,ry}:=dO r2 q2;show ih j _ _ hx hy z (by rw[b9];lia) rx ry
 | @tuples d a b xs ys es fs h1 h2 he hf ih=>
  intro A u v hu ru rv;obtain rfl:u=Value.ref a:=ru;obtain rfl:v=Value.ref b:=rv;have{is,r1,p1,z1}:=I.tuple h1;have{js,r2,p2,z2}:=I.tuple h2;have l1:xs.length=is.toArray.size:=by have:=r1.length;simpa using this
  have l2:ys.length=js.toArray.size:=by have:=r2.length;simpa using this
  rw[l1,l2];show SeqAt.LtAt.tuples (show s.heap.IsTuple a is.toArray from p1) (show s.heap.IsTuple b js.toArray from p2) (by lia) (λj q1 q2=>?_) (λj q1 q2 z=>?_)
  .have{x,hx,rx}:=dO r1 q1;have{y,hy,ry}:=dO r2 q2;show((he j _ _ hx hy).bO I (by rw[b9];lia) rx ry).2.2
  .have{x,hx,rx}:=dO r1 q1;have{y,hy,ry}:=dO r2 q2;show ih j _ _ hx hy z (by rw[b9];lia) rx ry
def LtR.key(I:Inv X MO σ H s){d:Nat}{xs ys:SD V}{es fs:Nat->Bool}(h1:SqL X.K H a xs)(h2:SqL X.K H b ys)(he:∀(j:Nat) x y,xs[j]? =some x->ys[j]? =some y->EqR X.K H d x y (es j))(hf:∀(j:Nat) x y,xs[j]? =some x->ys[j]? =some y->es j=false->LtR X.K H d x y (fs j))
  (hu:A.units+(d+1)<cLine) (q:Q (SeqAt.lex es fs xs.length ys.length (min xs.length ys.length) 0) s):
  wpAny (model prog w) A (keyLt' oneType' (.ref a) (.ref b)) Q E s:=by
 have{is,r1,p1,z1}:=I.list h1;have{js,r2,p2,z2}:=I.list h2;have l1:xs.length=is.toArray.size:=by have:=r1.length;simpa using this
 have l2:ys.length=js.toArray.size:=by have:=r2.length;simpa using this
 rw[l1,l2] at q;show SeqAt.key_lists p1.isList p2.isList (by lia) (λj q1 q2=>?_) (λj q1 q2 z=>?_) q
 .have{x,hx,rx}:=dO r1 q1;have{y,hy,ry}:=dO r2 q2;show((he j _ _ hx hy).bO I (by rw[b9];lia) rx ry).2.2
 .have{x,hx,rx}:=dO r1 q1;have{y,hy,ry}:=dO r2 q2;show(hf j _ _ hx hy z).bO I (by rw[b9];lia) rx ry
end
def jh(ns:SD Int):Int:=ns.getD (argBest (λi j=>decide (ns.getD i 0<ns.getD j 0)) (ns.length-1)) 0
section
variable{X:Cx}
def tL{ys:Array (Int×Tok)}{ns:SD Int}(h:ys.toList.map (·.1)=ns)(i:Nat):numAt ys i=ns.getD i 0:=by
 subst h;unfold numAt;rw[List.getD,AD,BK]
def Ff(hc:X.calm=true):bE X (.builtin "min") (λxs H Q=>∃(p:Sx) (ns:SD Int),xs=[.ref p]/\SqL X.K H p (ns.map V.int)/\0<ns.length/\Q (.int (jh ns)) H):=by
 intro MO s σ H xs us Q I r h;have{p,ns,0,hq,h0,q}:=h;have{u,0,rx}:=dq r;cases rx;have{MQ,r',pl,hz}:=I.list hq;have hi:IntsAre MQ ns:=mI r';have{ys,e}:=hi.allInts.items;have n1:=hi.numsOf;rw[show MQ=MQ.toArray.toList from rfl,e,nums_intItems] at n1;have hsz:ys.size=ns.length:=by rw[<-n1];simp
 have hl:=pl.isList;rw[e] at hl;show min_intList (I.ok.hd hc) hl (by lia) λv h' tk hv hk=>?_;have{t,0}:=intItems_at hv;show{.int (jh ns),H,I.kept hk,{t,?_},q};unfold jh;rw[tL n1,hsz];simp only[tL n1]
inductive ipM(x:V)(y:V)(H:Hp)(Q:VK):Prop
 |mk i j:x=.int i->y=.int j->gP i j->Q (.int (i*j)) H->ipM x y H Q
def kA:PIp X .Mult ipM:=by
 intro MO s σ H x y v u Q I r1 r2 h;have{i,j,e1,e2,c,q}:=h;subst e1;subst e2;have{t,0}:=r1;have{t',0}:=r2;show imul_int {.int _,H,I.tok _,{1},q} c.ok
end
section
variable{X:Cx}{a b:SE}{ta:TA}{p1 p2 p3 pos:Pos}
def bX(i:Int)(n:Nat):SD V:=(List.range n).map λk:Nat=>V.int (i+(k:Int))
theorem tM{i:Int}:∀(n:Nat) (acc:SD Sv) (o:Nat),acc.length=n->(∀k v,acc[k]? =some v->∃t,v=Value.int (i+(o+k:Nat)*1) t)->ax ((List.range' o n).map λk:Nat=>V.int (i+(k:Int))) acc
 |0,acc,o,h,_=>by
  obtain rfl:acc=[]:=Bv.mp h;show .nil
 |n+1,acc,o,h,hv=>by
  cases acc with
  |nil=>simp at h
  |cons v acc=>
   rw[List.range'_succ,AG];have{t,0}:=hv 0 v rfl;show .cons {t,by congr 1;simp} (tM n acc (o+1) (by simpa using h) λk v e=>?_);have{t,e2}:=hv (k+1) v (by simpa using e);show{t,by rw[e2];congr 1;lia}
inductive tListRng_(Q:VK)(vs:List V)(H1:Hp):Prop
 |mk (i j:Int):vs=[.int i,.int j]->(-(2^62)<=i/\i<2^62/\-(2^62)<=j/\j<2^62)->(j-i).toNat<=1000->(∀l,H1 l=none->Q (.ref l) (upd H1 l (.lst (bX i (j-i).toNat))))->tListRng_ Q vs H1
def Fg(ta:TA):TE:=λσ H Q=>ta σ H λvs H1=>tListRng_ Q vs H1
def Fh(hc:X.calm=true)(hg1:Gl X "list")(hm1:X.mg "list"=none)(hg2:Gl X "range")(hm2:X.mg "range"=none)(ha:PA X [a,b] ta)
  (he1:starEach [.Call (.Name "range" p2) [a,b] [] p3] X.env=[(false,eval (.Call (.Name "range" p2) [a,b] [] p3) X.env)]:=by rfl)
  (hs:starEach [a,b] X.env=[(false,eval a X.env),(false,eval b X.env)]:=by rfl) (Qq:starEach [b] X.env=[(false,eval b X.env)]:=by rfl):
  PE X (.Call (.Name "list" p1) [.Call (.Name "range" p2) [a,b] [] p3] [] pos) (Fg ta):=by
 intro MO s σ H Q I h;show Bl (cY I hg1 hm1 boot_list ?_);show B7 ?_ he1 (by rfl);rw[he1];change wpAny _ _ (spliced [(false,eval (.Call (.Name "range" p2) [a,b] [] p3) X.env)]) _ _ s;show Ce ?_;show Call_ (cY I hg2 hm2 boot_range (B7 (thn (ha p3 MO s σ H _ I h) λus s1 ⟨vs,H1,I1,r1,q1⟩=>?_) (by rw[hs,Qq]) (by rw[Qq];rfl)));have{i,j,e,{q1,q2,q3,q4},hn,q}:=q1;subst e;cases r1 with
 |cons r rr=>
  cases rr with
  |cons r' rr=>
   cases rr;have{t,0}:=r;have{t',0}:=r';show call_range_2 ?_;show Calls.spliced_nil ?_;show call_list_range (n:=(j-i).toNat) (I1.ok.hd hc) (IsRange.new ..) (small_one q1 q2 q3 q4) (by rw[rangeSize_one];split<;>lia) (by lia) λh' tk MY c' hk hS MR=>?_
   have ne:∀b o,s1.heap.get? b=some o->h'.get? b=some o:=λb o z=>hk b o (A4 _ z);have{z1,z2}:=MR;have vv:ax (bX i (j-i).toNat) MY.toList:=by
    unfold bX;rw[List.range_eq_range'];show tM (j-i).toNat MY.toList 0 (by simpa using z1) λk v e=>by
     have{t,e2}:=z2 k v (by simpa using e);show{t,by rw[e2];simp}
   have le:s1.heap.objs.size<=(s1.heap.push {cls:= .type "range",data:= .fields #[.int i t,.int j t',.int 1 s1.toks]}).objs.size:=by rw[Aq];show C' _
   show{.ref _,_,I1.laid (t':=tk) ne le (show aE X.prog X.w _ h' _ (.lst (bX i (j-i).toNat)) from{by unfold bX;rw[A1,BN,At];lia,MY.toList,c',vv,hS}),0,q _ (I1.hok.fresh le)}
end
def tI(xs:SD Int):D:= .t (xs.map .i)
theorem kB{H:Hp}:∀{xs:SD Int}{vs:SD V},Iss H (xs.map .i) vs->vs=xs.map V.int
 |[],vs,h=>h
 |x::xs,vs,h=>by
  have{u,us,0,h1,h2}:=h;rw[aG h1,kB h2];rfl
theorem m7{H:Hp}:∀(xs:SD Int),Iss H (xs.map .i) (xs.map V.int)
 |[]=>rfl
 |x::xs=>{3,bw,m7 xs}
def bP(h:Is H (tI xs) v):∃a,v=.ref a/\H a=some (.tup (xs.map V.int)):=by
 have{a,vs,0,ha,hi}:=br h;rw[kB hi] at ha;show{a,0,ha}
def fk(h:H a=some (.tup (xs.map V.int))):Is H (tI xs) (.ref a):=bi h (m7 xs)
open PySem.W
section
variable{n:Nat}
def Ord(n:Nat)(p:Array Nat):Prop:=p.Perm (List.range n).toArray
def Ord.size{p:Array Nat}(h:Ord n p):p.size=n:=by
 have:=(CC.mp h).length_eq;simpa using this
def Ord.lt(h:Ord n p){i:Nat}(hi:i∈p.toList):i<n:=by
 have:=(CC.mp h).mem_iff.mp hi;simpa using this
theorem Ord.bubble{p:Array Nat}(h:Ord n p)(i j:Nat):Ord n (PyProof.Rows.bubble p i j):=(bubble_perm p i j).trans h
def Ord.kas(h:Ord n p)(i j:Nat):Ord n (kas_rev p i j):=(mirror_perm p i j _).trans h
def Ord.getD{p:Array Nat}(h:Ord n p)(hn:0<n)(i:Nat):p.getD i 0<n:=by
 by_cases hi:i<p.size
 .have e:p.getD i 0=p[i]:=by simp[Array.getD,hi]
  rw[e];show h.lt (by simp)
 .have e:p.getD i 0=0:=by simp[Array.getD,hi]
  rw[e];show hn
def bQ(n:Nat){α:Type}(R:α->Prop):KasT α->Prop
 |.ret a=>R a
 |.ask i j k=>i<n/\j<n/\∀b,bQ n R (k b)
theorem bQ.bind{α β:Type}{R:α->Prop}{R':β->Prop}{f:α->KasT β}(hf:∀a,R a->bQ n R' (f a)):∀{t:KasT α},bQ n R t->bQ n R' (t.bind f)
 |.ret a,h=>hf a h
 |.ask i j k,h=>{h.1,h.2.1,λb=>bQ.bind hf (h.2.2 b)}
theorem bQ.wp{α:Type}{R:α->Prop}{cmp:Nat->Nat->(Bool->Sw->Prop)->Sw->Prop}{Q:α->Sw->Prop}{s:Sw}(hc:∀i j,i<n->j<n->∃b,∀C:Bool->Sw->Prop,C b s->cmp i j C s)(hq:∀a,R a->Q a s):∀{t:KasT α},bQ n R t->t.kasWp cmp Q s
 |.ret a,h=>hq a h
 |.ask i j k,h=>by
  have{b,hb}:=hc i j h.1 h.2.1;show hb _ (bQ.wp hc hq (h.2.2 b))
variable(hn:0<n)
include hn
theorem m8{p:Array Nat}(h:Ord n p):∀f m,bQ n (λ_=>True) (kas_asc p f m)
 |0,m=>trivial
 |f+1,m=>{h.getD hn _,h.getD hn _,λb=>by
  cases b with
  |true=>show trivial
  |false=>show m8 h f (m+1)}
theorem kC:∀(f:Nat) (p:Array Nat) (m q:Nat),Ord n p->bQ n (λr=>Ord n r.1) (kas_desc f p m q)
 |0,p,m,q,h=>h
 |f+1,p,m,q,h=>{h.getD hn _,h.getD hn _,λb=>by
  cases b with
  |true=>
   change bQ n _ (if q>0 then kas_desc f (kas_rev p (m-(q+1)) m) (m+1) 0 else kas_desc f p (m+1) 0);by_cases hq:q>0
   .rw[A6 hq];show kC f _ _ _ (h.kas _ _)
   .rw[A5 hq];show kC f _ _ _ h
  |false=>
   show(show bQ n _ (KasT.ask (p.getD (m-1) 0) (p.getD m 0) λd=>if d=true then KasT.ret (p,m,q) else kas_desc f p (m+1) (q+1)) from{h.getD hn _,h.getD hn _,λb=>?_});cases b with
   |true=>show h
   |false=>show kC f _ _ _ h}
def tN(h:Ord n p)(m k:Nat):bQ n (λr=>Ord n r.2) (kas_tail3 m k p):=by
 unfold kas_tail3;show bQ.bind (λa _=>?_) (m8 hn (h.kas 0 m) _ _);show h.kas 0 m
def tO(h:Ord n p)(m k:Nat):bQ n (λr=>Ord n r.2) (kas_descPart m k p):=by
 show(kC hn _ _ _ _ h).bind λr hr=>?_;by_cases hq:r.2.2>0
 .rw[A6 hq];show tN hn (hr.kas _ _) _ _
 .rw[A5 hq];show tN hn hr _ _
def Fi(h:Ord n p)(k:Nat):bQ n (λr=>Ord n r.2) (kas_count k p):=by
 show(m8 hn h _ _).bind λm _=>?_;by_cases h1:(m==k)=true
 .rw[A6 h1];show h
 .rw[A5 h1];by_cases h2:m>1
  .rw[A6 h2];show{h.getD hn _,h.getD hn _,λb=>?_};cases b with
   |true=>show h
   |false=>show tO hn (h.kas _ _) _ _
  .rw[A5 h2];show tO hn h _ _
theorem m9{p:Array Nat}(h:Ord n p)(k:Nat):∀f l r,bQ n (λ_=>True) (kas_place p k f l r)
 |0,l,r=>trivial
 |f+1,l,r=>by
  unfold kas_place;by_cases h1:l>=r
  .rw[A6 h1];show trivial
  .rw[A5 h1];show{h.getD hn _,h.getD hn _,λb=>?_};cases b with
   |true=>show m9 h k f _ _
   |false=>show m9 h k f _ _
theorem tP:∀(f:Nat) (p:Array Nat) (k:Nat),Ord n p->bQ n (Ord n) (kas_bin f p k)
 |0,p,k,h=>h
 |f+1,p,k,h=>(m9 hn h k _ _ _).bind λl _=>tP f _ _ (h.bubble _ _)
def Fj:bQ n (Ord n) (kas_sort n):=by
 show(Fi hn (show Ord n (List.range n).toArray from Array.Perm.refl _) n).bind λr hr=>?_;by_cases h:r.1<n
 .rw[A6 h];show tP hn _ _ _ hr
 .rw[A5 h];show hr
end
section
variable{prog:Sy}{w:SB}{A:SC}{E:Sv->Sw->Prop}{s:Sw}
def fm(vs:SD Sv)(i:Nat):Keyed:=(vs.getD i .none,vs.getD i .none)
abbrev bo(h:SF)(a:Sx)(vs:SD Sv):SF:=((h.update a (Obj.mapSeq λ_=>(#[]:Array Sv))).push (seqObj "tuple" vs.toArray 0)).push (seqObj "list" #[] 0)
def Fk(vs:SD Sv):(List.toArray (List.range vs.length)).map (fm vs)=vs.toArray.zip vs.toArray:=by
 show Array.ext (by simp) λi h1 h2=>?_;have hi:i<vs.length:=by simpa using h1
 simp[fm,hi]
def Fm{kd:SortKind}{P:PySem.Fin->Sw->Prop}(ho:s.heap.get? a=some (seqObj "list" vs.toArray n))(h2:2<=vs.length)(h64:vs.length<64)
  (Px:∀(R:SortKind->Sw->Prop),R kd {s with heap:=bo s.heap a vs}->wpAny (model prog w) A (keyKind' vs.toArray) R E {s with heap:=bo s.heap a vs})
  (hc:∀i j,i<vs.length->j<vs.length->∃b,∀C:Bool->Sw->Prop,C b {s with heap:=bo s.heap a vs}->wpAny (model prog w) A (keyLt' kd (vs.getD i .none) (vs.getD j .none)) C (λ_ _=>False) {s with heap:=bo s.heap a vs})
  (h:∀p,Ord vs.length p->P (.done (.ret .none)) {s with heap:=sortedHeap s.heap a vs (p.map λi=>vs.getD i .none)}):wpAny (model prog w) A (Builtin.«list.sort» {[.ref a],[]}) P E s:=by
 rw[list_sort_plain];have ha:a<s.heap.objs.size:=AQ ho;show A0 (listItems_at ho rfl ?_);show A0 (D0 ho rfl ?_ (by rw[AK,At];lia) (AO _));obtain⟨e1,NC⟩:∃e1,(s.heap.update a (Obj.mapSeq λ_=>(#[]:Array Sv))).get? a=some (seqObj "list" #[] e1):={_,Cs ho (λ_=> #[])};show A0 (seqEpoch_at NC rfl ?_);show A0 (wpAny_newTuple ?_ (by change vs.length<=_;rw[At];lia));show A0 (D8 ?_ (AO _));show Av ?_;have Pw:(bo s.heap a vs).get? a=some (seqObj "list" #[] e1):=by
  rw[BF _ _ _ (by rw[C0,B9];show AR (Ao ha)),BF _ _ _ (by rw[B9];show AR ha)];show NC
 change wpAny (model prog w) A _ P E {s with heap:=bo s.heap a vs};dsimp only;have Qr:¬vs.toArray.size<2:=by rw[AK];lia
 rw[A5 Qr,A5 Qr];show A0 (Px _ ?_);have est:kas_st kd (pairsOf vs) (List.toArray (List.range vs.length))=SortSt.mk' kd (vs.toArray.zip vs.toArray) #[] 7 none:=by
  have e:=kas_range (pairsOf vs);rw[pairsOf_size] at e;change SortSt.mk' kd ((List.toArray (List.range vs.length)).map (kas_item (pairsOf vs))) #[] 7 none=SortSt.mk' kd (pairsOf vs) #[] 7 none;rw[e]
 have ask:(kas_sort vs.length).kasWp (kas_cmp prog w A kd (pairsOf vs)) (λp s'=>s'={s with heap:=bo s.heap a vs}/\Ord vs.length p) {s with heap:=bo s.heap a vs}:=by
  show bQ.wp (λi j hi hj=>?_) (λp hp=>{0,hp}) (Fj (by lia));have{b,hb}:=hc i j hi hj;show{b,λC hC=>?_};rw[<-kas_ask_eq];show hb C hC
 have run:=kas_runs (E:=E) (Q:=λ_ M0 s'=>∃p,s'={s with heap:=bo s.heap a vs}/\Ord vs.length p/\arrOf M0=p.map (kas_item (pairsOf vs))/\failedOf M0=none) h2 h64 (λp' M0 s' _ a2 a3 a4=>{p',a4.1,a4.2,a2,a3}) ask;rw[est] at run;show A0 (Bx run ?_ λ_ _ e=>e);rintro⟨⟨⟩,M0⟩ s' ⟨p,rfl,hp,har,hf⟩;dsimp only at har hf⊢;have eo:(arrOf M0).map (·.2)=p.map λi=>vs.getD i .none:=by
  rw[har,Array.map_map];show Array.map_congr_left λi _=>?_;change(kas_item (pairsOf vs) i).2=_;rw[kas_item_eq]
 rw[eo];show A0 (seqEpoch_at Pw rfl ?_);show A0 (D0 Pw rfl ?_ (AO _) (by rw[Array.size_map,At,hp.size];lia));rw[hf];simp only[D9,AN,Au];show A3 (h p hp)
abbrev eK(h:SF)(vs:SD Sv):SF:=bo (((h.push (seqObj "list" #[] 0)).update h.objs.size (Obj.mapSeq (· ++vs.toArray))).push (seqObj "list" vs.toArray 0)) (h.objs.size+1) vs
def tQ{h:SF}{o:Obj}(hb:h.get? b=some o):(eK h vs).get? b=some o:=by
 have MT:b<h.objs.size:=AQ hb;have sz:(((h.push (seqObj "list" #[] 0)).update h.objs.size (Obj.mapSeq (· ++vs.toArray))).push (seqObj "list" vs.toArray 0)).objs.size=h.objs.size+2:=by rw[C0,B9,C0]
 have n0:b≠h.objs.size:=AR MT;have n1:b≠h.objs.size+1:=AR (Ao MT);have n2:b≠h.objs.size+2:=AR (Ao (Ao MT));have n3:b≠h.objs.size+2+1:=AR (Ao (Ao (Ao MT)));rw[BF _ _ _ (by rw[C0,B9,sz];show n3),BF _ _ _ (by rw[B9,sz];show n2),Dc _ _ _ _ n1,
  BF _ _ _ (by rw[B9,C0];show n1),Dc _ _ _ _ n0,BF _ _ _ n0]
 show hb
def Fn{kd:SortKind}{Q:Sv->Sw->Prop}(hl:s.heap.IsList l vs.toArray)(h2:2<=vs.length)(h64:vs.length<64)
  (Px:∀(R:SortKind->Sw->Prop) (E:Sv->Sw->Prop),R kd {s with heap:=eK s.heap vs}->wpAny (model prog w) A.in1.in1 (keyKind' vs.toArray) R E {s with heap:=eK s.heap vs})
  (hc:∀i j,i<vs.length->j<vs.length->∃b,∀C:Bool->Sw->Prop,C b {s with heap:=eK s.heap vs}->wpAny (model prog w) A.in1.in1 (keyLt' kd (vs.getD i .none) (vs.getD j .none)) C (λ_ _=>False) {s with heap:=eK s.heap vs})
  (h:∀p,Ord vs.length p->Q (.ref (s.heap.objs.size+1)) {s with heap:=sortedAll s.heap vs (p.map λi=>vs.getD i .none)}):wpAny (model prog w) A (call (.builtin "sorted") [.ref l]) Q E s:=by
 show D5 kind_sorted plain_sorted entry_sorted (args_sorted1 _) ?_;unfold Builtin.«sorted»;show A0 (m:=checkCount "sorted" 1 1 _) (A3 ?_);show A0 (collect_list hl ?_ (by rw[At];lia));show A0 (D8 ?_ (by rw[At];lia));have hsz:((s.heap.push (seqObj "list" #[] 0)).update s.heap.objs.size (Obj.mapSeq (· ++vs.toArray))).objs.size=s.heap.objs.size+1:=by
  rw[B9,C0]
 have Qp:(((s.heap.push (seqObj "list" #[] 0)).update s.heap.objs.size (Obj.mapSeq (· ++vs.toArray))).push (seqObj "list" vs.toArray 0)).get? (s.heap.objs.size+1)=some (seqObj "list" vs.toArray 0):=by
  rw[<-hsz];show AE _ rfl
 change wpAny _ _ _ _ _ {s with heap:=((s.heap.push (seqObj "list" #[] 0)).update s.heap.objs.size (Obj.mapSeq (· ++vs.toArray))).push (seqObj "list" vs.toArray 0)};rw[hsz];show A0 (Av (An Dg {_,Qp,0} De (Fm (s:={s with heap:=((s.heap.push (seqObj "list" #[] 0)).update s.heap.objs.size (Obj.mapSeq (· ++vs.toArray))).push (seqObj "list" vs.toArray 0)}) Qp h2 h64 (λR=>Px R _) hc λp hp=>{1,?_}) (Dh _)));show A3 {1,h p hp}
end
section
variable{prog:Sy}{w:SB}{A:SC}{E:Sv->Sw->Prop}{s:Sw}
def tR{P:PySem.Fin->Sw->Prop}(ho:s.heap.get? a=some (seqObj "list" vs.toArray n))(h2:vs.length<2)
  (h:P (.done (.ret .none)) {s with heap:=sortedHeap s.heap a vs vs.toArray}):wpAny (model prog w) A (Builtin.«list.sort» {[.ref a],[]}) P E s:=by
 rw[list_sort_plain];have ha:a<s.heap.objs.size:=AQ ho;show A0 (listItems_at ho rfl ?_);show A0 (D0 ho rfl ?_ (by rw[AK,At];lia) (AO _));obtain⟨e1,NC⟩:∃e1,(s.heap.update a (Obj.mapSeq λ_=>(#[]:Array Sv))).get? a=some (seqObj "list" #[] e1):={_,Cs ho (λ_=> #[])};show A0 (seqEpoch_at NC rfl ?_);show A0 (wpAny_newTuple ?_ (by change vs.length<=_;rw[At];lia));show A0 (D8 ?_ (AO _));show Av ?_;have Pw:(bo s.heap a vs).get? a=some (seqObj "list" #[] e1):=by
  rw[BF _ _ _ (by rw[C0,B9];show AR (Ao ha)),BF _ _ _ (by rw[B9];show AR ha)];show NC
 change wpAny (model prog w) A _ P E {s with heap:=bo s.heap a vs};dsimp only;have Qr:vs.toArray.size<2:=by rw[AK];lia
 rw[A6 Qr,A6 Qr];show A0 (A3 ?_);rw[StateT.run_pure];show A0 (A3 ?_);dsimp only;have eo:(vs.toArray.zip vs.toArray).map (·.2)=vs.toArray:=by
  show Array.ext (by simp) λi h1 h2=>?_;simp
 show A0 (seqEpoch_at Pw rfl ?_);rw[eo];show A0 (D0 Pw rfl ?_ (AO _) (by rw[AK,At];lia));simp only[D9,AN,Au];show A3 h
def tS{Q:Sv->Sw->Prop}(hl:s.heap.IsList l vs.toArray)(h2:vs.length<2)
  (h:Q (.ref (s.heap.objs.size+1)) {s with heap:=sortedAll s.heap vs vs.toArray}):wpAny (model prog w) A (call (.builtin "sorted") [.ref l]) Q E s:=by
 show D5 kind_sorted plain_sorted entry_sorted (args_sorted1 _) ?_;unfold Builtin.«sorted»;show A0 (m:=checkCount "sorted" 1 1 _) (A3 ?_);show A0 (collect_list hl ?_ (by rw[At];lia));show A0 (D8 ?_ (by rw[At];lia));have hsz:((s.heap.push (seqObj "list" #[] 0)).update s.heap.objs.size (Obj.mapSeq (· ++vs.toArray))).objs.size=s.heap.objs.size+1:=by
  rw[B9,C0]
 have Qp:(((s.heap.push (seqObj "list" #[] 0)).update s.heap.objs.size (Obj.mapSeq (· ++vs.toArray))).push (seqObj "list" vs.toArray 0)).get? (s.heap.objs.size+1)=some (seqObj "list" vs.toArray 0):=by
  rw[<-hsz];show AE _ rfl
 change wpAny _ _ _ _ _ {s with heap:=((s.heap.push (seqObj "list" #[] 0)).update s.heap.objs.size (Obj.mapSeq (· ++vs.toArray))).push (seqObj "list" vs.toArray 0)};rw[hsz];show A0 (Av (An Dg {_,Qp,0} De (tR (s:={s with heap:=((s.heap.push (seqObj "list" #[] 0)).update s.heap.objs.size (Obj.mapSeq (· ++vs.toArray))).push (seqObj "list" vs.toArray 0)}) Qp h2 {1,?_}) (Dh _)));show A3 {1,h}
end
section
variable{X:Cx}
theorem kD{rs:SD V}{MQ:SD Sv}(r:ax rs MQ):∀(l:SD Nat),(∀i∈l,i<rs.length)->ax (l.map λi=>rs.getD i .non) (l.map λi=>MQ.getD i .none)
 |[],_=>.nil
 |i::l,h=>by
  have hi:i<rs.length:=h i (by simp);have e:rs[i]? =some rs[i]:=A2 hi;have{u,hu,ru}:=r.get e;rw[AG,AG];show .cons ?_ (kD r l λj hj=>h j (by simp[hj]));rw[List.getD,List.getD,e,hu];show ru
end
def cH(fin:Bool):SD Int->SD Int->Bool
 |x::xs,y::ys=>if x=y then cH fin xs ys else decide (x<y)
 |_,_=>fin
def ltI(xs ys:SD Int):Bool:=cH (decide (xs.length<ys.length)) xs ys
section
variable{prog:Sy}{w:SB}{A:SC}{E:Sv->Sw->Prop}{s:Sw}
theorem tT{fin:Bool}{Q:Bool->Sw->Prop}:∀{xs ys:SD Int}{is js:SD Sv} (i:Nat),ax (xs.map V.int) is->ax (ys.map V.int) js->Q (cH fin xs ys) s->KatLex prog w A true fin Q (is.zip js) i s
 |[],ys,is,js,i,h1,h2,q=>by
  cases h1;rw[List.zip_nil_left];show kat_nil (by cases ys<;>show q)
 |x::xs,[],is,js,i,h1,h2,q=>by
  cases h2;rw[List.zip_nil_right];show kat_nil q
 |x::xs,y::ys,is,js,i,h1,h2,q=>by
  cases h1 with
  |cons r1 h1=>
  cases h2 with
  |cons r2 h2=>
  have{t,0}:=r1;have{t',0}:=r2;rw[List.zip_cons_cons];show kat_cons ?_;show wpAny_eqBool_int ?_;unfold cH at q;by_cases e:x=y
  .rw[A6 e] at q;rw[show(x==y)=true by simp[e]];show kat_yes (tT (i+1) h1 h2 q)
  .rw[A5 e] at q;rw[show(x==y)=false by simp[e]];show kat_no ?_;cases hb:(true&&i==0) with
   |true=>show oneLt_int q
   |false=>show kat_one _ _ (SeqAt.LtAt.int_int x t y t' prog w _ _ q)
end
def Fo(xss:SD (SD Int)):(List.range xss.length).map (λi=>xss.getD i [])=xss:=by
 show Cm (by simp) λi h1 h2=>?_;simp[List.getD,h2]
theorem tU{H:Hp}{xss:SD (SD Int)}{rs:SD V}(h:Iss H (xss.map tI) rs):∀(l:SD Nat),(∀i∈l,i<xss.length)->Iss H ((l.map λi=>xss.getD i []).map tI) (l.map λi=>rs.getD i .non)
 |[],_=>rfl
 |i::l,hl=>by
  have hi:i<xss.length:=hl i (by simp);have hr:i<rs.length:=by rw[h.length,A1];show hi
  show{3,?_,tU h l λj hj=>hl j (by simp[hj])};have{d,hd,h1}:=h.of_get (A2 hr);rw[AD,A2 hi] at hd;cases hd;change Is H (tI (xss.getD i [])) (rs.getD i .non);rw[A',A',A2 hi,A2 hr];show h1
section
variable{X:Cx}{MO:SD (Sx×Obj)}{σ:St}{H:Hp}{s:Sw}
theorem tV(I:Inv X MO σ H s):∀{xss:SD (SD Int)}{rs:SD V}{MQ:SD Sv},Iss H (xss.map tI) rs->ax rs MQ->(∀xs∈xss,xs≠[])->∃fs:SD Sv,KatTups s.heap MQ fs/\fs.length=MQ.length/\∀f∈fs,∃z t,f=Value.int z t
 |[],rs,MQ,h,r,_=>by
  obtain rfl:rs=[]:=h;cases r;show{[],KatTups.nil,0,λ_ h=>nomatch h}
 |xs::xss,rs,MQ,h,r,NM=>by
  have{u,us,0,h1,h2}:=h;cases r with
  |cons r1 r2=>
  rename_i v MQ;have{fs,k1,k2,k3}:=tV I h2 r2 λys hy=>NM ys (by simp[hy]);have{a,0,ha}:=bP h1;obtain rfl:v=Value.ref a:=r1;have{is,q1,q2,q3}:=I.tuple (SqT.of (K:=X.K) ha);have{o,ho,hc,n,hd}:=(show s.heap.IsTuple a is.toArray from q2)
  match xs,NM xs (by simp) with
  |x::PY,_=>
  cases q1 with
  |cons q0 q1=>
  have{t,0}:=q0;show{.int x t::fs,KatTups.cons ho hc hd (by simp) k1,by simp[k2],λf hf=>?_};rcases AJ.mp hf with rfl|hf
  .show{3}
  .show k3 f hf
def Fp(I:Inv X MO σ H s){ys:SD Int}(h1:SqT X.K H a (xs.map V.int))(h2:SqT X.K H b (ys.map V.int))(q:Q (ltI xs ys) s):
  wpAny (model prog w) A (keyLt' (tuples' true) (.ref a) (.ref b)) Q E s:=by
 have{is,r1,p1,z1}:=I.tuple h1;have{js,r2,p2,z2}:=I.tuple h2;have{o1,NC,hc1,n1,hd1}:=(show s.heap.IsTuple a is.toArray from p1);have{o2,NA,NS,n2,N'}:=(show s.heap.IsTuple b js.toArray from p2);show kat_lt NC hd1 NA N' ?_;have l1:is.toArray.size=xs.length:=by have:=r1.length;simp at this⊢;lia
 have l2:js.toArray.size=ys.length:=by have:=r2.length;simp at this⊢;lia
 rw[l1,l2];show tT 0 r1 r2 q
end
def kE(v:Sv)(k:Int):Bool:=match v with
 |.int i _=>decide (i=k)
 |_=>false
def fq:SD DictEntry->SD (Int×Int)->Bool
 |[],[]=>true
 |e::es,p::kvs=>kE e.key p.1&&decide (e.hash=hashInt p.1)&&kE e.val p.2&&fq es kvs
 |_,_=>false
def tW(o:Obj)(kvs:SD (Int×Int)):Bool:=match o.cls,o.dict,o.data with
 |.type c,none,.dict es _=>c=="dict"&&o.slots.isEmpty&&fq es.toList kvs
 |_,_,_=>false
def gZ(K:W.Frag)(a:Sx)(kvs:SD (Int×Int)):Bool:=match K.lookup a with
 |some o=>tW o kvs
 |none=>false
def tX{v:Sv}{k:Int}(h:kE v k=true):∃t,v=.int k t:=by
 unfold kE at h;split at h
 .rename_i i t;show{t,by rw[B' h]}
 .cases h
def tY{e:DictEntry}{es:SD DictEntry}{p:Int×Int}{kvs:SD (Int×Int)}(h:fq (e::es) (p::kvs)=true):(∃t,e.key=.int p.1 t)/\e.hash=hashInt p.1/\(∃t,e.val=.int p.2 t)/\fq es kvs=true:=by
 unfold fq at h;rw[AM,AM,AM] at h;show{tX h.1.1.1,B' h.1.1.2,tX h.1.2,h.2}
theorem tZ:∀{es:SD DictEntry}{kvs:SD (Int×Int)},fq es kvs=true->∀e∈es,∃k,Value.isInt k e.key=true/\e.hash=hashInt k
 |[],_,_,e,he=>nomatch he
 |e::es,[],h,_,_=>by unfold fq at h;cases h
 |e::es,p::kvs,h,e',he=>by
  have{{t,h1},h2,_,h4}:=tY h;rcases AJ.mp he with rfl|he
  .show{p.1,by rw[h1];simp[Value.isInt],h2}
  .show tZ h4 e' he
theorem ud{k v:Int}:∀{es:SD DictEntry}{kvs:SD (Int×Int)},fq es kvs=true->kvs.lookup k=some v->∃t,(es.find? λe=>Value.isInt k e.key).map (·.val)=some (.int v t)
 |_,[],_,hv=>nomatch hv
 |[],p::kvs,h,_=>by unfold fq at h;cases h
 |e::es,p::kvs,h,hv=>by
  have{{t,h1},h2,{u,h3},h4}:=tY h;rw[CS] at hv;rw[Bj];by_cases q:k=p.1
  .have b:(k==p.1)=true:=by simp[q]
   rw[b] at hv;have hv':p.2=v:=Ad hv;have i:Value.isInt k e.key=true:=by rw[h1,q];simp[Value.isInt]
   rw[i];show{u,by rw[<-hv',<-h3];rfl}
  .have b:(k==p.1)=false:=by simp[q]
   rw[b] at hv;have i:Value.isInt k e.key=false:=by rw[h1];simp[Value.isInt];show λz=>q z.symm
   rw[i];show ud h4 hv
inductive tDGetM_(K:W.Frag)(Q:VK)(x:V)(y:V)(H2:Hp):Prop
 |mk a kvs k v:x=.ref a->gZ K a kvs=true->y=.int k->kvs.lookup k=some v->Q (.int v) H2->tDGetM_ K Q x y H2
def Fq(K:W.Frag)(td ty:TE):TE:=λσ H Q=>td σ H λx H1=>ty σ H1 λy H2=>tDGetM_ K Q x y H2
def uf{X:Cx}{o i:SE}{pos:Pos}{td ty:TE}(ho:PE X o td)(hi:PE X i ty)(hs:gk i):PE X (.Subscript o i pos) (Fq X.K td ty):=by
 intro MO s σ H Q I h;show mN PySem.F.slot_dict_getitem.lookup hs (thn (ho MO s σ H _ I h) λu s1 zu52=>?_);have{x,H1,I1,rx,q1}:=zu52;show thn (hi MO s1 σ H1 _ I1 q1) λiv s2 zu53=>?_;have{y,H2,I2,ry,a,kvs,k,v,ex,hd,ey,hv,q2}:=zu53;subst ex ey;obtain rfl:u=Value.ref a:=rx;have{t,0}:=ry;unfold gZ at hd;split at hd
 .rename_i ob QJ;have hg:=I2.kIn a ob QJ;unfold tW at hd;split at hd
  .rename_i c es ep hc N4 Ob;rw[AM,AM] at hd;have{{d1,d2},d3}:=hd;have hc':ob.cls=.type "dict":=by rw[hc,eq_of_beq d1]
   have{t',ht}:=ud d3 hv;have mp:s2.heap.MapOf (intKind X.prog X.w) a (findBy Value.isInt es):={ob,es,ep,hg,{hc',N4,Array.isEmpty_iff.mp d2},Ob,λe he=>tZ d3 e (by simpa using he),λ_=>rfl};show{{ob,hg,hc'},wpAny_getItem_of (knd:=intKind X.prog X.w) (k:=k) (by simp[intKind,Value.isInt]) mp (v:= .int v t') ?_ {.int v,H2,I2.tok _,{1},q2}};change findBy Value.isInt es k=_;unfold findBy;obtain⟨l⟩:=es;simpa using ht
  .cases hd
 .cases hd
def Fs(K:W.Frag)(H:Hp)(n:Nat)(xs:SD V)(x:V)(es:Nat->Bool):Prop:=n<=8/\(∀(j:Nat) z,xs[j]? =some z->(∃a,z=.ref a)/\EqR K H n z x (es j))/\∀(i j:Nat) z,xs[i]? =some z->xs[j]? =some z->es i=es j
section
variable{X:Cx}{MO:SD (Sx×Obj)}{σ:St}{H:Hp}{s:Sw}
open Classical in
noncomputable def fS(MQ:SD Sv)(es:Nat->Bool)(u:Sv):Bool:=decide (∃j:Nat,MQ[j]? =some u/\es j=true)
end
def Ask(K:W.Frag)(H:Hp)(x y:V)(b:Bool):Prop:=∃(a1 a2:Sx) (xs ys:SD V) (d:Nat) (es fs:Nat->Bool),x=.ref a1/\y=.ref a2/\SqL K H a1 xs/\SqL K H a2 ys/\d<=4/\
 (∀(j:Nat) x y,xs[j]? =some x->ys[j]? =some y->EqR K H d x y (es j))/\(∀(j:Nat) x y,xs[j]? =some x->ys[j]? =some y->es j=false->LtR K H d x y (fs j))/\b=SeqAt.lex es fs xs.length ys.length (min xs.length ys.length) 0
inductive rSortedP(K:W.Frag)(vs:List V)(H:Hp)(Q:VK):Prop
 |mk (l:Addr) (rs:List V):vs=[.ref l]->SqL K H l rs->rs.length<64->((∀r∈rs,∃a ys,r=.ref a/\SqL K H a ys))->((∀x∈rs,∀y∈rs,∃b,Ask K H x y b))->(∀(p:List Nat) q,p.Perm (List.range rs.length)->H q=none->Q (.ref q) (upd H q (.lst (p.map λi=>rs.getD i .non))))->rSortedP K vs H Q
section
variable{X:Cx}
def Fu{k:Nat}(hr:Room k X.A):bE X (.builtin "sorted") (rSortedP X.K):=by
 intro MO s σ H xs us Q I r h;have{l,rs,0,hq,h64,hty,OF,q}:=h;have{u,0,rx}:=dq r;cases rx;have{MQ,r',pl,hz}:=I.list hq;have ln:=r'.length;have hu:=hr.un;by_cases h2:rs.length<2
 .show tS (vs:=MQ) pl.isList (by lia) ?_;have{e,he}:=sortedAll_at s.heap MQ MQ.toArray;have fr:=I.hok.fresh (a:=s.heap.objs.size+1) (C' _);have er:(List.range rs.length).map (λi=>rs.getD i .non)=rs:=by
   show Cm (by simp) λi h1 h2=>?_;simp[List.getD,h2]
  have:=q (List.range rs.length) (s.heap.objs.size+1) (Da _) fr;rw[er] at this;show{.ref (s.heap.objs.size+1),_,I.laid (t':=s.toks) (λ_ _=>sortedAll_old) (C' _) (show aE X.prog X.w _ _ _ (.lst rs) from{hz,MQ,e,r',he}),0,this}
 .have I2:Inv X MO σ H {s with heap:=eK s.heap MQ}:=I.kept (t':=s.toks) λb o e=>tQ e;have g:∀i,i<MQ.length->∃x∈rs,aw x (MQ.getD i .none):=λi h=>by
   have hr:i<rs.length:=by lia
   have{u,No,ru}:=r'.get (A2 hr);show{rs[i],CT hr,by rw[A',No];show ru}
  show Fn (kd:=oneType') (vs:=MQ) pl.isList (by lia) (by lia) (λR E hR=>kas_kind (T:= .type "list") (by lia) (λv hv=>?_) rfl rfl hR) (λi j NO hj'=>?_) λp ho=>?_
  .have{i,hi,0}:=Bh.mp hv;have NO:i<rs.length:=by lia
   have{a,ys,e1,hy}:=hty rs[i] (CT NO);have{u,No,ru}:=r'.get (A2 NO);rw[A2 hi] at No;rw[e1] at ru;obtain rfl:u=Value.ref a:=ru;rw[Ad No];have{js,r2,p2,z2}:=I2.list hy;have{o,ho,hc,_}:=p2.isList;show hc▸(Looks.ld ho).andThen .now
  .have{x,hx,rx}:=g i NO;have{y,hy,ry}:=g j hj';have{b,a1,a2,xs,ys,d,es,fs,0,0,h1,h2,hd,he,hf,eb}:=OF x hx y hy;show{b,λC hC=>?_};have e1:MQ.getD i .none=Value.ref a1:=rx;have e2:MQ.getD j .none=Value.ref a2:=ry;rw[e1,e2];rw[eb] at hC;show LtR.key I2 h1 h2 he hf (by rw[b9,b9];lia) hC
  .have NK:Ord rs.length p:=by rw[ln];show ho
   have{e,he}:=sortedAll_at s.heap MQ (p.map λi=>MQ.getD i .none);have en:(p.map λi=>MQ.getD i .none)=List.toArray (p.toList.map λi=>MQ.getD i .none):=by
    apply Array.toList_inj.mp;simp
   rw[en] at he⊢;have fr:=I.hok.fresh (a:=s.heap.objs.size+1) (C' _);have pp:p.toList.Perm (List.range rs.length):=CC.mp NK;show{.ref (s.heap.objs.size+1),_,I.laid (t':=s.toks) (λ_ _=>sortedAll_old) (C' _) (show aE X.prog X.w _ _ _ (.lst (p.toList.map λi=>rs.getD i .non)) from{?_,_,e,kD r' p.toList (λi hi=>NK.lt hi),he}),0,q p.toList _ pp fr};rw[A1,Aj,At,NK.size];lia
end
def ft(p q:Pt):Bool:=decide (p.1<q.1)||(decide (p.1=q.1)&&decide (p.2<q.2))
def et:SD Pt->SD Pt->Bool
 |_,[]=>false
 |[],_::_=>true
 |x::xs,y::ys=>if x=y then et xs ys else ft x y
section
variable{K:W.Frag}{H:Hp}
def ug{p q:Pt}{w:V}(h:Is H (pt p) v)(k:Is H (pt q) w):LtR K H 1 v w (ft p q):=by
 have{a,0,ha}:=fR h;have{b,0,hb}:=fR k;have e:=LtR.tuples (K:=K) (H:=H) (d:=0) (a:=a) (b:=b) (λj=>if j=0 then decide (p.1=q.1) else decide (p.2=q.2)) (λj=>if j=0 then decide (p.1<q.1) else decide (p.2<q.2)) (SqT.of ha) (SqT.of hb) (λj x y hx hy=>?_) (λj x y hx hy _=>?_)
 .have e2:SeqAt.lex (λj=>if j=0 then decide (p.1=q.1) else decide (p.2=q.2)) (λj=>if j=0 then decide (p.1<q.1) else decide (p.2<q.2)) 2 2 2 0=ft p q:=by
   unfold ft;by_cases e0:p.1=q.1
   .have n0:¬p.1<q.1:=by lia
    by_cases e1:p.2=q.2
    .have n1:¬p.2<q.2:=by lia
     simp[SeqAt.lex,e0,e1]
    .simp[SeqAt.lex,e0,e1]
   .simp[SeqAt.lex,e0]
  show e2▸e
 .match j,hx,hy with
  |0,hx,hy=>cases hx;cases hy;show EqR.int 0 _ _
  |1,hx,hy=>cases hx;cases hy;show EqR.int 0 _ _
  |j+2,hx,_=>simp at hx
 .match j,hx,hy with
  |0,hx,hy=>cases hx;cases hy;show LtR.int 0 _ _
  |1,hx,hy=>cases hx;cases hy;show LtR.int 0 _ _
  |j+2,hx,_=>simp at hx
theorem ng(p q:SD Pt):∀(k i:Nat),min p.length q.length-i=k->i<=min p.length q.length->SeqAt.lex (λj=>decide (p.getD j (0,0)=q.getD j (0,0))) (λj=>ft (p.getD j (0,0)) (q.getD j (0,0))) p.length q.length k i=et (p.drop i) (q.drop i)
 |0,i,hk,hi=>by
  rw[SeqAt.lex];rcases(by lia:q.length=i\/(p.length=i/\i<q.length)) with e|⟨e,e2⟩
  .rw[Bk (l:=q) (by lia)];have:¬p.length<q.length:=by lia
   cases p.drop i<;>simp[et,this]
  .rw[Bk (l:=p) (by lia),Al e2];have:p.length<q.length:=by lia
   simp[et,this]
 |k+1,i,hk,hi=>by
  have h1:i<p.length:=by lia
  have h2:i<q.length:=by lia
  have g1:p.getD i (0,0)=p[i]:=by simp[List.getD,h1]
  have g2:q.getD i (0,0)=q[i]:=by simp[List.getD,h2]
  rw[SeqAt.lex,Al h1,Al h2,et,g1,g2];by_cases e:p[i]=q[i]
  .rw[A6 (B4 e),A6 e];show ng p q k (i+1) (by lia) (by lia)
  .rw[A5 (by simpa using e),A5 e]
def uh{p:SD Pt}{vs ws:SD V}(h:Iss H (p.map pt) vs)(k:Iss H (q.map pt) ws):
  (∀(j:Nat) x y,vs[j]? =some x->ws[j]? =some y->EqR K H 1 x y (decide (p.getD j (0,0)=q.getD j (0,0))))/\(∀(j:Nat) x y,vs[j]? =some x->ws[j]? =some y->decide (p.getD j (0,0)=q.getD j (0,0))=false->LtR K H 1 x y (ft (p.getD j (0,0)) (q.getD j (0,0)))):=by
 have go:∀(j:Nat) x y,vs[j]? =some x->ws[j]? =some y->Is H (pt (p.getD j (0,0))) x/\Is H (pt (q.getD j (0,0))) y:=λj x y hx hy=>by
  have{d,hd,h1}:=h.of_get hx;have{e,he,h2}:=k.of_get hy;rw[AD] at hd he;have{d',ON,0}:=AB.mp hd;have{e',OV,0}:=AB.mp he;rw[List.getD,ON,List.getD,OV];show{h1,h2}
 show{λj x y hx hy=>EO (go j x y hx hy).1 (go j x y hx hy).2,λj x y hx hy _=>ug (go j x y hx hy).1 (go j x y hx hy).2}
def Fv{p:SD Pt}{w:V}(h:Is H (pts p) v)(k:Is H (pts q) w):Ask K H v w (et p q):=by
 have{a,vs,0,ha,h}:=gW h;have{b,ws,0,hb,k}:=gW k;have{e1,e2}:=uh (K:=K) h k;show{a,b,vs,ws,(1),2,SqL.of ha,SqL.of hb,5,e1,e2,?_};rw[h.length,k.length,A1,A1,ng p q _ 0 (DW _) (AO _),CB,CB]
end
end L2
namespace L2
open PySem PyProof.Rows
variable{MX base g i j l m n x:Nat}{NQ Nb a p p':Array Nat}{Q:SG Bool->SortSt->Prop}{b left:Bool}{vs:SD Sv}{xss:SD (SD Int)}
def Fw:Bool->Keyed->Array Keyed->Nat->Nat->Nat->StateT SortSt Sem (SG Nat):=sortPriv%PySem.Builtin.gallop
def Fx:Array Keyed->Array Keyed->StateT SortSt Sem (Array Keyed):=sortPriv%PySem.Builtin.mergeLo
def Fy:Array Keyed->Array Keyed->StateT SortSt Sem (Array Keyed):=sortPriv%PySem.Builtin.mergeHi
def FA:Nat->StateT SortSt Sem Unit:=sortPriv%PySem.Builtin.setMinGallop
def aB{γ:Type}(step:γ->SG (Bool×γ)):Nat->γ->SG γ
 |0,g=>some g
 |f+1,g=>(step g).bind λr=>if r.1=true then some r.2 else aB step f r.2
section
variable{M:Model}{A:SC}{E:Sv->Sw->Prop}{s:Sw}{σ:Type}
def cW{β γ:Type}{step:γ->SG (Bool×γ)}(φ:γ->β)(τ:γ->σ){f:Nat->β->StateT σ Sem (ForInStep β)}{Q:β->σ->Prop}
  (hs:∀x g r,step g=some r->∀R:ForInStep β->σ->Prop,R (if r.1=true then .done (φ r.2) else .yield (φ r.2)) (τ r.2)->wpS M A E s (f x (φ g)) R (τ g))
  {a b:Nat}{g g':γ} (h:aB step (b-a) g=some g') (hq:Q (φ g') (τ g')):wpS M A E s (forIn [a:b] (φ g) f) Q (τ g):=by
 rw[Std.Legacy.Range.forIn_eq_forIn_range'];have hsz:([a:b]:Std.Legacy.Range).size=b-a:=by simp[Std.Legacy.Range.size]
 change wpS M A E s (forIn (List.range' a ([a:b]:Std.Legacy.Range).size 1) (φ g) f) Q (τ g);rw[hsz];have go:∀(k:Nat) (l:SD Nat) (g:γ),l.length=k->aB step k g=some g'->wpS M A E s (forIn l (φ g) f) Q (τ g):=by
  intro k;induction k with
  |zero=>
   intro l g hl h;cases l with
   |nil=>rw[List.forIn_nil];cases h;show Az hq
   |cons _ _=>simp at hl
  |succ k ih=>
   intro l g hl h;cases l with
   |nil=>simp at hl
   |cons x l=>
    rw[Cu];unfold aB at h;have{r,hr,h}:=AC.mp h;show AZ (hs x g r hr _ ?_);by_cases hd:r.1=true
    .rw[A6 hd] at h⊢;cases h;show Az hq
    .rw[A5 hd] at h⊢;show ih l r.2 (by simpa using hl) h
 show go _ _ g (by simp) h
end
section
variable{prog:Sy}{w:SB}{A:SC}{E:Sv->Sw->Prop}{s:Sw}{item:Nat->Keyed}{c:Nat->Nat->SG Bool}{kd:SortKind}
def di(kd:SortKind)(prog:Sy)(w:SB)(A:SC)(s:Sw)(item:Nat->Keyed)(c:Nat->Nat->SG Bool):Prop:=
 ∀i j b,c i j=some b->∀Q:Bool->Sw->Prop,Q b s->wpAny (model prog w) A (keyLt' kd (item i).1 (item j).1) Q (λ_ _=>False) s
def kF(hc:di kd prog w A s item c){st:SortSt}(hk:kindOf st=kd)(h:c i j=some b)(hq:Q (some b) st):wpS (model prog w) A E s (lt' (item i) (item j)) Q st:=by
 rw[lt'_eq];show AZ (Dd ?_);rw[hk];show AZ (wpS_lift (CU (Bx (hc i j b h _ {0,Az hq}) (λ_ _ h=>h) λ_ _ hF=>hF.elim)))
def fT{st:SortSt}(h:NQ[i]? =some x){Q:Keyed->SortSt->Prop}(hq:Q (item x) st):wpS (model prog w) A E s (elem' (NQ.map item) i) Q st:=by
 rw[elem'_eq,Array.getElem?_map,h];show Az hq
def fu(c:Nat->Nat->SG Bool)(left:Bool)(key:Nat)(NQ:Array Nat)(i:Nat):SG Bool:=NQ[i]?.bind λx=>if left=true then c x key else(c key x).map (!·)
def gUp(b:Nat->SG Bool)(m:Nat)(g:Nat×Nat):SG (Bool×Nat×Nat):=if g.2>=m then some (true,g) else(b g.2).map λy=>if y=true then(false,g.2,2*g.2+1) else(true,g)
def gDn(b:Nat->SG Bool)(m:Nat)(g:Nat×Nat):SG (Bool×Nat×Nat):=if g.2>=m then some (true,g) else(b g.2).map λy=>if y=true then(true,g) else(false,g.2,2*g.2+1)
def ji(b:Nat->SG Bool)(g:Nat×Nat):SG (Bool×Nat×Nat):=
 if g.1>=g.2 then some (true,g) else(b (g.1+(g.2-g.1)/2)).map λy=>if y=true then(false,g.1+(g.2-g.1)/2+1,g.2) else(false,g.1,g.1+(g.2-g.1)/2)
def gal(c:Nat->Nat->SG Bool)(left:Bool)(key:Nat)(NQ:Array Nat)(base n MX:Nat):SG Nat:=
 (fu c left key NQ (base+MX)).bind λright=>
  (if right=true then(aB (gUp (λo=>fu c left key NQ (base+(MX+o))) (n-MX)) n (0,1)).map λg=>(MX+g.1+1,MX+min g.2 (n-MX))
   else(aB (gDn (λo=>fu c left key NQ (base+(MX-o))) (MX+1)) n (0,1)).map λg=>(MX+1-min g.2 (MX+1),MX-g.1)).bind λlh=>
   (aB (ji λi=>fu c left key NQ (base+i)) n lh).map (·.2)
def jk(hc:di kd prog w A s item c){st:SortSt}(hk:kindOf st=kd){key:Nat}(h:fu c left key NQ i=some b){Q:Option Bool->SortSt->Prop}(hq:Q (some b) st):
  wpS (model prog w) A E s (do
   let x<-elem' (NQ.map item) i
   if left=true then lt' x (item key) else do
    let y<-lt' (item key) x
    pure (y.map (!·))) Q st:=by
 have{x,hx,h}:=AC.mp h;show AZ (fT hx ?_);by_cases hl:left=true
 .rw[A6 hl] at h⊢;show kF hc hk h hq
 .rw[A5 hl] at h⊢;have{y,hy,0}:=AB.mp h;show AZ (kF hc hk hy (Az hq))
def nh(hc:di kd prog w A s item c){st:SortSt}(hk:kindOf st=kd){key:Nat}{k:Nat}(h:gal c left key NQ base n MX=some k){Q:SG Nat->SortSt->Prop}(hq:Q (some k) st):
  wpS (model prog w) A E s (Fw left (item key) (NQ.map item) base n MX) Q st:=by
 unfold wpS
 wp_delta
 wp_delta
 wp_delta
 show(show wpS _ _ _ _ _ _ _ from ?_);dsimp only;have{right,hr,h}:=AC.mp h;have{lh,h1,h2}:=AC.mp h;have{lh2,h3,0}:=AB.mp h2;show AZ (jk hc hk hr ?_);dsimp only;by_cases e:right=true
 .rw[A6 e] at h1⊢;have{g0,h0,0}:=AB.mp h1;show AZ (cW (γ:=Nat×Nat) (step:=gUp (λo=>fu c left key NQ (base+(MX+o))) (n-MX)) (λg=>(none,g.1,g.2)) (λ_=>st) (λx g r hs R hR=>?_) (a:=0) (b:=n) (g:=(0,1)) (g':=g0) h0 ?_)
  .unfold gUp at hs;dsimp only;by_cases e:g.2>=n-MX
   .rw[A6 e] at hs⊢;cases hs;show Az hR
   .rw[A5 e] at hs⊢;have{y,hy,0}:=AB.mp hs;show AZ (jk hc hk hy ?_);cases y<;>show Az hR
  .dsimp only;show AZ (cW (γ:=Nat×Nat) (step:=ji λi=>fu c left key NQ (base+i)) (λg=>(none,g.1,g.2)) (λ_=>st) (λx g r hs R hR=>?_) (a:=0) (b:=n) (g:=(MX+g0.1+1,MX+min g0.2 (n-MX))) (g':=lh2) h3 (Az hq));unfold ji at hs;dsimp only;by_cases e:g.1>=g.2
   .rw[A6 e] at hs⊢;cases hs;show Az hR
   .rw[A5 e] at hs⊢;have{y,hy,0}:=AB.mp hs;show AZ (jk hc hk hy ?_);cases y<;>show Az hR
 .rw[A5 e] at h1⊢;have{g0,h0,0}:=AB.mp h1;show AZ (cW (γ:=Nat×Nat) (step:=gDn (λo=>fu c left key NQ (base+(MX-o))) (MX+1)) (λg=>(none,g.1,g.2)) (λ_=>st) (λx g r hs R hR=>?_) (a:=0) (b:=n) (g:=(0,1)) (g':=g0) h0 ?_)
  .unfold gDn at hs;dsimp only;by_cases e:g.2>=MX+1
   .rw[A6 e] at hs⊢;cases hs;show Az hR
   .rw[A5 e] at hs⊢;have{y,hy,0}:=AB.mp hs;show AZ (jk hc hk hy ?_);cases y<;>show Az hR
  .dsimp only;show AZ (cW (γ:=Nat×Nat) (step:=ji λi=>fu c left key NQ (base+i)) (λg=>(none,g.1,g.2)) (λ_=>st) (λx g r hs R hR=>?_) (a:=0) (b:=n) (g:=(MX+1-min g0.2 (MX+1),MX-g0.1)) (g':=lh2) h3 (Az hq));unfold ji at hs;dsimp only;by_cases e:g.1>=g.2
   .rw[A6 e] at hs⊢;cases hs;show Az hR
   .rw[A5 e] at hs⊢;have{y,hy,0}:=AB.mp hs;show AZ (jk hc hk hy ?_);cases y<;>show Az hR
def ni(a b Nb:Array Nat)(ia ib:Nat):Array Nat:=Nb++a.extract ia a.size++b.extract ib b.size
def nk(a b Nb:Array Nat)(ia ib:Nat):Array Nat:=Nb++b.extract ib b.size++a.extract ia a.size
def mLo(c:Nat->Nat->SG Bool)(a b:Array Nat)(sg:Nat):SG (Array Nat×Nat):=
 b[0]?.bind λy=>
  if(1==b.size)=true then some (ni a b #[y] 0 1,sg)
  else if(0+1==a.size)=true then some (nk a b #[y] 0 1,sg)
  else none
abbrev stG(st:SortSt)(g:Nat):SortSt:=SortSt.mk' (kindOf st) (arrOf st) (pendingOf st) g (failedOf st)
def FB(a b Nb:Array Nat)(ia ib:Nat):(ni a b Nb ia ib).map item=Nb.map item++(a.map item).extract ia (a.map item).size++(b.map item).extract ib (b.map item).size:=by
 unfold ni;simp
def FC(a b Nb:Array Nat)(ia ib:Nat):(nk a b Nb ia ib).map item=Nb.map item++(b.map item).extract ib (b.map item).size++(a.map item).extract ia (a.map item).size:=by
 unfold nk;simp
def FD{st:SortSt}{Q:PUnit->SortSt->Prop}(h:Q ⟨⟩ (stG st g)):wpS (model prog w) A E s (FA g) Q st:=by
 unfold wpS
 wp_delta
 wp_delta
 wp_delta
 show(show wpS _ _ _ _ _ _ _ from ?_);show Cp h
def ui{st:SortSt}(h:NQ[i]? =some x){Q:Keyed->SortSt->Prop}(hq:Q (item x) st):wpS (model prog w) A E s ((sortPriv%PySem.Builtin.elem) (NQ.map item) i) Q st:=fT h hq
def uj(hc:di kd prog w A s item c){st:SortSt}(hk:kindOf st=kd)(h:c i j=some b)(hq:Q (some b) st):wpS (model prog w) A E s ((sortPriv%PySem.Builtin.lt) (item i) (item j)) Q st:=kF hc hk h hq
def uk(hc:di kd prog w A s item c){st:SortSt}(hk:kindOf st=kd){key:Nat}{k:Nat}(h:gal c left key NQ base n MX=some k){Q:SG Nat->SortSt->Prop}(hq:Q (some k) st):
  wpS (model prog w) A E s ((sortPriv%PySem.Builtin.gallop) left (item key) (NQ.map item) base n MX) Q st:=nh hc hk h hq
def um{st:SortSt}{Q:PUnit->SortSt->Prop}(h:Q ⟨⟩ (stG st g)):wpS (model prog w) A E s ((sortPriv%PySem.Builtin.setMinGallop) g) Q st:=FD h
def FE(hc:di kd prog w A s item c){st:SortSt}(hk:kindOf st=kd){b:Array Nat}(h:mLo c a b (gallopOf st)=some (Nb,g)){Q:Array Keyed->SortSt->Prop}(hq:Q (Nb.map item) (stG st g)):
  wpS (model prog w) A E s (Fx (a.map item) (b.map item)) Q st:=by
 have{κ,ar,pd,g0,fl}:=st;unfold wpS
 wp_delta
 wp_delta
 wp_delta
 show(show wpS _ _ _ _ _ _ _ from ?_);show AZ (wpS_lift (C1 {0,?_}));unfold mLo at h;have{y,hy,h}:=AC.mp h;show AZ (fT hy ?_);by_cases e1:(1==b.size)=true
 .rw[A6 e1] at h;cases h;rw[A6 (by simpa using e1)];show Az ?_;rw[FB] at hq;simpa using hq
 rw[A5 e1] at h;by_cases e2:(0+1==a.size)=true
 .rw[A6 e2] at h;cases h;rw[A5 (by simpa using e1),A6 (by simpa using e2)];show Az ?_;rw[FC] at hq;simpa using hq
 rw[A5 e2] at h;cases h
end
section
variable{prog:Sy}{w:SB}{A:SC}{E:Sv->Sw->Prop}{s:Sw}{item:Nat->Keyed}{c:Nat->Nat->SG Bool}{kd:SortKind}
def nu(a b Nb:Array Nat)(na nb:Nat):Array Nat:=a.extract 0 na++b.extract 0 nb++Nb.reverse
def uo(a b Nb:Array Nat)(na nb:Nat):Array Nat:=b.extract 0 nb++a.extract 0 na++Nb.reverse
abbrev H1:=SG (Array Nat)×Nat×Nat×Array Nat×Nat×Nat
abbrev H3:=(SG (Array Nat)×Nat×Nat×Array Nat×Nat×Nat×Nat)×Nat
abbrev H0:=(SG (Array Nat)×Nat×Nat×Array Nat×Nat)×Nat
def hi1(c:Nat->Nat->SG Bool)(a b:Array Nat)(mg:Nat)(g:H1):SG (Bool×H1):=
 b[g.2.2.1-1]?.bind λy=>a[g.2.1-1]?.bind λx=>(c y x).bind λq=>
  if q=true then
   if(g.2.1-1==0)=true then none
   else if g.2.2.2.2.1+1>=mg then some (true,none,g.2.1-1,g.2.2.1,g.2.2.2.1.push x,g.2.2.2.2.1+1,0)
   else some (false,none,g.2.1-1,g.2.2.1,g.2.2.2.1.push x,g.2.2.2.2.1+1,0)
  else
   if(g.2.2.1-1==1)=true then none
   else if g.2.2.2.2.2+1>=mg then some (true,none,g.2.1,g.2.2.1-1,g.2.2.2.1.push y,0,g.2.2.2.2.2+1)
   else some (false,none,g.2.1,g.2.2.1-1,g.2.2.2.1.push y,0,g.2.2.2.2.2+1)
def uq(c:Nat->Nat->SG Bool)(a b Nb:Array Nat)(na nb mg bc:Nat):SG (Bool×H3):=
 b[nb-1]?.bind λy=>(gal c false y a 0 na (na-1)).bind λRM=>
  if na-RM>0 then
   if(RM==0)=true then some (true,(some (nu a b (Nb++(a.extract RM na).reverse) RM nb),RM,nb,Nb++(a.extract RM na).reverse,mg,na-RM,bc),mg)
   else none
  else none
def hi3(c:Nat->Nat->SG Bool)(a b:Array Nat)(g:H3):SG (Bool×H3):=
 if g.1.2.2.2.2.1>1 then uq c a b g.1.2.2.2.1 g.1.2.1 g.1.2.2.1 (g.1.2.2.2.2.1-1) g.1.2.2.2.2.2.2
 else none
def hi0(c:Nat->Nat->SG Bool)(a b:Array Nat)(g:H0):SG (Bool×H0):=
 (aB (hi1 c a b g.1.2.2.2.2) (a.size+b.size) (none,g.1.2.1,g.1.2.2.1,g.1.2.2.2.1,0,0)).bind λt=>
  match t.1 with
  |some r=>some (true,(some r,t.2.1,t.2.2.1,t.2.2.2.1,g.1.2.2.2.2),g.2)
  |none=>(aB (hi3 c a b) (a.size+b.size) ((none,t.2.1,t.2.2.1,t.2.2.2.1,g.1.2.2.2.2+1,t.2.2.2.2.1,t.2.2.2.2.2),g.2)).bind λu=>
   match u.1.1 with
   |some r=>some (true,(some r,u.1.2.1,u.1.2.2.1,u.1.2.2.2.1,u.1.2.2.2.2.1),u.2)
   |none=>none
def mHi(c:Nat->Nat->SG Bool)(a b:Array Nat)(sg:Nat):SG (Array Nat×Nat):=
 a[a.size-1]?.bind λx=>
  if(a.size-1==0)=true then none
  else if(b.size==1)=true then none
  else(aB (hi0 c a b) (a.size+b.size) ((none,a.size-1,b.size, #[x],sg),sg)).bind λt=>t.1.1.map λr=>(r,t.2)
def ur(a b Nb:Array Nat)(na nb:Nat):(nu a b Nb na nb).map item=(a.map item).extract 0 na++(b.map item).extract 0 nb++(Nb.map item).reverse:=by
 unfold nu;simp
def ut(a b Nb:Array Nat)(na nb:Nat):(uo a b Nb na nb).map item=(b.map item).extract 0 nb++(a.map item).extract 0 na++(Nb.map item).reverse:=by
 unfold uo;simp
def FF(hc:di kd prog w A s item c){st:SortSt}(hk:kindOf st=kd){b:Array Nat}(h:mHi c a b (gallopOf st)=some (Nb,g)){Q:Array Keyed->SortSt->Prop}(hq:Q (Nb.map item) (stG st g)):
  wpS (model prog w) A E s (Fy (a.map item) (b.map item)) Q st:=by
 have{κ,ar,pd,g0,fl}:=st;unfold wpS
 wp_delta
 wp_delta
 wp_delta
 show(show wpS _ _ _ _ _ _ _ from ?_);dsimp only;show AZ (wpS_lift (C1 {0,?_}));unfold mHi at h;have{y,hy,h}:=AC.mp h;simp only[Array.size_map];show AZ (fT hy ?_);have ey:(#[item y]:Array Keyed)=(#[y]:Array Nat).map item:=by simp
 simp only[ey];by_cases e1:(a.size-1==0)=true
 .rw[A6 e1] at h;cases h
 rw[A5 e1] at h⊢;by_cases e2:(b.size==1)=true
 .rw[A6 e2] at h;cases h
 rw[A5 e2] at h⊢;show AZ (Dd ?_);have{t,h0,h}:=AC.mp h;have{r,hr,h}:=AB.mp h;cases h;show AZ (cW (γ:=H0) (step:=hi0 c a b) (λg=>(g.1.1.map (·.map item),g.1.2.1,g.1.2.2.1,g.1.2.2.2.1.map item,g.1.2.2.2.2)) (λg=>SortSt.mk' κ ar pd g.2 fl) (λx g r hs R hR=>?_) (a:=0) (b:=a.size+b.size) (g:=((none,a.size-1,b.size, #[y],g0),g0)) (g':=t) h0 ?_)
 .unfold hi0 at hs;have{t1,h1,hs}:=AC.mp hs;dsimp only;show AZ (cW (γ:=H1) (step:=hi1 c a b g.1.2.2.2.2) (λg=>(g.1.map (·.map item),g.2.1,g.2.2.1,g.2.2.2.1.map item,g.2.2.2.2.1,g.2.2.2.2.2)) (λ_=>SortSt.mk' κ ar pd g.2 fl) (λx u r hs R hR=>?_) (a:=0) (b:=a.size+b.size) (g:=(none,g.1.2.1,g.1.2.2.1,g.1.2.2.2.1,0,0)) (g':=t1) h1 ?_)
  .unfold hi1 at hs;dsimp only;have hk2:kindOf (SortSt.mk' κ ar pd g.2 fl)=kd:=hk
   repeat' (first|(rw[AC] at hs;have{_,_,hs}:=hs)|split at hs)
   all_goals
    cases hs<;>(simp only[Option.map_some,Option.map_none,ur,ut,Array.map_push,Array.map_append,Array.map_extract,Array.map_reverse,Array.size_map,if_true,Bool.false_eq_true,if_false] at hR;repeat (first|with_reducible show wpS_bind (ui (by assumption) ?_)|with_reducible show wpS_bind (uj (by assumption) (by assumption) (by assumption) ?_)|with_reducible show wpS_bind (uk (by assumption) (by assumption) (by assumption) ?_)|with_reducible show wpS_bind (um ?_)|rw[if_pos (by assumption)]|rw[if_neg (by assumption)]|show wpS_pure (by assumption)|dsimp only))
  .dsimp only;cases e:t1.1 with
   |some r=>
    rw[e] at hs;cases hs;show Az hR
   |none=>
    rw[e] at hs;have{t3,h3,hs}:=AC.mp hs;simp only[Option.map_none];show AZ (wpS_lift (C1 {0,?_}));show AZ (cW (γ:=H3) (step:=hi3 c a b) (λg=>(g.1.1.map (·.map item),g.1.2.1,g.1.2.2.1,g.1.2.2.2.1.map item,g.1.2.2.2.2.1,g.1.2.2.2.2.2.1,g.1.2.2.2.2.2.2)) (λg=>SortSt.mk' κ ar pd g.2 fl) (λx u r hs R hR=>?_) (a:=0) (b:=a.size+b.size) (g:=((none,t1.2.1,t1.2.2.1,t1.2.2.2.1,g.1.2.2.2.2+1,t1.2.2.2.2.1,t1.2.2.2.2.2),g.2)) (g':=t3) h3 ?_)
    .have hk2:∀g,kindOf (SortSt.mk' κ ar pd g fl)=kd:=λ_=>hk;unfold hi3 uq at hs;dsimp only;by_cases m:u.1.2.2.2.2.1>1
     .rw[A6 m] at hs⊢;have RN:=hk2 (u.1.2.2.2.2.1-1)
      repeat' (first|(rw[AC] at hs;have{_,_,hs}:=hs)|split at hs)
      all_goals
       cases hs<;>(simp only[Option.map_some,Option.map_none,ur,ut,Array.map_push,Array.map_append,Array.map_extract,Array.map_reverse,Array.size_map,if_true,Bool.false_eq_true,if_false] at hR;repeat (first|with_reducible show wpS_bind (ui (by assumption) ?_)|with_reducible show wpS_bind (uj (by assumption) (by assumption) (by assumption) ?_)|with_reducible show wpS_bind (uk (by assumption) (by assumption) (by assumption) ?_)|with_reducible show wpS_bind (um ?_)|rw[if_pos (by assumption)]|rw[if_neg (by assumption)]|show wpS_pure (by assumption)|dsimp only))
     .rw[A5 m] at hs;cases hs
    .dsimp only;cases e:t3.1.1 with
     |some r=>
      rw[e] at hs;cases hs;show Az hR
     |none=>
      rw[e] at hs;cases hs
 .dsimp only;rw[hr];show Az hq
end
def gv{γ:Type}(step:Nat->γ->SG (Bool×γ)):Nat->Nat->γ->SG γ
 |0,_,g=>some g
 |f+1,i,g=>(step i g).bind λr=>if r.1=true then some r.2 else gv step f (i+1) r.2
section
variable{M:Model}{A:SC}{E:Sv->Sw->Prop}{s:Sw}{σ:Type}
def FG{β γ:Type}{step:Nat->γ->SG (Bool×γ)}(φ:γ->β)(τ:γ->σ){f:Nat->β->StateT σ Sem (ForInStep β)}{Q:β->σ->Prop}
  (hs:∀x g r,step x g=some r->∀R:ForInStep β->σ->Prop,R (if r.1=true then .done (φ r.2) else .yield (φ r.2)) (τ r.2)->wpS M A E s (f x (φ g)) R (τ g))
  {a b:Nat}{g g':γ} (h:gv step (b-a) a g=some g') (hq:Q (φ g') (τ g')):wpS M A E s (forIn [a:b] (φ g) f) Q (τ g):=by
 rw[Std.Legacy.Range.forIn_eq_forIn_range'];have hsz:([a:b]:Std.Legacy.Range).size=b-a:=by simp[Std.Legacy.Range.size]
 change wpS M A E s (forIn (List.range' a ([a:b]:Std.Legacy.Range).size 1) (φ g) f) Q (τ g);rw[hsz];have go:∀(k i:Nat) (g:γ),gv step k i g=some g'->wpS M A E s (forIn (List.range' i k 1) (φ g) f) Q (τ g):=by
  intro k;induction k with
  |zero=>
   intro i g h;cases h;rw[List.range'_zero,List.forIn_nil];show Az hq
  |succ k ih=>
   intro i g h;rw[List.range'_succ,Cu];unfold gv at h;have{r,hr,h}:=AC.mp h;show AZ (hs i g r hr _ ?_);by_cases hd:r.1=true
   .rw[A6 hd] at h⊢;cases h;show Az hq
   .rw[A5 hd] at h⊢;show ih (i+1) r.2 h
 show go _ a g h
end
section
variable{prog:Sy}{w:SB}{A:SC}{E:Sv->Sw->Prop}{s:Sw}{item:Nat->Keyed}{c:Nat->Nat->SG Bool}{kd:SortKind}{pd:Array (Nat×Nat×Nat)}{g:Nat}
abbrev sst(kd:SortKind)(item:Nat->Keyed)(p:Array Nat)(pd:Array (Nat×Nat×Nat))(g:Nat):SortSt:=SortSt.mk' kd (p.map item) pd g none
def cAt(c:Nat->Nat->SG Bool)(p:Array Nat)(i j:Nat):SG Bool:=p[i]?.bind λx=>p[j]?.bind λy=>c x y
def g7(hc:di kd prog w A s item c)(h:cAt c p i j=some b)(hq:Q (some b) (sst kd item p pd g)):wpS (model prog w) A E s (ltAt' i j) Q (sst kd item p pd g):=by
 have{x,hx,h}:=AC.mp h;have{y,hy,h}:=AC.mp h;rw[ltAt'_eq];show AZ (Dd ?_);dsimp only;show AZ (fT hx (AZ (fT hy (kF hc rfl h hq))))
def rev(p:Array Nat)(i j:Nat):Array Nat:=mirror p i j ((j-i)/2)
def FH{Q:Unit->SortSt->Prop}(h:Q () (sst kd item (rev p i j) pd g)):wpS (model prog w) A E s (reverseSlice' i j) Q (sst kd item p pd g):=by
 rw[reverseSlice'_eq];show Cp ?_;have e1:mirror (p.map item) i j ((j-i)/2)=(rev p i j).map item:=W.kas_swaps_map item (λk=>i+k) (λk=>j-1-k) _ p;change Q () (SortSt.mk' kd (mirror (p.map item) i j ((j-i)/2)) pd g none);rw[e1];show h
def FI{k:Nat}{Q:Unit->SortSt->Prop}(h:Q () (sst kd item (bubble p k (k-l)) pd g)):wpS (model prog w) A E s (moveDown' k l) Q (sst kd item p pd g):=by
 rw[moveDown'_eq];show Cp ?_;have e1:bubble (p.map item) k (k-l)=(bubble p k (k-l)).map item:=W.kas_swaps_map item (λi=>k-i) (λi=>k-i-1) _ p;change Q () (SortSt.mk' kd (bubble (p.map item) k (k-l)) pd g none);rw[e1];show h
def g8(c:Nat->Nat->SG Bool)(p:Array Nat)(l:Nat)(m:Nat):SG (Bool×Nat):=(cAt c p (l+m) (l+m-1)).map λq=>if q=true then(true,m) else(false,m+1)
def jm(c:Nat->Nat->SG Bool)(l:Nat)(t:Array Nat×Nat×Nat):SG (Bool×Array Nat×Nat×Nat):=
 (cAt c t.1 (l+t.2.1) (l+t.2.1-1)).bind λq=>
  if q=true then if t.2.2>0 then none else some (false,t.1,t.2.1+1,0)
  else(cAt c t.1 (l+t.2.1-1) (l+t.2.1)).bind λr=>if r=true then some (true,t.1,t.2.1,t.2.2) else none
def nv(c:Nat->Nat->SG Bool)(l n:Nat)(p:Array Nat)(m:Nat):SG (Nat×Array Nat):=(aB (g8 c (rev p l (l+m)) l) (n-m) m).map λk=>(k,rev p l (l+m))
def ny(c:Nat->Nat->SG Bool)(l n:Nat)(p:Array Nat)(m:Nat):SG (Nat×Array Nat):=
 (aB (jm c l) (n-(m+1)) (p,m+1,0)).bind λt=>if t.2.2>0 then none else nv c l n t.1 t.2.1
def jn(c:Nat->Nat->SG Bool)(l n:Nat)(p:Array Nat):SG (Nat×Array Nat):=
 (aB (g8 c p l) (n-1) 1).bind λm=>if(m==n)=true then some (m,p) else if m>1 then(cAt c p l (l+m-1)).bind λq=>if q=true then some (m,p) else none else ny c l n p m
def FK(hc:di kd prog w A s item c){k:Nat}(h:jn c l n p=some (k,p')){Q:SG Nat->SortSt->Prop}(hq:Q (some k) (sst kd item p' pd g)):wpS (model prog w) A E s (countRun' l n) Q (sst kd item p pd g):=by
 unfold wpS
 wp_delta
 wp_delta
 wp_delta
 show(show wpS _ _ _ _ _ _ _ from ?_);dsimp only;unfold jn at h;have{m,h0,h}:=AC.mp h;have hz:=h0;show AZ (cW (γ:=Nat) (step:=g8 c _ l) (λm=>(none,m)) (λ_=>sst kd item _ pd g) (λx m r hs R hR=>?_) hz ?_)
 .have{q,Ph,0}:=AB.mp hs;show AZ (g7 hc Ph ?_);cases q<;>show Az hR
 dsimp only;by_cases e1:(m==n)=true
 .rw[A6 e1] at h⊢;cases h;show Az hq
 rw[A5 e1] at h⊢;by_cases e2:m>1
 .rw[A6 e2] at h⊢;have{q,Ph,h}:=AC.mp h;show AZ (g7 hc Ph ?_);dsimp only;by_cases e3:q=true
  .rw[A6 e3] at h⊢;cases h;show Az hq
  rw[A5 e3] at h;cases h
 .rw[A5 e2] at h⊢;unfold ny nv at h;show AZ (wpS_lift (C1 {0,?_}));have{t,h1,h2}:=AC.mp h;show AZ (cW (γ:=Array Nat×Nat×Nat) (step:=jm c l) (λt=>(none,t.2.1,t.2.2)) (λt=>sst kd item t.1 pd g) (λx t r hs R hR=>?_) h1 ?_)
  .unfold jm at hs;have{q,Ph,hs}:=AC.mp hs;show AZ (g7 hc Ph ?_);cases q with
   |true=>
    dsimp only;rw[A6 rfl] at hs⊢;split at hs
    .rename_i z;cases hs
    .rename_i z;rw[A5 z];cases hs;show Az hR
   |false=>
    dsimp only;rw[A5 (by simp)] at hs⊢;have{r,hr1,hs}:=AC.mp hs;show AZ (g7 hc hr1 ?_);cases r<;>(cases hs<;>show Az hR)
  .dsimp only;split at h2
   .cases h2
   .rename_i z;rw[A5 z];show AZ (FH ?_);have{k2,h3,h4}:=AB.mp h2;cases h4;have hz:=h3;show AZ (cW (γ:=Nat) (step:=g8 c _ l) (λm=>(none,m)) (λ_=>sst kd item _ pd g) (λx m r hs R hR=>?_) hz ?_)
    .have{q,Ph,0}:=AB.mp hs;show AZ (g7 hc Ph ?_);cases q<;>show Az hR
    show Az hq
def bPl(c:Nat->Nat->SG Bool)(p:Array Nat)(l k:Nat)(t:Nat×Nat):SG (Bool×Nat×Nat):=
 if t.1>=t.2 then some (true,t.1,t.2) else(cAt c p (l+k) (l+(t.1+t.2)/2)).bind λq=>if q=true then some (false,t.1,(t.1+t.2)/2) else some (false,(t.1+t.2)/2+1,t.2)
def jo(c:Nat->Nat->SG Bool)(l k:Nat)(p:Array Nat):SG (Bool×Array Nat):=(aB (bPl c p l k) k (0,k)).map λt=>(false,bubble p (l+k) (l+k-(l+t.1)))
def nz(c:Nat->Nat->SG Bool)(l n ok:Nat)(p:Array Nat):SG (Array Nat):=gv (jo c l) (n-max ok 1) (max ok 1) p
def FL(hc:di kd prog w A s item c){ok:Nat}(h:nz c l n ok p=some p'){Q:Bool->SortSt->Prop}(hq:Q true (sst kd item p' pd g)):wpS (model prog w) A E s (binarySort' l n ok) Q (sst kd item p pd g):=by
 unfold wpS
 wp_delta
 wp_delta
 wp_delta
 show(show wpS _ _ _ _ _ _ _ from ?_);dsimp only;show AZ (FG (γ:=Array Nat) (step:=jo c l) (λ_=>(none,())) (λp=>sst kd item p pd g) (λk p r hs R hR=>?_) h (Az hq));have{t,ht,0}:=AB.mp hs;show AZ (cW (γ:=Nat×Nat) (step:=bPl c p l k) (λt=>(none,t.1,t.2)) (λ_=>sst kd item p pd g) (λx t r hs R hR=>?_) (a:=0) (b:=k) ht ?_)
 .unfold bPl at hs;dsimp only;by_cases e:t.1>=t.2
  .rw[A6 e] at hs⊢;cases hs;show Az hR
  .rw[A5 e] at hs⊢;have{q,Ph,hs}:=AC.mp hs;show AZ (g7 hc Ph ?_);cases q<;>(cases hs;show Az hR)
 .show AZ (FI (Az hR))
end
section
variable{prog:Sy}{w:SB}{A:SC}{E:Sv->Sw->Prop}{s:Sw}{item:Nat->Keyed}{c:Nat->Nat->SG Bool}{kd:SortKind}
abbrev Pd:=Array (Nat×Nat×Nat)
def lay(p:Array Nat)(o:Nat)(xs:Array Nat):Array Nat:=xs.toList.zipIdx.foldl (λa x=>a.setIfInBounds (o+x.2) x.1) p
def uu(p:Array Nat)(o:Nat)(xs:Array Nat):(xs.map item).toList.zipIdx.foldl (λa x=>a.setIfInBounds (o+x.2) x.1) (p.map item)=(lay p o xs).map item:=by
 have go:∀(l:SD Nat) (k:Nat) (p:Array Nat),((l.map item).zipIdx k).foldl (λa x=>a.setIfInBounds (o+x.2) x.1) (p.map item)=((l.zipIdx k).foldl (λa x=>a.setIfInBounds (o+x.2) x.1) p).map item:=by
  intro l;induction l with
  |nil=>intro k p;rfl
  |cons x l ih=>
   intro k p;rw[AG,List.zipIdx_cons,List.zipIdx_cons,CH,CH];rw[show(p.map item).setIfInBounds (o+k) (item x)=(p.setIfInBounds (o+k) x).map item from(Array.map_setIfInBounds ..).symm];show ih _ _
 rw[Array.toList_map];show go _ 0 p
abbrev Ts:=Array Nat×Pd×Nat
def mAt(c:Nat->Nat->SG Bool)(i:Nat)(t:Ts):SG Ts:=
 t.2.1[i]?.bind λu=>t.2.1[i+1]?.bind λv=>t.1[v.1]?.bind λy=>(gal c false y t.1 u.1 u.2.1 0).bind λk=>
  if(u.2.1-k==0)=true then none
  else t.1[u.1+k+(u.2.1-k)-1]?.bind λx=>(gal c true x t.1 v.1 v.2.1 (v.2.1-1)).bind λnb=>
   if(nb==0)=true then none
   else if u.2.1-k<=nb then(mLo c (t.1.extract (u.1+k) v.1) (t.1.extract v.1 (v.1+nb)) t.2.2).bind λr=>some (lay t.1 (u.1+k) r.1,(t.2.1.setIfInBounds i (u.1,u.2.1+v.2.1,u.2.2)).eraseIdxIfInBounds (i+1),r.2)
   else(mHi c (t.1.extract (u.1+k) v.1) (t.1.extract v.1 (v.1+nb)) t.2.2).bind λr=>some (lay t.1 (u.1+k) r.1,(t.2.1.setIfInBounds i (u.1,u.2.1+v.2.1,u.2.2)).eraseIdxIfInBounds (i+1),r.2)
def FM{M:Model}{σ:Type}{x:σ}{Q:PUnit->σ->Prop}{st:σ}(h:Q ⟨⟩ x):wpS M A E s (set x:StateT σ Sem PUnit) Q st:=by
 unfold wpS;change wpAny M A (pure ((),x)) _ E s;show A3 {0,h}
def FN(hc:di kd prog w A s item c){t t':Ts}(h:mAt c i t=some t'){Q:Bool->SortSt->Prop}(hq:Q true (sst kd item t'.1 t'.2.1 t'.2.2)):wpS (model prog w) A E s (mergeAt' i) Q (sst kd item t.1 t.2.1 t.2.2):=by
 unfold wpS
 wp_delta
 wp_delta
 wp_delta
 show(show wpS _ _ _ _ _ _ _ from ?_);dsimp only;show AZ (Dd ?_);unfold mAt at h;have{{sa,na,pw},hu,h}:=AC.mp h;have{{sb,nb,pw2},hv,h}:=AC.mp h;have{y,hy,h}:=AC.mp h;have{k,hk,h}:=AC.mp h;dsimp only at*
 rw[hu,hv];dsimp only;show AZ (FM ?_);show AZ (fT hy ?_);show AZ (nh hc rfl hk ?_);dsimp only;by_cases e1:(na-k==0)=true
 .rw[A6 e1] at h;cases h
 rw[A5 e1] at h⊢;have{x,hx,h}:=AC.mp h;have{nb2,hk2,h}:=AC.mp h;show AZ (fT hx ?_);show AZ (nh hc rfl hk2 ?_);dsimp only;by_cases e2:(nb2==0)=true
 .rw[A6 e2] at h;cases h
 rw[A5 e2] at h⊢;have x1:(t.1.map item).extract (sa+k) sb=(t.1.extract (sa+k) sb).map item:=by simp
 have x2:(t.1.map item).extract sb (sb+nb2)=(t.1.extract sb (sb+nb2)).map item:=by simp
 rw[x1,x2];by_cases e3:na-k<=nb2
 .rw[A6 e3] at h⊢;have{r,hr,h}:=AC.mp h;cases h;show AZ (FE hc rfl hr ?_);show AZ (Cp ?_);show AZ (Dd (Az ?_));dsimp only;rw[uu];show hq
 .rw[A5 e3] at h⊢;have{r,hr,h}:=AC.mp h;cases h;show AZ (FF hc rfl hr ?_);show AZ (Cp ?_);show AZ (Dd (Az ?_));dsimp only;rw[uu];show hq
end
section
variable{prog:Sy}{w:SB}{A:SC}{E:Sv->Sw->Prop}{s:Sw}{item:Nat->Keyed}{c:Nat->Nat->SG Bool}{kd:SortKind}
def jp(c:Nat->Nat->SG Bool)(pw:Nat)(t:Ts):SG (Bool×Ts):=
 match(if t.2.1.size>1 then t.2.1[t.2.1.size-2]? else none) with
 |some u=>if u.2.2<=pw then some (true,t) else none
 |none=>some (true,t)
def g9(c:Nat->Nat->SG Bool)(size lo n:Nat)(t:Ts):SG (Bool×Nat×Ts):=
 match t.2.1.back? with
 |some u=>(aB (jp c (power' size (2*u.1+u.2.1) (2*u.1+u.2.1+u.2.1+n) size)) size t).bind λt'=>
  some (false,lo+n,t'.1,(t'.2.1.modify (t'.2.1.size-1) λx=>(x.1,x.2.1,power' size (2*u.1+u.2.1) (2*u.1+u.2.1+u.2.1+n) size)).push (lo,n,0),t'.2.2)
 |none=>some (false,lo+n,t.1,t.2.1.push (lo,n,0),t.2.2)
def fU(c:Nat->Nat->SG Bool)(size:Nat)(g:Nat×Ts):SG (Bool×Nat×Ts):=
 if g.1>=size then some (true,g) else(jn c g.1 (size-g.1) g.2.1).bind λr=>
  if r.1<minRun' size size 0 then(nz c g.1 (min (size-g.1) (minRun' size size 0)) r.1 r.2).bind λp2=>g9 c size g.1 (min (size-g.1) (minRun' size size 0)) (p2,g.2.2)
  else g9 c size g.1 r.1 (r.2,g.2.2)
def kG(c:Nat->Nat->SG Bool)(t:Ts):SG (Bool×Ts):=
 if t.2.1.size<=1 then some (true,t)
 else(mAt c (if Option.any (λx=>decide (x<t.2.1[t.2.1.size-2+1]?.elim 0 λx=>x.2.1)) (if t.2.1.size-2>0 then Option.map (λx=>x.2.1) t.2.1[t.2.1.size-2-1]? else none)=true then t.2.1.size-2-1 else t.2.1.size-2) t).bind λt'=>some (false,t')
def fw(c:Nat->Nat->SG Bool)(n:Nat):SG (Array Nat):=
 (aB (fU c n) n (0,List.toArray (List.range n), #[],7)).bind λg=>(aB (kG c) n g.2).map (·.1)
def FO(hc:di kd prog w A s item c)(h:fw c n=some p){Q:Unit->SortSt->Prop}(hq:∀pd g,Q () (sst kd item p pd g)):wpS (model prog w) A E s sortRuns' Q (sst kd item (List.toArray (List.range n)) #[] 7):=by
 rw[sortRuns'_eq];try dsimp only
 show AZ (Dd ?_);have hz:(arrOf (sst kd item (List.toArray (List.range n)) #[] 7)).size=n:=by
  change((List.toArray (List.range n)).map item).size=n;simp
 rw[hz];unfold fw at h;have{g,h1,h}:=AC.mp h;have{t,h2,0}:=AB.mp h;show AZ (cW (γ:=Nat×Ts) (step:=fU c n) (λg=>(none,g.1)) (λg=>sst kd item g.2.1 g.2.2.1 g.2.2.2) (λx g r hs R hR=>?_) (a:=0) (b:=n) (g:=(0,List.toArray (List.range n), #[],7)) h1 ?_)
 .unfold fU at hs;try dsimp only
  by_cases e1:g.1>=n
  .rw[A6 e1] at hs⊢;cases hs;show Az hR
  rw[A5 e1] at hs⊢;have{k,hk,hs}:=AC.mp hs;show AZ (FK hc hk ?_);try dsimp only
  by_cases e2:k.1<minRun' n n 0
  .rw[A6 e2] at hs⊢;have{p2,hp,hs}:=AC.mp hs;show AZ (wpS_lift (C1 {0,?_}));show AZ (FL hc hp ?_);simp only[BW,AN,Au];unfold g9 at hs;show AZ (Dd ?_);try dsimp only at hs⊢
   split at hs
   .rename_i u hu;rw[hu];try dsimp only
    have{t',ht,hs}:=AC.mp hs;cases hs;show AZ (cW (γ:=Ts) (step:=jp c _) (λ_=>(none,())) (λt=>sst kd item t.1 t.2.1 t.2.2) (λx t r hs R hR=>?_) (a:=0) ht ?_)
    .unfold jp at hs;show AZ (Dd ?_);try dsimp only
     split at hs
     .rename_i v hv;rw[hv];try dsimp only
      split at hs
      .rename_i z;rw[A6 z];cases hs;show Az hR
      .rename_i z;cases hs
     .rename_i hv;rw[hv];cases hs;show Az hR
    .try dsimp only
     show AZ (Cp (AZ (Cp (Az hR))))
   .rename_i hu;rw[hu];cases hs;show AZ (Cp (Az hR))
  .rw[A5 e2] at hs⊢;unfold g9 at hs;show AZ (Dd ?_);try dsimp only at hs⊢
   split at hs
   .rename_i u hu;rw[hu];try dsimp only
    have{t',ht,hs}:=AC.mp hs;cases hs;show AZ (cW (γ:=Ts) (step:=jp c _) (λ_=>(none,())) (λt=>sst kd item t.1 t.2.1 t.2.2) (λx t r hs R hR=>?_) (a:=0) ht ?_)
    .unfold jp at hs;show AZ (Dd ?_);try dsimp only
     split at hs
     .rename_i v hv;rw[hv];try dsimp only
      split at hs
      .rename_i z;rw[A6 z];cases hs;show Az hR
      .rename_i z;cases hs
     .rename_i hv;rw[hv];cases hs;show Az hR
    .try dsimp only
     show AZ (Cp (AZ (Cp (Az hR))))
   .rename_i hu;rw[hu];cases hs;show AZ (Cp (Az hR))
 .try dsimp only
  show AZ (cW (γ:=Ts) (step:=kG c) (λ_=>(none,())) (λt=>sst kd item t.1 t.2.1 t.2.2) (λx t r hs R hR=>?_) (a:=0) (b:=n) (g:=g.2) h2 (Az (hq _ _)));unfold kG at hs;show AZ (Dd ?_);try dsimp only
  by_cases e1:t.2.1.size<=1
  .rw[A6 e1] at hs⊢;cases hs;show Az hR
  rw[A5 e1] at hs⊢;have{t',hm,hs}:=AC.mp hs;cases hs;show AZ (FN hc hm (Az hR))
end
open PySem.Spec PySem.W
section
variable{prog:Sy}{w:SB}{A:SC}{E:Sv->Sw->Prop}{s:Sw}
def uv{kd:SortKind}{a:Sx}{c:Nat->Nat->SG Bool}{P:PySem.Fin->Sw->Prop}(ho:s.heap.get? a=some (seqObj "list" vs.toArray n))(h2:2<=vs.length)(hL:vs.length<=1000)(hp:p.size<=1000)
  (Px:∀(R:SortKind->Sw->Prop),R kd {s with heap:=bo s.heap a vs}->wpAny (model prog w) A (keyKind' vs.toArray) R E {s with heap:=bo s.heap a vs}) (hc:di kd prog w A {s with heap:=bo s.heap a vs} (fm vs) c) (hs:fw c vs.length=some p)
  (h:P (.done (.ret .none)) {s with heap:=sortedHeap s.heap a vs (p.map λi=>vs.getD i .none)}):wpAny (model prog w) A (Builtin.«list.sort» {[.ref a],[]}) P E s:=by
 rw[list_sort_plain];have ha:a<s.heap.objs.size:=AQ ho;show A0 (listItems_at ho rfl ?_);show A0 (D0 ho rfl ?_ (by rw[AK,At];lia) (AO _));obtain⟨e1,NC⟩:∃e1,(s.heap.update a (Obj.mapSeq λ_=>(#[]:Array Sv))).get? a=some (seqObj "list" #[] e1):={_,Cs ho (λ_=> #[])};show A0 (seqEpoch_at NC rfl ?_);show A0 (wpAny_newTuple ?_ (by change vs.length<=_;rw[At];lia));show A0 (D8 ?_ (AO _));show Av ?_;have Pw:(bo s.heap a vs).get? a=some (seqObj "list" #[] e1):=by
  rw[BF _ _ _ (by rw[C0,B9];show AR (Ao ha)),BF _ _ _ (by rw[B9];show AR ha)];show NC
 change wpAny (model prog w) A _ P E {s with heap:=bo s.heap a vs};dsimp only;have Qr:¬vs.toArray.size<2:=by rw[AK];lia
 rw[A5 Qr,A5 Qr];show A0 (Px _ ?_);have run:=FO (E:=E) hc hs (Q:=λ_ M0=>arrOf M0=p.map (fm vs)/\failedOf M0=none) λpd g=>{0,0};have est:sst kd (fm vs) (List.toArray (List.range vs.length)) #[] 7=SortSt.mk' kd (vs.toArray.zip vs.toArray) #[] 7 none:=by
  change SortSt.mk' kd ((List.toArray (List.range vs.length)).map (fm vs)) #[] 7 none=_;rw[Fk]
 rw[est] at run;show A0 (Bx run ?_ λ_ _ e=>e);rintro⟨⟨⟩,M0⟩ s' ⟨rfl,har,hf⟩;dsimp only at har hf⊢;have eo:(arrOf M0).map (·.2)=p.map λi=>vs.getD i .none:=by
  rw[har,Array.map_map];rfl
 rw[eo];show A0 (seqEpoch_at Pw rfl ?_);show A0 (D0 Pw rfl ?_ (AO _) (by rw[Array.size_map,At];lia));rw[hf];simp only[D9,AN,Au];show A3 h
def FP{kd:SortKind}{l:Sx}{c:Nat->Nat->SG Bool}{Q:Sv->Sw->Prop}(hl:s.heap.IsList l vs.toArray)(h2:2<=vs.length)(hL:vs.length<=1000)(hp:p.size<=1000)
  (Px:∀(R:SortKind->Sw->Prop) (E:Sv->Sw->Prop),R kd {s with heap:=eK s.heap vs}->wpAny (model prog w) A.in1.in1 (keyKind' vs.toArray) R E {s with heap:=eK s.heap vs}) (hc:di kd prog w A.in1.in1 {s with heap:=eK s.heap vs} (fm vs) c) (hs:fw c vs.length=some p)
  (h:Q (.ref (s.heap.objs.size+1)) {s with heap:=sortedAll s.heap vs (p.map λi=>vs.getD i .none)}):wpAny (model prog w) A (call (.builtin "sorted") [.ref l]) Q E s:=by
 show D5 kind_sorted plain_sorted entry_sorted (args_sorted1 _) ?_;unfold Builtin.«sorted»;show A0 (m:=checkCount "sorted" 1 1 _) (A3 ?_);show A0 (collect_list hl ?_ (by rw[At];lia));show A0 (D8 ?_ (by rw[At];lia));have hsz:((s.heap.push (seqObj "list" #[] 0)).update s.heap.objs.size (Obj.mapSeq (· ++vs.toArray))).objs.size=s.heap.objs.size+1:=by
  rw[B9,C0]
 have Qp:(((s.heap.push (seqObj "list" #[] 0)).update s.heap.objs.size (Obj.mapSeq (· ++vs.toArray))).push (seqObj "list" vs.toArray 0)).get? (s.heap.objs.size+1)=some (seqObj "list" vs.toArray 0):=by
  rw[<-hsz];show AE _ rfl
 change wpAny _ _ _ _ _ {s with heap:=((s.heap.push (seqObj "list" #[] 0)).update s.heap.objs.size (Obj.mapSeq (· ++vs.toArray))).push (seqObj "list" vs.toArray 0)};rw[hsz];show A0 (Av (An Dg {_,Qp,0} De (uv (s:={s with heap:=((s.heap.push (seqObj "list" #[] 0)).update s.heap.objs.size (Obj.mapSeq (· ++vs.toArray))).push (seqObj "list" vs.toArray 0)}) Qp h2 hL hp (λR=>Px R _) hc hs {1,?_}) (Dh _)));show A3 {1,h}
end
inductive rSorted(K:W.Frag)(vs:List V)(H:Hp)(Q:VK):Prop
 |mk (l:Addr) (rs:List V) (c:Nat->Nat->Option Bool) (p:Array Nat):vs=[.ref l]->SqL K H l rs->2<=rs.length->rs.length<=1000->p.size<=1000->((∀r∈rs,∃a ys,r=.ref a/\SqL K H a ys))->((∀i j b,c i j=some b->∃x y,rs[i]? =some x/\rs[j]? =some y/\Ask K H x y b))->fw c rs.length=some p->((∀i∈p.toList,i<rs.length))->(∀q,H q=none->Q (.ref q) (upd H q (.lst (p.toList.map λi=>rs.getD i .non))))->rSorted K vs H Q
section
variable{X:Cx}
def FQ{k:Nat}(hr:Room k X.A):bE X (.builtin "sorted") (rSorted X.K):=by
 intro MO s σ H xs us Q I r h;have{l,rs,c,p,0,hq,h2,hL,hps,hty,OF,hs,OS,q}:=h;have{u,0,rx}:=dq r;cases rx;have{MQ,r',pl,hz}:=I.list hq;have ln:=r'.length;have hu:=hr.un;have I2:Inv X MO σ H {s with heap:=eK s.heap MQ}:=I.kept (t':=s.toks) λb o e=>tQ e;show FP (kd:=oneType') (vs:=MQ) (c:=c) (p:=p) pl.isList (by lia) (by lia) hps (λR E hR=>kas_kind (T:= .type "list") (by lia) (λv hv=>?_) rfl rfl hR) (λi j b hb Q' Rc=>?_) (by rw[<-ln];show hs) ?_
 .have{i,hi,0}:=Bh.mp hv;have NO:i<rs.length:=by lia
  have{a,ys,e1,hy}:=hty rs[i] (CT NO);have{u,No,ru}:=r'.get (A2 NO);rw[A2 hi] at No;rw[e1] at ru;obtain rfl:u=Value.ref a:=ru;rw[Ad No];have{js,r2,p2,z2}:=I2.list hy;have{o,ho,hc,_}:=p2.isList;show hc▸(Looks.ld ho).andThen .now
 .have{x,y,hx,hy,a1,a2,xs,ys,d,es,fs,0,0,h1,h2,hd,he,hf,0}:=OF i j b hb;have{u,No,ru}:=r'.get hx;have{v,Qt,rv}:=r'.get hy;obtain rfl:u=Value.ref a1:=ru;obtain rfl:v=Value.ref a2:=rv;have g1:(fm MQ i).1=.ref a1:=by change MQ.getD i .none=_;rw[List.getD,No];rfl
  have g2:(fm MQ j).1=.ref a2:=by change MQ.getD j .none=_;rw[List.getD,Qt];rfl
  rw[g1,g2];show LtR.key I2 h1 h2 he hf (by rw[b9,b9];lia) Rc
 .have{e,he}:=sortedAll_at s.heap MQ (p.map λi=>MQ.getD i .none);have en:(p.map λi=>MQ.getD i .none)=List.toArray (p.toList.map λi=>MQ.getD i .none):=by
   apply Array.toList_inj.mp;simp
  rw[en] at he⊢;show{.ref (s.heap.objs.size+1),_,I.laid (t':=s.toks) (λ_ _=>sortedAll_old) (C' _) (show aE X.prog X.w _ _ _ (.lst (p.toList.map λi=>rs.getD i .non)) from{?_,_,e,kD r' p.toList OS,he}),0,q _ (I.hok.fresh (C' _))};rw[A1,Aj,At];lia
end
section
variable{X:Cx}
def uw(K:W.Frag):SD V->Hp->VK->Prop:=λvs H Q=>(∃(l:Sx) (rs:SD V),vs=[.ref l]/\SqL K H l rs/\rs.length<2/\∀q,H q=none->Q (.ref q) (upd H q (.lst rs)))\/rSorted K vs H Q
def ux{k:Nat}(hr:Room k X.A):bE X (.builtin "sorted") (uw X.K):=by
 intro MO s σ H xs us Q I r h;rcases h with h|h
 .have{l,rs,0,hq,h2,q}:=h;have{u,0,rx}:=dq r;cases rx;have{MQ,r',pl,hz}:=I.list hq;have ln:=r'.length;show tS (vs:=MQ) pl.isList (by lia) ?_;have{e,he}:=sortedAll_at s.heap MQ MQ.toArray;show{.ref (s.heap.objs.size+1),_,I.laid (t':=s.toks) (λ_ _=>sortedAll_old) (C' _) (show aE X.prog X.w _ _ _ (.lst rs) from{hz,MQ,e,r',he}),0,q _ (I.hok.fresh (C' _))}
 .show FQ hr MO s σ H xs us Q I r h
end
structure Ordr(c:Nat->Nat->Bool):Prop where
 asym:∀a b,c a b=true->c b a=false
 tr:∀a b d,c b a=false->c d b=false->c d a=false
section
variable{c:Nat->Nat->Bool}
abbrev at0(p:Array Nat)(i:Nat):Nat:=p.getD i 0
def Up(c:Nat->Nat->Bool)(p:Array Nat)(m:Nat):Prop:=∀i j,i<j->j<m->c (at0 p j) (at0 p i)=false
def Dn(c:Nat->Nat->Bool)(p:Array Nat)(m:Nat):Prop:=∀i j,i<j->j<m->c (at0 p i) (at0 p j)=false
def Up.more(O:Ordr c)(h:Up c p m)(hm:0<m)(e:c (at0 p m) (at0 p (m-1))=false):Up c p (m+1):=by
 intro i j Ox hj;by_cases hjm:j<m
 .show h i j Ox hjm
 .obtain rfl:j=m:=by lia
  by_cases hi:i=j-1
  .subst hi;show e
  .show O.tr _ _ _ (h i (j-1) (by lia) (by lia)) e
def Dn.more(O:Ordr c)(h:Dn c p m)(hm:0<m)(e:c (at0 p (m-1)) (at0 p m)=false):Dn c p (m+1):=by
 intro i j Ox hj;by_cases hjm:j<m
 .show h i j Ox hjm
 .obtain rfl:j=m:=by lia
  by_cases hi:i=j-1
  .subst hi;show e
  .show O.tr _ _ _ e (h i (j-1) (by lia) (by lia))
def uy(hj:j<=p.size)(k:Nat):at0 (kas_rev p i j) k=if i<=k/\k<j then at0 p (i+j-1-k) else at0 p k:=by
 have h:=getElem?_mirror_all (xs:=p) (i:=i) hj k;have e:∀q:Array Nat,∀k,at0 q k=(q[k]?).getD 0:=λq k=>by simp[at0,Array.getD];split<;>simp[*]
 rw[e,e,e];unfold kas_rev;rw[h];split<;>rfl
def MN(p:Array Nat)(i j:Nat):(kas_rev p i j).size=p.size:=mirror_size _ _ _ _
def Dn.rev_all(h:Dn c p m)(hm:m<=p.size):Up c (kas_rev p 0 m) m:=by
 intro i j Ox hj;rw[uy hm,uy hm,A6 {4,hj},A6 {4,4}];show h _ _ (by lia) (by lia)
def uz{k d:Nat}(hk:k<p.size)(hd:d<=k)(i:Nat):at0 (bubble p k d) i=if i=k-d then at0 p k else if k-d<i/\i<=k then at0 p (i-1) else at0 p i:=by
 have h:=getElem?_bubble hk d hd i;have e:∀q:Array Nat,∀k,at0 q k=(q[k]?).getD 0:=λq k=>by simp[at0,Array.getD];split<;>simp[*]
 rw[e,e,e,e,h];split
 .rfl
 .split<;>rfl
def cP(n:Nat)(c:Nat->Nat->Bool)(i j:Nat):SG Bool:=if i<n/\j<n then some (c i j) else none
structure StrO(n:Nat)(c:Nat->Nat->Bool):Prop extends Ordr c where
 tot:∀i j,i<n->j<n->i≠j->c i j=false->c j i=true
def eN(h:Ord n p)(hi:i<n):p[i]? =some (at0 p i)/\at0 p i<n:=by
 have hz:i<p.size:=by rw[h.size];show hi
 have e:at0 p i=p[i]:=by simp[at0,Array.getD,hz]
 rw[e];show{Ab hz,h.lt (by simp)}
theorem uA(h:Ord n p)(hi:i<n)(hj:j<n)(Ox:i≠j):at0 p i≠at0 p j:=λe=>by
 have nd:p.toList.Nodup:=(CC.mp h).nodup_iff.mpr List.nodup_range;have h1:=(eN h hi).1;have h2:=(eN h hj).1;rw[<-BK] at h1 h2;show Ox ((List.getElem?_inj (by rw[Aj,h.size];show hi) nd).mp (by rw[h1,h2,e]))
def jq(h:Ord n p)(hi:i<n)(hj:j<n):cAt (cP n c) p i j=some (c (at0 p i) (at0 p j)):=by
 unfold cAt cP;rw[(eN h hi).1,B2,(eN h hj).1,B2,A6 {(eN h hi).2,(eN h hj).2}]
theorem nA{n:Nat}(O:StrO n c){p:Array Nat}(ho:Ord n p):∀(f m:Nat),m+f<=n->0<m->Up c p m->∃k,aB (g8 (cP n c) p 0) f m=some k/\m<=k/\k<=m+f/\Up c p k/\(k<m+f->c (at0 p k) (at0 p (k-1))=true)
 |0,m,_,_,h=>{m,0,A9 _,A9 _,h,λz=>absurd z (BU _)}
 |f+1,m,hz,hm,h=>by
  unfold aB g8;rw[Cj,jq ho (by lia) (by lia),DT,B2];cases e:c (at0 p m) (at0 p (m-1)) with
  |true=>
   rw[A6 rfl,A6 rfl];show{m,0,A9 _,4,h,λ_=>e}
  |false=>
   rw[A5 AS,A5 AS];have{k,e2,h1,h2,h3,h4}:=nA O ho f (m+1) (by lia) (by lia) (h.more O.toOrdr hm e);show{k,e2,4,4,h3,λz=>h4 (by lia)}
theorem uB{n:Nat}(O:StrO n c){p:Array Nat}(ho:Ord n p):∀(f m:Nat),m+f<=n->0<m->Dn c p m->∃k,aB (jm (cP n c) 0) f (p,m,0)=some (p,k,0)/\m<=k/\k<=m+f/\Dn c p k
 |0,m,_,_,h=>{m,0,A9 _,A9 _,h}
 |f+1,m,hz,hm,h=>by
  unfold aB jm;dsimp only;rw[Cj,jq ho (by lia) (by lia),B2];cases e:c (at0 p m) (at0 p (m-1)) with
  |true=>
   rw[A6 rfl,A5 (BU 0),B2,A5 AS];have{k,e2,h1,h2,h3}:=uB O ho f (m+1) (by lia) (by lia) (h.more O.toOrdr hm (O.asym _ _ e));show{k,e2,4,4,h3}
  |false=>
   rw[A5 AS,jq ho (by lia) (by lia),B2,O.tot _ _ (eN ho (by lia)).2 (eN ho (by lia)).2 (uA ho (by lia) (by lia) (by lia)) e,A6 rfl,B2,A6 rfl];show{m,0,A9 _,4,h}
def FR(O:StrO n c)(ho:Ord n p)(h0:0<n):∃r,jn (cP n c) 0 n p=some r/\1<=r.1/\r.1<=n/\Ord n r.2/\Up c r.2 r.1:=by
 have{m,e,h1,h2,h3,h4}:=nA O ho (n-1) 1 (by lia) (by decide) (λi j a b=>absurd b (by lia));unfold jn;rw[e,B2];by_cases hm:(m==n)=true
 .rw[A6 hm];show{1,h1,by dsimp only;lia,ho,h3}
 have RO:m≠n:=λz=>hm (by rw[z];show beq_self_eq_true n);rw[A5 hm];by_cases h5:m>1
 .rw[A6 h5,Cj,jq ho (by lia) (by lia),B2,O.tot _ _ (eN ho (by lia)).2 (eN ho h0).2 (uA ho (by lia) h0 (by lia)) (h3 0 (m-1) (by lia) (by lia)),A6 rfl];show{1,h1,by dsimp only;lia,ho,h3}
 .rw[A5 h5];obtain rfl:m=1:=by lia
  have d2:Dn c p 2:=Dn.more O.toOrdr (λi j a b=>absurd b (by lia)) (by decide) (O.asym _ _ (h4 (by lia)));have{k,e2,k1,k2,k3}:=uB O ho (n-(1+1)) 2 (by lia) (by decide) d2;unfold ny;rw[e2,B2,A5 (BU 0)];have ps:=ho.size;have NA:Ord n (rev p 0 (0+k)):=(mirror_perm p 0 (0+k) _).trans ho;have u2:Up c (rev p 0 (0+k)) k:=by
   rw[Cj];show k3.rev_all (by lia)
  have{j,e3,j1,j2,j3,_}:=nA O NA (n-k) k (by lia) (by lia) u2;unfold nv;rw[e3,DT];show{1,by dsimp only;lia,by dsimp only;lia,NA,j3}
theorem nB{n:Nat}(O:StrO n c){p:Array Nat}(ho:Ord n p){k:Nat}(hk:k<n)(hu:Up c p k):∀(f l r:Nat),r-l<=f->l<=r->r<=k->(∀i,i<l->c (at0 p k) (at0 p i)=false)->(∀i,r<=i->i<k->c (at0 p k) (at0 p i)=true)->
  ∃t,aB (bPl (cP n c) p 0 k) f (l,r)=some t/\t.1<=k/\(∀i,i<t.1->c (at0 p k) (at0 p i)=false)/\(∀i,t.1<=i->i<k->c (at0 p k) (at0 p i)=true)
 |0,l,r,hf,hl,hr,h1,h2=>by
  obtain rfl:l=r:=by lia
  show{1,hr,h1,h2}
 |f+1,l,r,hf,hl,hr,h1,h2=>by
  by_cases h:l>=r
  .obtain rfl:l=r:=by lia
   show{(l,l),?_,hr,h1,h2};unfold aB bPl;dsimp only;rw[A6 (A9 _),B2,A6 rfl]
  .have st:bPl (cP n c) p 0 k (l,r)=if c (at0 p k) (at0 p ((l+r)/2))=true then some (false,l,(l+r)/2) else some (false,(l+r)/2+1,r):=by
    unfold bPl;dsimp only;rw[A5 h,Cj,Cj,jq ho hk (by lia),B2]
   unfold aB;rw[st];cases e:c (at0 p k) (at0 p ((l+r)/2)) with
   |true=>
    rw[A6 rfl,B2,A5 AS];show nB O ho hk hu f l ((l+r)/2) (by lia) (by lia) (by lia) h1 λi a b=>?_;by_cases hi:i=(l+r)/2
    .subst hi;show e
    .cases q:c (at0 p k) (at0 p i) with
     |true=>rfl
     |false=>have:=O.tr _ _ _ (hu ((l+r)/2) i (by lia) b) q;rw[e] at this;cases this
   |false=>
    rw[A5 AS,B2,A5 AS];show nB O ho hk hu f ((l+r)/2+1) r (by lia) (by lia) hr (λi a=>?_) h2;by_cases hi:i=(l+r)/2
    .subst hi;show e
    .show O.tr _ _ _ (hu i ((l+r)/2) (by lia) (by lia)) e
theorem uC{n:Nat}(O:StrO n c):∀(f k:Nat) (p:Array Nat),Ord n p->0<k->k+f<=n->Up c p k->∃q,gv (jo (cP n c) 0) f k p=some q/\Ord n q/\Up c q (k+f)
 |0,k,p,ho,_,_,h=>{p,0,ho,h}
 |f+1,k,p,ho,h0,hs,hu=>by
  have{t,e,a1,a2,a3}:=nB O ho (by lia) hu k 0 k (by lia) (by lia) (A9 _) (λi z=>absurd z (by lia)) (λi z1 z2=>absurd z2 (by lia));have ps:=ho.size;have st:jo (cP n c) 0 k p=some (false,bubble p k (k-t.1)):=by
   unfold jo;rw[e,DT,Cj,Cj]
  unfold gv;rw[st,B2,A5 AS];have N5:Up c (bubble p k (k-t.1)) (k+1):=by
   intro i j Ox hj;rw[uz (by lia) (by lia),uz (by lia) (by lia),show k-(k-t.1)=t.1 by lia];by_cases j1:j=t.1
   .rw[A6 j1,A5 (by lia),A5 (by lia)];show a2 i (by lia)
   .rw[A5 j1];by_cases j2:t.1<j/\j<=k
    .rw[A6 j2];by_cases i1:i=t.1
     .rw[A6 i1];show O.asym _ _ (a3 (j-1) (by lia) (by lia))
     .rw[A5 i1];by_cases i2:t.1<i/\i<=k
      .rw[A6 i2];show hu _ _ (by lia) (by lia)
      .rw[A5 i2];show hu _ _ (by lia) (by lia)
    .rw[A5 j2,A5 (by lia),A5 (by lia)];show hu _ _ Ox (by lia)
  have{q,e2,f1,f2}:=uC O f (k+1) _ (ho.bubble k (k-t.1)) (by lia) (by lia) N5;show{q,e2,f1,by rw[show k+(f+1)=k+1+f by lia];show f2}
def FS(O:StrO n c)(h0:0<n)(h64:n<64):∃p,fw (cP n c) n=some p/\Ord n p/\Up c p n:=by
 obtain⟨m,rfl⟩:∃m,n=m+1:={n-1,4};have hm:minRun' (m+1) (m+1) 0=m+1:=by rw[minRun'_succ,A6 h64]
 have{r,e,r1,r2,r3,r4}:=FR O (p:=(List.range (m+1)).toArray) (Array.Perm.refl _) h0;have{q,e2,q1,q2}:=uC O (m+1-r.1) r.1 r.2 r3 (by lia) (by lia) r4;rw[show r.1+(m+1-r.1)=m+1 by lia] at q2;have step:∃p,fU (cP (m+1) c) (m+1) (0,(List.range (m+1)).toArray, #[],7)=some (false,m+1,p, #[(0,m+1,0)],7)/\Ord (m+1) p/\Up c p (m+1):=by
  unfold fU;dsimp only;rw[A5 (Nat.not_succ_le_zero m),DW,e,B2,hm];by_cases h:r.1<m+1
  .rw[A6 h,Nat.min_self];unfold nz;rw[show max r.1 1=r.1 by lia,e2];show{q,by unfold g9;simp,q1,q2}
  .rw[A5 h];have hr:r.1=m+1:=by lia
   rw[hr] at r4⊢;show{r.2,by unfold g9;simp,r3,r4}
 have{p,e3,p1,p2}:=step;show{p,?_,p1,p2};unfold fw;have e4:∀f,aB (fU (cP (m+1) c) (m+1)) f (m+1,p, #[(0,m+1,0)],7)=some (m+1,p, #[(0,m+1,0)],7):=λf=>by
  cases f with
  |zero=>rfl
  |succ f=>
   unfold aB fU;rw[A6 (A9 _)];rfl
 have e5:aB (fU (cP (m+1) c) (m+1)) (m+1) (0,(List.range (m+1)).toArray, #[],7)=some (m+1,p, #[(0,m+1,0)],7):=by
  unfold aB;rw[e3,B2,A5 AS];show e4 m
 rw[e5,B2];unfold aB kG;rfl
end
theorem uD:∀{xs ys zs:SD Int},xs.length=ys.length->ys.length=zs.length->cH false ys xs=false->cH false zs ys=false->cH false zs xs=false
 |[],[],[],_,_,_,_=>rfl
 |x::xs,y::ys,z::zs,h1,h2,a,b=>by
  unfold cH at a b⊢;by_cases e1:y=x
  .rw[A6 e1] at a;by_cases e2:z=y
   .rw[A6 e2] at b;rw[A6 (e2.trans e1)];show uD (by simpa using h1) (by simpa using h2) a b
   .rw[A5 e2] at b;have:=Cz b;rw[A5 (by lia)];show Ak (by lia)
  .rw[A5 e1] at a;have a:=Cz a;by_cases e2:z=y
   .rw[A5 (by lia)];show Ak (by lia)
   .rw[A5 e2] at b;have:=Cz b;rw[A5 (by lia)];show Ak (by lia)
theorem uE:∀{xs ys:SD Int},xs.length=ys.length->cH false xs ys=true->cH false ys xs=false
 |[],[],_,h=>nomatch h
 |x::xs,y::ys,hl,h=>by
  unfold cH at h⊢;by_cases e:x=y
  .rw[A6 e] at h;rw[A6 e.symm];show uE (by simpa using hl) h
  .rw[A5 e] at h;have:=B' h;rw[A5 (by lia)];show Ak (by lia)
theorem uF:∀{xs ys:SD Int},xs.length=ys.length->cH false xs ys=false->cH false ys xs=false->xs=ys
 |[],[],_,_,_=>rfl
 |x::xs,y::ys,hl,h,k=>by
  unfold cH at h k;by_cases e:x=y
  .rw[A6 e] at h;rw[A6 e.symm] at k;rw[e,uF (by simpa using hl) h k]
  .rw[A5 e] at h;rw[A5 (BG e)] at k;have:=Cz h;have:=Cz k;lia
def kH{xs ys:SD Int}(h:xs.length=ys.length):ltI xs ys=cH false xs ys:=by
 unfold ltI;rw[Ak (by lia)]
def hJ(xss:SD (SD Int))(i:Nat):SD Int:=xss.getD i (xss.headD [])
def fx(xss:SD (SD Int))(i j:Nat):Bool:=ltI (hJ xss i) (hJ xss j)
def kI(h:i<xss.length):hJ xss i=xss.getD i []:=by
 unfold hJ;rw[A',A',A2 h];rfl
def uG(hi:i<xss.length)(hj:j<xss.length):fx xss i j=ltI (xss.getD i []) (xss.getD j []):=by
 unfold fx;rw[kI hi,kI hj]
def nC(h0:0<xss.length)(h:∀xs∈xss,xs.length=m)(i:Nat):(hJ xss i).length=m:=by
 unfold hJ;rw[A'];cases e:xss[i]? with
 |some x=>show h x (AH e)
 |none=>
  cases xss with
  |nil=>cases h0
  |cons x xs=>show h x (by simp)
def FT(h0:0<xss.length)(h:∀xs∈xss,xs.length=m):Ordr (fx xss):=by
 have k:=nC h0 h;show{λa b e=>?_,λa b d e1 e2=>?_}
 .unfold fx at e⊢;rw[kH (by rw[k,k])] at e⊢;show uE (by rw[k,k]) e
 .unfold fx at e1 e2⊢;rw[kH (by rw[k,k])] at e1 e2⊢;show uD (by rw[k,k]) (by rw[k,k]) e1 e2
def FU(h0:0<xss.length)(h:∀xs∈xss,xs.length=m)(nd:xss.Nodup):StrO xss.length (fx xss):=by
 show{FT h0 h,λi j hi hj Ox e=>?_};cases k:fx xss j i with
 |true=>rfl
 |false=>
  exfalso;have li:=nC h0 h i;have lj:=nC h0 h j;unfold fx at e k;rw[kH (by rw[li,lj])] at e;rw[kH (by rw[li,lj])] at k;have:=uF (by rw[li,lj]) e k;rw[kI hi,kI hj,A',A',A2 hi,A2 hj] at this;show Ox ((List.getElem?_inj hi nd).mp (by rw[A2 hi,A2 hj];show BZ some this))
section
variable{X:Cx}{K:W.Frag}
def FV{k:Nat}(h:X.K=K)(hr:Room k X.A):OpR X (compareOp .Eq) (rEqS K false):=h▸mU hr
end
end L2
namespace HT
open PySem PySem.Spec PyProof.Rows
section
variable{prog:Sy}{w:SB}{A:SC}{E:Sv->Sw->Prop}{s:Sw}
def getItem_tuple_all{t sl:Sx}{items:Array Sv}{vl vu:Sv}{lo hi:SG Int}{Q:Sv->Sw->Prop}(ht:IsTup s.heap t items)(hs:s.heap.IsSliceOf sl vl vu .none)(pl:IsPart vl lo)(pu:IsPart vu hi)
  (hw:sIx items.size 0 lo=0/\sIx items.size items.size hi=items.size) (h:Q (.ref t) s):wpAny (model prog w) A (getItem (.ref t) (.ref sl)) Q E s:=by
 have{os,RC,Q9,hds}:=id hs;have hTs:s.TypeIs (.ref sl) "slice":={os,RC,Q9};unfold getItem;try with_reducible show Av ?_
 first|show A0 (A3 ?_)|skip
 show A0 (wpAny_sequenceKey ht.typeIs (by decide) ?_);show A0 (B6 (name:=Str.ofString "__getitem__") ht.typeIs Be
  (An Be ht.typeIs entry_tuple_getitem ?_ (args_tuple_getitem _ _)))
 change wpAny _ _ (Builtin.Tuple.tupleItemsOf (.ref t)>>=_) _ _ s;show A0 (tupleItemsOf_ ht ?_);show A0 (Cy hTs ?_);rw[A6 (by decide)];show A0 (sF hs pl pu ?_);have hyes:(((sIx items.size 0 lo:Nat):Int)==0&&(1:Int)==1&&(sIx items.size items.size hi-sIx items.size 0 lo)==items.size)=true:=by
  rw[hw.1,hw.2];simp
 change wpAny _ _ (if(((sIx items.size 0 lo:Nat):Int)==0&&(1:Int)==1&&(sIx items.size items.size hi-sIx items.size 0 lo)==items.size)=true then _ else _) _ _ s;rw[A6 hyes];unfold Builtin.Tuple.tupleIsExact;show A0 (A0 (Cy ht.typeIs (A3 ?_)));rw[A6 (by decide)];show A0 (C1 ?_);show A3 {1,A3 h}
end
end HT
namespace L2
open PySem PySem.Spec PyProof.Rows
variable{n:Nat}{x:V}
section
variable{X:Cx}
inductive rSlA(K:W.Frag)(x:V)(lo:Option Int)(hi:Option Int)(H:Hp)(Q:VK):Prop
 |mk a xs:x=.ref a->SqT K H a xs->(((HT.sIx xs.length 0 lo=0/\HT.sIx xs.length xs.length hi=xs.length)->Q (.ref a) H))->((¬(HT.sIx xs.length 0 lo=0/\HT.sIx xs.length xs.length hi=xs.length)->∀p,H p=none->Q (.ref p) (upd H p (.tup (ci xs lo hi)))))->rSlA K x lo hi H Q
def FW:SlR X (rSlA X.K):=by
 intro MO s σ H x v vl vu lo hi sl Q I rx hs pl pu h;have{a,xs,0,hx,q1,q2}:=h;by_cases hw:HT.sIx xs.length 0 lo=0/\HT.sIx xs.length xs.length hi=xs.length
 .cases rx;have{MQ,r,ht,hz}:=I.tuple hx;have MS:MQ.toArray.size=xs.length:=by rw[AK];show r.length.symm
  show{"tuple",_,Be.lookup,ht.typeIs,?_};show HT.getItem_tuple_all ht hs pl pu (by rw[MS];show hw) {.ref a,H,I,0,q1 hw}
 .show Dl MO s σ H _ v vl vu lo hi sl Q I rx hs pl pu {a,xs,0,hx,hw,q2 hw}
end
open PySem.W
section
variable{X:Cx}{MO:SD (Sx×Obj)}{σ:St}{H:Hp}{s:Sw}
def bvs(bs:SD Bool):Array Sv:=(bs.map Value.bool).toArray
def EqT(K:W.Frag)(H:Hp)(n:Nat)(x y:V)(e:Bool):Prop:=∀(X:Cx) (MO:SD (Sx×Obj)) (σ:St) (s:Sw),X.K=K->Inv X MO σ H s->∀(A:SC) (u v:Sv),A.units+n<cLine->aw x u->aw y v->SeqAt.EqAt A s u v e
theorem EqR.told{K:W.Frag}{y:V}{e:Bool}(h:EqR K H n x y e):EqT K H n x y e:=λX MO σ s hk I A u v hu ru rv=>by
 subst hk;show(h.bO I (A:=A) hu ru rv).2.2
def nD(K:W.Frag)(H:Hp)(n:Nat)(xs:SD V)(x:V)(es:Nat->Bool):Prop:=n<=8/\(∀(j:Nat) z,xs[j]? =some z->(∃a,z=.ref a)/\EqT K H n z x (es j))/\∀(i j:Nat) z,xs[i]? =some z->xs[j]? =some z->es i=es j
open Classical in
def uH{xs:SD V}{es:Nat->Bool}{MQ:SD Sv}(t:nD X.K H n xs x es)(r:ax xs MQ){j:Nat}{u:Sv}(hu:MQ[j]? =some u):fS MQ es u=es j:=by
 have same:∀i:Nat,MQ[i]? =some u->es i=es j:=λi hi=>by
  have li:=(A8.mp hi).1;have lj:=(A8.mp hu).1;have ln:=r.length;have xi:xs[i]? =some xs[i]:=A2 (by lia);have xj:xs[j]? =some xs[j]:=A2 (by lia);have{u1,e1,r1}:=r.get xi;have{u2,e2,r2}:=r.get xj;rw[hi] at e1;rw[hu] at e2;cases e1;cases e2;have{{a,ea},_}:=t.2.1 i _ xi;have{{b,eb},_}:=t.2.1 j _ xj;rw[ea] at r1 xi;rw[eb] at r2 xj;obtain rfl:u=Value.ref a:=r1;have:Value.ref a=Value.ref b:=r2;cases this;show t.2.2 i j _ xi xj
 unfold fS;cases h:es j with
 |true=>show B4 {j,hu,h}
 |false=>show Ak λ⟨i,hi,e⟩=>by rw[same i hi,h] at e;cases e
inductive rCountD(K:W.Frag)(o:V)(vs:List V)(H:Hp)(Q:VK):Prop
 |mk (p:Addr) (xs:List V) (x:V) (n:Nat) (es:Nat->Bool):o=.ref p->vs=[x]->SqL K H p xs->nD K H n xs x es->Q (.int (((List.range xs.length).countP es:Nat):Int)) H->rCountD K o vs H Q
def FX{k:Nat}(hr:Room k X.A):MtM X "list.count" (rCountD X.K):=by
 intro MO s σ H o vs v us Q I ro rv h;have{p,xs,x,n,es,0,0,hq,t,q}:=h;cases ro;have{u,0,ru}:=ax.one rv;have hu:=hr.un;have t8:=t.1;have{MQ,r,pl,hz}:=I.list hq;have ln:=r.length;have{{cls,dd,data,sl},ho,hc,m,hd}:=pl.isList;simp only at hc hd;subst hc hd;have ec:MQ.toArray.toList.countP (fS MQ es)=(List.range xs.length).countP es:=by
  have e1:MQ=(List.range MQ.length).map λi=>MQ.getD i .none:=by
   show Cm (by simp) λi h1 h2=>?_;simp[h1]
  have e2:MQ.countP (fS MQ es)=((List.range MQ.length).map λi=>MQ.getD i .none).countP (fS MQ es):=by rw[<-e1]
  change MQ.countP (fS MQ es)=_;rw[e2,List.countP_map,ln];show List.countP_congr λi hi=>?_;have NO:i<MQ.length:=by simpa using hi
  have:fS MQ es (MQ.getD i .none)=es i:=uH t r (by rw[A',A2 NO];rfl);simp only[Function.comp_apply,this]
 show call_meets F.slot_list_count {_,ho,0} F.entry_list_count (F.args_list_count_2 _ _) (SeqAt.list_countAt p MQ.toArray m dd sl u (fS MQ es)) {ho,λy hy=>?_,?_}
 .have{j,hj,e}:=Bh.mp (by simpa using hy);have ej:MQ[j]? =some y:=by rw[A2 hj,e]
  have xj:xs[j]? =some xs[j]:=A2 (by lia);have{u2,e2,r2}:=r.get xj;rw[ej] at e2;cases e2;rw[uH t r ej];show(t.2.1 j _ xj).2 X MO σ s rfl I _ _ _ (by rw[b9];lia) r2 ru
 rw[ec];show{.int _,H,I.tok _,{1},q}
end
end L2
namespace L2
open PySem PySem.SetTable PySem.Spec PyProof.Rows
variable{Q:Bool->Sw->Prop}{S a b it x:Sx}{ad:Nat->Sx}{ep i m n p slot:Nat}{es:Array (Int×Sv)}{h h':SF}{kk:Nat->SD Int}{ks:Array (SD Int)}{o:Obj}{vs:SD Sv}{xs:Array Nat}{xss:SD (SD Int)}
def Ris(xs:Array Nat):Prop:=∀i j,i<j->j<xs.size->xs.getD i 0<xs.getD j 0
def uI(h:i<xs.size)(a b:Nat):xs.getD i a=xs.getD i b:=by simp[Array.getD,h]
theorem nE{xs:Array Nat}{j:Nat}(r:Ris xs):∀(f lo hi:Nat),hi-lo<=f->lo<=hi->hi<=xs.size->(∀i,i<lo->xs.getD i 0<j)->(∀i,hi<=i->i<xs.size->j<=xs.getD i 0)->
  lo<=below.go xs j f lo hi/\below.go xs j f lo hi<=hi/\(∀i,i<below.go xs j f lo hi->xs.getD i 0<j)/\(∀i,below.go xs j f lo hi<=i->i<xs.size->j<=xs.getD i 0)
 |0,lo,hi,hf,hl,hh,h1,h2=>by
  unfold below.go;have:lo=hi:=by lia
  subst this;show{A9 _,A9 _,h1,h2}
 |f+1,lo,hi,hf,hl,hh,h1,h2=>by
  unfold below.go;by_cases c:lo<hi
  .rw[A6 c];dsimp only;have hm:(lo+hi)/2<xs.size:=by lia
   by_cases c2:xs.getD ((lo+hi)/2) j<j
   .rw[A6 c2];rw[uI hm j 0] at c2;have{a,b,c,d}:=nE r f ((lo+hi)/2+1) hi (by lia) (by lia) hh (λi NO=>by
     by_cases e:i=(lo+hi)/2
     .rw[e];show c2
     .show Nat.lt_trans (r i _ (by lia) hm) c2) h2
    show{4,b,c,d}
   .rw[A5 c2];rw[uI hm j 0] at c2;have{a,b,c,d}:=nE r f lo ((lo+hi)/2) (by lia) (by lia) (by lia) h1 (λi h3 h4=>by
     by_cases e:i=(lo+hi)/2
     .rw[e];lia
     .have:=r ((lo+hi)/2) i (by lia) h4;lia)
    show{a,4,c,d}
  .rw[A5 c];have:lo=hi:=by lia
   subst this;show{A9 _,A9 _,h1,h2}
def FY(r:Ris xs)(j:Nat):below xs j<=xs.size/\(∀i,i<below xs j->xs.getD i 0<j)/\(∀i,below xs j<=i->i<xs.size->j<=xs.getD i 0):=by
 have{_,b,c,d}:=nE (j:=j) r xs.size 0 xs.size (by lia) (AO _) (A9 _) (λi h=>absurd h (by lia)) (λi h1 h2=>by lia);show{b,c,d}
def hAt(es:Array (Int×Sv))(i:Nat):Int:=(es[i]?.map (·.1)).getD 0
structure Tb(t:SetTable)(es:Array (Int×Sv)):Prop where
 size:t.place.size=es.size
 dum:t.dummies= #[]
 ris:Ris t.place
 few:es.size<64
def uJ{α:Type}{xs:Array α}{a:α}(h:xs[i]? =some a):i<xs.size:=by
 rcases Bs i xs.size with c|c
 .show c
 .rw[BY c] at h;show nomatch h
def kJ{t:SetTable}(b:Tb t es)(hs:es.size<=t.mask):t.fits es.size=true:=by
 have h1:t.fill<=t.mask:=by
  unfold SetTable.fill;rw[b.dum,b.size];show hs
 unfold SetTable.fits;rw[b.size,B4 h1];simp
def hK(k:SD Int):Int:=reduceHash (Builtin.Tuple.tupleHashOf (k.map hashInt))
def okT(t:SetTable)(n:Nat):Bool:=t.fits n&& !t.gaveWay&&t.plain
def srE(t:SetTable)(ks:Array (SD Int))(k:SD Int):Nat->Probe->SG (SG Nat)
 |0,_=>none
 |f+1,p=>match t.probe (λi=>(ks[i]?.map hK).getD 0) (hK k) p with
  |some (.empty j none)=>some (some j)
  |some (.candidate j i next)=>match ks[i]? with
   |some k'=>if k'=k then some none else if t.slot j=.live i then srE t ks k f next else none
   |none=>none
  |_=>none
abbrev Ks:=SetTable×Array (SD Int)
variable{y:Ks}
def reE(t:SetTable)(ks:Array (SD Int)):SG Ks:=(t.relaid (ks.map hK) (grown ks.size)).bind λr=>
 if(r.2.filterMap (ks[·]?)).size=ks.size/\sizeAbove (grown ks.size)<=4096 then some (r.1,r.2.filterMap (ks[·]?)) else none
def puE(t:SetTable)(ks:Array (SD Int))(k:SD Int)(j:Nat):SG Ks:=
 if(t.put j).2<=ks.size/\ks.size<64/\okT (t.put j).1 (ks.size+1)=true then
  if(t.put j).1.tooFull=true then reE (t.put j).1 (insertAt ks (t.put j).2 k) else some ((t.put j).1,insertAt ks (t.put j).2 k)
 else none
def adE(x:Ks)(k:SD Int):SG Ks:=if okT x.1 x.2.size=true then(srE x.1 x.2 k 300 (x.1.probeStart (hK k))).bind λr=>match r with
  |none=>some x
  |some j=>puE x.1 x.2 k j
 else none
def stE(x:Ks):SD (SD Int)->SG Ks
 |[]=>some x
 |k::r=>(adE x k).bind λy=>stE y r
theorem uK{x y:Ks}:∀{l:SD (SD Int)}{i:Nat}{k:SD Int},stE x (l.take i)=some y->l[i]? =some k->stE x (l.take (i+1))=adE y k
 |[],i,k,_,h=>by simp at h
 |a::l,0,k,h,hk=>by
  cases hk;cases h;change(adE x a).bind (λy=>stE y [])=_;cases adE x a<;>rfl
 |a::l,i+1,k,h,hk=>by
  rw[BL,stE] at h⊢;have{z,hz,h}:=AC.mp h;rw[hz,B2];show uK (l:=l) h hk
theorem uL{x y:Ks}:∀{l:SD (SD Int)},stE x l=some y->∀i,∃z,stE x (l.take i)=some z
 |[],_,i=>{x,by simp[stE]}
 |a::l,h,0=>{x,0}
 |a::l,h,i+1=>by
  rw[stE] at h;have{z,hz,h}:=AC.mp h;have{u,hu}:=uL (l:=l) h i;show{u,by rw[BL,stE,hz];show hu}
structure EsK(kk:Nat->SD Int)(ad:Nat->Sx)(n:Nat)(es:Array (Int×Sv))(ks:Array (SD Int)):Prop where
 size:es.size=ks.size
 bO:∀(i:Nat) (k:List Int),ks[i]? =some k->∃j,j<n/\kk j=k/\es[i]? =some (hK k,.ref (ad j))
def EsK.hash(e:EsK kk ad n es ks):hAt es=λi=>(ks[i]?.map hK).getD 0:=by
 funext i
 unfold hAt;cases h:ks[i]? with
 |none=>
  have:es[i]? =none:=by rw[CD,e.size,<-CD];show h
  rw[this];rfl
 |some k=>
  have{j,_,_,h2}:=e.bO i k h;rw[h2];rfl
def EsK.of(e:EsK kk ad n es ks){v:Int×Sv}(h:es[i]? =some v):∃j,j<n/\ks[i]? =some (kk j)/\v=(hK (kk j),.ref (ad j)):=by
 have hi:i<ks.size:=by rw[<-e.size];show uJ h
 have{j,h1,h2,h3}:=e.bO i _ (Ab hi);rw[h] at h3;cases h3;show{j,h1,by rw[Ab hi,h2],by rw[h2]}
def EsK.mono(e:EsK kk ad n es ks)(h:n<=m):EsK kk ad m es ks:={e.size,λi k hk=>let ⟨j,h1,h2⟩:=e.bO i k hk;{j,Am h1 h,h2}}
def uM{α:Type}{xs:Array α}(hp:p<=xs.size)(x:α)(i:Nat):(insertAt xs p x)[i]? =if i<p then xs[i]? else if i=p then some x else xs[i-1]? :=by
 unfold insertAt;have s1:(xs.extract 0 p).size=p:=by simp;lia
 have s2:((xs.extract 0 p).push x).size=p+1:=by simp;lia
 by_cases h1:i<p
 .rw[A6 h1,Array.getElem?_append_left (by rw[s2];lia),Array.getElem?_push,A5 (by rw[s1];lia)];simp[Array.getElem?_extract];lia
 .rw[A5 h1];by_cases h2:i=p
  .rw[A6 h2,Array.getElem?_append_left (by rw[s2];lia),Array.getElem?_push,A6 (by rw[s1];show h2)]
  .rw[A5 h2,Array.getElem?_append_right (by rw[s2];lia),s2];simp only[Array.getElem?_extract];by_cases h3:i-(p+1)<xs.size-p
   .rw[A6 (by lia)];congr 1
    lia
   .rw[A5 (by lia)];symm;rw[CD];lia
def nF{α:Type}{xs:Array α}(hp:p<=xs.size)(x:α):(insertAt xs p x).size=xs.size+1:=by
 unfold insertAt;simp;lia
section
variable{prog:Sy}{w:SB}{A:SC}{E:Sv->Sw->Prop}{s:Sw}
def uN{k:SD Int}(h:ItemsAre (intKind prog w) k vs):∀v∈vs,∃n t,v=.int n t:=by
 induction h with
 |nil=>intro v hv;simp at hv
 | @cons k v' ks vs h1 _ ih=>
  intro v hv;rcases AJ.mp hv with rfl|hv
  .cases v with
   |int n t=>show{n,t,0}
   |_=>show absurd h1 (by simp[intKind,Value.isInt])
  .show ih v hv
def uO{k:SD Int}(hx:IsTupleKey (intKind prog w) s.heap k x)(h:Q false s):
  wpAny (model prog w) A (ofAClassStatement 8 (.ref x)) Q E s:=by
 have hT:=hx.typeIs;have{o,items,n,ho,hc,hd,hi}:=hx;unfold ofAClassStatement;show A0 (Cy hT ?_);change wpAny _ _ ((if("tuple"=="tuple")=true then pure true else isSubtype (.type "tuple") (.type "tuple"))>>=_) _ _ s;show A0 (A3 ?_);simp only[BW,AN,Au];show A0 (BH ho hd ?_);show A0 ?_;change wpAny _ _ (forIn items _ _) _ _ s;rw[<-D3];show C3 _ (λaS r s'=>r.1=none/\s'=s/\∀v∈aS,∃n t,v=Value.int n t) _ ?_ ?_ _ _ {0,0,uN hi}
 .rintro v aS r s' ⟨hr,rfl,Nt⟩;have{n,t,0}:=Nt v Aa;show A0 (Cq (show ofAClassStatement 7 (.int n t)=pure false from by unfold ofAClassStatement;rfl) (A3 ?_));simp only[AN,Au];show{trivial,trivial,λu QK=>Nt u (AT _ QK)}
 .rintro⟨r1,r2⟩ s' ⟨hr,rfl,_⟩;simp only at hr;subst hr;show A3 h
def FZ{k:SD Int}(hx:IsTupleKey (intKind prog w) s.heap k x)(ys:SD Sv)
  (hy:∀y∈ys,∃b j,y=.ref b/\IsTupleKey (intKind prog w) s.heap j b) (h:Q false s):
  wpAny (model prog w) A (searchCouldBeSeen (.ref x) ys) Q E s:=by
 unfold searchCouldBeSeen;show A0 ?_;show C3 _ (λaS r s'=>r.1=none/\s'=s/\∀v∈aS,∃b j,v=Value.ref b/\IsTupleKey (intKind prog w) s.heap j b) _ ?_ ?_ _ _ {0,0,hy}
 .rintro v aS r s' ⟨hr,rfl,Nt⟩;have{b,j,0,hj}:=Nt v Aa;have Re:∀u∈aS,∃b j,u=Value.ref b/\IsTupleKey (intKind prog w) s'.heap j b:=λu QK=>Nt u (AT _ QK);dsimp only;split
  .show A3 {0,0,Re}
  .show A0 (wpAny_eqIsQuiet_tuple hx ?_);simp only[BW,AN,Au];show A0 (wpAny_eqIsQuiet_tuple hj ?_);simp only[BW,AN,Au];show A0 (uO hx ?_);simp only[AN,Au];show A0 (uO hj ?_);simp only[AN,Au];show A3 {0,0,Re}
 .rintro⟨r1,r2⟩ s' ⟨hr,rfl,_⟩;simp only at hr;subst hr;show A3 h
def F'(a:Addr)(x:Value)(h:Int)(NG:Bool)(N0:Nat)(N1:Option Probe):setSearchFrom a x h NG (N0+1) N1=(do
  let (es,_,t)<-setState a
  if t.gaveWay then unsupported "set:on-a-table-that-gave-way"
  let some met:=t.probe (hAt es) h (N1.getD (t.probeStart h))|unsupported "internal:set-table-without-an-empty-slot"
  match met with
  |.empty j dummy=>
   match dummy with
   |none=>return .free j false
   |some d=>
    if NG&&t.slot d != .dummy then rule "set.search.the-dummy-was-taken";return<-setSearchFrom a x h NG N0 none
    return .free d true
  |.candidate j i next=>
   if !t.led then
    if<-searchCouldBeSeen x ((es.filter (·.1==h)).toList.map (·.2)) then unsupported "set:the-search-would-show-the-table"
   let some (_,y):=es[i]? |unsupported "internal:set-entry"
   let OG<-holding [y] (eqBool y x)
   let (Nq,_,t')<-setState a
   if NG&&OG then return .there none
   let some same:=t'.sameMemory t.moves t.mask|unsupported "set.changed-during-lookup:is-the-new-block-at-the-old-address"
   let PZ<-match(if same then t'.slot j else .empty) with
    |.live i'=>match Nq[i']? with
     |some (_,y')=>do pure (if<-isSame y' y then some i' else none)
     |none=>pure none
    |_=>pure none
   match PZ with
   |none=>rule "set.search.anew";setSearchFrom a x h NG N0 none
   |some i'=>if OG then return .there (some i') else setSearchFrom a x h NG N0 (some next)):=rfl
theorem uP{a:Addr}{o:Obj}{es:Array (Int×Value)}{ks:Array (List Int)}{ep:Nat}{t:SetTable}{kk:Nat->List Int}{ad:Nat->Addr}{n:Nat}(ho:s.heap.get? a=some o)(hd:o.data=.set es ep t)(hf:t.fits es.size=true)(hw:t.gaveWay=false)
  (hu:A.units<cLine) (ek:EsK kk ad n es ks) (hkk:∀j,j<n->IsTupleKey (intKind prog w) s.heap (kk j) (ad j)) {k:List Int}{x:Addr} (hx:IsTupleKey (intKind prog w) s.heap k x) {Q:SetFound->Shared->Prop}{r:Option Nat}
  (hQ:Q (match r with|none=>.there none|some j=>.free j false) s):
  ∀(m N0:Nat) (N1:Option Probe),srE t ks k m (N1.getD (t.probeStart (hK k)))=some r->m<=N0->
   wpAny (model prog w) A (setSearchFrom a (.ref x) (hK k) true N0 N1) Q E s
 |0,_,_,h,_=>nomatch h
 |m+1,0,_,_,h=>absurd h (by lia)
 |m+1,N0+1,N1,h,hm=>by
  rw[F'];show A0 (Bg ho hd hf ?_);dsimp only;rw[hw];simp only[AN,Au];rw[srE] at h;rw[ek.hash];generalize hp:t.probe (λi=>(ks[i]?.map hK).getD 0) (hK k) (N1.getD (t.probeStart (hK k)))=met at h⊢
  match met,h with
  |some (.empty j none),h=>
   cases h;show A3 hQ
  |some (.candidate j i next),h=>
   dsimp only at h⊢;cases hk:ks[i]? with
   |none=>rw[hk] at h;cases h
   |some k'=>
    rw[hk] at h;dsimp only at h;have{jj,j1,0,ey}:=ek.bO i k' hk;have hy:=hkk jj j1;have hSeen:∀y∈(es.filter (λe=>e.1==hK k)).toList.map (·.2),∃b j,y=Value.ref b/\IsTupleKey (intKind prog w) s.heap j b:=by
     intro y hy;have{e,he,0}:=Ai.mp hy;have OV:e∈es:=(Array.mem_filter.mp (Array.mem_toList_iff.mp he)).1;have{i,hi,ei}:=Array.mem_iff_getElem.mp OV;have{q,q1,_,q3}:=ek.of (Ab hi);rw[ei] at q3;subst q3;show{3,hkk q q1}
    have Rf:wpAny (model prog w) A (do
      let some (_,y):=es[i]? |unsupported "internal:set-entry"
      let OG<-holding [y] (eqBool y (.ref x))
      let (Nq,_,t')<-setState a
      if true&&OG then return SetFound.there none
      let some same:=t'.sameMemory t.moves t.mask|unsupported "set.changed-during-lookup:is-the-new-block-at-the-old-address"
      let PZ<-match(if same then t'.slot j else .empty) with
       |.live i'=>match Nq[i']? with
        |some (_,y')=>do pure (if<-isSame y' y then some i' else none)
        |none=>pure none
       |_=>pure none
      match PZ with
      |none=>rule "set.search.anew";setSearchFrom a (.ref x) (hK k) true N0 none
      |some i'=>if OG then return SetFound.there (some i') else setSearchFrom a (.ref x) (hK k) true N0 (some next)) Q E s:=by
     rw[ey];dsimp only;show A0 (Av (wpAny_eqBool_tuple hu hy hx ?_));show A0 (Bg ho hd hf ?_);dsimp only;by_cases Op:kk jj=k
     .rw[A6 Op] at h;cases h;rw[B4 Op];simp only[Bool.true_and,C9];show A3 hQ
     .rw[A5 Op] at h;rw[Ak Op];simp only[Ci,AN,Au];have hsm:t.sameMemory t.moves t.mask=some true:=by unfold SetTable.sameMemory;simp
      rw[hsm];dsimp only;by_cases hs:t.slot j=.live i
      .rw[A6 hs] at h;rw[A6 rfl,hs];dsimp only;rw[ey];dsimp only;show A0 ?_;show wpAny_isSame_ref_self ?_;simp only[C9];show uP ho hd hf hw hu ek hkk hx hQ m N0 (some next) h (by lia)
      .rw[A5 hs] at h;cases h
    cases hl:t.led with
    |true=>simpa only[BW,AN,Au] using Rf
    |false=>
     simp only[DE,C9];show A0 (FZ hx _ hSeen ?_);simp only[AN,Au];show Rf
def uQ{es:Array (Int×Sv)}{ep:Nat}{t:SetTable}(ho:h.get? a=some {cls:= .type "set",dict:=none,data:= .set es ep t})(Nq:Array (Int×Sv))(t':SetTable):
  (h.update a (Obj.putSet Nq t')).get? a=some {cls:= .type "set",dict:=none,data:= .set Nq (ep+1) t'}:=by
 have:=B8 (Obj.putSet Nq t') ho (by rw[putSet_of Nq t' rfl];rfl);rw[putSet_of Nq t' rfl] at this;show this
def Ga{k:SD Int}(hx:IsTupleKey (intKind prog w) s.heap k x)(h:Q true s):
  wpAny (model prog w) A (hashByValue 8 (.ref x)) Q E s:=by
 have hT:=hx.typeIs;have{o,items,n,ho,hc,hd,hi}:=hx;unfold hashByValue;show A0 (CN hT DS.lookup ?_);dsimp only;show A0 (BH ho hd ?_);show A0 ?_;change wpAny _ _ (forIn items _ _) _ _ s;rw[<-D3];show C3 _ (λaS r s'=>r.1=none/\s'=s/\∀v∈aS,∃n t,v=Value.int n t) _ ?_ ?_ _ _ {0,0,uN hi}
 .rintro v aS r s' ⟨hr,rfl,Nt⟩;have{n,t,0}:=Nt v Aa;show A0 (Cq (show hashByValue 7 (.int n t)=pure true from by unfold hashByValue;rfl) (A3 ?_));simp only[BW,AN,Au];show{trivial,trivial,λu QK=>Nt u (AT _ QK)}
 .rintro⟨r1,r2⟩ s' ⟨hr,rfl,_⟩;simp only at hr;subst hr;show A3 h
def Gb(a:Addr)(OW:Nat):setRelay a OW=(do
  let (es,_,t)<-setState a
  if SetTable.sizeAbove OW>sizeLine then unsupported "set:memory"
  let (es,t)<-(do
   let some (t,order):=t.relaid (es.map (·.1)) OW|unsupported "internal:set-table-without-room"
   let Nq:=order.filterMap (es[·]?)
   if Nq.size !=es.size then unsupported "internal:set-table-lost-an-element"
   pure (Nq,t):Sem (Array (Int×Value)×SetTable))
  storeSet a es t):=rfl
def eO(h:SF)(S:Sx)(t:SetTable)(es:Array (Int×Sv)):Prop:=∃ep,h.get? S=some {cls:= .type "set",dict:=none,data:= .set es ep t}
def EsK.ins{kk:Nat->SD Int}{ad:Nat->Sx}{n:Nat}{es:Array (Int×Sv)}{ks:Array (SD Int)}(e:EsK kk ad n es ks){p:Nat}(hp:p<=ks.size):EsK kk ad (n+1) (insertAt es p (hK (kk n),.ref (ad n))) (insertAt ks p (kk n)):=by
 have Nr:p<=es.size:=by rw[e.size];show hp
 show{by rw[nF Nr,nF hp,e.size],λi k h=>?_};rw[uM hp] at h;rw[uM Nr];have NN:∀i,ks[i]? =some k->∃j,j<n+1/\kk j=k/\es[i]? =some (hK k,Value.ref (ad j)):=λi h=>let ⟨j,h1,h2⟩:=e.bO i k h;{j,4,h2};split at h
 .rename_i c;rw[A6 c];show NN _ h
 .rename_i c;rw[A5 c];split at h
  .rename_i c2;rw[A6 c2];cases h;show{n,4,0,0}
  .rename_i c2;rw[A5 c2];show NN _ h
theorem uR{α β:Type}{xs:Array α}{ys:Array β}(e:xs.size=ys.size):∀(l:SD Nat),(l.filterMap (xs[·]?)).length=(l.filterMap (ys[·]?)).length/\∀(i:Nat) (v:β),(l.filterMap (ys[·]?))[i]? =some v->∃q:Nat,ys[q]? =some v/\(l.filterMap (xs[·]?))[i]? =xs[q]?
 |[]=>{0,λi v h=>by simp at h}
 |q::l=>by
  have{h1,h2}:=uR e l;rw[Co,Co];rcases Bs q xs.size with c|c
  .rw[Ab c,Ab (by lia:q<ys.size)];show{by simp only[AW];lia,λi v h=>?_};cases i with
   |zero=>show{q,by rw[Ab (by lia:q<ys.size)];simpa using h,by rw[Ab c];rfl}
   |succ i=>show h2 i v (by simpa using h)
  .rw[BY c,BY (by lia)];show{h1,h2}
def EsK.re(e:EsK kk ad n es ks)(od:Array Nat):EsK kk ad n (od.filterMap (es[·]?)) (od.filterMap (ks[·]?)):=by
 have{h1,h2}:=uR e.size od.toList;rw[<-Array.toList_filterMap,<-Array.toList_filterMap] at h1;show{by rw[<-Aj,<-Aj];show h1,λi k h=>?_};rw[<-BK,Array.toList_filterMap] at h⊢;have{q,q1,q2}:=h2 i k h;rw[q2];show e.bO q k q1
def Gc{t:SetTable}(hS:eO s.heap S t es)(ek:EsK kk ad n es ks)
  (hkk:∀j,j<n+1->IsTupleKey (intKind prog w) s.heap (kk j) (ad j)) (hu:A.units<cLine) (h:adE (t,ks) (kk n)=some y) 
  (k:∀b h' Nq,Heap.SameBut S s.heap h'->eO h' S y.1 Nq->EsK kk ad (n+1) Nq y.2->Q b {s with heap:=h'}):
  wpAny (model prog w) A (setAddHashed S (.ref (ad n)) (hK (kk n))) Q E s:=by
 have hS0:=hS;have{ep,ho}:=hS;have hx:=hkk n (by lia);unfold adE at h;split at h
 .rename_i hok;unfold okT at hok;simp only[AM,Bool.not_eq_true'] at hok;have{{hf,hw},hp}:=hok;have hf:t.fits es.size=true:=by rw[ek.size];show hf
  have{r,hr,h}:=AC.mp h;unfold setAddHashed setAddHashedIn;show Av (A0 (Bg ho rfl hf ?_));dsimp only;have hsc:byScan (.ref (ad n)) es=false:=by unfold byScan;rfl
  rw[hsc];simp only[AN,Au];unfold setSearch;show A0 (uP ho rfl hf hw hu ek (λj hj=>hkk j (by lia)) hx (r:=r) ?_ 300 100000 none hr (by lia));cases r with
  |none=>
   cases h;show A3 (k false s.heap es (Heap.SameBut.refl _ _) hS0 (ek.mono (by lia)))
  |some j=>
   dsimp only at h⊢;unfold puE at h;split at h
   .rename_i c;have{c1,c2,c3}:=c;unfold okT at c3;simp only[AM,Bool.not_eq_true'] at c3;have{{f1,w1},p1}:=c3;show A0 (Bg ho rfl hf ?_);dsimp only;generalize t.put j=tp at c1 f1 w1 p1 h⊢;have{t1,p}:=tp;dsimp only at c1 f1 w1 p1 h⊢;rw[A6 p1];show A0 (Ga hx ?_);simp only[C9];have RP:=ek.ins c1;have z1:(insertAt es p (hK (kk n),Value.ref (ad n))).size=es.size+1:=nF (by rw[ek.size];show c1) _;have e64:es.size<64:=by rw[ek.size];show c2
    have hsl:sizeLine>=4096:=by rw[At];decide
    have f1':t1.fits (insertAt es p (hK (kk n),Value.ref (ad n))).size=true:=by rw[z1,ek.size];show f1
    show A0 (wpAny_storeSet_of ho rfl ?_ (by rw[z1];lia));have NC:=uQ ho (insertAt es p (hK (kk n),Value.ref (ad n))) t1;have sb1:=BI s.heap S (Obj.putSet (insertAt es p (hK (kk n),Value.ref (ad n))) t1);generalize s.heap.update S (Obj.putSet (insertAt es p (hK (kk n),Value.ref (ad n))) t1)=h1 at NC sb1⊢;rw[<-z1];generalize insertAt es p (hK (kk n),Value.ref (ad n))=es1 at RP f1' NC z1⊢;generalize insertAt ks p (kk n)=ks1 at RP h;cases full:t1.tooFull with
    |true=>
     rw[full,A6 rfl] at h;simp only[DE,Bool.and_self,C9];unfold reE at h;have{q,hq,h}:=AC.mp h;split at h
     .rename_i c4;cases h;have eh:es1.map (·.1)=ks1.map hK:=by
       show Array.ext_getElem? λi=>?_;rw[Array.getElem?_map,Array.getElem?_map];cases e:ks1[i]? with
       |none=>
        have:es1[i]? =none:=by rw[CD,RP.size,<-CD];show e
        rw[this];rfl
       |some k0=>
        have{_,_,_,e2}:=RP.bO i k0 e;rw[e2];rfl
      rw[Gb];show A0 ?_;show A0 (Bg (s:={s with heap:=h1}) NC rfl f1' ?_);dsimp only;have zk:es1.size=ks1.size:=RP.size;rw[A5 (by rw[zk];lia),eh,zk,hq];dsimp only;have ek2:=RP.re q.2;rw[show((q.2.filterMap (es1[·]?)).size !=ks1.size)=false from by rw[ek2.size,c4.1];simp];simp only[AN,Au];show A0 (A3 ?_);show wpAny_storeSet_of (s:={s with heap:=h1}) NC rfl ?_ (by rw[ek2.size,c4.1,<-zk,z1];lia);have NA:=uQ NC (q.2.filterMap (es1[·]?)) q.1;have Rg:=BI h1 S (Obj.putSet (q.2.filterMap (es1[·]?)) q.1);generalize h1.update S _=h2 at NA Rg⊢;show A3 (k true h2 _ (sb1.trans Rg) {_,NA} ek2)
     .cases h
    |false=>
     rw[full,A5 (by simp)] at h;cases h;simp only[DE,Ci,AN,Au];show A3 (k true h1 _ sb1 {_,NC} RP)
   .cases h
 .cases h
def eO.mv{t:SetTable}(a:eO h S t es)(e:∀o,h.get? S=some o->h'.get? S=some o):eO h' S t es:=by have{ep,ho}:=a;show{ep,e _ ho}
def nG{k:SD Int}(q:IsTupleKey (intKind prog w) h k x)(e:∀o,h.get? x=some o->h'.get? x=some o):IsTupleKey (intKind prog w) h' k x:=by
 have{o,items,n,ho,r}:=q;show{o,items,n,e _ ho,r}
def Gd{R:Result->Sw->Prop}{I:Sx}{fp wr:SD Sx}{G:Array GenState->Array GenState->Prop}{P:Nat->Sv->Prop}{St:Nat->Sw->Prop}
  (Wq:WalksS prog w A.in1 I fp wr G n P St) (S:Sx) (Ny:S∉fp) (hu:A.in1.units<cLine)
  (kk:Nat->SD Int) (ad:Nat->Sx) (hval:∀i v,P i v->v=.ref (ad i)) (hwr:∀i,i<n->ad i∉wr) {x0:Ks}{l:SD (SD Int)} (hlk:∀i,i<n->l[i]? =some (kk i)) (hse:∀i,∃y,stE x0 (l.take i)=some y):
  ∀(k i:Nat) (s:Sw) (es:Array (Int×Sv)) (y:Ks),n-i=k->i<=n->St i s->eO s.heap S y.1 es->EsK kk ad i es y.2->stE x0 (l.take i)=some y->(∀j,j<n->IsTupleKey (intKind prog w) s.heap (kk j) (ad j))->
   (∀s' Nq y',Moved (S::wr) G s s'->eO s'.heap S y'.1 Nq->EsK kk ad n Nq y'.2->stE x0 (l.take n)=some y'->R (.ok (.ret .none)) s')->
   codeAny (model prog w) A (.builtin "set.update.loop" {[.ref S,.ref I],[]}) R s:=by
 have Pa:S∉wr:=λh=>Ny (Wq.sub _ h);have Pi:∀b∈wr,b∈S::wr:=λb hb=>AT _ hb;intro k;induction k with
 |zero=>
  intro i s es y hk hi M3 hS ek hy hkk hR;have Pj:i=n:=by lia
  subst Pj;show BX F.entry_set_update_loop ?_;rw[BD F.plain_set_update_loop _];change wpAny _ A.in1 (pyNext (.ref I)>>=_) _ _ s;show A0 (Wq.done s _ _ M3 λs' hm=>?_);change wpAny _ A.in1 (ret Value.none) _ _ s';show A3 (hR s' es y (hm.mono Pi) (hS.mv λo e=>hm.heap S o Pa e) ek hy)
 |succ k ih=>
  intro i s es y hk hi M3 hS ek hy hkk hR;have MT:i<n:=by lia
  show BX F.entry_set_update_loop ?_;rw[BD F.plain_set_update_loop _];change wpAny _ A.in1 (pyNext (.ref I)>>=_) _ _ s;show A0 (Wq.item i s _ _ MT M3 λv s' hP Nl hm=>?_);obtain rfl:=hval i v hP;have ND:eO s'.heap S y.1 es:=hS.mv λo e=>hm.heap S o Pa e;have Op:∀j,j<n->IsTupleKey (intKind prog w) s'.heap (kk j) (ad j):=λj hj=>nG (hkk j hj) λo e=>hm.heap _ o (hwr j hj) e;have{y2,hy2}:=hse (i+1);have RR:=hy2;rw[uK hy (hlk i MT)] at RR;change wpAny _ A.in1 (holding [Value.ref (ad i)] (setAdd S (.ref (ad i)))>>=_) _ _ s';show A0 (Av ?_);unfold setAdd;show Av ?_;show A0 (wpAny_pyHash_tuple hu (Op i MT) ?_);show Gc (s:={s' with toks:=s'.toks+((kk i).length+1)}) ND ek (λj hj=>Op j (by lia)) hu (y:=y2) RR λb h' Nq hsb hS2 ek2=>?_;have hkS:∀j,j<n->ad j≠S:=by
   intro j hj e;have{o,items,m,ho,_,hd,_}:=Op j hj;have{ep,NK}:=ND;rw[e,NK,Option.some.injEq] at ho;subst ho;show nomatch hd
  show A3 {Bd F.plain_set_update_loop _,ih (i+1) _ Nq y2 (by lia) MT (Wq.frame _ s' _ _ Nl (Nat.le_add_right _ _) λb hb o e=>?_) hS2 ek2 hy2 (λj hj=>nG (Op j hj) λo e=>?_) λs'' es'' RS hm'' hS'' ek'' P0=>?_}
  .rw[hsb.2 b (λh:b=S=>Ny (by rw[<-h];show hb))];show e
  .change h'.get? _=_;rw[hsb.2 _ (hkS j hj)];show e
  .show hR s'' es'' RS (Moved.trans Wq.gtrans ((hm.mono Pi).then_heap (Nat.le_add_right _ _) λb o hb e=>?_) hm'') hS'' ek'' P0;rw[hsb.2 b (λh:b=S=>hb (by rw[h];show Aa))];show e
def Ge(a:Sv){Q₁:Sv->Sw->Prop}
  (h:Q₁ (.ref s.heap.objs.size) {s with heap:=s.heap.push {cls:= .type "set",dict:=none,data:= .set #[] 0 (.fresh 0 0 (!w.params.followText "set-order"))}}):
  codeAny (model prog w) A (.call (.builtin "set.__new__") {[.type "set",a],[]}) (wants Q₁ E) s:=by
 show codeAny_of_tree ?_;change wpAny _ A.in1 (do checkBuiltinCall "set.__new__" {[.type "set",a],[]};again (.builtin "set.__new__" {[.type "set",a],[]})) _ _ s;show A0 (Cq (F.newCall_set_1 a) (A3 {Bd F.plain_set_new _,BX F.entry_set_new ?_}));rw[BD F.plain_set_new _];unfold Builtin.«set.__new__» Builtin.Frozenset.newClass;have Pi:=sub_set_self;have{hp,g,d,tk,os}:=s;dsimp only
 wp_walk
 show DV (A3 ?_);dsimp only;simp only[newObj];show A0 (wpAny_alloc (A3 ?_));show A3 h
def Gf{l:Sx}{items:Array Sv}{Q:Sv->Sw->Prop}
  (hh:A.handled=none) (hu:A.units+8<cLine) (hl:s.heap.IsList l items) {xs:SD (SD Int)} (hxs:∀i,i<items.size->xs[i]? =some (kk i)) (hxl:xs.length=items.size) (M3:stE (.fresh 0 0 (!w.params.followText "set-order"), #[]) xs=some y)
  (hk:∀i,i<items.size->items[i]? =some (.ref (ad i))/\IsTupleKey (intKind prog w) s.heap (kk i) (ad i))
  (h:∀(h':SF) (tk:Nat) (es:Array (Int×Sv)),eO h' s.heap.objs.size y.1 es->EsK kk ad items.size es y.2->
   (∀b o,b<s.heap.objs.size->s.heap.get? b=some o->h'.get? b=some o)->Q (.ref s.heap.objs.size) {s with heap:=h',toks:=tk}):
  wpAny (model prog w) A (call (.type "set") [.ref l]) Q E s:=by
 have{c,tl,hmro}:=D2.mro;have hmade:=D2.made;have Pi:=D2.sub;show wpAny_call (codeAny_of_tree ?_);change wpAny _ _ (callAny (.type "set") _) _ _ _;show A3 {Code.quiet_builtin _ (by ac_nf),BX F.entry_type_call ?_};rw[Around.under_plain (weight_type_call_type "set" [.ref l] []) rfl];have h1:=D2.notType;have h2:=D2.canCreate;have hct:=F.typeCall_set_1 (.ref l)
 repeat (any_goals (first|assumption|wp_step))
 show codeAny_mono (Ge (.ref l) (E:=E) (Q₁:=λobj s₁=>obj=.ref s.heap.objs.size/\s₁={s with heap:=s.heap.push {cls:= .type "set",dict:=none,data:= .set #[] 0 (.fresh 0 0 (!w.params.followText "set-order"))}}) {0,0}) λr s₁ hr=>?_;generalize (!w.params.followText "set-order")=led at M3 hr;cases r with
 |error e=>show hr
 |ok fl=>
  cases fl with
  |ret obj=>
   have{0,0}:=hr;have hS:(s.heap.push {cls:= .type "set",dict:=none,data:= .set #[] 0 (.fresh 0 0 led)}).get? s.heap.objs.size=some {cls:= .type "set",dict:=none,data:= .set #[] 0 (.fresh 0 0 led)}:=AE _ rfl;have hT:Shared.TypeIs {s with heap:=s.heap.push {cls:= .type "set",dict:=none,data:= .set #[] 0 (.fresh 0 0 led)}} (.ref s.heap.objs.size) "set":={_,hS,0};have Oc:=D2.init.lookup;have hbi:=D2.init.bind (.ref s.heap.objs.size)
   repeat (any_goals (first|assumption|wp_step))
   show codeAny_mono (codeAny_call_builtin (R:=wants (λr s₂=>r=.none/\∃h' tk es,s₂={s with heap:=h',toks:=tk}/\
     eO h' s.heap.objs.size y.1 es/\EsK kk ad items.size es y.2/\
     (∀b o,b<s.heap.objs.size->s.heap.get? b=some o->h'.get? b=some o)) E) D2.init.plain F.entry_set_init (check_set_init_1 hT ?_)) λr₂ s₂ hr₂=>?_
   .have{ol,QL,RG,nl,hdl}:=hl;have{ocls,odict,odata,RT}:=ol;simp only at RG hdl;subst RG;subst hdl;have RU:(s.heap.push {cls:= .type "set",dict:=none,data:= .set #[] 0 (.fresh 0 0 led)}).get? l=some {cls:= .type "list",dict:=odict,data:= .seq items nl,slots:=RT}:=A4 _ QL;have hsls:=F.sub_list_set;have hslf:=F.sub_list_frozenset;have NM:(Value.type "list"==Value.type "dict")=false:=by decide
    have Oq:(s.heap.push {cls:= .type "set",dict:=none,data:= .set #[] 0 (.fresh 0 0 led)}).IsList l items:={_,RU,0,nl,0};unfold Builtin.«set.__init__» noKeywords Builtin.Frozenset.updateFrom;generalize hPI:pyIter=PI
    wp_walk
    subst hPI;show wpAny_pyIter_list Oq ?_;show A0 (wpAny_runValue ?_);have hlS:l<s.heap.objs.size:=AQ QL;have hh3:A.in1.in1.in1.handled=none:=by simp[hh]
    have hneI:l≠(s.heap.push {cls:= .type "set",dict:=none,data:= .set #[] 0 (.fresh 0 0 led)}).objs.size:=by
     rw[Aq];show AR (Ao hlS)
    have Ny:s.heap.objs.size∉[(s.heap.push {cls:= .type "set",dict:=none,data:= .set #[] 0 (.fresh 0 0 led)}).objs.size,l]:=by
     rw[Aq];simp only[AJ,Ag,Aw,By,not_or];show{AR (BQ _),Br hlS}
    show Gd ((Walks.list hh3 _ l hneI items).toS) s.heap.objs.size
     Ny ?hu kk ad ?hval ?hwr hxs (uL M3) (items.size-0) 0 _ #[] _ (by lia) (AO _)
     {{_,AE _ rfl,0,0},(Oq.push _)} ?hS0 ?hE0 rfl ?hkk ?hR
    case hu=>change A.units+3<cLine;lia
    case hval=>
     intro i v hv;have hi:i<items.size:=uJ hv;rw[(hk i hi).1,Option.some.injEq] at hv;show hv.symm
    case hwr=>
     intro i hi;have{o,_,_,ho,_}:=(hk i hi).2;have:=AQ ho;rw[Aq];simp only[AJ,Aw,By];show AR (Ao this)
    case hS0=>show{_,A4 _ hS}
    case hE0=>show{0,λi k e=>by simp at e}
    case hkk=>show λj hj=>nG (hk j hj).2 λo e=>A4 _ (A4 _ e)
    case hR=>
     intro s' Nq y' hm ND ek' OH;rw[<-hxl,AI,M3] at OH;cases OH;have{h',g',d',tk',RB}:=s';have eg:g'=s.gens:=hm.gens;have ed:d'=s.drawn:=hm.drawn;have eo:RB=s.os:=hm.os;subst eg;subst ed;subst eo;change wpAny _ _ _ _ _ _;show A3 ?_;change wpAny _ _ (ret Value.none) _ _ _;show A3 {0,h',tk',Nq,0,ND,ek',λb o hb e=>?_};have hb1:b≠s.heap.objs.size:=AR hb;have hb2:b≠(s.heap.push {cls:= .type "set",dict:=none,data:= .set #[] 0 (.fresh 0 0 led)}).objs.size:=by
      rw[Aq];show AR (Ao hb)
     show hm.heap b o (by simp only[AJ,Ag,Aw,By,not_or];show{hb1,hb2}) (A4 _ (A4 _ e))
   .cases r₂ with
    |error e=>show hr₂
    |ok fl₂=>
     cases fl₂ with
     |ret r=>
      have{0,h',tk,es,0,ND,ek',PX}:=hr₂
      repeat (any_goals (first|assumption|wp_step))
      show h _ _ _ ND ek' PX
     |_=>show hr₂.elim
  |_=>show hr.elim
end
theorem Gg:entryFor table "set.__iter__"=some Builtin.«frozenset.__iter__»:=
 entryFor_alias (id':="frozenset.__iter__") (by kernel_rfl) rfl (by ac_nf) (by kernel_rfl)
theorem uS:Slot "set_iterator" "__iter__" "set_iterator.__iter__":=
 .of (owner:="set_iterator") (n:="__iter__") (by rw[typeLookup_type,builtinLookup_eq_fast];kernel_rfl) (by ac_nf) (by ac_nf) (by ac_nf)
  (by first|show .inl (by ac_nf)|show .inr (by ac_nf)) (by rw[isSubtype_type];kernel_rfl)
theorem Gh:entryFor table "set_iterator.__iter__"=some Builtin.«dict_keyiterator.__iter__»:=
 entryFor_alias (id':="dict_keyiterator.__iter__") (by kernel_rfl) rfl (by ac_nf) (by kernel_rfl)
def Gi(a:Sv):argsOk "set_iterator.__iter__" {[a],[]}:=by unfold argsOk;kernel_rfl
theorem hU:Slot "set_iterator" "__next__" "set_iterator.__next__":=
 .of (owner:="set_iterator") (n:="__next__") (by rw[typeLookup_type,builtinLookup_eq_fast];kernel_rfl) (by ac_nf) (by ac_nf) (by ac_nf)
  (by first|show .inl (by ac_nf)|show .inr (by ac_nf)) (by rw[isSubtype_type];kernel_rfl)
theorem uT:entryFor table "set_iterator.__next__"=some Builtin.«set_iterator.__next__»:=entryFor_of_tree (by kernel_rfl)
def uU(a:Sv):argsOk "set_iterator.__next__" {[a],[]}:=by unfold argsOk;kernel_rfl
theorem uV{α:Type}:∀(l:SD α) (i:Nat) (h:i<l.length),([l[i]]++l.eraseIdx i).Perm l
 |[],i,h=>absurd h (by simp)
 |a::l,0,h=>by simp
 |a::l,i+1,h=>by
  have hi:i<l.length:=by simpa using h
  have:=uV l i hi;simp only[List.getElem_cons_succ,List.eraseIdx_cons_succ,List.singleton_append] at this⊢;show(List.Perm.swap a l[i] _).trans (this.cons a)
theorem uW{α:Type}(next:Nat->Nat):∀(f k:Nat) (left:SD α) (Nb:Array α),left.length=f->(pickOrder.go next f k left Nb).toList.Perm (Nb.toList++left)
 |0,k,left,Nb,e=>by
  have:left=[]:=Bv.mp e;subst this;unfold pickOrder.go;simp
 |f+1,k,left,Nb,e=>by
  have hp:next k%left.length<left.length:=Nat.mod_lt _ (by lia);unfold pickOrder.go;rw[A2 hp];dsimp only;show(uW next f (k+1) _ _ (by rw[List.length_eraseIdx_of_lt hp];lia)).trans ?_;rw[Array.toList_push,BV];show List.Perm.append_left _ ?_;show uV left _ hp
def Gj{α:Type}(next:Nat->Nat)(xs:Array α):(pickOrder next xs).toList.Perm xs.toList:=by
 unfold pickOrder;simpa using uW next xs.size 0 xs.toList #[] (by simp)
def fy(w:SB)(a:Sx)(ep:Nat)(es:Array (Int×Sv)):Array (Int×Sv):=if w.params.followText "set-order" then pickOrder (w.params.setOrder a ep) es else es
def uX(w:SB)(a:Sx)(ep:Nat)(es:Array (Int×Sv)):(fy w a ep es).toList.Perm es.toList:=by
 unfold fy;split
 .show Gj _ _
 .show Da _
def nH(w:SB)(a:Sx)(ep:Nat)(es:Array (Int×Sv)):(fy w a ep es).size=es.size:=by
 have:=(uX w a ep es).length_eq;simpa using this
def bK(w:SB)(t:SetTable)(i:Nat):Nat:=if w.params.followText "set-order" then 0 else if i=0 then 0 else t.place.getD (i-1) 0+1
def uY(r:Ris xs){j:Nat}(hp:p<=xs.size)(h1:∀i,i<p->xs.getD i 0<j)(h2:∀i,p<=i->i<xs.size->j<=xs.getD i 0):below xs j=p:=by
 have{a1,a2,a3}:=FY r j;rcases Nat.lt_trichotomy (below xs j) p with c|c|c
 .have:=h1 _ c;have:=a3 _ (A9 _) (by lia);lia
 .show c
 .have:=a2 _ c;have:=h2 p (A9 _) (by lia);lia
def Gk{t:SetTable}(r:Ris t.place)(hi:i<=t.place.size):below t.place (if i=0 then 0 else t.place.getD (i-1) 0+1)=i:=by
 by_cases z:i=0
 .subst z;show uY r (AO _) (λi h=>absurd h (by lia)) λi _ _=>AO _
 .rw[A5 z];show uY r hi (λj hj=>?_) λj h1 h2=>?_
  .rcases Bs j (i-1) with c|c
   .have:=r j (i-1) c (by lia);lia
   .have:j=i-1:=by lia
    subst this;lia
  .have:=r (i-1) j (by lia) h2;lia
section
variable{prog:Sy}{w:SB}{A:SC}{E:Sv->Sw->Prop}{s:Sw}
def Gm(a:Addr)(slot given epochThen:Nat):setNext a slot given epochThen=(do
  let (es,epoch,t)<-setState a
  if<-setsByText then
   if epoch !=epochThen then unsupported "set_iterator.__next__:elements-changed"
   return ((<-setWalk a)[given]?).map λe=>(e.2,slot)
  if !t.plain&&es.size>1 then unsupported "set_iterator.__next__:the-table-is-plain-no-more"
  (do if !t.led&& !es.isEmpty then unsupported "set:maker-not-led":Sem Unit)
  let i:=SetTable.below t.place slot
  return match es[i]?,t.place[i]? with
   |some (_,x),some j=>some (x,j+1)
   |_,_=>none):=rfl
def uZ{es:Array (Int×Sv)}{ep:Nat}{t:SetTable}{i:Nat}{Q:SG (Sv×Nat)->Sw->Prop}
  (ho:s.heap.get? S=some {cls:= .type "set",dict:=none,data:= .set es ep t}) (b:Tb t es) (hs:es.size<=t.mask) (hl:t.led= !w.params.followText "set-order") (hp:t.plain=true) (hi:i<=es.size)
  (h:Q (((fy w S ep es)[i]?).map λe=>(e.2,bK w t (i+1))) s):wpAny (model prog w) A (setNext S (bK w t i) i ep) Q E s:=by
 have hf:=kJ b hs;rw[Gm];show A0 (Bg ho rfl hf ?_);dsimp only;unfold setsByText;show A0 (A0 (DV (A3 ?_)));change wpAny _ _ (if(w.params.followText "set-order")=true then _ else _) _ _ s;unfold fy bK at h;unfold bK;cases ht:w.params.followText "set-order" with
 |true=>
  rw[ht] at h;simp only[C9] at h⊢;simp only[D9,AN,Au];unfold setWalk;show A0 (A0 (Bg ho rfl hf ?_));dsimp only;unfold setsByText;show A0 (A0 (DV (A3 ?_)));change wpAny _ _ (if(w.params.followText "set-order")=true then _ else _) _ _ s;rw[ht];simp only[C9];show A0 (DV (A3 ?_));show A3 h
 |false=>
  rw[ht] at h hl;simp only[AN,Au] at h⊢;rw[hp,hl];simp only[BW,DE,DF,AN,Au];show A0 (A3 ?_);rw[Gk b.ris (by rw[b.size];show hi)];show A3 ?_;rcases Bs i es.size with c|c
  .have c':i<t.place.size:=by rw[b.size];show c
   have e2:t.place.getD (i+1-1) 0=t.place[i]:=by simp[Array.getD,c']
   rw[Ab c] at h⊢;rw[Ab c'];rw[A5 (by lia),e2] at h;show h
  .rw[BY c] at h⊢;show h
def eP(h:SF)(it S:Sx)(slot i n ep:Nat):Prop:=∃o,h.get? it=some o/\o.cls=.type "set_iterator"/\o.data=.fields #[.int slot 0,.int i 0,.ref S,.int n 0,.int ep 0]
def eP.typeIs(x:eP s.heap it S slot i n ep):s.TypeIs (.ref it) "set_iterator":=by have{o,ho,hc,_}:=x;show{o,ho,hc}
def eP.mv(x:eP h it S slot i n ep)(e:∀o,h.get? it=some o->h'.get? it=some o):eP h' it S slot i n ep:=by have{o,ho,r}:=x;show{o,e _ ho,r}
def Gn{es:Array (Int×Sv)}{ep:Nat}{t:SetTable}{Q:Sv->Sw->Prop}
  (ho:s.heap.get? S=some {cls:= .type "set",dict:=none,data:= .set es ep t}) (b:Tb t es) (hs:es.size<=t.mask) (hp:t.plain=true)
  (h:Q (.ref s.heap.objs.size) {s with heap:=s.heap.push {cls:= .type "set_iterator",data:= .fields #[.int (bK w t 0:Nat) 0,.int (0:Nat) 0,.ref S,.int es.size 0,.int ep 0]}}):
  wpAny (model prog w) A (pyIter (.ref S)) Q E s:=by
 have hT:s.TypeIs (.ref S) "set":={_,ho,0};have hf:=kJ b hs;show wpAny_pyIter_slot hT F.slot_set_iter (An F.slot_set_iter hT Gg ?_ (F.args_set_iter_1 _));unfold Builtin.«frozenset.__iter__» Builtin.Frozenset.slot0 slotArgs;simp only[List.isEmpty_nil,BW,AN,↓reduceIte,bind_assoc,CG,D9];unfold Builtin.Frozenset.addrOf Builtin.Frozenset.sizeOf setEntries;show A0 (A3 ?_);try dsimp only
 show A0 (A3 ?_);show A0 (A0 (A0 (Bg ho rfl hf (A3 (A3 ?_)))));have hdr:∀{Q':Bool->Sw->Prop},Q' false s->wpAny (model prog w) A.in1 (setDrawn S) Q' E s:=by
  intro Q' q;unfold setDrawn;show A0 (Bg ho rfl hf ?_);dsimp only;unfold setsByText;show A0 (A0 (DV (A3 ?_)));show A3 ?_;have:(!t.plain&&decide (es.size>1))=false:=by rw[hp];rfl
  change Q' (!w.params.followText "set-order"&&(!t.plain&&decide (es.size>1))) s;rw[this,Ci];show q
 show A0 (hdr ?_);simp only[AN,Au];show A0 (A3 ?_);show A0 (wpAny_setEpoch_of ho rfl hf ?_);unfold newFields;show A0 (Ap (A3 {1,"set_iterator",_,{_,AE _ rfl,0},hU.lookup,?_}));have e0:bK w t 0=0:=by unfold bK;split<;>rfl
 rw[e0] at h;simpa[rawInt] using h
def u7{vs:Array Sv}(ho:h.get? a=some o)(hd:o.data=.fields vs)(f:Array Sv->Array Sv):
  ∃o',(h.update a (Obj.mapFields f)).get? a=some o'/\o'.cls=o.cls/\o'.data=.fields (f vs):=
 {_,B8 _ ho (DU (C4 hd _)),Obj.cls_mapFields ..,C4 hd _}
def Go{t:SetTable}{e:Int×Sv}{Q:SG Sv->Sw->Prop}(MU:eP s.heap it S (bK w t i) i es.size ep)
  (ho:s.heap.get? S=some {cls:= .type "set",dict:=none,data:= .set es ep t}) (b:Tb t es) (hs:es.size<=t.mask) (hl:t.led= !w.params.followText "set-order") (hp:t.plain=true) (hi:i<es.size)
  (he:(fy w S ep es)[i]? =some e) (hQ:∀h',eP h' it S (bK w t (i+1)) (i+1) es.size ep->Heap.SameBut it s.heap h'->Q (some e.2) {s with heap:=h'}):
  wpAny (model prog w) A (pyNext (.ref it)) Q E s:=by
 have{o,P1,hc,hd}:=id MU;have hf:=kJ b hs;unfold pyNext;show A0 (CU (B6 (name:=Str.ofString "__next__") MU.typeIs hU
  (An hU MU.typeIs uT ?_ (uU _))))
 change wpAny _ _ (fieldsOf (.ref it)>>=_) _ _ s;show A0 (DP P1 hd ?_);dsimp only;unfold setEntries;show A0 (A0 (Bg ho rfl hf (A3 ?_)));dsimp only;rw[A5 (by simp)];simp only[B1];show A0 (uZ ho b hs hl hp (Ah hi) ?_);rw[he];dsimp only[Option.map_some];show A0 (CI P1 hd (by simp) ?_);have{o1,NC,hc1,hd1}:=u7 P1 hd (·.setIfInBounds 0 (rawInt (bK w t (i+1):Nat)));have sb1:=BI s.heap it (Obj.mapFields (·.setIfInBounds 0 (rawInt (bK w t (i+1):Nat))));generalize s.heap.update it (Obj.mapFields (·.setIfInBounds 0 (rawInt (bK w t (i+1):Nat))))=h1 at NC sb1⊢;show A0 (CI (s:={s with heap:=h1}) NC hd1 (by simp) ?_);have{o2,NA,NS,N'}:=u7 NC hd1 (·.setIfInBounds 1 (rawInt ((i:Int)+1)));have Rg:=BI h1 it (Obj.mapFields (·.setIfInBounds 1 (rawInt ((i:Int)+1))));dsimp only;generalize h1.update it (Obj.mapFields (·.setIfInBounds 1 (rawInt ((i:Int)+1))))=h2 at NA Rg⊢;show A3 {1,A3 (hQ _ {o2,NA,by rw[NS,hc1,hc],?_} (sb1.trans Rg))};rw[N'];simp[rawInt]
def Gp{t:SetTable}{Q:SG Sv->Sw->Prop}(hh:A.handled=none)(MU:eP s.heap it S (bK w t es.size) es.size es.size ep)
  (ho:s.heap.get? S=some {cls:= .type "set",dict:=none,data:= .set es ep t}) (b:Tb t es) (hs:es.size<=t.mask) (hl:t.led= !w.params.followText "set-order") (hp:t.plain=true)
  (hQ:∀h',Heap.ExtBut it s.heap h'->Q none {s with heap:=h'}):
  wpAny (model prog w) A (pyNext (.ref it)) Q E s:=by
 have{o,P1,hc,hd}:=id MU;have hf:=kJ b hs;unfold pyNext;show A0 (CU (B6 (name:=Str.ofString "__next__") MU.typeIs hU
  (An hU MU.typeIs uT ?_ (uU _))))
 change wpAny _ _ (fieldsOf (.ref it)>>=_) _ _ s;show A0 (DP P1 hd ?_);dsimp only;unfold setEntries;show A0 (A0 (Bg ho rfl hf (A3 ?_)));dsimp only;rw[A5 (by simp)];simp only[B1];show A0 (uZ ho b hs hl hp (A9 _) ?_);rw[BY (by rw[nH];show A9 _)];dsimp only[Option.map_none];show A0 (CI P1 hd (by simp) ?_);change wpAny _ _ (newExc (.type "StopIteration") []>>=_) _ _ _;show A0 ?_;simp only[newExc,newTuple];show A0 (Ap ?_ (by size_fits));show A0 (m:=firstArgMember _ _) (Cq (a:=Value.none) (by first|rfl|(simp only[firstArgMember];rfl)) ?_);show Ap ?_ (by size_fits);simp -iota only[raiseNew];show A0 (wpAny_handled ?_);rw[show A.in1.handled=none from hh];show A0 (A3 (wpAny_throw ?_));show A0 (C2 (T:="StopIteration") (b:=true) {_,AE _ rfl,0} isSubtype_stop ?_);show A3 (hQ _ (((BI ..).extBut.push _).push _))
theorem Gq(hh:A.handled=none)(I S:Sx)(NM:S≠I){t:SetTable}(b:Tb t es)(hs:es.size<=t.mask)(hl:t.led= !w.params.followText "set-order")(hp:t.plain=true):
  Walks prog w A I [I,S] [I] es.size (λi v=>∃e,(fy w S ep es)[i]? =some e/\v=e.2) (λi h=>eP h I S (bK w t i) i es.size ep/\h.get? S=some {cls:= .type "set",dict:=none,data:= .set es ep t}) where
 sub:=λb hb=>by simp at hb;simp[hb]
 frame:=λ_ _ _ st hk=>{st.1.mv λo e=>hk I (by simp) o e,hk S (by simp) _ st.2}
 item:=λi s Q E hi st hQ=>by
  have NO:i<(fy w S ep es).size:=by rw[nH];show hi
  show Go st.1 st.2 b hs hl hp hi (Ab NO) λh' On Oy=>?_;show hQ _ h' s.toks {_,Ab NO,0} {On,Oy.extBut S _ NM st.2} λb o hb e=>Oy.extBut b o (λh=>hb (by simp[h])) e
 done:=λs Q E st hQ=>Gp hh st.1 st.2 b hs hl hp λh' OV=>hQ h' s.toks λb o hb e=>OV b o (λh=>hb (by simp[h])) e
 self:=λ_ s _ _ st hQ=>by
  show wpAny_pyIter_slot st.1.typeIs uS (An uS st.1.typeIs Gh ?_ (Gi _));change wpAny _ _ (ret (.ref I)) _ _ s;show A3 {1,"set_iterator",_,st.1.typeIs,hU.lookup,hQ}
end
open PySem.W
section
variable{prog:Sy}{w:SB}{A:SC}{E:Sv->Sw->Prop}{s:Sw}
def Gr{es:Array (Int×Sv)}{ep:Nat}{t:SetTable}{Q:SD Sv->Sw->Prop}(hh:A.handled=none)
  (ho:s.heap.get? S=some {cls:= .type "set",dict:=none,data:= .set es ep t}) (b:Tb t es) (hs:es.size<=t.mask) (hl:t.led= !w.params.followText "set-order") (hp:t.plain=true)
  (hQ:∀h' tk vs,(∀b o,s.heap.get? b=some o->h'.get? b=some o)->s.heap.objs.size<=h'.objs.size->vs.Perm (es.toList.map (·.2))->Q vs {s with heap:=h',toks:=tk}):
  wpAny (model prog w) A (collect (.ref S)) Q E s:=by
 unfold collect;show A0 (wpAny_runValue (BX F.entry_proto_collect ?_));rw[BD F.plain_proto_collect _];change wpAny _ A.in1 (newList []>>=λl=>again (.builtin "list.__iadd__" {[l,.ref S],[]})) _ _ s;show A0 (Ap ?_);show A3 {Bd F.plain_list_iadd _,BX F.entry_list_iadd ?_};rw[BD F.plain_list_iadd _];change wpAny _ A.in1 (Builtin.List.listExtendWith (.ref s.heap.objs.size) (.ref S) (.ref s.heap.objs.size)) _ _ _;have hS:S<s.heap.objs.size:=AQ ho;have NC:(s.heap.push {cls:= .type "list",data:= .seq ([]:SD Sv).toArray}).get? S=some {cls:= .type "set",dict:=none,data:= .set es ep t}:=A4 _ ho;have hT:Shared.TypeIs {s with heap:=s.heap.push {cls:= .type "list",data:= .seq ([]:SD Sv).toArray}} (.ref S) "set":={_,NC,0};unfold Builtin.List.listExtendWith;show A0 (Cy hT ?_);have h1:Builtin.List.listSameRef (.ref s.heap.objs.size) (.ref S)=false:=by
  change(s.heap.objs.size==S)=false;show CP.mpr (Br hS)
 have h2:(Value.type "set"==Value.type "list")=false:=by decide
 have h3:(Value.type "set"==Value.type "tuple")=false:=by decide
 simp only[h1,h2,h3,Bool.or_false,AN,Au];show A0 (Gn NC b hs hp ?_);show A0 (Av ?_);unfold Builtin.List.listLengthHint;generalize hH:s.heap.push {cls:= .type "list",data:= .seq ([]:SD Sv).toArray}=H at NC hT⊢;have hHs:H.objs.size=s.heap.objs.size+1:=by rw[<-hH,Aq]
 have RJ:Shared.TypeIs {s with heap:=H.push {cls:= .type "set_iterator",data:= .fields #[.int (bK w t 0:Nat) 0,.int (0:Nat) 0,.ref S,.int es.size 0,.int ep 0]}} (.ref S) "set":={_,A4 _ NC,0};show A0 (CN RJ F.slot_set_len.lookup ?_)
 wp_delta
 show A0 (C2 (b:=true) RJ (by rw[isSubtype_type];kernel_rfl) ?_);change wpAny _ A.in1 (typeOf (.ref S)>>=_) _ _ _;show A0 (Cy RJ ?_);show A3 ?_;rw[A6 (by decide)];show A0 (C1 ?_);unfold Builtin.List.listTouch;have NM:S≠H.objs.size:=by rw[hHs];show AR (Ao hS)
 have hI0:eP (H.push {cls:= .type "set_iterator",data:= .fields #[.int (bK w t 0:Nat) 0,.int (0:Nat) 0,.ref S,.int es.size 0,.int ep 0]}) H.objs.size S (bK w t 0) 0 es.size ep:={_,AE _ rfl,0,0};have hL:(H.push {cls:= .type "set_iterator",data:= .fields #[.int (bK w t 0:Nat) 0,.int (0:Nat) 0,.ref S,.int es.size 0,.int ep 0]}).get? s.heap.objs.size=some (seqObj "list" #[] 0):=A4 _ (hH▸AE _ rfl);have hS2:(H.push {cls:= .type "set_iterator",data:= .fields #[.int (bK w t 0:Nat) 0,.int (0:Nat) 0,.ref S,.int es.size 0,.int ep 0]}).get? S=some {cls:= .type "set",dict:=none,data:= .set es ep t}:=A4 _ NC;have hold:∀b o,s.heap.get? b=some o->(H.push {cls:= .type "set_iterator",data:= .fields #[.int (bK w t 0:Nat) 0,.int (0:Nat) 0,.ref S,.int es.size 0,.int ep 0]}).get? b=some o:=λb o e=>A4 _ (hH▸A4 _ e);have hsz:(H.push {cls:= .type "set_iterator",data:= .fields #[.int (bK w t 0:Nat) 0,.int (0:Nat) 0,.ref S,.int es.size 0,.int ep 0]}).objs.size=s.heap.objs.size+2:=by rw[Aq,hHs]
 generalize H.push {cls:= .type "set_iterator",data:= .fields #[.int (bK w t 0:Nat) 0,.int (0:Nat) 0,.ref S,.int es.size 0,.int ep 0]}=H1 at hI0 hL hS2 hold hsz⊢;show A0 (A0 (D0 (s:={s with heap:=H1}) hL rfl ?_ (AO _) (by decide)));have Rh:=Cs hL (λx=>x.push Value.none);have No:∀b,b≠s.heap.objs.size->(H1.update s.heap.objs.size (Obj.mapSeq λx=>x.push Value.none)).get? b=H1.get? b:=(BI H1 s.heap.objs.size _).2;dsimp only;generalize H1.update s.heap.objs.size (Obj.mapSeq λx=>x.push Value.none)=H2 at Rh No⊢;show D0 (s:={s with heap:=H2}) Rh rfl ?_ (by simp[At]) (by simp);have RV:=Cs Rh (λx=>x.pop);have N5:∀b,b≠s.heap.objs.size->(H2.update s.heap.objs.size (Obj.mapSeq λx=>x.pop)).get? b=H2.get? b:=(BI H2 s.heap.objs.size _).2;dsimp only;generalize H2.update s.heap.objs.size (Obj.mapSeq λx=>x.pop)=H3 at RV N5⊢;have RN:∀b o,b≠s.heap.objs.size->H1.get? b=some o->H3.get? b=some o:=λb o hb e=>by rw[N5 b hb,No b hb];show e
 have Ny:s.heap.objs.size∉[H.objs.size,S]:=by
  rw[hHs];simp only[AJ,Aw,By,not_or];show{AR (BQ _),Br hS}
 have hSn:S≠s.heap.objs.size:=AR hS;have hHn:H.objs.size≠s.heap.objs.size:=by rw[hHs];show Br (BQ _)
 show A3 {Bd F.plain_extend_loop _,codeAny_extend_loopS (Gq (A:=A.in1) (ep:=ep) hh H.objs.size S NM b hs hl hp).toS ?_ _ Ny _ es.size 0 _ _ _ rfl (AO _) {hI0.mv λo e=>RN _ o hHn e,RN S _ hSn hS2} RV (ItemsOf.nil _) λs' MY c' hm ND MR=>?_}
 .have:=b.few;rw[At];lia
 change wpAny _ A (load s.heap.objs.size>>=_) _ _ s';show A0 (wpAny_load ND ?_);have{h',g',d',tk',RB}:=s';have eg:g'=s.gens:=hm.gens;have ed:d'=s.drawn:=hm.drawn;have eo:RB=s.os:=hm.os;subst eg;subst ed;subst eo;show A3 (hQ h' tk' MY.toList (λb o e=>?_) (Ah (AQ ND)) ?_)
 .have MT:=AQ e;show hm.heap b o (λhb=>?_) (RN b o (AR MT) (hold b o e));simp only[AJ,Aw,By] at hb;rcases hb with hb|hb
  .show absurd MT (by rw[hb];show BU _)
  .rw[hb,hHs] at MT;show absurd MT (Nat.not_lt.mpr (C' _))
 .have:MY.toList=(fy w S ep es).toList.map (·.2):=by
   apply List.ext_getElem?;intro i;rw[AD,BK,BK];rcases Bs i es.size with c|c
   .have hi:i<MY.size:=by rw[MR.1];show c
    have{e,he,hv}:=MR.2 i _ (Ab hi);rw[Ab hi,hv,he];rfl
   .rw[BY (by rw[MR.1];show c),BY (by rw[nH];show c)];rfl
  rw[this];show(uX w S ep es).map _
abbrev lsH(h:SF)(vs:SD Sv):SF:=h.push (seqObj "list" vs.toArray 0)
def jr(h:SF)(vs:SD Sv):(lsH h vs).get? h.objs.size=some (seqObj "list" vs.toArray 0):=AE _ rfl
def nI(hb:h.get? b=some o):(bo (lsH h vs) h.objs.size vs).get? b=some o:=by
 have MT:b<h.objs.size:=AQ hb;have n0:b≠h.objs.size:=AR MT;have n1:b≠h.objs.size+1:=AR (Ao MT);have n2:b≠h.objs.size+1+1:=AR (Ao (Ao MT));rw[BF _ _ _ (by rw[C0,B9,C0];show n2),BF _ _ _ (by rw[B9,C0];show n1),Dc _ _ _ _ n0,BF _ _ _ n0];show hb
def u8{Nb:Array Sv}(hb:h.get? b=some o):(sortedHeap (lsH h vs) h.objs.size vs Nb).get? b=some o:=by
 unfold sortedHeap;rw[Dc _ _ _ _ (AR (AQ hb))];show nI hb
def u9(h:SF)(vs:SD Sv)(Nb:Array Sv):∃e,(sortedHeap (lsH h vs) h.objs.size vs Nb).get? h.objs.size=some (seqObj "list" Nb e):=by
 obtain⟨e1,NC⟩:∃e1,((lsH h vs).update h.objs.size (Obj.mapSeq λ_=>(#[]:Array Sv))).get? h.objs.size=some (seqObj "list" #[] e1):={_,Cs (jr h vs) (λ_=> #[])};have Pw:(bo (lsH h vs) h.objs.size vs).get? h.objs.size=some (seqObj "list" #[] e1):=by
  rw[BF _ _ _ (by rw[C0,B9,C0];show AR (Ao (BQ _))),BF _ _ _ (by rw[B9,C0];show AR (BQ _))];show NC
 show{_,Cs Pw (λ_=>Nb)}
def Gs{v:Sv}{hV:SD Sv->Sw->Prop}{Q:Sv->Sw->Prop}(hcol:wpAny (model prog w) A.in1 (collect v) hV E s)
  (h:∀vs s1,hV vs s1->vs.length<64/\(vs.length<2->Q (.ref s1.heap.objs.size) {s1 with heap:=sortedHeap (lsH s1.heap vs) s1.heap.objs.size vs vs.toArray})/\
   (2<=vs.length->∃(c:Nat->Nat->Bool) (kd:SortKind),StrO vs.length c/\
    (∀(R:SortKind->Sw->Prop) (E:Sv->Sw->Prop),R kd {s1 with heap:=bo (lsH s1.heap vs) s1.heap.objs.size vs}->wpAny (model prog w) A.in1.in1 (keyKind' vs.toArray) R E {s1 with heap:=bo (lsH s1.heap vs) s1.heap.objs.size vs})/\
    (∀i j,i<vs.length->j<vs.length->∀C:Bool->Sw->Prop,C (c i j) {s1 with heap:=bo (lsH s1.heap vs) s1.heap.objs.size vs}->wpAny (model prog w) A.in1.in1 (keyLt' kd (vs.getD i .none) (vs.getD j .none)) C (λ_ _=>False) {s1 with heap:=bo (lsH s1.heap vs) s1.heap.objs.size vs})/\
    ∀p,Ord vs.length p->Up c p vs.length->Q (.ref s1.heap.objs.size) {s1 with heap:=sortedHeap (lsH s1.heap vs) s1.heap.objs.size vs (p.map λi=>vs.getD i .none)})):
  wpAny (model prog w) A (call (.builtin "sorted") [v]) Q E s:=by
 show D5 kind_sorted plain_sorted entry_sorted (args_sorted1 _) ?_;unfold Builtin.«sorted»;show A0 (m:=checkCount "sorted" 1 1 _) (A3 ?_);show A0 (thn hcol λvs s1 g=>?_);have{h64,few,OI}:=h vs s1 g;show A0 (D8 ?_ (by rw[At];lia));change wpAny _ _ _ _ _ {s1 with heap:=lsH s1.heap vs};by_cases h2:vs.length<2
 .show A0 (Av (An Dg {_,jr s1.heap vs,0} De (tR (s:={s1 with heap:=lsH s1.heap vs}) (jr s1.heap vs) h2 {1,?_}) (Dh _)));show A3 {1,few h2}
 .have{c,kd,so,Px,hc,hq}:=OI (by lia);have{p,hs,hp,up}:=FS so (by lia) h64;show A0 (Av (An Dg {_,jr s1.heap vs,0} De (uv (c:=cP vs.length c) (s:={s1 with heap:=lsH s1.heap vs}) (jr s1.heap vs) (by lia) (by lia) (by rw[hp.size];lia) (λR=>Px R _) (λi j b hb Q' Rc=>?_) hs {1,?_}) (Dh _)))
  .unfold cP at hb;by_cases h:i<vs.length/\j<vs.length
   .rw[A6 h] at hb;cases hb;show hc i j h.1 h.2 _ Rc
   .rw[A5 h] at hb;cases hb
  .show A3 {1,hq p hp up}
end
section
variable{X:Cx}{MO:SD (Sx×Obj)}{σ:St}{H:Hp}{s:Sw}
theorem va:∀{xs:SD Int}{vs:SD Sv},ax (xs.map V.int) vs->∀(prog:Sy) (w:SB),ItemsAre (intKind prog w) xs vs
 |[],_,.nil,_,_=>.nil
 |x::xs,_,.cons r1 r2,prog,w=>by
  have{t,0}:=r1;show .cons (intKind_is prog w x t) (va r2 prog w)
def Gu(I:Inv X MO σ H s){xs:SD Int}(h:SqT X.K H a (xs.map V.int)):IsTupleKey (intKind X.prog X.w) s.heap xs a:=by
 have{MQ,r,p,z}:=I.tuple h;have{o,ho,hc,n,hd}:=p;show{o,_,n,ho,hc,hd,va r _ _}
theorem Gv{A:SC}{k:Nat}(hr:Room k A):A.units+8<cLine:=Nat.lt_of_le_of_lt (Nat.add_le_add_left (by decide:8<=64) _) hr.units
def ssB(xss:SD (SD Int)):Bool:=[true,false].all λled=>match stE (.fresh 0 0 led, #[]) xss with
 |some y=>y.1.fits y.2.size&&decide (y.1.dummies= #[])&&decide (y.1.place.toList.Pairwise (· < ·))&&(y.1.led==led)&&y.1.plain&&decide (y.2.size<=y.1.mask)&&decide (y.2.size<64)&&decide y.2.toList.Nodup&&y.2.toList.all (xss.contains ·)&&xss.all (y.2.toList.contains ·)
 |none=>false
def Gw(h:ssB xss=true)(led:Bool):∃y,stE (.fresh 0 0 led, #[]) xss=some y/\(∀es:Array (Int×Sv),es.size=y.2.size->Tb y.1 es)/\y.1.led=led/\y.1.plain=true/\y.2.size<=y.1.mask/\y.2.size<64/\y.2.toList.Nodup/\∀z,z∈y.2.toList↔z∈xss:=by
 have h:=AX.mp h led (by cases led<;>simp)
 generalize stE (.fresh 0 0 led, #[]) xss=r at h⊢;cases r with
 |none=>cases h
 |some y=>
  simp only[AM,Ar,AX,List.contains_iff_mem,DY] at h;have{{{{{{{{{h1,h2},h3},h4},h5},h6},h7},h8},h9},h10}:=h;show{y,0,λes e=>{?_,h2,λi j Ox hj=>?_,4},h4,h5,h6,h7,h8,λz=>{h9 z,h10 z}}
  .unfold SetTable.fits at h1;simp only[AM,DY] at h1;rw[h1.1,e]
  .have:=List.pairwise_iff_getElem.mp h3 i j (by simp;lia) (by simpa using hj) Ox;simpa[Array.getD,hj,Nat.lt_trans Ox hj] using this
inductive rSSet(vs:List V)(H:Hp)(Q:VK):Prop
 |mk (v:V) (xss:List (List Int)) (m:Nat):vs=[v]->Is H (.l (xss.map tI)) v->0<m->((∀xs∈xss,xs.length=m))->ssB xss=true->(∀(N2:List (List Int)) (q:Addr) (H':Hp),N2.Nodup->(∀z,z∈N2↔z∈xss)->(∀i j,i<j->j<N2.length->ltI (N2.getD j []) (N2.getD i [])=false)->H q=none->ae H H'->Is H' (.l (N2.map tI)) (.ref q)->Q (.ref q) H')->rSSet vs H Q
def Gx(I:Inv X MO σ H s){rs:SD V}(hi:Iss H (xss.map tI) rs)(r':ax rs vs)(hm:0<m)(QM:∀xs∈xss,xs.length=m)(MS:xss.length<64)(hnd:xss.Nodup){Q:VK}
  (q:∀(N2:SD (SD Int)) (q:Sx) (H':Hp),N2.Perm xss->(∀i j,i<j->j<N2.length->ltI (N2.getD j []) (N2.getD i [])=false)->H q=none->ae H H'->Is H' (.l (N2.map tI)) (.ref q)->Q (.ref q) H') (A:SC):
  vs.length<64/\(vs.length<2->EP X MO σ Q (.ref s.heap.objs.size) {s with heap:=sortedHeap (lsH s.heap vs) s.heap.objs.size vs vs.toArray})/\
   (2<=vs.length->∃(c:Nat->Nat->Bool) (kd:SortKind),StrO vs.length c/\
    (∀(R:SortKind->Sw->Prop) (E:Sv->Sw->Prop),R kd {s with heap:=bo (lsH s.heap vs) s.heap.objs.size vs}->wpAny (model X.prog X.w) A.in1.in1 (keyKind' vs.toArray) R E {s with heap:=bo (lsH s.heap vs) s.heap.objs.size vs})/\
    (∀i j,i<vs.length->j<vs.length->∀C:Bool->Sw->Prop,C (c i j) {s with heap:=bo (lsH s.heap vs) s.heap.objs.size vs}->wpAny (model X.prog X.w) A.in1.in1 (keyLt' kd (vs.getD i .none) (vs.getD j .none)) C (λ_ _=>False) {s with heap:=bo (lsH s.heap vs) s.heap.objs.size vs})/\
    ∀p,Ord vs.length p->Up c p vs.length->EP X MO σ Q (.ref s.heap.objs.size) {s with heap:=sortedHeap (lsH s.heap vs) s.heap.objs.size vs (p.map λi=>vs.getD i .none)}):=by
 have NM:∀xs∈xss,xs≠[]:=λxs hx z=>by have:=QM xs hx;rw[z] at this;show absurd this (by change¬0=m;lia)
 have RW:rs.length=xss.length:=by rw[hi.length,A1]
 have ln:=r'.length;have lns:vs.length=xss.length:=by lia
 show{4,λh2=>?_,λh2=>{fx xss,tuples' true,by rw[lns];show FU (by lia) QM hnd,λR E hR=>?_,λi j NO hj' C hC=>?_,λp ho up=>?_}}
 .have{e,he}:=u9 s.heap vs vs.toArray;have fr:=I.hok.fresh (a:=s.heap.objs.size) (A9 _);show{.ref s.heap.objs.size,_,I.laid (t':=s.toks) (λ_ _=>u8) (A9 _) (show aE X.prog X.w _ _ _ (.lst rs) from{by rw[At];lia,vs,e,r',he}),0,q xss _ _ (Da _) (λi j a b=>absurd b (by lia)) fr (ae.new fr) (aD ak (hi.mono (ae.new fr)))}
 .have I2:Inv X MO σ H {s with heap:=bo (lsH s.heap vs) s.heap.objs.size vs}:=I.kept (t':=s.toks) λb o e=>nI e;have{fs,k1,k2,k3}:=tV I2 hi r' NM;show kat_kind (T:= .type "int") k1 (by lia) (λf hf=>by have{z,t,0}:=k3 f hf;show .now) rfl hR
 .have I2:Inv X MO σ H {s with heap:=bo (lsH s.heap vs) s.heap.objs.size vs}:=I.kept (t':=s.toks) λb o e=>nI e;have g:∀i,i<xss.length->∃a,vs.getD i .none=.ref a/\SqT X.K H a ((xss.getD i []).map V.int):=λi h=>by
   have hr:i<rs.length:=by lia
   have{d,hd,h1}:=hi.of_get (A2 hr);rw[AD,A2 h] at hd;cases hd;have{a,ea,ha}:=bP h1;have{u,No,ru}:=r'.get (A2 hr);rw[ea] at ru;obtain rfl:u=Value.ref a:=ru;show{a,?_,?_}
   .rw[A',No];rfl
   .rw[A',A2 h];show SqT.of ha
  have{a1,e1,s1}:=g i (by lia);have{a2,e2,s2}:=g j (by lia);rw[e1,e2];rw[uG (by lia) (by lia)] at hC;show Fp I2 s1 s2 hC
 .rw[lns] at ho up;have OS:∀i∈p.toList,i<xss.length:=λi hi=>ho.lt hi;have{e,he}:=u9 s.heap vs (p.map λi=>vs.getD i .none);have en:(p.map λi=>vs.getD i .none)=List.toArray (p.toList.map λi=>vs.getD i .none):=by
   apply Array.toList_inj.mp;simp
  rw[en] at he⊢;have fr:=I.hok.fresh (a:=s.heap.objs.size) (A9 _);show{.ref s.heap.objs.size,_,I.laid (t':=s.toks) (λ_ _=>u8) (A9 _) (show aE X.prog X.w _ _ _ (.lst (p.toList.map λi=>rs.getD i .non)) from{?_,_,e,kD r' p.toList (λi hi=>by rw[RW];show OS i hi),he}),0,q (p.toList.map λi=>xss.getD i []) _ _ ?_ ?_ fr (ae.new fr) (aD ak ((tU hi p.toList OS).mono (ae.new fr)))}
  .rw[A1,Aj,At,ho.size];lia
  .have pp:=(CC.mp ho).map λi=>xss.getD i [];rw[show(List.range xss.length).toArray.toList=List.range xss.length from rfl,Fo] at pp;show pp
  .intro i j Ox hj;rw[A1,Aj,ho.size] at hj;have up:=up i j Ox hj;have g:∀i,i<xss.length->(p.toList.map λi=>xss.getD i []).getD i []=xss.getD (at0 p i) []/\at0 p i<xss.length:=λi h=>by
    have hs:i<p.size:=by rw[ho.size];show h
    have e:at0 p i=p[i]:=by simp[at0,Array.getD,hs]
    rw[e];show{?_,ho.lt (by simp)};rw[A',AD];simp[hs]
   have{g1,g2}:=g i (by lia);have{g3,g4}:=g j hj;rw[g1,g3];rw[uG g4 g2] at up;show up
theorem nJ{α β:Type}{f:β->α}{P:β->Prop}:∀(vs:SD α),(∀v∈vs,∃j,P j/\v=f j)->∃js:SD β,vs=js.map f/\∀j∈js,P j
 |[],_=>{[],0,λ_ h=>nomatch h}
 |v::vs,h=>by
  have{j,pj,e}:=h v (by simp);have{js,es,ps}:=nJ vs λu hu=>h u (by simp[hu]);show{j::js,by rw[e,es];rfl,λi hi=>by rcases AJ.mp hi with rfl|hi;show pj;show ps i hi}
theorem vb(ad:Nat->Sx):∀js:SD Nat,ax (js.map λj=>V.ref (ad j)) (js.map λj=>Value.ref (ad j))
 |[]=>.nil
 |j::js=>.cons rfl (vb ad js)
theorem vc{H:Hp}(kk:Nat->SD Int)(ad:Nat->Sx):∀js:SD Nat,(∀j∈js,H (ad j)=some (.tup ((kk j).map V.int)))->Iss H ((js.map kk).map tI) (js.map λj=>V.ref (ad j))
 |[],_=>ao
 |j::js,h=>am (fk (h j (by simp))) (vc kk ad js λi hi=>h i (by simp[hi]))
def Gy{α β:Type}{f:α->β}{L:SD α}{vs:SD β}(h:vs.Perm (L.map f)):∃js:SD α,js.Perm L/\vs=js.map f:=by
 generalize hm:L.map f=ms at h;induction h generalizing L with
 |nil=>show{[],by rw[List.map_eq_nil_iff.mp hm],0}
 | @cons x l1 l2 p ih=>
  cases L with
  |nil=>cases hm
  |cons a L=>
   rw[AG] at hm;injection hm with h1 h2;have{js,p,e}:=ih h2;show{a::js,p.cons a,by rw[AG,h1,e]}
 |swap x y l=>
  match L,hm with
  |a::b::L,hm=>
   simp only[AG,CY] at hm;have{0,0,0}:=hm;show{b::a::L,List.Perm.swap ..,0}
 |trans p1 p2 ih1 ih2=>
  have{js,q1,e1}:=ih2 hm;have{ks,q2,e2}:=ih1 e1.symm;show{ks,q2.trans q1,e2}
def Gz(ek:EsK kk ad n es ks)(hp:vs.Perm (es.toList.map (·.2))):
  ∃js:SD Nat,vs=js.map (λj=>Value.ref (ad j))/\(∀j∈js,j<n)/\(js.map kk).Perm ks.toList:=by
 have hl:es.toList.length=ks.toList.length:=by simp[ek.size]
 have{L,eL,pL}:=nJ (f:=λj=>((hK (kk j),Value.ref (ad j)),kk j)) (P:=λj=>j<n) (es.toList.zip ks.toList) λv hv=>by
  have{i,hi,e}:=Bh.mp hv;rw[List.getElem_zip] at e;rw[List.length_zip] at hi;have hi1:i<es.size:=by simp at hi;lia
  have{j,j1,j2,j3}:=ek.of (Ab hi1);have hk:ks[i]? =some ks.toList[i]:=by rw[<-BK,A2]
  rw[hk,Option.some.injEq] at j2;show{j,j1,?_};rw[<-e,j2];show Prod.ext (by simpa using j3) rfl
 have e1:es.toList=L.map λj=>(hK (kk j),Value.ref (ad j)):=by
  have:=BZ (List.map Prod.fst) eL;rw[List.map_fst_zip (by lia),BC] at this;show this
 have e2:ks.toList=L.map kk:=by
  have:=BZ (List.map Prod.snd) eL;rw[List.map_snd_zip (by lia),BC] at this;show this
 rw[e1,BC] at hp;have{js,p,e}:=Gy hp;show{js,e,λj hj=>pL j (p.mem_iff.mp hj),by rw[e2];show p.map kk}
def GA{e:SE}{ta:TA}{p p2 pos P3:Pos}(hu:X.A.units+8<cLine)(hh:X.A.handled=none)(hg:Gl X "sorted")(hm:X.mg "sorted"=none)(hg2:Gl X "set")(hm2:X.mg "set"=none)
  (ha:PA X [e] ta) (he:starEach [e] X.env=(false,eval e X.env)::starEach [] X.env:=by rfl)
  (QI:starEach [Expr.Call (.Name "set" p2) [e] [] P3] X.env=(false,eval (Expr.Call (.Name "set" p2) [e] [] P3) X.env)::starEach [] X.env:=by rfl):
  PE X (.Call (.Name "sorted" p) [.Call (.Name "set" p2) [e] [] P3] [] pos) (tCB rSSet ta):=by
 intro MO s σ H Q I h;show Bl (cY I hg hm (by first|show boot_sorted|rfl|ac_nf) ?_ (by decide) (by decide));show DK ?_ QI (by rfl);rw[QI];change wpAny _ _ (spliced ((false,eval (Expr.Call (.Name "set" p2) [e] [] P3) X.env)::backTo pos (starEach [] X.env))) _ _ s;show Ce ?_;show Bl (cY I hg2 hm2 (by first|rfl|ac_nf) ?_ (by decide) (by decide));show B7 (thn (ha P3 MO s σ H _ I h) λus s1 zu54=>?_) he (by rfl);have{vs,H1,I1,r1,q1}:=zu54;have{v,xss,m,0,hv,RO,QM,RX,q}:=q1;have{y,M3,htb,tl,tp,tm,t64,knd,QN}:=Gw RX (!X.w.params.followText "set-order");have{l,rs,0,hl,hi}:=aA hv;have RW:rs.length=xss.length:=by rw[hi.length,A1]
 have{u,0,rx}:=dq r1;cases rx;have{MQ,r',pl,hz}:=I1.list (SqL.of (K:=X.K) hl);have ln:=r'.length;have g:∀i,∃a,i<xss.length->MQ[i]? =some (.ref a)/\rs[i]? =some (.ref a)/\H1 a=some (.tup ((xss.getD i []).map V.int)):=λi=>by
  by_cases h:i<xss.length
  .have hr:i<rs.length:=by lia
   have{d,hd,h1}:=hi.of_get (A2 hr);rw[AD,A2 h] at hd;cases hd;have{a,ea,ha}:=bP h1;have{u,No,ru}:=r'.get (A2 hr);rw[ea] at ru;obtain rfl:u=Value.ref a:=ru;show{a,λ_=>{No,by rw[A2 hr,ea],?_}};rw[A',A2 h];show ha
  .show{(0),λc=>absurd c h}
 let ad:Nat->Sx:=λi=>Classical.choose (g i)
 have hg:∀i,i<xss.length->MQ[i]? =some (.ref (ad i))/\rs[i]? =some (.ref (ad i))/\H1 (ad i)=some (.tup ((xss.getD i []).map V.int)):=λi hi=>Classical.choose_spec (g i) hi;generalize ad=ad at hg;show Gf (kk:=λi=>xss.getD i []) (ad:=ad) (items:=MQ.toArray) hh (by lia) pl.isList (xs:=xss) (λi hi=>?_) (by rw[AK];lia) M3 (λi hi=>?_) λh' tk es hS ek hk=>?_
 .rw[AK] at hi;rw[A',A2 (by lia)];rfl
 .rw[AK] at hi;have hg':=hg i (by lia);show{by rw[List.getElem?_toArray];show hg'.1,Gu I1 (SqT.of hg'.2.2)}
 .have I2:Inv X MO σ H1 {s1 with heap:=h',toks:=tk}:=I1.kept λb o e=>hk b o (AQ e) e;show A3 ?_;change wpAny _ _ (call (.builtin "sorted") [.ref s1.heap.objs.size]) _ _ {s1 with heap:=h',toks:=tk};have{ep,ho}:=hS;have ez:=ek.size;show Gs (Gr (s:={s1 with heap:=h',toks:=tk}) (A:=X.A.in1) hh ho (htb es ez) (by lia) tl tp λOJ tk' vs PX hsz hp=>?_) λvs s' g=>g;have{js,ev,lt,pk}:=Gz ek hp;have I3:Inv X MO σ H1 {s1 with heap:=OJ,toks:=tk'}:=I2.kept PX;have lt':∀j∈js,j<xss.length:=λj hj=>by have:=lt j hj;rw[AK] at this;lia
  subst ev;have mem:∀z,z∈js.map (λi=>xss.getD i [])↔z∈xss:=λz=>by rw[pk.mem_iff];show QN z
  have bound:(js.map λi=>xss.getD i []).length=y.2.size:=by rw[pk.length_eq,Aj]
  have nd:=pk.nodup_iff.mpr knd;show Gx I3 (rs:=js.map λj=>V.ref (ad j)) (xss:=js.map λi=>xss.getD i []) (vc _ ad js λj hj=>(hg j (lt' j hj)).2.2) (vb ad js) RO (λxs hx=>QM xs ((mem xs).mp hx)) (by lia) nd (λN2 q' H' pm srt hq sm his=>?_) X.A;show q N2 q' H' (pm.nodup_iff.mpr nd) (λz=>by rw[pm.mem_iff];show mem z) srt hq sm his
end
end L2
namespace L2
open PySem PySem.Spec PyProof.Rows PySem.W
variable{H H':Hp}{P:Sy}{Q:SG Sv->Sw->Prop}{d it:Sx}{e:DictEntry}{ep i:Nat}{es:Array DictEntry}{kvs:SD (SD Key×V)}{o:Obj}{w:SB}
section
variable{prog:Sy}{w:SB}{A:SC}{E:Sv->Sw->Prop}{s:Sw}
def nL{Q:Sv->Sw->Prop}(hd:(d==sysModules)=false)(ho:s.heap.get? d=some o)(hc:o.ExactDict)(M4:o.data=.dict es ep)
  (hQ:Q (.ref s.heap.objs.size) {s with heap:=s.heap.push {cls:= .type "dict_keyiterator",data:= .fields #[.ref d,.int 0 0,.int es.size 0,.int ep 0]}}):
  wpAny (model prog w) A (pyIter (.ref d)) Q E s:=by
 have hT:s.TypeIs (.ref d) "dict":={o,ho,hc.1};show wpAny_pyIter_slot hT PySem.F.slot_dict_iter (An PySem.F.slot_dict_iter hT PySem.F.entry_dict_iter ?_ (PySem.F.args_dict_iter_1 _));unfold Builtin.«dict.__iter__»;show A0 ?_;unfold Builtin.Dict.dictSlotNone;show A0 (wpAny_notOrdered_dict hT ?_);change wpAny _ _ (pure (Value.ref d)) _ _ s;show A3 ?_;change wpAny _ _ (Builtin.Dict.showsAll d>>=_) _ _ s;unfold Builtin.Dict.showsAll;rw[A5 (by rw[hd];show AS)];show A0 (A3 ?_);show A0 (Cn ho M4 ?_);show A0 (DH ho M4 ?_);show A0 (Ap (A3 {1,"dict_keyiterator",_,{_,AE _ rfl,0},Bu.lookup,?_}));simpa[rawInt] using hQ
def nM(MU:s.heap.IsKeyIter it d i es.size ep)(P4:s.heap.get? d=some o)(P5:o.data=.dict es ep)(he:es[i]? =some e)
  (hQ:∀h',h'.IsKeyIter it d (i+1) es.size ep->Heap.SameBut it s.heap h'->Q (some e.key) {s with heap:=h'}):wpAny (model prog w) A (pyNext (.ref it)) Q E s:=by
 have{oi,ho,hc,hd}:=id MU;have MT:i<es.size:=(Array.getElem?_eq_some_iff.mp he).1;unfold pyNext;show A0 (CU (B6 (name:=Str.ofString "__next__") MU.typeIs Bu (An Bu MU.typeIs PySem.F.entry_dict_keyiterator_next ?_ (PySem.F.args_dict_keyiterator_next_1 _))));show A0 (A3 ?_);show A0 ?_;show A0 ?_;first|show A0 (Cc MU.typeIs (A3 ?_));skip|show A0 (D7 MU.typeIs (A3 ?_));skip
 show A0 (DP ho hd ?_);have Os:Builtin.Dict_items.ownsTuple "dict_keyiterator"=false:=by decide
 simp -iota only[Os,AN,Au];change wpAny _ _ (if(Value.ref d==Value.none)=true then _ else _) _ _ s;rw[A5 (show¬((Value.ref d==Value.none)=true) from AS)];show A0 (A3 ?_);show A0 (Cn P4 P5 ?_);rw[A5 (by simp)];show A0 (A3 ?_);show A0 (DH P4 P5 ?_);rw[A5 (by simp)];show A3 ?_;simp only[show¬((i:Int)<0) from by lia,Au,B1,he];show A0 ?_;first|show A0 (Cc MU.typeIs (A3 ?_));skip|show A0 (D7 MU.typeIs (A3 ?_));skip
 show A0 (wpAny_isOneOf_keyiter MU.typeIs ?_);change wpAny _ _ (setField (.ref it) 1 (rawInt ((i:Int)+1))>>=_) _ _ s;show A0 (CI ho hd (by simp) ?_);have M0:(s.heap.update it (Obj.mapFields (·.setIfInBounds 1 (rawInt ((i:Int)+1))))).IsKeyIter it d (i+1) es.size ep:={_,B8 _ ho (DU (C4 hd _)),(Obj.cls_mapFields ..).trans hc,by rw[C4 hd];simp[rawInt]};show A0 (Av ?_);show A0 (wpAny_isOneOf_keyiter (s:={s with heap:=s.heap.update it (Obj.mapFields (·.setIfInBounds 1 (rawInt ((i:Int)+1))))}) M0.typeIs ?_);change wpAny _ _ (pure e.key) _ _ _;show A3 (A3 {1,A3 (hQ _ M0 (BI ..))})
def nN(hh:A.handled=none)(MU:s.heap.IsKeyIter it d i es.size ep)(P4:s.heap.get? d=some o)(P5:o.data=.dict es ep)(he:es.size<=i)
  (hQ:∀h',Heap.ExtBut it s.heap h'->Q none {s with heap:=h'}):wpAny (model prog w) A (pyNext (.ref it)) Q E s:=by
 have{oi,ho,hc,hd}:=id MU;unfold pyNext;show A0 (CU (B6 (name:=Str.ofString "__next__") MU.typeIs Bu (An Bu MU.typeIs PySem.F.entry_dict_keyiterator_next ?_ (PySem.F.args_dict_keyiterator_next_1 _))));show A0 (A3 ?_);show A0 ?_;show A0 ?_;first|show A0 (Cc MU.typeIs (A3 ?_));skip|show A0 (D7 MU.typeIs (A3 ?_));skip
 show A0 (DP ho hd ?_);have Os:Builtin.Dict_items.ownsTuple "dict_keyiterator"=false:=by decide
 simp -iota only[Os,AN,Au];change wpAny _ _ (if(Value.ref d==Value.none)=true then _ else _) _ _ s;rw[A5 (show¬((Value.ref d==Value.none)=true) from AS)];show A0 (A3 ?_);show A0 (Cn P4 P5 ?_);rw[A5 (by simp)];show A0 (A3 ?_);show A0 (DH P4 P5 ?_);rw[A5 (by simp)];show A3 ?_;simp only[show¬((i:Int)<0) from by lia,Au,B1,BY he];show A0 ?_;first|show A0 (Cc MU.typeIs (A3 ?_));skip|show A0 (D7 MU.typeIs (A3 ?_));skip
 change wpAny _ _ (setField (.ref it) 0 .none>>=_) _ _ s;show A0 (CI ho hd (by simp) ?_);change wpAny _ _ (newExc (.type "StopIteration") []>>=_) _ _ _;show A0 ?_;simp only[newExc,newTuple];show A0 (Ap ?_ (by size_fits));show A0 (m:=firstArgMember _ _) (Cq (a:=Value.none) (by first|rfl|(simp only[firstArgMember];rfl)) ?_);show Ap ?_ (by size_fits);simp -iota only[raiseNew];show A0 (wpAny_handled ?_);rw[show A.in1.handled=none from hh];show A0 (A3 (wpAny_throw ?_));show A0 (C2 (T:="StopIteration") (b:=true) {_,AE _ rfl,0} isSubtype_stop ?_);show A3 (hQ _ (((BI ..).extBut.push _).push _))
end
section
variable{prog:Sy}{w:SB}{A:SC}{E:Sv->Sw->Prop}{s:Sw}
def GB{Q:Sv->Sw->Prop}(hd:(d==sysModules)=false)(ho:s.heap.get? d=some o)(hc:o.ExactDict)
  (hQ:Q (.ref s.heap.objs.size) {s with heap:=s.heap.push {cls:= .type "dict_values",data:= .fields #[.ref d]}}):wpAny (model prog w) A (call (.builtin "dict.values") [.ref d]) Q E s:=by
 have hT:s.TypeIs (.ref d) "dict":={o,ho,hc.1};show An PySem.F.slot_dict_values hT PySem.F.entry_dict_values ?_ (PySem.F.args_dict_values_1 _);show A0 ?_;unfold Builtin.Dict.noArgs;show A0 (wpAny_notOrdered_dict hT ?_);change wpAny _ _ (pure d) _ _ s;show A3 ?_;change wpAny _ _ (Builtin.Dict.showsAll d>>=_) _ _ s;unfold Builtin.Dict.showsAll;rw[A5 (by rw[hd];show AS)];show A0 (A3 ?_);show A0 (Ap (A3 {1,hQ}))
def GC{v:Sx}{Q:Sv->Sw->Prop}(hv:s.heap.IsValuesView v d)(ho:s.heap.get? d=some o)(M4:o.data=.dict es ep)
  (hQ:Q (.ref s.heap.objs.size) {s with heap:=s.heap.push {cls:= .type "dict_valueiterator",data:= .fields #[.ref d,.int 0 0,.int es.size 0,.int ep 0]}}):
  wpAny (model prog w) A (pyIter (.ref v)) Q E s:=by
 have{ov,hov,hcv,hdv}:=id hv;show wpAny_pyIter_slot hv.typeIs PySem.F.slot_dict_values_iter (An PySem.F.slot_dict_values_iter hv.typeIs PySem.F.entry_dict_values_iter ?_ (PySem.F.args_dict_values_iter_1 _));unfold Builtin.«dict_values.__iter__»;show A0 (A3 ?_);show A0 ?_;unfold Builtin.Dict_items.dictOf;show A0 (Bt hov hdv (x:= .ref d) rfl (A3 ?_));show A0 ?_;unfold Builtin.Dict_items.newIterator;show A0 (Cn ho M4 ?_);show A0 (DH ho M4 ?_);have Os:Builtin.Dict_items.ownsTuple "dict_valueiterator"=false:=by decide
 simp -iota only[Os,AN,Au];show Ap (A3 {1,"dict_valueiterator",_,{_,AE _ rfl,0},Bn.lookup,?_});simpa[rawInt] using hQ
def GD(MU:s.heap.IsValIter it d i es.size ep)(P4:s.heap.get? d=some o)(P5:o.data=.dict es ep)(he:es[i]? =some e)
  (hQ:∀h',h'.IsValIter it d (i+1) es.size ep->Heap.SameBut it s.heap h'->Q (some e.val) {s with heap:=h'}):wpAny (model prog w) A (pyNext (.ref it)) Q E s:=by
 have{oi,ho,hc,hd}:=id MU;have MT:i<es.size:=(Array.getElem?_eq_some_iff.mp he).1;unfold pyNext;show A0 (CU (B6 (name:=Str.ofString "__next__") MU.typeIs Bn (An Bn MU.typeIs PySem.F.entry_dict_valueiterator_next ?_ (PySem.F.args_dict_valueiterator_next_1 _))));show A0 (A3 ?_);show A0 ?_;show A0 ?_;first|show A0 (Cb MU.typeIs (A3 ?_));skip|show A0 (D6 MU.typeIs (A3 ?_));skip
 show A0 (DP ho hd ?_);have Os:Builtin.Dict_items.ownsTuple "dict_valueiterator"=false:=by decide
 simp -iota only[Os,AN,Au];change wpAny _ _ (if(Value.ref d==Value.none)=true then _ else _) _ _ s;rw[A5 (show¬((Value.ref d==Value.none)=true) from AS)];show A0 (A3 ?_);show A0 (Cn P4 P5 ?_);rw[A5 (by simp)];show A0 (A3 ?_);show A0 (DH P4 P5 ?_);rw[A5 (by simp)];show A3 ?_;simp only[show¬((i:Int)<0) from by lia,Au,B1,he];show A0 ?_;first|show A0 (Cb MU.typeIs (A3 ?_));skip|show A0 (D6 MU.typeIs (A3 ?_));skip
 show A0 (wpAny_isOneOf_valiter MU.typeIs ?_);change wpAny _ _ (setField (.ref it) 1 (rawInt ((i:Int)+1))>>=_) _ _ s;show A0 (CI ho hd (by simp) ?_);have M0:(s.heap.update it (Obj.mapFields (·.setIfInBounds 1 (rawInt ((i:Int)+1))))).IsValIter it d (i+1) es.size ep:={_,B8 _ ho (DU (C4 hd _)),(Obj.cls_mapFields ..).trans hc,by rw[C4 hd];simp[rawInt]};show A0 (Av ?_);show A0 (wpAny_isOneOf_valiter (s:={s with heap:=s.heap.update it (Obj.mapFields (·.setIfInBounds 1 (rawInt ((i:Int)+1))))}) M0.typeIs ?_);show A0 (wpAny_isOneOf_valiter (s:={s with heap:=s.heap.update it (Obj.mapFields (·.setIfInBounds 1 (rawInt ((i:Int)+1))))}) M0.typeIs ?_);change wpAny _ _ (pure e.val) _ _ _;show A3 (A3 {1,A3 (hQ _ M0 (BI ..))})
def GE(hh:A.handled=none)(MU:s.heap.IsValIter it d i es.size ep)(P4:s.heap.get? d=some o)(P5:o.data=.dict es ep)(he:es.size<=i)
  (hQ:∀h',Heap.ExtBut it s.heap h'->Q none {s with heap:=h'}):wpAny (model prog w) A (pyNext (.ref it)) Q E s:=by
 have{oi,ho,hc,hd}:=id MU;unfold pyNext;show A0 (CU (B6 (name:=Str.ofString "__next__") MU.typeIs Bn (An Bn MU.typeIs PySem.F.entry_dict_valueiterator_next ?_ (PySem.F.args_dict_valueiterator_next_1 _))));show A0 (A3 ?_);show A0 ?_;show A0 ?_;first|show A0 (Cb MU.typeIs (A3 ?_));skip|show A0 (D6 MU.typeIs (A3 ?_));skip
 show A0 (DP ho hd ?_);have Os:Builtin.Dict_items.ownsTuple "dict_valueiterator"=false:=by decide
 simp -iota only[Os,AN,Au];change wpAny _ _ (if(Value.ref d==Value.none)=true then _ else _) _ _ s;rw[A5 (show¬((Value.ref d==Value.none)=true) from AS)];show A0 (A3 ?_);show A0 (Cn P4 P5 ?_);rw[A5 (by simp)];show A0 (A3 ?_);show A0 (DH P4 P5 ?_);rw[A5 (by simp)];show A3 ?_;simp only[show¬((i:Int)<0) from by lia,Au,B1,BY he];show A0 ?_;first|show A0 (Cb MU.typeIs (A3 ?_));skip|show A0 (D6 MU.typeIs (A3 ?_));skip
 change wpAny _ _ (setField (.ref it) 0 .none>>=_) _ _ s;show A0 (CI ho hd (by simp) ?_);change wpAny _ _ (newExc (.type "StopIteration") []>>=_) _ _ _;show A0 ?_;simp only[newExc,newTuple];show A0 (Ap ?_ (by size_fits));show A0 (m:=firstArgMember _ _) (Cq (a:=Value.none) (by first|rfl|(simp only[firstArgMember];rfl)) ?_);show Ap ?_ (by size_fits);simp -iota only[raiseNew];show A0 (wpAny_handled ?_);rw[show A.in1.handled=none from hh];show A0 (A3 (wpAny_throw ?_));show A0 (C2 (T:="StopIteration") (b:=true) {_,AE _ rfl,0} isSubtype_stop ?_);show A3 (hQ _ (((BI ..).extBut.push _).push _))
theorem GF(hh:A.handled=none)(I d:Sx)(NM:d≠I)(M4:o.data=.dict es ep):
  Walks prog w A I [I,d] [I] es.size (λi v=>∃e,es[i]? =some e/\v=e.val) (λi h=>h.IsValIter I d i es.size ep/\h.get? d=some o) where
 sub:=λb hb=>by simp at hb;simp[hb]
 frame:=λ_ _ _ st hk=>{st.1.at λo e=>hk I (by simp) o e,hk d (by simp) _ st.2}
 item:=λi s Q E hi st hQ=>GD st.1 st.2 M4 (Ab hi) λh' On Oy=>hQ _ h' s.toks {_,Ab hi,0} {On,Oy.extBut d _ NM st.2} λb o hb e=>Oy.extBut b o (λh=>hb (by simp[h])) e
 done:=λs Q E st hQ=>GE hh st.1 st.2 M4 (A9 _) λh' OV=>hQ h' s.toks λb o hb e=>OV b o (λh=>hb (by simp[h])) e
 self:=λ_ _ _ _ st hQ=>wpAny_pyIter_valiter st.1 hQ
theorem vd(ns:SD Int):∀k,k<=ns.length->preSum (λi=>ns.getD i 0) k=(ns.take k).sum
 |0,_=>by simp[preSum]
 |k+1,h=>by
  have hk:k<ns.length:=by lia
  have g:ns.getD k 0=ns[k]:=by simp[List.getD,hk]
  rw[preSum,vd ns k (by lia),AL,A2 hk,C5];change _+ns.getD k 0=_+[ns[k]].sum;rw[g];simp
end
theorem kK{α β:Type}{R:α->β->Prop}:∀{xs:SD α}{ys:SD β}{i:Nat}{x:α},Paired R xs ys->xs[i]? =some x->∃y,ys[i]? =some y/\R x y
 |_,_,i,x,.nil,h=>by simp at h
 |_,_,0,x,.cons r _,h=>by simp at h;subst h;show{1,r}
 |_,_,i+1,x,.cons _ t,h=>by simp at h;have{y,e,r}:=kK t h;show{y,by simpa using e,r}
def Itk(d:Sx)(o:Obj)(kvs:SD (SD Key×V)):It:=
 {λi H=>H d=some (.frz o (.dT kvs))/\i<kvs.length,λi H x H'=>H'=H/\∃b k v,x=.ref b/\kvs[i]? =some (k,v)/\H b=some (.tup (k.map kV)),λi H=>H d=some (.frz o (.dT kvs))/\kvs.length<=i}
inductive iDict_(R:(It->Hp->Prop))(x:V)(H1:Hp):Prop
 |mk (d:Addr) (kvs:List (List Key×V)):x=.ref d->Rd H1 d (.dT kvs)->(∀(o:Obj) (H2:Hp),H2 d=some (.frz o (.dT kvs))->(∀b,b≠d->H2 b=H1 b)->R (Itk d o kvs) H2)->iDict_ R x H1
def GG(td:TE):TI:=λσ H R=>td σ H λx H1=>iDict_ R x H1
def GH{K:W.Frag}{tg:SE}(d it:Sx)(o:Obj)(kvs:SD (SD Key×V))(ep:Nat)(hep:∀Nq Oj,o.data=.dict Nq Oj->Oj=ep):Turn P w K tg (Itk d o kvs) [it] it (λi h=>h.IsKeyIter it d i kvs.length ep) where
 mem:=by simp
 obj:=λi h st b hb=>by
  have e:b=it:=by simpa using hb
  subst e;have{o,e,c,d}:=st;show{o,e,λv z=>by rw[d] at z;cases z}
 keep:=λi h h' st k=>st.at λo e=>k it (by simp) o e
 item:=by
  intro X hP hw hK hc i MO s σ H E I hf st hg;subst hP hw hK;have{hq,hi}:=hg;have{ho,z,y,xs,MZ,o',es,Oj,h1,h2,h3,h4,h5}:=(show aE X.prog X.w H s.heap d (.frz o (.dT kvs)) from I.hok d _ hq);obtain rfl:o=o':=Ad (ho.symm.trans h1);obtain rfl:Oj=ep:=hep _ _ h3;have hx:kvs[i]? =some kvs[i]:=A2 hi;have{q,Ph,e1,e2,e3}:=kK MZ hx;have hsz:es.size=kvs.length:=by rw[<-Aj,h4,A1,<-BO MZ]
  have he:es[i]? =some (entryOfKey (tupleKind (bV X.prog X.w)) q):=by rw[<-BK,h4,AD,Ph];rfl
  have{f0,f1,f2,f3,f4,f5}:=hf it (by simp);rw[<-hsz] at st;show nM st ho h3 he λh' M0 sb=>?_;have I1:Inv X MO σ H {s with heap:=h'}:=I.turned (t':=s.toks) (λb o hb e=>(sb.2 b hb).trans e) f0 f1 f3 f4 f5;have{oo,e,c,d'}:=id M0;rw[hsz] at M0;show{1,go_of (s:={s with heap:=h'}) e c d' (by decide) {.ref q.2.1,H,I1,0,{0,q.2.1,kvs[i].1,kvs[i].2,0,hx,e2},M0,λb hb=>(hf b hb).1}}
 done:=by
  intro X hP hw hK hc i MO s σ H E I hf st hg;subst hP hw hK;have{hq,hi}:=hg;have{ho,z,y,xs,MZ,o',es,Oj,h1,h2,h3,h4,h5}:=(show aE X.prog X.w H s.heap d (.frz o (.dT kvs)) from I.hok d _ hq);obtain rfl:o=o':=Ad (ho.symm.trans h1);obtain rfl:Oj=ep:=hep _ _ h3;have hsz:es.size=kvs.length:=by rw[<-Aj,h4,A1,<-BO MZ]
  have{f0,f1,f2,f3,f4,f5}:=hf it (by simp);rw[<-hsz] at st;show nN (I.ok.hd hc) st ho h3 (by lia) λh' eb=>{0,I.turned (t':=s.toks) (λb o hb e=>eb b o hb e) f0 f1 f3 f4 f5}
 self:=λ_ _ _ _ _ st h=>wpAny_pyIter_keyiter st h
section
variable{X:Cx}{tg:SE}
def GI{h:SF}(q:aE P w H h d (.dT kvs))(k:∀b ys,H b=some (.tup ys)->H' b=some (.tup ys)):aE P w H' h d (.dT kvs):=by
 have{z,y,xs,MZ,r}:=q;show{z,y,xs,KT.keeps MZ λc ys ec=>k c ys ec,r}
def GK{l:SE}{tl:TE}(hl:PE X l tl):PI X tg l (GG tl):=by
 intro MO s σ H R I h;show thn (hl MO s σ H _ I h) λv s1 zu55=>?_;have{x,H1,I1,r1,q1}:=zu55;have{d,kvs,0,hq,q}:=q1;cases r1;have QJ:aE X.prog X.w H1 s1.heap d (.dT kvs):=i7 I1.hok hq;have{z,y,xs,MZ,o,es,ep,h1,h2,h3,h4,h5}:=id QJ;have hsz:es.size=kvs.length:=by rw[<-Aj,h4,A1,<-BO MZ]
 obtain⟨H2,I2,e2,k2⟩:∃H2,Inv X MO σ H2 s1/\H2 d=some (.frz o (.dT kvs))/\∀b,b≠d->H2 b=H1 b:=by
  rcases hq with hq|⟨o',hq⟩
  .show{_,gT (t':=s1.toks) I1 (by rw[hq];show True.intro) (Heap.SameBut.refl _ _) {o,h1} (show aE X.prog X.w (upd H1 d (.frz o (.dT kvs))) s1.heap d (.frz o (.dT kvs)) from{h1,GI QJ λb ys e=>by rw[au (my e hq (λz=>nomatch z))];show e}),ak,λb hb=>au hb}
  .have{NK,_}:=(show aE X.prog X.w H1 s1.heap d (.frz o' (.dT kvs)) from I1.hok d _ hq);obtain rfl:o'=o:=Ad (NK.symm.trans h1);show{H1,I1,hq,λ_ _=>rfl}
 show nL y h1 h2 h3 ?_;rw[hsz];show{s1.heap.objs.size,[s1.heap.objs.size],_,3,I2.kept (t':=s1.toks) λb o e=>A4 _ e,GH d _ o kvs ep (λNq Oj e=>by rw[h3] at e;cases e;rfl),{_,AE _ rfl,0,0},λb hb=>?_,q o H2 e2 k2};have e:b=s1.heap.objs.size:=by simpa using hb
 subst e;show I2.fpOk (A9 _) (I2.hok.fresh (A9 _))
def GL{g:TG}{tb:TS}{D:Ends}{σ:St}(Pv:Nat->St->Hp->Prop)(h0:Pv 0 σ H)(hl:∀i σ H,i<=kvs.length->Pv i σ H->H d=some (.frz o (.dT kvs)))
  (hs:∀i k v b σ H,kvs[i]? =some (k,v)->Pv i σ H->H b=some (.tup (k.map kV))->g (.ref b) σ H λσ2 H2=>tb (eLp D (Pv (i+1))) σ2 H2) (hd:∀σ H,Pv kvs.length σ H->D.nx σ H):
  ∃Wq:Nat->Nat->St->Hp->Prop,(∃m,Wq 0 m σ H)/\∀i m σ H,Wq i m σ H->
   ((Itk d o kvs).stop i H/\D.nx σ H)\/((Itk d o kvs).go i H/\∃N:St->Hp->Prop,(∀σ' H',N σ' H'->∃m',m'<m/\Wq (i+1) m' σ' H')/\∀x H',(Itk d o kvs).yld i H x H'->g x σ H' λσ2 H2=>tb (eLp D (N)) σ2 H2):=by
 show{λi m σ H=>m=kvs.length-i/\i<=kvs.length/\Pv i σ H,{kvs.length,7,AO _,h0},?_};rintro i m σ H ⟨rfl,hi,p⟩;have q:=hl i σ H hi p;by_cases MT:i<kvs.length
 .show .inr {{q,MT},Pv (i+1),λσ' H' p'=>{kvs.length-(i+1),4,0,MT,p'},?_};rintro x H' ⟨rfl,b,k,v,rfl,e,hb⟩;show hs i k v b σ _ e p hb
 .obtain rfl:i=kvs.length:=by lia
  show .inl {{q,A9 _},hd σ H p}
def GM(tk tv:TE):TE:=λσ H Q=>∀p,H p=none->tk σ (upd H p (.dT [])) λx H1=>tv σ H1 λy H2=>H2 p=some (.dT [])/\∃k b,x=.ref b/\H2 b=some (.tup (k.map kV))/\Q (.ref p) (upd H2 p (.dT (aX [] k y)))
def GN{ek ev:SE}{tk tv:TE}{pos:Pos}(hu:X.A.units+1<cLine)(hk:PE X ek tk)(hv:PE X ev tv):PE X (.Dict [some ek] [ev] pos) (GM tk tv):=by
 intro MO s σ H Q I q;have hn:=I.hok.fresh (A9 s.heap.objs.size);have I1:=I.laid (a:=s.heap.objs.size) (o:= .dT []) (h':=s.heap.push {cls:= .type "dict",data:= .dict #[]}) (t':=s.toks) (λ_ _ q=>A4 _ q) (A9 _) (sQ s.heap I.big);rw[arm_eval_Dict,zip_pairTrees [some ek] [ev] X.env pos rfl rfl,dictDisplay_pairs (pairTrees [some ek] [ev] X.env pos) (by intro z;cases z) (show 1<17 by decide)];show A0 (wpAny_standAt (A0 ?_));unfold subDict;show A0 (wpAny_alloc ?_);show A0 (Av ?_);rw[A6 (show(pairTrees [some ek] [ev] X.env pos).length<=15 from(by decide:1<=15))];show A0 (pairTrees_cons_walk (thn (hk MO _ σ _ _ I1 (q _ hn)) λu s1 zu56=>?_));have{x,H1,I2,rx,q1}:=zu56;show thn (hv MO s1 σ H1 _ I2 q1) λw2 s2 zu57=>?_;have{y,H2,I3,ry,e,k,b,ex,eb,q2}:=zu57;show pairTrees_nil_walk ?_;subst ex;cases (show u=Value.ref b from rx);have{z,hd,xs,MZ,dd}:=sO I3.hok e;cases MZ;show wpAny_holding (wpAny_bind ?_);rw[List.forIn_cons];dsimp only;show A0 (A0 (wpAny_dictSet_heap (knd:=tupleKind (bV X.prog X.w)) (show X.A.units<cLine by lia) (i8 I3.hok eb) dd (λh' Qs hs=>A3 ?_) (AO _)));dsimp only;rw[List.forIn_nil];show wpAny_pure (wpAny_pure (wpAny_pure (wpAny_pure ?_)));have{o,es,ep,hq,h2,h3,h4,_,h5}:=Qs;show{.ref s.heap.objs.size,_,gT I3 (by rw[e];show True.intro) hs {o,hq} (show aE X.prog X.w (upd H2 s.heap.objs.size (.dT (aX [] k y))) h' s.heap.objs.size (.dT (aX [] k y)) from{(by change 1<=sizeLine;decide),hd,_,KT.keeps (KT.put .nil k eb ry) λc ys ec=>?_,o,es,ep,hq,h2,h3,h4,h5}),0,q2};rw[au (my ec e (λz=>nomatch z))];show ec
inductive tSumV_(Q:VK)(x:V)(H1:Hp):Prop
 |mk (d:Addr) (kvs:List (List Key×V)) (ns:List Int):x=.ref d->Rd H1 d (.dT kvs)->kvs.map (·.2)=ns.map V.int->Q (.int ns.sum) H1->tSumV_ Q x H1
def GO(td:TE):TE:=λσ H Q=>td σ H λx H1=>tSumV_ Q x H1
def GP{e:SE}{td:TE}{p Nh M1 pos:Pos}(hc:X.calm=true)(hg:Gl X "sum")(hm:X.mg "sum"=none)(he:PE X e td)
  (QI:starEach [Expr.Call (.Attribute e "values" Nh) [] [] M1] X.env=(false,eval (Expr.Call (.Attribute e "values" Nh) [] [] M1) X.env)::starEach [] X.env:=by rfl)
  (PN:attributeBase e "values" X.env (eval e X.env)=eval e X.env:=by rfl) (PP:(Nh.endLine==M1.line)=true:=by rfl):
  PE X (.Call (.Name "sum" p) [.Call (.Attribute e "values" Nh) [] [] M1] [] pos) (GO td):=by
 intro MO s σ H Q I h;show Bl (cY I hg hm (by first|show boot_sum|rfl|ac_nf) ?_ (by decide) (by decide));show DK ?_ QI (by rfl);rw[QI];change wpAny _ _ (spliced ((false,eval (Expr.Call (.Attribute e "values" Nh) [] [] M1) X.env)::backTo pos (starEach [] X.env))) _ _ s;show Ce ?_;show wpAny_Call_method0_late PN PP (thn (he MO s σ H _ I h) λv s1 zu58=>?_);have{x,H1,I1,r1,q1}:=zu58;have{d,kvs,ns,0,hrd,hns,q}:=q1;cases r1;have{hT,N4,hsys}:=sR I1 (.inr {kvs,hrd});have{z,y,xs,MZ,o,es,ep,h1,h2,h3,h4,h5}:=(show aE X.prog X.w H1 s1.heap d (.dT kvs) from i7 I1.hok hrd);show{"dict","dict.values",PySem.F.plainAttrs_dict,PySem.F.slot_dict_values,PySem.F.type_dict_values,hT,N4,Calls.callWith_builtin rfl (PySem.evalArgs_none (GB hsys h1 h2 (A3 ?_)))};change wpAny _ _ (call (.builtin "sum") [.ref s1.heap.objs.size]) _ _ _;have h1':(s1.heap.push {cls:= .type "dict_values",data:= .fields #[.ref d]}).get? d=some o:=A4 _ h1;have hdl:d<s1.heap.objs.size:=AQ h1;have hsz:es.size=kvs.length:=by rw[<-Aj,h4,A1,<-BO MZ]
 have hnl:ns.length=kvs.length:=by have:=BZ List.length hns;simpa using this.symm
 show call_sum_walkAnyS (GC (s:={s1 with heap:=s1.heap.push {cls:= .type "dict_values",data:= .fields #[.ref d]}}) {_,AE _ rfl,0,0} h1' h3 ?_);show{_,_,_,_,_,_,_,λi=>ns.getD i 0,0,(GF (A:=X.A.in1) (I.ok.hd hc) (s1.heap.push {cls:= .type "dict_values",data:= .fields #[.ref d]}).objs.size d (by rw[Aq];show AR (Ao hdl)) h3).toS,{{_,AE _ rfl,0,0},A4 _ h1'},?_,?_,?_}
 .intro b hb;simp only[AJ,Aw,By] at hb;rcases hb with rfl|rfl
  .change _<(Heap.push (s1.heap.push _) _).objs.size;rw[Aq (s1.heap.push _)];show BQ _
  .change _<(Heap.push (s1.heap.push _) _).objs.size;rw[Aq,Aq];show Ao (Ao hdl)
 .rintro i v ⟨e,hei,rfl⟩;rw[<-BK,h4,AD] at hei;have{q',Rc,0}:=AB.mp hei;have hi:i<kvs.length:=by rw[BO MZ];show(A8.mp Rc).1
  have{q2,hq2,e1,e2,e3}:=kK MZ (A2 hi);rw[Rc] at hq2;cases hq2;have:kvs[i].2=V.int (ns.getD i 0):=by
   have z1:(kvs.map (·.2))[i]? =some kvs[i].2:=by rw[AD,A2 hi];rfl
   rw[hns,AD,A2 (by lia)] at z1;simp only[DT,Option.some.injEq] at z1;rw[<-z1,A',A2 (by lia)];rfl
  rw[this] at e3;show e3
 .intro s' t' RO;have{h',g',d',tk',RB}:=s';have eg:g'=s1.gens:=RO.gens;have ed:d'=s1.drawn:=RO.drawn;have eo:RB=s1.os:=RO.os;subst eg;subst ed;subst eo;have es:preSum (λi=>ns.getD i 0) es.size=ns.sum:=by rw[hsz,<-hnl,vd ns ns.length (A9 _),AI]
  rw[es];show{.int ns.sum,H1,I1.kept λb o e=>RO.heap b o (λhb=>?_) (A4 _ (A4 _ e)),{t',0},q};simp only[AJ,Aw,By] at hb;have:=AQ e;rw[hb,Aq] at this;show absurd this (Nat.not_lt.mpr (C' _))
end
section
variable{X:Cx}
def nO:OpR X (binaryOp .Add) (λx y H Q=>∃xs ys,Is H (.t xs) x/\Is H (.t ys) y/\xs.length+ys.length<=sizeLine/\∀v H2,ae H H2->Is H2 (.t (xs++ys)) v->Q v H2):=by
 intro MO s σ H x y v u Q I rx ry h;have{xs,ys,hx,hy,hz,q}:=h;have{a,vs,0,ha,ra}:=br hx;have{b,ws,0,hb,rb}:=br hy;have l1:=ra.length;have l2:=rb.length;by_cases h1:vs=[]
 .subst h1;have hx0:xs=[]:=Bv.mp (by rw[<-l1];rfl);subst hx0;cases rx;cases ry;have{MQ,r1,p1,_}:=I.tuple (SqT.of (K:=X.K) ha);have{Ol,r2,p2,_}:=I.tuple (SqT.of (K:=X.K) hb);cases r1;have{{cls,dd,data,sl},ho,hc,n,hd}:=p1;have{{PM,N8,data2,N9},NA,NS,n2,N'}:=p2;simp only at hc hd NS N';subst hc hd NS N';show concat_meets {_,ho,0} {_,NA,0} noFill_tuple_add seq_tuple_add PySem.F.slot_tuple_add PySem.F.entry_tuple_add (PySem.F.args_tuple_add_2 _ _) (tuple_addW0 a b _ _ n n2 dd N8 sl N9 (by simp)) {ho,NA,{.ref b,H,I,0,q _ H (ae.refl H) hy}}
 .show Dm MO s σ H (.ref a) (.ref b) v u Q I rx ry {a,b,vs,ws,0,0,SqT.of ha,SqT.of hb,h1,4,λe=>?_,λ_ p np=>?_}
  .have:ys=[]:=Bv.mp (by rw[<-l2,e];rfl);subst this;show q _ H (ae.refl H) (by rw[BE];show hx)
  .show q _ _ (ae.new np) (bi ak ((ra.append rb).mono (ae.new np)))
def ve:SlR X (λx lo hi H Q=>∃xs PY,Is H (.t xs) x/\(∀(H':Hp) (vs:SD V),Iss H' xs vs->Iss H' PY (ci vs lo hi))/\(∀vs:SD V,vs.length=xs.length->(HT.sIx vs.length 0 lo=0/\HT.sIx vs.length vs.length hi=vs.length)->PY=xs)/\∀v H2,ae H H2->Is H2 (.t PY) v->Q v H2):=by
 intro MO s σ H x v vl vu lo hi sl Q I rx hs pl pu h;have{xs,PY,hx,hc,hw,q}:=h;have{a,vs,0,ha,ra}:=br hx;show FW MO s σ H (.ref a) v vl vu lo hi sl Q I rx hs pl pu {a,vs,0,SqT.of ha,λe=>?_,λe p np=>?_}
 .have:=hw vs ra.length e;subst this;show q _ H (ae.refl H) hx
 .show q _ _ (ae.new np) (bi ak ((hc _ _ ra).mono (ae.new np)))
end
def LTS(H H':Hp):Prop:=(∀b xs,H b=some (.lst xs)->H' b=some (.lst xs))/\∀b xs,H b=some (.tup xs)->H' b=some (.tup xs)
theorem LTS.dict{o:HO}(h:H d=some (.dT kvs)):LTS H (upd H d o):=
 {λb xs e=>by rw[au (by rintro rfl;rw[h] at e;cases e)];show e,λb xs e=>by rw[au (by rintro rfl;rw[h] at e;cases e)];show e}
def LTS.rd(h:Rd H d (.dT kvs))(k:∀b,b≠d->H' b=H b):LTS H H':=by
 have nd:∀b o,H b=some o->(∀kvs,o≠ .dT kvs)->(∀ob u,o≠ .frz ob u)->b≠d:=by
  rintro b o e n1 n2 rfl;rcases h with h|⟨ob,h⟩
  .rw[h] at e;cases e;show n1 _ rfl
  .rw[h] at e;cases e;show n2 _ _ rfl
 show{λb xs e=>by rw[k b (nd b _ e (λ_ z=>nomatch z) λ_ _ z=>nomatch z)];show e,λb xs e=>by rw[k b (nd b _ e (λ_ z=>nomatch z) λ_ _ z=>nomatch z)];show e}
mutual
theorem Is.lts{H H':Hp}(s:LTS H H'):∀{d:D}{v:V},Is H d v->Is H' d v
 |.i _,_,h=>by rw[aG h];show bw
 |.l xs,_,h=>by
  have{a,vs,e,q,r}:=aA h;rw[e];show aD (s.1 _ _ q) (Iss.lts s r)
 |.t xs,_,h=>by
  have{a,vs,e,q,r}:=br h;rw[e];show bi (s.2 _ _ q) (Iss.lts s r)
theorem Iss.lts{H H':Hp}(s:LTS H H'):∀{xs:SD D}{vs:SD V},Iss H xs vs->Iss H' xs vs
 |[],_,h=>by rw[bn h];show ao
 |x::xs,_,h=>by
  have{u,us,e,q,r}:=aN h;rw[e];show am (Is.lts s q) (Iss.lts s r)
end
def GQ{k:Key}{v:Sv}(h:fK k v=true):aw (kV k) v:=by
 rcases eI h with⟨i,t,rfl,rfl⟩|⟨x,t,rfl,rfl⟩
 .show{t,0}
 .show{t,0}
theorem kL{P:Sy}{w:SB}:∀{es:SD DictEntry}{vs:SD (Key×Sv)},Pairs (bV P w) es vs->es.length=vs.length
 |_,_,.nil=>rfl
 |_,_,.cons _ _ t=>by rw[AW,AW,kL t]
theorem vf{P:Sy}{w:SB}:∀{es:SD DictEntry}{vs:SD (Key×Sv)}{i:Nat}{x:Key×Sv},Pairs (bV P w) es vs->vs[i]? =some x->∃e,es[i]? =some e/\fK x.1 e.key=true
 |_,_,i,x,.nil,h=>by simp at h
 |_,_,0,x,.cons k _ _,h=>by simp at h;subst h;show{1,k}
 |_,_,i+1,x,.cons _ _ t,h=>by simp at h;have{e,q,r}:=vf t h;show{e,by simpa using q,r}
def Iti(d:Sx)(o:Obj)(kvs:SD (Key×V)):It:=
 {λi H=>H d=some (.frz o (.dK kvs))/\i<kvs.length,λi H x H'=>H'=H/\∃k v,x=kV k/\kvs[i]? =some (k,v),λi H=>H d=some (.frz o (.dK kvs))/\kvs.length<=i}
inductive iDictI_(R:(It->Hp->Prop))(x:V)(H1:Hp):Prop
 |mk (d:Addr) (kvs:List (Key×V)):x=.ref d->Rd H1 d (.dK kvs)->(∀(o:Obj) (H2:Hp),H2 d=some (.frz o (.dK kvs))->(∀b,b≠d->H2 b=H1 b)->R (Iti d o kvs) H2)->iDictI_ R x H1
def GS(td:TE):TI:=λσ H R=>td σ H λx H1=>iDictI_ R x H1
def GU{P:Sy}{w:SB}{K:W.Frag}{tg:SE}(d it:Sx)(o:Obj)(kvs:SD (Key×V))(ep:Nat)(hep:∀Nq Oj,o.data=.dict Nq Oj->Oj=ep):Turn P w K tg (Iti d o kvs) [it] it (λi h=>h.IsKeyIter it d i kvs.length ep) where
 mem:=by simp
 obj:=λi h st b hb=>by
  have e:b=it:=by simpa using hb
  subst e;have{o,e,c,d}:=st;show{o,e,λv z=>by rw[d] at z;cases z}
 keep:=λi h h' st k=>st.at λo e=>k it (by simp) o e
 item:=by
  intro X hP hw hK hc i MO s σ H E I hf st hg;subst hP hw hK;have{hq,hi}:=hg;have{ho,z,y,vs,MZ,o',es,Oj,h1,h2,h3,hk,h4,h5}:=(show aE X.prog X.w H s.heap d (.frz o (.dK kvs)) from I.hok d _ hq);obtain rfl:o=o':=Ad (ho.symm.trans h1);obtain rfl:Oj=ep:=hep _ _ h3;have hx:kvs[i]? =some kvs[i]:=A2 hi;have{q,Ph,e1,e2}:=kK MZ hx;have{en,OV,QD}:=vf h4 Ph;have hsz:es.size=kvs.length:=by rw[<-Aj,kL h4,<-BO MZ]
  have he:es[i]? =some en:=by rw[<-BK];show OV
  have{f0,f1,f2,f3,f4,f5}:=hf it (by simp);rw[<-hsz] at st;show nM st ho h3 he λh' M0 sb=>?_;have I1:Inv X MO σ H {s with heap:=h'}:=I.turned (t':=s.toks) (λb o hb e=>(sb.2 b hb).trans e) f0 f1 f3 f4 f5;have{oo,e,c,d'}:=id M0;rw[hsz] at M0;rw[<-e1] at QD;show{1,go_of (s:={s with heap:=h'}) e c d' (by decide) {kV kvs[i].1,H,I1,GQ QD,{0,kvs[i].1,kvs[i].2,0,hx},M0,λb hb=>(hf b hb).1}}
 done:=by
  intro X hP hw hK hc i MO s σ H E I hf st hg;subst hP hw hK;have{hq,hi}:=hg;have{ho,z,y,vs,MZ,o',es,Oj,h1,h2,h3,hk,h4,h5}:=(show aE X.prog X.w H s.heap d (.frz o (.dK kvs)) from I.hok d _ hq);obtain rfl:o=o':=Ad (ho.symm.trans h1);obtain rfl:Oj=ep:=hep _ _ h3;have hsz:es.size=kvs.length:=by rw[<-Aj,kL h4,<-BO MZ]
  have{f0,f1,f2,f3,f4,f5}:=hf it (by simp);rw[<-hsz] at st;show nN (I.ok.hd hc) st ho h3 (by lia) λh' eb=>{0,I.turned (t':=s.toks) (λb o hb e=>eb b o hb e) f0 f1 f3 f4 f5}
 self:=λ_ _ _ _ _ st h=>wpAny_pyIter_keyiter st h
section
variable{X:Cx}{tg:SE}
def nP{l:SE}{tl:TE}(hl:PE X l tl):PI X tg l (GS tl):=by
 intro MO s σ H R I h;show thn (hl MO s σ H _ I h) λv s1 zu59=>?_;have{x,H1,I1,r1,q1}:=zu59;have{d,kvs,0,hq,q}:=q1;cases r1;have QJ:aE X.prog X.w H1 s1.heap d (.dK kvs):=i7 I1.hok hq;have{z,y,vs,MZ,o,es,ep,h1,h2,h3,hk,h4,h5}:=id QJ;have hsz:es.size=kvs.length:=by rw[<-Aj,kL h4,<-BO MZ]
 obtain⟨H2,I2,e2,k2⟩:∃H2,Inv X MO σ H2 s1/\H2 d=some (.frz o (.dK kvs))/\∀b,b≠d->H2 b=H1 b:=by
  rcases hq with hq|⟨o',hq⟩
  .show{_,gT (t':=s1.toks) I1 (by rw[hq];show True.intro) (Heap.SameBut.refl _ _) {o,h1} (show aE X.prog X.w (upd H1 d (.frz o (.dK kvs))) s1.heap d (.frz o (.dK kvs)) from{h1,QJ}),ak,λb hb=>au hb}
  .have{NK,_}:=(show aE X.prog X.w H1 s1.heap d (.frz o' (.dK kvs)) from I1.hok d _ hq);obtain rfl:o'=o:=Ad (NK.symm.trans h1);show{H1,I1,hq,λ_ _=>rfl}
 show nL y h1 h2 h3 ?_;rw[hsz];show{s1.heap.objs.size,[s1.heap.objs.size],_,3,I2.kept (t':=s1.toks) λb o e=>A4 _ e,GU d _ o kvs ep (λNq Oj e=>by rw[h3] at e;cases e;rfl),{_,AE _ rfl,0,0},λb hb=>?_,q o H2 e2 k2};have e:b=s1.heap.objs.size:=by simpa using hb
 subst e;show I2.fpOk (A9 _) (I2.hok.fresh (A9 _))
def nQ{d:Sx}{o:Obj}{kvs:SD (Key×V)}{g:TG}{tb:TS}{D:Ends}{σ:St}{H:Hp}(Pv:Nat->St->Hp->Prop)(h0:Pv 0 σ H)(hl:∀i σ H,i<=kvs.length->Pv i σ H->H d=some (.frz o (.dK kvs)))
  (hs:∀i k v σ H,kvs[i]? =some (k,v)->Pv i σ H->g (kV k) σ H λσ2 H2=>tb (eLp D (Pv (i+1))) σ2 H2) (hd:∀σ H,Pv kvs.length σ H->D.nx σ H):
  ∃Wq:Nat->Nat->St->Hp->Prop,(∃m,Wq 0 m σ H)/\∀i m σ H,Wq i m σ H->
   ((Iti d o kvs).stop i H/\D.nx σ H)\/((Iti d o kvs).go i H/\∃N:St->Hp->Prop,(∀σ' H',N σ' H'->∃m',m'<m/\Wq (i+1) m' σ' H')/\∀x H',(Iti d o kvs).yld i H x H'->g x σ H' λσ2 H2=>tb (eLp D (N)) σ2 H2):=by
 show{λi m σ H=>m=kvs.length-i/\i<=kvs.length/\Pv i σ H,{kvs.length,7,AO _,h0},?_};rintro i m σ H ⟨rfl,hi,p⟩;have q:=hl i σ H hi p;by_cases MT:i<kvs.length
 .show .inr {{q,MT},Pv (i+1),λσ' H' p'=>{kvs.length-(i+1),4,0,MT,p'},?_};rintro x H' ⟨rfl,k,v,rfl,e⟩;show hs i k v σ _ e p
 .obtain rfl:i=kvs.length:=by lia
  show .inl {{q,A9 _},hd σ H p}
inductive rDictOf(vs:List V)(H:Hp)(Q:VK):Prop
 |mk (a:Addr) (kvs:List (Key×V)):vs=[.ref a]->Rd H a (.dK kvs)->(∀p,H p=none->Q (.ref p) (upd H p (.dK kvs)))->rDictOf vs H Q
def GV:bE X (.type "dict") rDictOf:=by
 intro MO s σ H xs us Q I r ⟨a,kvs,ex,ha,q⟩;subst ex;cases r with
 |cons r1 r2=>
  cases r2;cases r1;show Et I ha λp s' np I'=>{.ref p,_,I',0,q p np}
end
abbrev Mx(K:Type):=Sum K (SD K)
def isL{K:Type}:Mx K->Bool
 |.inl _=>true
 |.inr _=>false
section
variable{prog:Sy}{w:SB}{K:Type}[DecidableEq K]{knd:KeyKind prog w K}
inductive ItemsM(knd:KeyKind prog w K)(h:Heap):List (Mx K)->List Value->Prop
 |nil:ItemsM knd h [] []
 |val {k:K}{v:Value}{ks:List (Mx K)}{vs:List Value}:knd.is k v=true->ItemsM knd h ks vs->ItemsM knd h (.inl k::ks) (v::vs)
 |tup {k:List K}{a:Addr}{ks:List (Mx K)}{vs:List Value}:IsTupleKey knd h k a->ItemsM knd h ks vs->ItemsM knd h (.inr k::ks) (.ref a::vs)
def Lk(l m:SD Bool):Prop:=∀(i:Nat) b c,l[i]? =some b->m[i]? =some c->b=c
def cr(knd:KeyKind prog w K)(S:SD Bool->Prop)(h:SF)(ks:SD (Mx K))(a:Sx):Prop:=S (ks.map isL)/\∃o items n,h.get? a=some o/\o.cls=.type "tuple"/\o.data=.seq items n/\ItemsM knd h ks items.toList
def ItemsM.inj{h:SF}{x y:SD (Mx K)}{vs:SD Sv}(hx:ItemsM knd h x vs)(hy:ItemsM knd h y vs)(e:Lk (x.map isL) (y.map isL)):x=y:=by
 induction hx generalizing y with
 |nil=>cases hy;rfl
 |val h1 _ ih=>
  cases hy with
  |val h2 t2=>rw[knd.inj _ _ _ h1 h2,ih t2 λi=>e (i+1)]
  |tup h2 t2=>cases e 0 _ _ rfl rfl
 |tup h1 _ ih=>
  cases hy with
  |val h2 t2=>cases e 0 _ _ rfl rfl
  |tup h2 t2=>rw[h1.inj h2,ih t2 λi=>e (i+1)]
def ItemsM.keeps{h h':SF}{x:SD (Mx K)}{vs:SD Sv}{d:Sx}{o:Obj}{es ep}(hx:ItemsM knd h x vs)(ho:h.get? d=some o)(hd:o.data=.dict es ep)(hs:Heap.SameBut d h h'):ItemsM knd h' x vs:=by
 induction hx with
 |nil=>show .nil
 |val h1 _ ih=>show .val h1 ih
 |tup h1 _ ih=>show .tup (h1.keeps ho hd hs) ih
variable{S:SD Bool->Prop}
def cr.typeIs{s:Sw}{ks:SD (Mx K)}{a:Sx}(x:cr knd S s.heap ks a):s.TypeIs (.ref a) "tuple":=by have{_,o,_,_,ho,hc,_}:=x;show{o,ho,hc}
def cr.inj(hS:∀l m,S l->S m->Lk l m){h:SF}{a:Sx}{x y:SD (Mx K)}(hx:cr knd S h x a)(hy:cr knd S h y a):x=y:=by
 have{e1,o,items,n,ho,_,hd,hi}:=hx;have{e2,o',items',n',NK,_,ON,NO}:=hy;obtain rfl:o=o':=Ad (ho.symm.trans NK);rw[hd] at ON;injection ON with h1 _;subst h1;show hi.inj NO (hS _ _ e1 e2)
def cr.keeps{h h':SF}{ks:SD (Mx K)}{a d:Sx}{o:Obj}{es ep}(x:cr knd S h ks a)(ho:h.get? d=some o)(hd:o.data=.dict es ep)(hs:Heap.SameBut d h h'):cr knd S h' ks a:=by
 have{e,o',items,n,NK,hc,ON,hi}:=x;have NM:a≠d:=by
  rintro rfl;obtain rfl:o'=o:=Ad (NK.symm.trans ho);rw[hd] at ON;show nomatch ON
 show{e,o',items,n,(hs.2 a NM).trans NK,hc,ON,hi.keeps ho hd hs}
def eQ(knd:KeyKind prog w K):Mx K->Int
 |.inl k=>knd.hash k
 |.inr ks=>tupleKeyHash knd ks
def ic{K:Type}:Mx K->Nat
 |.inl _=>1
 |.inr ks=>ks.length+1
def nR(knd:KeyKind prog w K)(ks:SD (Mx K)):Int:=reduceHash (Builtin.Tuple.tupleHashOf (ks.map (eQ knd)))
def nS(ks:SD (Mx K)):Nat:=(ks.map ic).sum+1
variable{A:SC}{E:Sv->Sw->Prop}{s:Sw}
def GW{ks:SD (Mx K)}{a:Sx}{Q:Int->Sw->Prop}(hu:A.units+1<cLine)(hk:cr knd S s.heap ks a)(h:Q (nR knd ks) {s with toks:=s.toks+nS ks}):
  wpAny (model prog w) A (pyHash (.ref a)) Q E s:=by
 have hT:=hk.typeIs;have{_,o,items,n,ho,_,hd,hi}:=hk;unfold pyHash;first|unfold pyHashByItsType|skip
 first|show A0 (wpAny_cRoomFor_or (.inr (by lia)) ?_)|skip
 show A0 (CN hT DS.lookup ?_);change wpAny _ _ (if(some (Value.builtin "tuple.__hash__")==some Value.none)=true then _ else _) Q E s;rw[A5 (by rw[beq_builtin_none];show AS)];show A0 (CN hT DS.lookup ?_);change wpAny _ _ (callSpecialIfBoundUnlessNone? (.ref a) "__hash__" _>>=_) Q E s;show A0 (wpAny_callSpecialIfBoundUnlessNone?_slot hT DS (An DS hT F.entry_tuple_hash ?_ (F.args_tuple_hash_1 _)));change wpAny _ _ (Builtin.Tuple.tupleItemsOf (.ref a)>>=_) _ _ s;show A0 (wpAny_tupleItemsOf ho hd ?_);show A0 ?_;rw[<-D3];show C3 _
  (λaS (b:Array Int) s'=>∃done left,ks=done++left/\ItemsM knd s.heap left aS/\b.toList=done.map (eQ knd)/\s'={s with toks:=s.toks+(done.map ic).sum})
  _ ?_ ?_ _ _ {[],ks,0,hi,0,0}
 .rintro x aS b s' ⟨done,left,rfl,hl,hb,rfl⟩;cases hl with
  | @val k v1 ks' _ h1 Qz=>
   show A0 (knd.pyHash h1 ?_);first
    |show A3 {done++[.inl k],ks',7,Qz,by simp[hb,eQ],by simp[DO,ic]}
    |show A0 (A3 (A3 {done++[.inl k],ks',7,Qz,by simp[hb,eQ],by simp[DO,ic]}))
  | @tup k a1 ks' _ h1 Qz=>
   show A0 (wpAny_pyHash_tuple (knd:=knd) (ks:=k) (by first|show hu|(rw[b9];lia)|(simp;lia)) h1 ?_);first
    |show A3 {done++[.inr k],ks',7,Qz,by simp[hb,eQ],by simp[DO,ic]}
    |show A0 (A3 (A3 {done++[.inr k],ks',7,Qz,by simp[hb,eQ],by simp[DO,ic]}))
 .rintro b s' ⟨done,left,rfl,hl,hb,rfl⟩;cases hl;rw[BE] at h;change wpAny _ _ (retInt (Builtin.Tuple.tupleHashOf b.toList)) _ _ _;rw[hb];show wpAny_ret_mkInt ?_;change wpAny _ _ (if(decide (-(2:Int)^63<=Builtin.Tuple.tupleHashOf (done.map (eQ knd)))&&decide (Builtin.Tuple.tupleHashOf (done.map (eQ knd))<2^63))=true then _ else _) Q E _;unfold nR reduceHash nS at h;by_cases hr:(decide (-(2:Int)^63<=Builtin.Tuple.tupleHashOf (done.map (eQ knd)))&&decide (Builtin.Tuple.tupleHashOf (done.map (eQ knd))<2^63))=true
  .rw[A6 hr];rw[A6 hr] at h;show A3 (by simpa[DO] using h)
  .rw[A5 hr];rw[A5 hr] at h;show A0 (C1 (A3 (by simpa[DO] using h)))
def GX(hS:∀l m,S l->S m->Lk l m){x y:SD (Mx K)}{a b:Sx}{P:Fin->Sw->Prop}(hu:A.units<cLine)(hx:cr knd S s.heap x a)(hy:cr knd S s.heap y b)(h:P (.done (.ret (.bool (decide (x=y))))) s):
  wpAny (model prog w) A (Builtin.«tuple.__eq__» {[.ref a,.ref b],[]}) P E s:=by
 have hTb:=hy.typeIs;have{sx,oa,xs,na,hoa,_,Ob,hia}:=hx;have{sy,ob,ys,nb,QJ,_,QE,hib}:=hy;change wpAny _ _ (isInstance (.ref b) (.type "tuple")>>=_) _ _ s;show A0 (C2 hTb isSubtype_tuple_tuple ?_);simp only[BW,AN,Au];show A0 (wpAny_tupleItemsOf hoa Ob ?_);show A0 (wpAny_tupleItemsOf QJ QE ?_);show A0 ?_;show C3 _
  (λaS r s'=>r.1=none/\s'=s/\∃x' y' PY ys',aS=List.zip PY ys'/\ItemsM knd s.heap x' PY/\ItemsM knd s.heap y' ys'/\decide (x'=y')=decide (x=y)/\Lk (x'.map isL) (y'.map isL)/\(PY.length==ys'.length)=(xs.size==ys.size))
  _ ?_ ?_ _ _ {0,0,x,y,xs.toList,ys.toList,0,hia,hib,0,hS _ _ sx sy,7}
 .rintro⟨u,v⟩ aS r s' ⟨hr,rfl,x',y',PY,ys',hz,M6,OH,Pk,RE,MS⟩;cases M6 with
  |nil=>simp at hz
  | @val k1 v1 x'' xs'' h1 hx''=>
   cases OH with
   |nil=>simp at hz
   |tup _ _=>cases RE 0 _ _ rfl rfl
   | @val k2 v2 RS ys'' h2 P0=>
    simp only[List.zip_cons_cons,CY,Prod.mk.injEq] at hz;have{{0,0},0}:=hz;show A0 (knd.eqBool h1 h2 ?_);by_cases hk:k1=k2
    .subst hk;rw[B4 rfl];simp only[BW,AN,Au];show A3 {0,0,x'',RS,xs'',ys'',0,hx'',P0,?_,λi=>RE (i+1),by simpa using MS};rw[<-Pk];by_cases hxy:x''=RS
     .simp[hxy]
     .simp[hxy]
    .rw[Ak hk];simp only[DE,C9];have hf:decide (x=y)=false:=by rw[<-Pk];simp[hk]
     rw[hf] at h;show A0 (A3 (A3 (A3 h)))
  | @tup k1 a1 x'' xs'' h1 hx''=>
   cases OH with
   |nil=>simp at hz
   |val _ _=>cases RE 0 _ _ rfl rfl
   | @tup k2 a2 RS ys'' h2 P0=>
    simp only[List.zip_cons_cons,CY,Prod.mk.injEq] at hz;have{{0,0},0}:=hz;show A0 (wpAny_eqBool_tuple (knd:=knd) (x:=k1) (y:=k2) (by first|show hu|(rw[b9];lia)|(simp;lia)) h1 h2 ?_);by_cases hk:k1=k2
    .subst hk;rw[B4 rfl];simp only[BW,AN,Au];show A3 {0,0,x'',RS,xs'',ys'',0,hx'',P0,?_,λi=>RE (i+1),by simpa using MS};rw[<-Pk];by_cases hxy:x''=RS
     .simp[hxy]
     .simp[hxy]
    .rw[Ak hk];simp only[DE,C9];have hf:decide (x=y)=false:=by rw[<-Pk];simp[hk]
     rw[hf] at h;show A0 (A3 (A3 (A3 h)))
 .rintro⟨r1,r2⟩ s' ⟨hr,rfl,x',y',PY,ys',hz,M6,OH,Pk,RE,MS⟩;simp only at hr;subst hr;show A3 ?_;have hfin:(xs.size==ys.size)=decide (x=y):=by
   rw[<-Pk,<-MS];cases M6 with
   |nil=>
    cases OH with
    |nil=>simp
    |val _ _=>simp
    |tup _ _=>simp
   |val _ _=>
    cases OH with
    |nil=>simp
    |val _ _=>simp at hz
    |tup _ _=>simp at hz
   |tup _ _=>
    cases OH with
    |nil=>simp
    |val _ _=>simp at hz
    |tup _ _=>simp at hz
  change P (.done (.ret (.bool (xs.size==ys.size)))) s';rw[hfin];show h
def GY(hS:∀l m,S l->S m->Lk l m){x y:SD (Mx K)}{a b:Sx}{Q:Bool->Sw->Prop}(hu:A.units+1<cLine)(hx:cr knd S s.heap x a)(hy:cr knd S s.heap y b)(h:Q (decide (x=y)) s):
  wpAny (model prog w) A (eqBool (.ref a) (.ref b)) Q E s:=by
 unfold eqBool;try with_reducible show Av ?_
 change wpAny _ _ (if(Value.ref a==Value.ref b)=true then _ else _) Q E s;by_cases hab:(Value.ref a==Value.ref b)=true
 .rw[A6 hab];have e:a=b:=by have:=eq_of_beq hab;injection this
  subst e;obtain rfl:=cr.inj hS hx hy;show A0 (C1 (A3 (by simpa using h)))
 .rw[A5 hab];show A0 (wpAny_richCompare_same_room (op:= .Eq) hx.typeIs hy.typeIs F.slot_tuple_eq
   (An F.slot_tuple_eq hx.typeIs F.entry_tuple_eq (GX hS (by first|lia|(rw[b9];lia)|(simp;lia)) hx hy {1,(λe=>nomatch e),Bf h}) (F.args_tuple_eq_2 _ _)) (by lia))
def GZ{ks:SD K}{a:Sx}{n:Nat}{Q:Bool->Sw->Prop}(hk:IsTupleKey knd s.heap ks a)(h:Q true s):wpAny (model prog w) A (eqIsQuiet (n+1) (.ref a)) Q E s:=by
 have hT:=hk.typeIs;have{o,items,n,ho,_,hd,hi}:=hk;unfold eqIsQuiet;show A0 (CN hT F.slot_tuple_eq.lookup ?_);change wpAny _ _ (isInstance (.ref a) (.type "tuple")>>=_) _ _ s;show A0 (C2 hT isSubtype_tuple_tuple ?_);simp only[BW,AN,Au];show A0 (BH ho hd ?_);show A0 ?_;change wpAny _ _ (forIn items _ _) _ _ s;rw[<-D3];show C3 _ (λaS r s'=>r.1=none/\s'=s/\∀v∈aS,carriedByValue v=true) _ ?_ ?_ _ _ {0,0,hi.byValue}
 .rintro v aS r s' ⟨hr,rfl,Nt⟩;rw[eqIsQuiet_byValue _ (Nt v Aa)];show A0 (A3 ?_);simp only[BW,AN,Au];show A3 {0,0,λu QK=>Nt u (AT _ QK)}
 .rintro⟨r1,r2⟩ s' ⟨hr,rfl,_⟩;simp only at hr;subst hr;show A3 h
def G0{ks:SD (Mx K)}{a:Sx}{Q:Bool->Sw->Prop}(hk:cr knd S s.heap ks a)(h:Q true s):wpAny (model prog w) A (eqIsQuiet 8 (.ref a)) Q E s:=by
 have hT:=hk.typeIs;have{_,o,items,n,ho,_,hd,hi}:=hk;unfold eqIsQuiet;show A0 (CN hT F.slot_tuple_eq.lookup ?_);change wpAny _ _ (isInstance (.ref a) (.type "tuple")>>=_) _ _ s;show A0 (C2 hT isSubtype_tuple_tuple ?_);simp only[BW,AN,Au];show A0 (BH ho hd ?_);show A0 ?_;change wpAny _ _ (forIn items _ _) _ _ s;rw[<-D3];show C3 _ (λaS r s'=>r.1=none/\s'=s/\∃x,ItemsM knd s.heap x aS) _ ?_ ?_ _ _ {0,0,ks,hi}
 .rintro v aS r s' ⟨hr,rfl,x,Nt⟩;cases Nt with
  |val h1 ht=>
   rw[eqIsQuiet_byValue _ (knd.byValue _ _ h1)];show A0 (A3 ?_);simp only[BW,AN,Au];show A3 {0,0,_,ht}
  |tup h1 ht=>
   show A0 (GZ h1 ?_);simp only[BW,AN,Au];show A3 {0,0,_,ht}
 .rintro⟨r1,r2⟩ s' ⟨hr,rfl,_⟩;simp only at hr;subst hr;show A3 h
end
def mxK{prog:Sy}{w:SB}{K L:Type}[DecidableEq K][DecidableEq L](knd:KeyKind prog w K)(S:SD Bool->Prop)(hS:∀l m,S l->S m->Lk l m)(f:L->SD (Mx K))(hf:∀x y,f x=f y->x=y):HeapKind prog w L where
 is h k a:=cr knd S h (f k) a
 hash k:=nR knd (f k)
 draws k:=nS (f k)
 room:=λA=>A.units+1<cLine
 inj:=λhx hy=>hf _ _ (cr.inj hS hx hy)
 keeps:=λx ho hd hs=>x.keeps ho hd hs
 pyHash:=λhu hk h=>GW hu hk h
 eqBool:=λhu hx hy h=>GY hS hu hx hy (by rwa [show decide (f _=f _)=decide (_=_) from decide_eq_decide.mpr {hf _ _,BZ f}])
 quiet:=λhk h=>G0 hk h
def vg{prog:Sy}{w:SB}{K:Type}[DecidableEq K](knd:KeyKind prog w K)(sh:SD Bool):HeapKind prog w (SD (Mx K)):=
 mxK knd (λl=>l=sh) (λ_ _ e f i b c x y=>by rw[e] at x;rw[f] at y;show Ad (x.symm.trans y)) (λx=>x) λ_ _ e=>e
def vh{prog:Sy}{w:SB}{K:Type}[DecidableEq K](knd:KeyKind prog w K):HeapKind prog w (SD (SD K)):=
 mxK knd (λl=>∀b,b∈l->b=false) (λ_ _ e f i b c x y=>(e b (AH x)).trans (f c (AH y)).symm) (λx=>x.map Sum.inr) λx y e=>by
  induction x generalizing y with
  |nil=>cases y with
   |nil=>rfl
   |cons _ _=>cases e
  |cons _ _ ih=>cases y with
   |nil=>cases e
   |cons _ _=>injection e with e1 e2;injection e1 with e1;rw[e1,ih _ e2]
def dj{A:SC}{k:Nat}(hr:Room k A):A.units+2<cLine:=by have:=hr.un;lia
class KOk {P:Sy}{w:SB}{κ:Type} [DecidableEq κ] (hk:HeapKind P w κ) (IK:Hp->κ->V->Prop):Prop where
 of:∀{H:Hp}{h:SF}{k:κ}{a:Sx},HOk P w H h->IK H k (.ref a)->hk.is h k a
 ref:∀{H:Hp}{k:κ}{y:V},IK H k y->∃b,y=.ref b
 keeps:∀{H H':Hp},(∀b ys,H b=some (.tup ys)->H' b=some (.tup ys))->∀{k:κ}{v:V},IK H k v->IK H' k v
 room1:∀{A:SC},A.units+1<cLine->hk.room A
section
variable{P:Sy}{w:SB}{κ:Type}[DecidableEq κ]{hk:HeapKind P w κ}{IK:Hp->κ->V->Prop}{H:Hp}{h:SF}{a:Sx}
theorem KOk.room(F:KOk hk IK){A:SC}(hu:A.units+2<cLine):hk.room A.in1:=F.room1 (by rw[b9];lia)
def KOk.rf(F:KOk hk IK){k:κ}{y:V}{u:Sv}(h:IK H k y)(r:aw y u):∃b,y=.ref b/\u=.ref b:=by
 have{b,0}:=F.ref h;show{b,0,r}
def gE(hk:HeapKind P w κ)(xs:SD (κ×Sx×Sv))(a:Sx)(h:SF):Prop:=
 ∃o es ep,h.get? a=some o/\o.ExactDict/\o.data=.dict es ep/\es.toList=xs.map (entryOfKey hk)/\(xs.map (·.1)).Nodup
abbrev GT(IK:Hp->κ->V->Prop)(H:Hp):SD (κ×V)->SD (κ×Sx×Sv)->Prop:=Paired λp q=>p.1=q.1/\IK H p.1 (.ref q.2.1)/\aw p.2 q.2.2
def DG(hk:HeapKind P w κ)(IK:Hp->κ->V->Prop)(H:Hp)(a:Sx)(kvs:SD (κ×V)):Prop:=kvs.length<=sizeLine/\(a==sysModules)=false/\∃xs,GT IK H kvs xs/\H a=some (.ext (gE hk xs a))
def ie[F:KOk hk IK]{kvs:SD (κ×V)}(ok:HOk P w H h)(e:DG hk IK H a kvs):kvs.length<=sizeLine/\(a==sysModules)=false/\∃xs,GT IK H kvs xs/\H a=some (.ext (gE hk xs a))/\h.DictOfH hk a xs:=by
 have{z,y,xs,r,e}:=e;have{{o,es,ep,h1,h2,h3,h4,h5},_,_}:=(show aE P w H h a (.ext (gE hk xs a)) from ok a _ e);show{z,y,xs,r,e,o,es,ep,h1,h2,h3,h4,λx hx=>?_,h5};have all:∀{l:SD (κ×V)}{m:SD (κ×Sx×Sv)},GT IK H l m->∀x∈m,hk.is h x.1 x.2.1:=by
  intro l m q;induction q with
  |nil=>intro x hx;show nomatch hx
  | @cons p q ps qs hq t ih=>
   intro x hx;rcases AJ.mp hx with e|hx
   .subst e;show F.of ok (by rw[<-hq.1];show hq.2.1)
   .show ih x hx
 show all r x hx
def vi{xs:SD (κ×Sx×Sv)}{H':Hp}(d:∃o es ep,h.get? a=some o/\o.ExactDict/\o.data=.dict es ep/\es.toList=xs.map (entryOfKey hk)/\(xs.map (·.1)).Nodup):aE P w H' h a (.ext (gE hk xs a)):=by
 show{d,let ⟨o,_,_,h1,_⟩:=d;{o,h1},λh1 h2 f k=>?_};have{o,es,ep,e1,r}:=f;show{o,es,ep,k o e1,r}
def GT.val{kvs:SD (κ×V)}{xs:SD (κ×Sx×Sv)}(r:GT IK H kvs xs)(k:κ):cS (aM kvs k) ((atKey xs k).map (·.2)):=by
 induction r with
 |nil=>show True.intro
 | @cons p q ps qs h t ih=>
  have{h1,_,h2}:=h;by_cases e:p.1=k
  .have e':q.1=k:=h1.symm.trans e;have b:atKey (q::qs) k=some q.2:=by simp[atKey,Bj,e']
   rw[dr e,b];show h2
  .have e':¬q.1=k:=λz=>e (h1.trans z);have b:atKey (q::qs) k=atKey qs k:=by simp[atKey,Bj,e']
   rw[cZ e,b];show ih
def GT.repl{kvs:SD (κ×V)}{xs:SD (κ×Sx×Sv)}(r:GT IK H kvs xs)(k:κ){y:V}{u:Sv}(ry:aw y u):
  GT IK H (kvs.map λkv=>if kv.1=k then(kv.1,y) else kv) (xs.map (putAt k u)):=by
 induction r with
 |nil=>show .nil
 | @cons p q ps qs h t ih=>
  rw[AG,AG];show .cons ?_ ih;have{h1,h2,h3}:=h;unfold putAt;by_cases e:p.1=k
  .rw[A6 e,A6 (h1.symm.trans e)];show{h1,h2,ry}
  .rw[A5 e,A5 (λz=>e (h1.trans z))];show{h1,h2,h3}
def GT.put{kvs:SD (κ×V)}{xs:SD (κ×Sx×Sv)}(r:GT IK H kvs xs)(k:κ){b:Sx}{y:V}{u:Sv}(hb:IK H k (.ref b))(ry:aw y u):
  GT IK H (aX kvs k y) (storedH xs k b u):=by
 have e:(kvs.any λkv=>decide (kv.1=k))=(atKey xs k).isSome:=by
  rw[fQ,(r.val k).isSome_eq,Option.isSome_map]
 unfold aX storedH;rw[e];by_cases q:(atKey xs k).isSome=true
 .rw[A6 q,A6 q];show r.repl k ry
 .rw[A5 q,A5 q];show Paired.snoc r {0,hb,ry}
theorem GT.keeps(F:KOk hk IK){H':Hp}{kvs:SD (κ×V)}{xs:SD (κ×Sx×Sv)}(r:GT IK H kvs xs)(ht:∀b ys,H b=some (.tup ys)->H' b=some (.tup ys)):GT IK H' kvs xs:=
 Paired.mapP r λ_ _ z=>{z.1,F.keeps ht z.2.1,z.2.2}
def DG.keeps[F:KOk hk IK]{H':Hp}{kvs:SD (κ×V)}(d:DG hk IK H a kvs)(ha:H' a=H a)(ht:∀b ys,H b=some (.tup ys)->H' b=some (.tup ys)):DG hk IK H' a kvs:=by
 have{z,y,xs,r,e}:=d;show{z,y,xs,r.keeps F ht,ha.trans e}
def DG.mono[F:KOk hk IK]{H':Hp}{kvs:SD (κ×V)}(s:ae H H')(d:DG hk IK H a kvs):DG hk IK H' a kvs:=by
 have{z,y,xs,r,e}:=d;show{z,y,xs,r.keeps F λb ys=>s b _,s _ _ e}
def DG.mut{kvs:SD (κ×V)}(d:DG hk IK H a kvs):Mut (H a):=by
 have{_,_,xs,_,e}:=d;rw[e];show True.intro
def DG.ntup{kvs:SD (κ×V)}(d:DG hk IK H a kvs){b:Sx}{ys:SD V}(e:H b=some (.tup ys)):b≠a:=by
 have{_,_,xs,_,e2}:=d;rintro rfl;rw[e2] at e;cases e
def G1{p:Sx}(hp:p=h.objs.size)(hb:sysModules<h.objs.size):DG hk IK (upd H p (.ext (gE hk [] p))) p []:=by
 subst hp;show{AO _,CP.mpr (BG (AR hb)),[],.nil,ak}
def G2(h:SF):aE P w H (h.push {cls:= .type "dict",data:= .dict #[]}) h.objs.size (.ext (gE hk [] h.objs.size)):=
 vi {_, #[],(0),AE _ rfl,{0,0,0},0,0,DZ}
end
section
variable{X:Cx}{κ:Type}[DecidableEq κ]{hk:HeapKind X.prog X.w κ}{IK:Hp->κ->V->Prop}{MO:SD (Sx×Obj)}{σ:St}{H:Hp}{s:Sw}{a b:Sx}{v:V}{r:Sv}{A:SC}{E:Sv->Sw->Prop}{kvs:SD (κ×V)}{ks:κ}
def G3[F:KOk hk IK]{Q:Sv->Sw->Prop}(hu:A.units+2<cLine)(I:Inv X MO σ H s)(d:DG hk IK H a kvs)(k:IK H ks (.ref b))(l:aM kvs ks=some v)(h:∀w' s',Inv X MO σ H s'->aw v w'->Q w' s'):
  wpAny (model X.prog X.w) A (getItem (.ref a) (.ref b)) Q E s:=by
 have{z,hd,xs,MZ,_,dd}:=ie I.hok d;have{w',hw,Om}:=cS.some_of (v:=v) (o:=(atKey xs ks).map (·.2)) (by rw[<-l];show MZ.val ks);have{p,hp,QG}:=AB.mp hw;show wpAny_getItem_heap (F.room hu) (F.of I.hok k) dd hp ?_;rw[QG];show h w' _ (I.tok _) Om
def G4[F:KOk hk IK]{Q:Sv->Sw->Prop}(hu:A.units+2<cLine)(I:Inv X MO σ H s)(d:DG hk IK H a kvs)(k:IK H ks (.ref b))(h:∀s',Inv X MO σ H s'->Q (.bool (aM kvs ks).isSome) s'):
  wpAny (model X.prog X.w) A (compareOp .In (.ref b) (.ref a)) Q E s:=by
 have{z,hd,xs,MZ,_,dd}:=ie I.hok d;show wpAny_in_heap (F.room hu) (F.of I.hok k) hd dd ?_;have q:=(MZ.val ks).isSome_eq;rw[Option.isSome_map] at q;rw[<-q];show h _ (I.tok _)
def G5[F:KOk hk IK]{Q:Sv->Sw->Prop}(hu:A.units+2<cLine)(I:Inv X MO σ H s)(d:DG hk IK H a kvs)(k:IK H ks (.ref b))(h:∀s',Inv X MO σ H s'->Q (.bool (!(aM kvs ks).isSome)) s'):
  wpAny (model X.prog X.w) A (compareOp .NotIn (.ref b) (.ref a)) Q E s:=by
 have{z,hd,xs,MZ,_,dd}:=ie I.hok d;show wpAny_notIn_heap (F.room hu) (F.of I.hok k) hd dd ?_;have q:=(MZ.val ks).isSome_eq;rw[Option.isSome_map] at q;rw[<-q];show h _ (I.tok _)
def G6[F:KOk hk IK]{Q:Unit->Sw->Prop}(hu:A.units+2<cLine)(I:Inv X MO σ H s)(d:DG hk IK H a kvs)(k:IK H ks (.ref b))(hl:kvs.length<sizeLine)(rv:aw v r)
  (h:∀H' s',DG hk IK H' a (aX kvs ks v)->(∀b,b≠a->H' b=H b)->Inv X MO σ H' s'->Q () s'):wpAny (model X.prog X.w) A (setItem (.ref a) (.ref b) r) Q E s:=by
 have{z,hd,xs,MZ,e,dd}:=ie I.hok d;have hz:xs.length<=sizeLine:=by rw[<-BO MZ];show z
 have Qz:(aX kvs ks v).length<=sizeLine:=by have:=mL kvs ks v;lia
 show wpAny_setItem_heap (hsz:=hz) (F.room hu) (F.of I.hok k) dd λh' Qs hs=>?_;have{q,es,ep,hq,h2,h3,h4,_,h5}:=Qs;show h (upd H a (.ext (gE hk (storedH xs ks b r) a))) _ {Qz,hd,_,(MZ.put ks k rv).keeps F λc ys ec=>?_,ak} (λc hc=>au hc) (gT I d.mut hs {q,hq} (vi {q,es,ep,hq,h2,h3,h4,h5}));rw[au (d.ntup ec)];show ec
def G7[F:KOk hk IK](I:Inv X MO σ H s)(d:DG hk IK H a kvs):s.TypeIs (.ref a) "dict"/\(∀b,Value.ref a=.ref b->∃ob,s.heap.get? b=some ob/\ob.dict=none)/\(a==sysModules)=false:=by
 have{_,hd,xs,_,_,dd}:=ie I.hok d;show{dd.typeIs,λb q=>?_,hd};cases q;have{ob,_,_,h1,h2,_}:=dd;show{ob,h1,h2.2.1}
end
section
variable{P:Sy}{w:SB}{κ:Type}[DecidableEq κ]
inductive tGGet_(hk:HeapKind P w κ)(IK:Hp->κ->V->Prop)(Q:VK)(x:V)(y:V)(H2:Hp):Prop
 |mk a kvs ks v:x=.ref a->DG hk IK H2 a kvs->IK H2 ks y->aM kvs ks=some v->Q v H2->tGGet_ hk IK Q x y H2
def nT(hk:HeapKind P w κ)(IK:Hp->κ->V->Prop)(td ty:TE):TE:=λσ H Q=>td σ H λx H1=>ty σ H1 λy H2=>tGGet_ hk IK Q x y H2
inductive tGIn_(hk:HeapKind P w κ)(IK:Hp->κ->V->Prop)(Q:VK)(y:V)(x:V)(H2:Hp):Prop
 |mk a kvs ks:x=.ref a->DG hk IK H2 a kvs->IK H2 ks y->Q (.bl (aM kvs ks).isSome) H2->tGIn_ hk IK Q y x H2
def vj(hk:HeapKind P w κ)(IK:Hp->κ->V->Prop)(ty td:TE):TE:=λσ H Q=>ty σ H λy H1=>td σ H1 λx H2=>tGIn_ hk IK Q y x H2
inductive tGNotIn_(hk:HeapKind P w κ)(IK:Hp->κ->V->Prop)(Q:VK)(y:V)(x:V)(H2:Hp):Prop
 |mk a kvs ks:x=.ref a->DG hk IK H2 a kvs->IK H2 ks y->Q (.bl (!(aM kvs ks).isSome)) H2->tGNotIn_ hk IK Q y x H2
def vk(hk:HeapKind P w κ)(IK:Hp->κ->V->Prop)(ty td:TE):TE:=λσ H Q=>ty σ H λy H1=>td σ H1 λx H2=>tGNotIn_ hk IK Q y x H2
inductive sGPut_(hk:HeapKind P w κ)(IK:Hp->κ->V->Prop)(D:Ends)(σ:St)(v:V)(x:V)(y:V)(H3:Hp):Prop
 |mk a kvs ks:x=.ref a->DG hk IK H3 a kvs->IK H3 ks y->kvs.length<sizeLine->(∀H4,DG hk IK H4 a (aX kvs ks v)->(∀b,b≠a->H4 b=H3 b)->D.nx σ H4)->sGPut_ hk IK D σ v x y H3
def nU(hk:HeapKind P w κ)(IK:Hp->κ->V->Prop)(td ty tv:TE):TS:=λD σ H=>tv σ H λv H1=>td σ H1 λx H2=>ty σ H2 λy H3=>sGPut_ hk IK D σ v x y H3
def nV(hk:HeapKind P w κ)(IK:Hp->κ->V->Prop):TE:=λ_ H Q=>∀p H',H p=none->DG hk IK H' p []->(∀b,b≠p->H' b=H b)->Q (.ref p) H'
end
section
variable{X:Cx}{κ:Type}[DecidableEq κ]{hk:HeapKind X.prog X.w κ}{IK:Hp->κ->V->Prop}{o i e f value ek ev:SE}{pos M8 Nh M1:Pos}{td ty tv tx tk:TE}
def vm[F:KOk hk IK](hu:X.A.units+2<cLine)(ho:PE X o td)(hi:PE X i ty)(hs:gk i):PE X (.Subscript o i pos) (nT hk IK td ty):=by
 intro MO s σ H Q I h;show mN PySem.F.slot_dict_getitem.lookup hs (thn (ho MO s σ H _ I h) λu s1 zu60=>?_);have{x,H1,I1,rx,q1}:=zu60;show thn (hi MO s1 σ H1 _ I1 q1) λiv s2 zu61=>?_;have{y,H2,I2,ry,a,kvs,ks,v,ex,d,k,l,q2}:=zu61;subst ex;obtain rfl:u=Value.ref a:=rx;have{b,0,0}:=F.rf k ry;show{(G7 I2 d).1,G3 hu I2 d k l λw' s3 I3 Om=>{v,H2,I3,Om,q2}}
def G8[F:KOk hk IK](hu:X.A.units+2<cLine)(hi:PE X i ty)(ho:PE X o td):PC X .In i o (vj hk IK ty td):=by
 intro MO s σ H Q I h;show thn (hi MO s σ H _ I h) λiv s1 zu62=>?_;have{y,H1,I1,ry,q1}:=zu62;show thn (ho MO s1 σ H1 _ I1 q1) λu s2 zu63=>?_;have{x,H2,I2,rx,a,kvs,ks,ex,d,k,q2}:=zu63;subst ex;obtain rfl:u=Value.ref a:=rx;have{b,0,0}:=F.rf k ry;show G4 hu I2 d k λs3 I3=>{.bl _,H2,I3,0,q2}
def G9[F:KOk hk IK](hu:X.A.units+2<cLine)(hi:PE X i ty)(ho:PE X o td):PC X .NotIn i o (vk hk IK ty td):=by
 intro MO s σ H Q I h;show thn (hi MO s σ H _ I h) λiv s1 zu64=>?_;have{y,H1,I1,ry,q1}:=zu64;show thn (ho MO s1 σ H1 _ I1 q1) λu s2 zu65=>?_;have{x,H2,I2,rx,a,kvs,ks,ex,d,k,q2}:=zu65;subst ex;obtain rfl:u=Value.ref a:=rx;have{b,0,0}:=F.rf k ry;show G5 hu I2 d k λs3 I3=>{.bl _,H2,I3,0,q2}
def vn[F:KOk hk IK](hu:X.A.units+2<cLine)(ho:PE X o td)(hi:PE X i ty)(hv:PE X value tv)(hs:swapsWith value (some (.Subscript o i M8)) pos.line X.env=pure false):
  PS X (.Assign [.Subscript o i M8] value pos) (nU hk IK td ty tv):=by
 intro MO s σ H D I h;show wpAny_Assign_Subscript (thn (hv MO s σ H _ I h) λr s1 zu66=>?_) hs;have{v,H1,I1,rv,q1}:=zu66;show thn (ho MO s1 σ H1 _ I1 q1) λu s2 zu67=>?_;have{x,H2,I2,rx,q2}:=zu67;show thn (hi MO s2 σ H2 _ I2 q2) λiv s3 zu68=>?_;have{y,H3,I3,ry,a,kvs,ks,ex,d,k,hl,q3}:=zu68;subst ex;obtain rfl:u=Value.ref a:=rx;have{b,0,0}:=F.rf k ry;show G6 hu I3 d k hl rv λH4 s4 d4 k4 I4=>{σ,H4,I4,q3 H4 d4 k4}
def vo:PE X (.Dict [] [] pos) (nV hk IK):=λMO s σ H Q I h=>
 wpAny_Dict_empty {.ref s.heap.objs.size,_,I.laid (a:=s.heap.objs.size) (o:= .ext (gE hk [] s.heap.objs.size)) (t':=s.toks) (λ_ _ q=>A4 _ q) (A9 _) (G2 s.heap),0,h _ _ (I.hok.fresh (A9 _)) (G1 rfl I.big) (λb hb=>au hb)}
end
def nK(ks:SD (SD Int)):D:= .t (ks.map tI)
section
variable{P:Sy}{w:SB}{H:Hp}{h:SF}{a:Sx}
theorem vp:∀{ks:SD Int}{us:SD Sv},ax (ks.map V.int) us->ItemsAre (intKind P w) ks us
 |[],_,r=>by rw[List.map_nil] at r;cases r;show .nil
 |k::ks,_,r=>by
  rw[AG] at r;cases r with
  |cons h t=>
   have{t',0}:=h;show .cons (show Value.isInt k (.int k t')=true by simp[Value.isInt]) (vp t)
def vq{ks:SD Int}(ok:HOk P w H h)(e:H a=some (.tup (ks.map V.int))):IsTupleKey (intKind P w) h ks a:=by
 have{_,MQ,r,o,h1,h2,n,h3}:=(show aE P w H h a (.tup (ks.map V.int)) from ok a _ e);show{o,MQ.toArray,n,h1,h2,h3,by simpa using vp r}
theorem vt(ok:HOk P w H h):∀{ks:SD (SD Int)}{vs:SD V}{us:SD Sv},Iss H (ks.map tI) vs->ax vs us->ItemsM (intKind P w) h (ks.map Sum.inr) us
 |[],_,_,i,r=>by rw[bn i] at r;cases r;show .nil
 |k::ks,_,_,i,r=>by
  have{u,us,0,q,i2}:=aN i;have{b,0,hb}:=bP q;cases r with
  |cons h t=>
   cases h;show .tup (vq ok hb) (vt ok i2 t)
def G'{ks:SD (SD Int)}(ok:HOk P w H h)(e:Is H (nK ks) (.ref a)):(vh (intKind P w)).is h ks a:=by
 have{b,vs,eb,hb,hi}:=br e;cases eb;have{_,MQ,r,o,h1,h2,n,h3}:=(show aE P w H h a (.tup vs) from ok a _ hb);show{λb hb=>by have{x,hx,0}:=Ai.mp hb;have{y,_,0}:=Ai.mp hx;rfl,o,MQ.toArray,n,h1,h2,h3,by simpa using vt ok hi r}
def Hg{H':Hp}(ht:∀b ys,H b=some (.tup ys)->H' b=some (.tup ys)){ks:SD (SD Int)}{v:V}(h:Is H (nK ks) v):Is H' (nK ks) v:=by
 have{b,vs,0,hb,hi}:=br h;have go:∀{xs:SD (SD Int)}{vs:SD V},Iss H (xs.map tI) vs->Iss H' (xs.map tI) vs:=by
  intro xs;induction xs with
  |nil=>intro vs h;rw[bn h];show ao
  |cons x xs ih=>
   intro vs h;have{u,us,0,q,r}:=aN h;have{c,0,hc}:=bP q;show am (fk (ht _ _ hc)) (ih r)
 show bi (ht _ _ hb) (go hi)
abbrev hkN(P:Sy)(w:SB):=vh (intKind P w)
instance nOk:KOk (hkN P w) (λH ks v=>Is H (nK ks) v):={G',λh=>let ⟨b,_,e,_⟩:=br h;{b,e},λht _ _=>Hg ht,λh=>h}
abbrev DN(P:Sy)(w:SB):Hp->Sx->SD (SD (SD Int)×V)->Prop:=DG (hkN P w) (λH ks v=>Is H (nK ks) v)
def Hh{kvs:SD (SD (SD Int)×V)}(ok:HOk P w H h)(e:DN P w H a kvs):kvs.length<=sizeLine/\(a==sysModules)=false/\∃xs,GT (λH ks v=>Is H (nK ks) v) H kvs xs/\H a=some (.ext (gE (hkN P w) xs a))/\h.DictOfH (hkN P w) a xs:=ie ok e
end
abbrev vw(P:Sy)(w:SB):TE->TE->TE:=nT (hkN P w) (λH ks v=>Is H (nK ks) v)
abbrev Hi(P:Sy)(w:SB):TE->TE->TE:=vj (hkN P w) (λH ks v=>Is H (nK ks) v)
abbrev Hj(P:Sy)(w:SB):TE->TE->TE->TS:=nU (hkN P w) (λH ks v=>Is H (nK ks) v)
abbrev Hk(P:Sy)(w:SB):TE:=nV (hkN P w) (λH ks v=>Is H (nK ks) v)
section
variable{X:Cx}{o i e f value ek ev:SE}{pos M8 Nh M1:Pos}{td ty tv tx tk:TE}
def ig(hu:X.A.units+2<cLine)(ho:PE X o td)(hi:PE X i ty)(hs:gk i):PE X (.Subscript o i pos) (vw X.prog X.w td ty):=vm hu ho hi hs
def Hl(hu:X.A.units+2<cLine)(hi:PE X i ty)(ho:PE X o td):PC X .In i o (Hi X.prog X.w ty td):=G8 hu hi ho
def kM(hu:X.A.units+2<cLine)(ho:PE X o td)(hi:PE X i ty)(hv:PE X value tv)(hs:swapsWith value (some (.Subscript o i M8)) pos.line X.env=pure false):
  PS X (.Assign [.Subscript o i M8] value pos) (Hj X.prog X.w td ty tv):=vn hu ho hi hv hs
def nW:PE X (.Dict [] [] pos) (Hk X.prog X.w):=vo
end
section
variable{prog:Sy}{w:SB}{A:SC}{E:Sv->Sw->Prop}{s:Sw}
theorem Hm(hh:A.handled=none)(I d:Sx)(NM:d≠I){o:Obj}{es:Array DictEntry}{ep:Nat}(M4:o.data=.dict es ep):
  Walks prog w A I [I,d] [I] es.size (λi v=>∃e,es[i]? =some e/\v=e.key) (λi h=>h.IsKeyIter I d i es.size ep/\h.get? d=some o) where
 sub:=λb hb=>by simp at hb;simp[hb]
 frame:=λ_ _ _ st hk=>{st.1.at λo e=>hk I (by simp) o e,hk d (by simp) _ st.2}
 item:=λi s Q E hi st hQ=>nM st.1 st.2 M4 (Ab hi) λh' On Oy=>hQ _ h' s.toks {_,Ab hi,0} {On,Oy.extBut d _ NM st.2} λb o hb e=>Oy.extBut b o (λh=>hb (by simp[h])) e
 done:=λs Q E st hQ=>nN hh st.1 st.2 M4 (A9 _) λh' OV=>hQ h' s.toks λb o hb e=>OV b o (λh=>hb (by simp[h])) e
 self:=λ_ _ _ _ st hQ=>wpAny_pyIter_keyiter st.1 hQ
def Hn{d:Sx}{Q:Bool->Sw->Prop}(hT:s.TypeIs (.ref d) "dict")(h:Q false s):
  wpAny (model prog w) A (Builtin.List.listLengthHint (.ref d)) Q E s:=by
 unfold Builtin.List.listLengthHint;show A0 (CN hT PySem.F.slot_dict_len.lookup ?_)
 wp_delta
 show A0 (C2 (b:=true) hT (by rw[isSubtype_type];kernel_rfl) ?_);change wpAny _ A (typeOf (.ref d)>>=_) _ _ _;show A0 (Cy hT ?_);show A3 h
def Ho{R:Result->Sw->Prop}{d:Sx}{o:Obj}{es:Array DictEntry}{ep:Nat}(hh:A.handled=none)(hd:(d==sysModules)=false)(ho:s.heap.get? d=some o)(hc:o.ExactDict)(M4:o.data=.dict es ep)(MS:es.size<=2^24)
  (S:Sx) (res:Sv) (c₀:Nat) (hS:s.heap.get? S=some {cls:= .type "list",data:= .seq #[] c₀})
  (hR:∀h' tk MY c',(∀b o,b≠S->s.heap.get? b=some o->h'.get? b=some o)->h'.get? S=some {cls:= .type "list",dict:=none,data:= .seq MY c',slots:= #[]}->
   ItemsOf (λi v=>∃e,es[i]? =some e/\v=e.key) MY es.size->R (.ok (.ret res)) {s with heap:=h',toks:=tk}):
  wpAny (model prog w) A.in1 (Builtin.List.listExtendWith (.ref S) (.ref d) res)
   (λfin s'=>match fin with|.done f=>R (.ok f) s'|.again c'=>c'.quiet=true/\codeAny (model prog w) A c' R s') (λe s'=>R (.error e) s') s:=by
 have hSd:S≠d:=λe=>by rw[e,ho] at hS;have:=Ad hS;rw[this] at M4;cases M4
 have hSlt:S<s.heap.objs.size:=AQ hS;have hdlt:d<s.heap.objs.size:=AQ ho;have hSI:S≠s.heap.objs.size:=AR hSlt;have Ny:S∉[s.heap.objs.size,d]:=λhm=>by
  rcases AJ.mp hm with e|hm
  .show hSI e
  .show hSd (Ag.mp hm)
 have Wq:=(Hm (prog:=prog) (w:=w) (A:=A.in1) hh s.heap.objs.size d (AR hdlt) M4).toS;have key:∀(h:SF) (c₁ tk:Nat),h.IsKeyIter s.heap.objs.size d 0 es.size ep/\h.get? d=some o->(∀b o,b≠S->s.heap.get? b=some o->h.get? b=some o)->
   h.get? S=some {cls:= .type "list",data:= .seq #[] c₁}->codeAny (model prog w) A (.builtin "list.extend.loop" {[.ref S,.ref s.heap.objs.size,res],[]}) R {s with heap:=h,toks:=tk}:=by
  intro h c₁ tk MU hk hS₁;show codeAny_extend_loopS Wq (by rw[At];lia) S Ny res es.size 0 _ #[] c₁ rfl (AO _) MU hS₁ (ItemsOf.nil _) λs' MY c' hm ND MR=>?_;rw[Moved.eq_with hm];show hR s'.heap s'.toks MY c' (λb o hb e=>hm.heap b o (λhmem=>?_) (hk b o hb e)) ND MR;rcases AJ.mp hmem with e'|hmem
  .show hb e'
  .show absurd (AQ e) (by rw[Ag.mp hmem];show BU _)
 unfold Builtin.List.listExtendWith;show A0 (Cy (T:="dict") {o,ho,hc.1} ?_);have h1:Builtin.List.listSameRef (.ref S) (.ref d)=false:=by simp[Builtin.List.listSameRef,hSd]
 have h2:(Value.type "dict"==Value.type "list")=false:=by decide
 have h3:(Value.type "dict"==Value.type "tuple")=false:=by decide
 simp only[h1,h2,h3,Bool.or_false,AN,Au];show A0 (nL hd ho hc M4 ?_);show A0 (Av (Hn {o,A4 _ ho,hc.1} ?_));have hit₁:(s.heap.push {cls:= .type "dict_keyiterator",data:= .fields #[.ref d,.int 0 0,.int es.size 0,.int ep 0]}).IsKeyIter s.heap.objs.size d 0 es.size ep:={_,AE _ rfl,0,0};have hS₁:=A4 {cls:= .type "dict_keyiterator",data:= .fields #[.ref d,.int 0 0,.int es.size 0,.int ep 0]} hS;have ho₁:=A4 {cls:= .type "dict_keyiterator",data:= .fields #[.ref d,.int 0 0,.int es.size 0,.int ep 0]} ho;rw[A6 (by decide)];show A0 (C1 ?_);show A0 ?_;change wpAny _ _ (updateSeq S (·.push .none)>>=λ_=>updateSeq S (·.pop)) _ _ _;show A0 (CA hS₁ rfl ?_);have hS₂:=B8 (Obj.mapSeq (·.push Value.none)) hS₁ rfl;show CA (hz:=by seq_fits) hS₂ rfl ?_;have hS₃:=B8 (Obj.mapSeq (·.pop)) hS₂ rfl;show A3 {Bd F.plain_extend_loop _,key _ _ _ {?_,?_} (λb o hb e=>?_) hS₃}
 .show hit₁.at λo e=>(Ac _ _ hSI).trans ((Ac _ _ hSI).trans e)
 .show(Ac _ _ hSd).trans ((Ac _ _ hSd).trans ho₁)
 .show(Ac _ _ (BG hb)).trans ((Ac _ _ (BG hb)).trans (A4 _ e))
def Hq{R:Result->Shared->Prop}{d:Addr}{o:Obj}{es:Array DictEntry}{ep:Nat}(hh:A.handled=none)(hd:(d==sysModules)=false)(ho:s.heap.get? d=some o)(hc:o.ExactDict)(M4:o.data=.dict es ep)(MS:es.size<=2^24)
  (S:Addr) (hS:s.heap.get? S=some {cls:= .type "list",data:= .seq #[]})
  (hR:∀h' tk MY c',(∀b o,b≠S->s.heap.get? b=some o->h'.get? b=some o)->h'.get? S=some {cls:= .type "list",dict:=none,data:= .seq MY c',slots:= #[]}->
   ItemsOf (λi v=>∃e,es[i]? =some e/\v=e.key) MY es.size->R (.ok (.ret .none)) {s with heap:=h',toks:=tk}):
  wpAny (model prog w) A.in1 (Builtin.«list.__init__» {[.ref S,.ref d],[]})
   (λfin s'=>match fin with|.done f=>R (.ok f) s'|.again c'=>c'.quiet=true/\codeAny (model prog w) A c' R s') (λe s'=>R (.error e) s') s:=by
 have hSd:S≠d:=λe=>by rw[e,ho] at hS;have:=Ad hS;rw[this] at M4;cases M4
 change wpAny _ _ (do let NN<-Builtin.List.listItems (.ref S);Builtin.List.listUpdate (.ref S) (λ_=> #[]);letGo NN.toList.reverse;Builtin.List.listExtendWith (.ref S) (.ref d) .none) _ _ s;show A0 ?_;unfold Builtin.List.listItems;show A0 (BH hS rfl (A3 ?_));change wpAny _ _ (updateSeq S (λ_=> #[])>>=λ_=>letGo (#[]:Array Value).toList.reverse>>=λ_=>Builtin.List.listExtendWith (.ref S) (.ref d) .none) _ _ s;show A0 (CA hS rfl ?_);have hS₂:=B8 (Obj.mapSeq (λ_=>(#[]:Array Value))) hS rfl;have oth:∀b o,b≠S->s.heap.get? b=some o->(s.heap.update S (Obj.mapSeq (λ_=>(#[]:Array Value)))).get? b=some o:=
  λb o hb e=>(Ac _ _ (BG hb)).trans e
 show A0 (CQ ?_);show Ho hh hd (oth d _ (BG hSd) ho) hc M4 MS S .none _ hS₂ λh' tk MY c' hk ND MR=>?_;show hR h' tk MY c' (λb o hb e=>hk b o hb (oth b o hb e)) ND MR
def Hr{Q:Sv->Sw->Prop}{d:Sx}{o:Obj}{es:Array DictEntry}{ep:Nat}(hh:A.handled=none)(hd:(d==sysModules)=false)(ho:s.heap.get? d=some o)(hc:o.ExactDict)(M4:o.data=.dict es ep)(MS:es.size<=2^24)
  (hQ:∀h' tk MY c',(∀b o,s.heap.get? b=some o->h'.get? b=some o)->
   h'.get? s.heap.objs.size=some {cls:= .type "list",dict:=none,data:= .seq MY c',slots:= #[]}->ItemsOf (λi v=>∃e,es[i]? =some e/\v=e.key) MY es.size->Q (.ref s.heap.objs.size) {s with heap:=h',toks:=tk}):
  wpAny (model prog w) A (call (.type "list") [.ref d]) Q E s:=by
 show callType_codes (Q₁:=λobj s₁=>obj=.ref s.heap.objs.size/\s₁={s with heap:=s.heap.push {cls:= .type "list",data:= .seq #[]}}) F.called_list (F.typeCall_list_1 _) F.entry_list_init
  (code_list_new _ {0,0}) λobj s₁ h₁=>?_
 have{0,0}:=h₁;have hS:(s.heap.push {cls:= .type "list",data:= .seq #[]}).get? s.heap.objs.size=some {cls:= .type "list",data:= .seq #[]}:=AE _ rfl;show{{_,hS,0},F.args_list_init_2 _ _,Hq (A:=A.in1) hh hd (A4 _ ho) hc M4 MS _ hS λh' tk MY c' hk ND MR=>?_};show{0,hQ h' tk MY c' (λb o e=>hk b o (AR (AQ e)) (A4 _ e)) ND MR}
end
section
variable{X:Cx}
def Hs(hc:X.calm=true):bE X (.type "list") (λvs H Q=>∃a kvs,vs=[V.ref a]/\DN X.prog X.w H a kvs/\kvs.length<=2^24/\∀l H',H l=none->ae H H'->Is H' (.l (kvs.map λp=>nK p.1)) (.ref l)->Q (.ref l) H'):=by
 intro MO s σ H xs us Q I r ⟨a,kvs,ex,d,hl,q⟩;subst ex;obtain⟨u,rfl,r1⟩:∃u,us=[u]/\aw (.ref a) u:=by cases r with|cons h t=>cases t;show{1,h}
 cases r1;have{z,hd,xs,MZ,_,o,es,ep,h1,h2,h3,h4,_,h5}:=Hh I.hok d;have hsz:es.size=kvs.length:=by rw[<-Aj,h4,A1,<-BO MZ]
 show Hr (I.ok.hd hc) hd h1 h2 h3 (by lia) λh' tk MY c' hk hS MR=>?_;have hn:=I.hok.fresh (A9 s.heap.objs.size);have PR:∃vs,ax vs MY.toList/\Iss H (kvs.map λp=>nK p.1) vs:=by
  have{a1,a2}:=MR;have go:∀{l:SD (SD (SD Int)×V)}{m:SD (SD (SD Int)×Sx×Sv)},Paired (fun(p:SD (SD Int)×V) (q:SD (SD Int)×Sx×Sv)=>p.1=q.1/\Is H (nK p.1) (.ref q.2.1)/\aw p.2 q.2.2) l m->ax (m.map λq=>V.ref q.2.1) (m.map λq=>Value.ref q.2.1)/\Iss H (l.map λp=>nK p.1) (m.map λq=>V.ref q.2.1):=by
   intro l m t;induction t with
   |nil=>show{.nil,ao}
   |cons h _ ih=>show{.cons rfl ih.1,am h.2.1 ih.2}
  have e:MY.toList=xs.map λq=>Value.ref q.2.1:=by
   show List.ext_getElem? λi=>?_;rw[AD];by_cases hi:i<xs.length
   .have NO:i<MY.toList.length:=by rw[Aj,a1,hsz,BO MZ];show hi
    have{en,e1,e2}:=a2 i _ (by rw[<-BK];show A2 NO);rw[A2 NO,e2];rw[<-BK,h4,AD,A2 hi] at e1;have e1:=Ad e1;rw[<-e1,A2 hi];rfl
   .have NO:¬i<MY.toList.length:=by rw[Aj,a1,hsz,BO MZ];show hi
    rw[CF (by lia),CF (by lia)];rfl
  rw[e];show{_,go MZ}
 have{vs,v1,v2}:=PR;have ln:vs.length=kvs.length:=by rw[v2.length,A1]
 show{.ref s.heap.objs.size,_,I.laid (t':=tk) hk (A9 _) (show aE X.prog X.w _ h' _ (.lst vs) from{4,MY.toList,c',v1,hS}),0,q _ _ hn (ae.new hn) (aD ak (v2.mono (ae.new hn)))}
end
end L2
namespace PySem.SeqAt
open AutoSeq1 (wpAny_loadPart')
open MeetsSeq MeetsSeq2 MeetsSeq3 SeqRoads2
variable{s:Sw}
def GtAt(A:SC)(s:Sw)(y x:Sv)(b:Bool):Prop:=
 ∀(prog:Sy) (w:SB) (E:Sv->Sw->Prop) (Q:Sv->Sw->Prop),Q (.bool b) s->wpAny (model prog w) A (richCompare .Gt y x) Q E s
section
variable{prog:Sy}{w:SB}{A:SC}{R:Result->Sw->Prop}{I S:Sx}{fp wr:SD Sx}{P:Nat->Sv->Prop}{St:Nat->SF->Prop}{a b:Sv}{lt:Bool}
def vz(Wq:Walks prog w A.in1 I fp wr 2 P St)(Ny:S∉fp){c:Nat}{v:Sv}(M3:St 2 s.heap)
  (hS:s.heap.get? S=some {cls:= .type "list",dict:=none,data:= .seq #[v,v] c,slots:= #[]})
  (hR:∀h' tk,(∀b o,b∉wr->b≠S->s.heap.get? b=some o->h'.get? b=some o)->R (.ok (.ret v)) {s with heap:=h',toks:=tk}):
  codeAny (model prog w) A (.builtin "min.loop" {[.ref I,.none,.ref S],[]}) R s:=by
 have Pa:S∉wr:=λh=>Ny (Wq.sub _ h);show BX F.entry_min_loop ?_;rw[BD CZ _];change wpAny _ A.in1 (seqItems? (.ref S)>>=_) _ _ s;show A0 (BH hS rfl ?_);change wpAny _ A.in1 (tryCatch (pyNext (.ref I)) _>>=_) _ _ s;show A0 (CW (Wq.done s _ _ M3 λh' tk hk=>?_));change wpAny _ A.in1 (updateSeq S (λ_=> #[])>>=_) _ _ _;show A0 (CA (hk S _ Pa hS) rfl (A0 (CQ (A3 ?_))));show hR _ tk λb o Nu NR e=>(Ac _ _ (BG NR)).trans (hk b o Nu e)
def Ht(Wq:Walks prog w A.in1 I fp wr 2 P St)(Ny:S∉fp)(hP:∀v,P 1 v->v=b){c:Nat}(M3:St 1 s.heap)
  (hS:s.heap.get? S=some {cls:= .type "list",dict:=none,data:= .seq #[a,a] c,slots:= #[]})
  (N3:∀h' tk,(∀b o,b∉wr->b≠S->s.heap.get? b=some o->h'.get? b=some o)->LtAt A.in1 {s with heap:=h',toks:=tk} b a lt)
  (hR:∀h' tk,(∀b o,b∉wr->b≠S->s.heap.get? b=some o->h'.get? b=some o)->R (.ok (.ret (if lt then b else a))) {s with heap:=h',toks:=tk}):
  codeAny (model prog w) A (.builtin "min.loop" {[.ref I,.none,.ref S],[]}) R s:=by
 have Pa:S∉wr:=λh=>Ny (Wq.sub _ h);have M':(toString "min"++toString ".loop":String)="min.loop":=by decide
 show BX F.entry_min_loop ?_;rw[BD CZ _];change wpAny _ A.in1 (seqItems? (.ref S)>>=_) _ _ s;show A0 (BH hS rfl ?_);change wpAny _ A.in1 (tryCatch (pyNext (.ref I)) _>>=_) _ _ s;show A0 (CW (Wq.item 1 s _ _ (by decide) M3 λv h' tk hv Nl hk=>?_));rw[hP v hv];have ND:=hk S _ Pa hS;change wpAny _ A.in1 (tryCatch (holding [b,b] (richCompare .Lt b a>>=_)) _>>=_) _ _ _;show A0 (CW (Av (A0 (N3 h' tk (λb o Nu _ e=>hk b o Nu e) prog w _ _ ?_))));show A0 (Av (Bf ?_));show A0 (CQ (A3 ?_));cases lt with
 |true=>
  simp only[C9] at hR⊢;show A0 (CA ND rfl (A0 (CQ ?_)));rw[M'];show A3 {Bd CZ _,vz Wq Ny (Wq.frame _ _ _ Nl λb RY o e=>?_) (B8 _ ND rfl) λOJ Nv Nw=>?_}
  .show(Ac _ _ (λh:S=b=>Ny (by rw[h];show RY))).trans e
  .show hR OJ Nv λb o Nu NR e=>Nw b o Nu NR ((Ac _ _ (BG NR)).trans (hk b o Nu e))
 |false=>
  simp only[AN,Au] at hR⊢;show A0 (CQ ?_);rw[M'];show A3 {Bd CZ _,vz Wq Ny Nl ND λOJ Nv Nw=>?_};show hR OJ Nv λb o Nu NR e=>Nw b o Nu NR (hk b o Nu e)
def Hu(Wq:Walks prog w A.in1 I fp wr 2 P St)(Ny:S∉fp)(hP0:∀v,P 0 v->v=a)(hP:∀v,P 1 v->v=b){c:Nat}(M3:St 0 s.heap)
  (hS:s.heap.get? S=some {cls:= .type "list",dict:=none,data:= .seq #[] c,slots:= #[]})
  (N3:∀h' tk,(∀b o,b∉wr->b≠S->s.heap.get? b=some o->h'.get? b=some o)->LtAt A.in1 {s with heap:=h',toks:=tk} b a lt)
  (hR:∀h' tk,(∀b o,b∉wr->b≠S->s.heap.get? b=some o->h'.get? b=some o)->R (.ok (.ret (if lt then b else a))) {s with heap:=h',toks:=tk}):
  codeAny (model prog w) A (.builtin "min.loop" {[.ref I,.none,.ref S],[]}) R s:=by
 have Pa:S∉wr:=λh=>Ny (Wq.sub _ h);have M':(toString "min"++toString ".loop":String)="min.loop":=by decide
 show BX F.entry_min_loop ?_;rw[BD CZ _];change wpAny _ A.in1 (seqItems? (.ref S)>>=_) _ _ s;show A0 (BH hS rfl ?_);change wpAny _ A.in1 (tryCatch (pyNext (.ref I)) _>>=_) _ _ s;show A0 (CW (Wq.item 0 s _ _ (by decide) M3 λv h' tk hv Nl hk=>?_));rw[hP0 v hv];have ND:=hk S _ Pa hS;change wpAny _ A.in1 (updateSeq S (λ_=> #[a,a])>>=_) _ _ _;show A0 (CA ND rfl ?_);rw[M'];show A3 {Bd CZ _,Ht (lt:=lt) Wq Ny hP (Wq.frame _ _ _ Nl λb RY o e=>?_) (B8 _ ND rfl) (λOJ Nv Nw=>?_) λOJ Nv Nw=>?_}
 .show(Ac _ _ (λh:S=b=>Ny (by rw[h];show RY))).trans e
 .show N3 OJ Nv λb o Nu NR e=>Nw b o Nu NR ((Ac _ _ (BG NR)).trans (hk b o Nu e))
 .show hR OJ Nv λb o Nu NR e=>Nw b o Nu NR ((Ac _ _ (BG NR)).trans (hk b o Nu e))
end
section
variable{prog:Sy}{w:SB}{A:SC}{E:Sv->Sw->Prop}{s:Sw}
def min_two_at{a b:Sv}{lt:Bool}{Q:Sv->Sw->Prop}(hh:A.handled=none)
  (N3:∀h' tk,(∀c o,s.heap.get? c=some o->h'.get? c=some o)->LtAt A.in1 {s with heap:=h',toks:=tk} b a lt)
  (h:∀h' tk,(∀c o,s.heap.get? c=some o->h'.get? c=some o)->Q (if lt then b else a) {s with heap:=h',toks:=tk}):
  wpAny (model prog w) A (call (.builtin "min") [a,b]) Q E s:=by
 have M':(toString "min"++toString ".loop":String)="min.loop":=by decide
 have hT:(s.heap.push {cls:= .type "tuple",data:= .seq #[a,b]}).IsTuple s.heap.objs.size #[a,b]:={_,AE _ rfl,0,(0),0};have hsz:(s.heap.push {cls:= .type "tuple",data:= .seq #[a,b]}).objs.size=s.heap.objs.size+1:=Aq ..
 show call_function_tree F.kind_min F.plain_min F.entry_min (F.args_min2 _ _) ?_;change wpAny _ A.in1 (Builtin.Builtins.bindParams "min" ["key","default"] 0 {[],[]}>>=_) _ _ s;show A0 (Cq (show Builtin.Builtins.bindParams "min" ["key","default"] 0 {[],[]}=pure [none,none] from rfl) ?_);change wpAny _ A.in1 (newTuple [a,b]>>=_) _ _ s;show A0 (Ap ?_);show A0 (CJ hT ?_);show A0 (Ap ?_);rw[M'];have Wq:=Walks.tuple (prog:=prog) (w:=w) (A:=A.in1) hh (s.heap.push {cls:= .type "tuple",data:= .seq #[a,b]}).objs.size s.heap.objs.size (by rw[hsz];show AR (BQ _)) #[a,b];have NN:∀h':SF,(∀c o,c∉[(s.heap.push {cls:= .type "tuple",data:= .seq #[a,b]}).objs.size]->c≠((s.heap.push {cls:= .type "tuple",data:= .seq #[a,b]}).push {cls:= .type "tuple_iterator",data:= .fields #[.ref s.heap.objs.size,.int 0 0]}).objs.size->(((s.heap.push {cls:= .type "tuple",data:= .seq #[a,b]}).push {cls:= .type "tuple_iterator",data:= .fields #[.ref s.heap.objs.size,.int 0 0]}).push {cls:= .type "list",data:= .seq #[]}).get? c=some o->h'.get? c=some o)->∀c o,s.heap.get? c=some o->h'.get? c=some o:=λh' hk c o e=>by
  have hl:=AQ e;show hk c o (λhm=>?_) (λhm=>?_) (A4 _ (A4 _ (A4 _ e)))
  .rcases AJ.mp hm with e1|hm
   .rw[e1,hsz] at hl;show BU _ (Cd hl)
   .cases hm
  .rw[hm,Aq,hsz] at hl;show BU _ (Cd (Cd hl))
 show A3 {Bd CZ _,Hu (a:=a) (b:=b) (lt:=lt) Wq (λhm=>?_) (λv hv=>?_) (λv hv=>?_) (Wq.frame _ _ _ {{_,AE _ rfl,0,0},hT.push _} λc _ o e=>A4 _ e) (AE _ rfl) (λh' tk hk=>N3 h' tk (NN h' hk)) λh' tk hk=>h h' tk (NN h' hk)}
 .simp only[AJ,Aw,By,Aq] at hm;have hm:s.heap.objs.size+1+1=s.heap.objs.size+1\/s.heap.objs.size+1+1=s.heap.objs.size:=hm;lia
 .simpa using hv.symm
 .simpa using hv.symm
end
section
variable{prog:Sy}{w:SB}{A:SC}{R:Result->Sw->Prop}{I S:Sx}{fp wr:SD Sx}{P:Nat->Sv->Prop}{St:Nat->SF->Prop}{a b:Sv}{lt:Bool}
def vA(Wq:Walks prog w A.in1 I fp wr 2 P St)(Ny:S∉fp){c:Nat}{v:Sv}(M3:St 2 s.heap)
  (hS:s.heap.get? S=some {cls:= .type "list",dict:=none,data:= .seq #[v,v] c,slots:= #[]})
  (hR:∀h' tk,(∀b o,b∉wr->b≠S->s.heap.get? b=some o->h'.get? b=some o)->R (.ok (.ret v)) {s with heap:=h',toks:=tk}):
  codeAny (model prog w) A (.builtin "max.loop" {[.ref I,.none,.ref S],[]}) R s:=by
 have Pa:S∉wr:=λh=>Ny (Wq.sub _ h);show BX F.entry_max_loop ?_;rw[BD Ca _];change wpAny _ A.in1 (seqItems? (.ref S)>>=_) _ _ s;show A0 (BH hS rfl ?_);change wpAny _ A.in1 (tryCatch (pyNext (.ref I)) _>>=_) _ _ s;show A0 (CW (Wq.done s _ _ M3 λh' tk hk=>?_));change wpAny _ A.in1 (updateSeq S (λ_=> #[])>>=_) _ _ _;show A0 (CA (hk S _ Pa hS) rfl (A0 (CQ (A3 ?_))));show hR _ tk λb o Nu NR e=>(Ac _ _ (BG NR)).trans (hk b o Nu e)
def Hv(Wq:Walks prog w A.in1 I fp wr 2 P St)(Ny:S∉fp)(hP:∀v,P 1 v->v=b){c:Nat}(M3:St 1 s.heap)
  (hS:s.heap.get? S=some {cls:= .type "list",dict:=none,data:= .seq #[a,a] c,slots:= #[]})
  (N3:∀h' tk,(∀b o,b∉wr->b≠S->s.heap.get? b=some o->h'.get? b=some o)->GtAt A.in1 {s with heap:=h',toks:=tk} b a lt)
  (hR:∀h' tk,(∀b o,b∉wr->b≠S->s.heap.get? b=some o->h'.get? b=some o)->R (.ok (.ret (if lt then b else a))) {s with heap:=h',toks:=tk}):
  codeAny (model prog w) A (.builtin "max.loop" {[.ref I,.none,.ref S],[]}) R s:=by
 have Pa:S∉wr:=λh=>Ny (Wq.sub _ h);have M':(toString "max"++toString ".loop":String)="max.loop":=by decide
 show BX F.entry_max_loop ?_;rw[BD Ca _];change wpAny _ A.in1 (seqItems? (.ref S)>>=_) _ _ s;show A0 (BH hS rfl ?_);change wpAny _ A.in1 (tryCatch (pyNext (.ref I)) _>>=_) _ _ s;show A0 (CW (Wq.item 1 s _ _ (by decide) M3 λv h' tk hv Nl hk=>?_));rw[hP v hv];have ND:=hk S _ Pa hS;change wpAny _ A.in1 (tryCatch (holding [b,b] (richCompare .Gt b a>>=_)) _>>=_) _ _ _;show A0 (CW (Av (A0 (N3 h' tk (λb o Nu _ e=>hk b o Nu e) prog w _ _ ?_))));show A0 (Av (Bf ?_));show A0 (CQ (A3 ?_));cases lt with
 |true=>
  simp only[C9] at hR⊢;show A0 (CA ND rfl (A0 (CQ ?_)));rw[M'];show A3 {Bd Ca _,vA Wq Ny (Wq.frame _ _ _ Nl λb RY o e=>?_) (B8 _ ND rfl) λOJ Nv Nw=>?_}
  .show(Ac _ _ (λh:S=b=>Ny (by rw[h];show RY))).trans e
  .show hR OJ Nv λb o Nu NR e=>Nw b o Nu NR ((Ac _ _ (BG NR)).trans (hk b o Nu e))
 |false=>
  simp only[AN,Au] at hR⊢;show A0 (CQ ?_);rw[M'];show A3 {Bd Ca _,vA Wq Ny Nl ND λOJ Nv Nw=>?_};show hR OJ Nv λb o Nu NR e=>Nw b o Nu NR (hk b o Nu e)
def Hw(Wq:Walks prog w A.in1 I fp wr 2 P St)(Ny:S∉fp)(hP0:∀v,P 0 v->v=a)(hP:∀v,P 1 v->v=b){c:Nat}(M3:St 0 s.heap)
  (hS:s.heap.get? S=some {cls:= .type "list",dict:=none,data:= .seq #[] c,slots:= #[]})
  (N3:∀h' tk,(∀b o,b∉wr->b≠S->s.heap.get? b=some o->h'.get? b=some o)->GtAt A.in1 {s with heap:=h',toks:=tk} b a lt)
  (hR:∀h' tk,(∀b o,b∉wr->b≠S->s.heap.get? b=some o->h'.get? b=some o)->R (.ok (.ret (if lt then b else a))) {s with heap:=h',toks:=tk}):
  codeAny (model prog w) A (.builtin "max.loop" {[.ref I,.none,.ref S],[]}) R s:=by
 have Pa:S∉wr:=λh=>Ny (Wq.sub _ h);have M':(toString "max"++toString ".loop":String)="max.loop":=by decide
 show BX F.entry_max_loop ?_;rw[BD Ca _];change wpAny _ A.in1 (seqItems? (.ref S)>>=_) _ _ s;show A0 (BH hS rfl ?_);change wpAny _ A.in1 (tryCatch (pyNext (.ref I)) _>>=_) _ _ s;show A0 (CW (Wq.item 0 s _ _ (by decide) M3 λv h' tk hv Nl hk=>?_));rw[hP0 v hv];have ND:=hk S _ Pa hS;change wpAny _ A.in1 (updateSeq S (λ_=> #[a,a])>>=_) _ _ _;show A0 (CA ND rfl ?_);rw[M'];show A3 {Bd Ca _,Hv (lt:=lt) Wq Ny hP (Wq.frame _ _ _ Nl λb RY o e=>?_) (B8 _ ND rfl) (λOJ Nv Nw=>?_) λOJ Nv Nw=>?_}
 .show(Ac _ _ (λh:S=b=>Ny (by rw[h];show RY))).trans e
 .show N3 OJ Nv λb o Nu NR e=>Nw b o Nu NR ((Ac _ _ (BG NR)).trans (hk b o Nu e))
 .show hR OJ Nv λb o Nu NR e=>Nw b o Nu NR ((Ac _ _ (BG NR)).trans (hk b o Nu e))
end
section
variable{prog:Sy}{w:SB}{A:SC}{E:Sv->Sw->Prop}{s:Sw}
def max_two_at{a b:Sv}{lt:Bool}{Q:Sv->Sw->Prop}(hh:A.handled=none)
  (N3:∀h' tk,(∀c o,s.heap.get? c=some o->h'.get? c=some o)->GtAt A.in1 {s with heap:=h',toks:=tk} b a lt)
  (h:∀h' tk,(∀c o,s.heap.get? c=some o->h'.get? c=some o)->Q (if lt then b else a) {s with heap:=h',toks:=tk}):
  wpAny (model prog w) A (call (.builtin "max") [a,b]) Q E s:=by
 have M':(toString "max"++toString ".loop":String)="max.loop":=by decide
 have hT:(s.heap.push {cls:= .type "tuple",data:= .seq #[a,b]}).IsTuple s.heap.objs.size #[a,b]:={_,AE _ rfl,0,(0),0};have hsz:(s.heap.push {cls:= .type "tuple",data:= .seq #[a,b]}).objs.size=s.heap.objs.size+1:=Aq ..
 show call_function_tree F.kind_max F.plain_max F.entry_max (F.args_max2 _ _) ?_;change wpAny _ A.in1 (Builtin.Builtins.bindParams "max" ["key","default"] 0 {[],[]}>>=_) _ _ s;show A0 (Cq (show Builtin.Builtins.bindParams "max" ["key","default"] 0 {[],[]}=pure [none,none] from rfl) ?_);change wpAny _ A.in1 (newTuple [a,b]>>=_) _ _ s;show A0 (Ap ?_);show A0 (CJ hT ?_);show A0 (Ap ?_);rw[M'];have Wq:=Walks.tuple (prog:=prog) (w:=w) (A:=A.in1) hh (s.heap.push {cls:= .type "tuple",data:= .seq #[a,b]}).objs.size s.heap.objs.size (by rw[hsz];show AR (BQ _)) #[a,b];have NN:∀h':SF,(∀c o,c∉[(s.heap.push {cls:= .type "tuple",data:= .seq #[a,b]}).objs.size]->c≠((s.heap.push {cls:= .type "tuple",data:= .seq #[a,b]}).push {cls:= .type "tuple_iterator",data:= .fields #[.ref s.heap.objs.size,.int 0 0]}).objs.size->(((s.heap.push {cls:= .type "tuple",data:= .seq #[a,b]}).push {cls:= .type "tuple_iterator",data:= .fields #[.ref s.heap.objs.size,.int 0 0]}).push {cls:= .type "list",data:= .seq #[]}).get? c=some o->h'.get? c=some o)->∀c o,s.heap.get? c=some o->h'.get? c=some o:=λh' hk c o e=>by
  have hl:=AQ e;show hk c o (λhm=>?_) (λhm=>?_) (A4 _ (A4 _ (A4 _ e)))
  .rcases AJ.mp hm with e1|hm
   .rw[e1,hsz] at hl;show BU _ (Cd hl)
   .cases hm
  .rw[hm,Aq,hsz] at hl;show BU _ (Cd (Cd hl))
 show A3 {Bd Ca _,Hw (a:=a) (b:=b) (lt:=lt) Wq (λhm=>?_) (λv hv=>?_) (λv hv=>?_) (Wq.frame _ _ _ {{_,AE _ rfl,0,0},hT.push _} λc _ o e=>A4 _ e) (AE _ rfl) (λh' tk hk=>N3 h' tk (NN h' hk)) λh' tk hk=>h h' tk (NN h' hk)}
 .simp only[AJ,Aw,By,Aq] at hm;have hm:s.heap.objs.size+1+1=s.heap.objs.size+1\/s.heap.objs.size+1+1=s.heap.objs.size:=hm;lia
 .simpa using hv.symm
 .simpa using hv.symm
end
theorem Hx(l b:Sx)(items MP:Array Sv)(n n2:Nat)(dd N8:SG Sx)(sl N9:Array (SG Sv))(e f:Nat->Bool):
  Meets (Builtin.«tuple.__gt__» {[.ref l,.ref b],[]})
   (λA R s=>s.heap.get? l=some {cls:= .type "tuple",dict:=dd,data:= .seq items n,slots:=sl}/\s.heap.get? b=some {cls:= .type "tuple",dict:=N8,data:= .seq MP n2,slots:=N9}/\
    (∀j (h1:j<items.size) (h2:j<MP.size),EqAt A.in1 s items[j] MP[j] (e j))/\(∀j (h1:j<items.size) (h2:j<MP.size),e j=false->GtAt A.in1 s items[j] MP[j] (f j))/\
    R (.ok (.ret (.bool (lex e f MP.size items.size (min items.size MP.size) 0)))) s):=
 .of_wp λprog w A R s h=>by
  have{hp,g,d,tk,os}:=s;have{hl,hb,he,hf,h}:=h;have f2:=AutoSeq1.sub_tuple_tuple;have hZ:(items.toList.zip MP.toList).length=min items.size MP.size:=by simp
  wp_walk using wpAny_loadPart' hl,CO hb,C3 _ (λaS b s'=>b.1=none/\s'={hp,g,d,tk,os}/\∃i,aS=(items.toList.zip MP.toList).drop i/\i<=min items.size MP.size/\
   R (.ok (.ret (.bool (lex e f MP.size items.size (min items.size MP.size-i) i)))) {hp,g,d,tk,os}) _
  case turn=>
   rintro⟨y,x⟩ aS b s' ⟨OU,rfl,i,hz,RL,hR⟩;have MT:i<(items.toList.zip MP.toList).length:=by
    rcases Bs i (items.toList.zip MP.toList).length with h'|h'
    .show h'
    .rw[Bk h'] at hz;cases hz
   have hm:i<min items.size MP.size:=hZ▸MT;have h1:i<items.size:=Am hm (Nat.min_le_left _ _);have h2:i<MP.size:=Am hm (Nat.min_le_right _ _);rw[Al MT] at hz;injection hz with hyx hrest;have hy:y=items[i]:=by have:=BZ Prod.fst hyx;simpa using this
   have hx:x=MP[i]:=by have:=BZ Prod.snd hyx;simpa using this
   subst hy hx;rw[show min items.size MP.size-i=(min items.size MP.size-(i+1))+1 by lia,lex] at hR;show A0 (he i h1 h2 prog w _ _ ?_);cases hy:e i with
   |true=>
    rw[hy,A6 rfl] at hR
    wp_walk
    show{0,0,i+1,hrest,4,hR}
   |false=>
    rw[hy,A5 (by simp)] at hR;rw[A6 (show(!false)=true from rfl)];show A0 (C1 ?_);show A0 (hf i h1 h2 hy prog w _ _ ?_)
    wp_walk
    show{1,hR}
  case fin=>
   rintro⟨b1,b2⟩ s' ⟨OU,rfl,i,hz,RL,hR⟩;simp only at OU;subst OU;have hi:i=min items.size MP.size:=by
    rcases Bs i (items.toList.zip MP.toList).length with h'|h'
    .rw[Al h'] at hz;cases hz
    .lia
   subst hi;rw[Nat.sub_self] at hR
   wp_walk
   show{1,hR}
  case h=>
   show{0,0,(0),0,AO _,by simpa using h}
section
variable{A:SC}{s:Sw}
def GtAt.int_int(i:Int)(t:Tok)(j:Int)(u:Tok):GtAt A s (.int i t) (.int j u) (decide (i>j)):=λprog w E Q h=>
 CmpOf.ints_gt (prog:=prog) (w:=w) (A:=A) (P:=λn v=>∃t,v=.int (if n=0 then i else j) t) (λn=>if n=0 then i else j) (λ_ _ h=>h) 0 1 _ _ s Q E {t,0} {u,0} h
theorem GtAt.tuples{l b:Sx}{items MP:Array Sv}{e f:Nat->Bool}(hl:s.heap.IsTuple l items)(hb:s.heap.IsTuple b MP)(hu:A.units<cLine)
  (he:∀j (h1:j<items.size) (h2:j<MP.size),EqAt A.in1 s items[j] MP[j] (e j)) (hf:∀j (h1:j<items.size) (h2:j<MP.size),e j=false->GtAt A.in1 s items[j] MP[j] (f j)):
  GtAt A s (.ref l) (.ref b) (lex e f MP.size items.size (min items.size MP.size) 0):=λprog w E Q h=>by
 have{{cls,dd,data,sl},ho,hc,n,hd}:=id hl;have{{PM,N8,data2,N9},NA,NS,n2,N'}:=id hb;simp only at hc hd NS N';subst hc hd NS N';show richCompare_meets_room (op:= .Gt) {_,ho,0} {_,NA,0} F.slot_tuple_gt F.entry_tuple_gt (F.args_tuple_gt_2 _ _) (Hx l b items MP n n2 dd N8 sl N9 e f)
  {ho,NA,he,hf,show Value.bool (lex e f MP.size items.size (min items.size MP.size) 0)≠Value.notImplemented/\Q (.bool (lex e f MP.size items.size (min items.size MP.size) 0)) s from{(λx=>nomatch x),h}} hu
end
end PySem.SeqAt
namespace L2
open PySem PySem.Spec PyProof.Rows
variable{H:Hp}{K:W.Frag}{NP:SD SE}{P:Sy}{Q:Sv->Sw->Prop}{X:Cx}{a acc b i1 i2 it l1 l2 z:Sx}{g:TG}{i k1 own:Nat}{js:SD Nat}{ks:SD (Mx Int)}{pos:Pos}{tb:TS}{te:TE}{vs ys:Array Sv}{w:SB}{x:Sv}{xs:SD V}
variable{X:Cx}
def Hy(hc:X.calm=true){k:Nat}(hr:Room k X.A):bE X (.builtin "min") (λvs H Q=>∃x y d e,vs=[x,y]/\LtR X.K H d y x e/\d<=8/\Q (if e then y else x) H):=by
 intro MO s σ H xs us Q I r h;have{x,y,d,e,0,hl,hd,q}:=h;have{u,v,0,ru,rv}:=gi r;have hu:=hr.un;show SeqAt.min_two_at (lt:=e) (I.ok.hd hc) (λh' tk k=>hl.bO (I.kept k) (A:=X.A.in1) (by rw[b9];lia) rv ru) λh' tk k=>{_,H,I.kept k,?_,q};cases e
 .show ru
 .show rv
def gtI(p q:Int×Int):Bool:=if p.1=q.1 then decide (p.2>q.2) else decide (p.1>q.1)
def Hz(hc:X.calm=true){k:Nat}(hr:Room k X.A):bE X (.builtin "max") (λvs H Q=>∃(a b:Sx) (p q:Int×Int),vs=[.ref a,.ref b]/\SqT X.K H a [.int p.1,.int p.2]/\SqT X.K H b [.int q.1,.int q.2]/\Q (if gtI q p then .ref b else .ref a) H):=by
 intro MO s σ H xs us Q I r h;have{a,b,p,q,0,hp,hq,qq}:=h;have{u,v,0,ru,rv}:=gi r;have hu:=hr.un;obtain rfl:u=Value.ref a:=ru;obtain rfl:v=Value.ref b:=rv;show SeqAt.max_two_at (lt:=gtI q p) (I.ok.hd hc) (λh' tk kp=>?_) λh' tk kp=>{_,H,I.kept kp,?_,qq}
 .have{is,r1,p1,z1}:=(I.kept kp).tuple hp;have{js,r2,p2,z2}:=(I.kept kp).tuple hq;have{u1,u2,0,{t1,0},{t2,0}}:=gi r1;have{w1,w2,0,{t3,0},{t4,0}}:=gi r2;have g:=SeqAt.GtAt.tuples (A:=X.A.in1) (e:=λj=>if j=0 then decide (q.1=p.1) else decide (q.2=p.2)) (f:=λj=>if j=0 then decide (q.1>p.1) else decide (q.2>p.2)) p2 p1 (by rw[b9];lia) (λj h1 h2=>?_) (λj h1 h2 _=>?_)
  .have e:SeqAt.lex (λj=>if j=0 then decide (q.1=p.1) else decide (q.2=p.2)) (λj=>if j=0 then decide (q.1>p.1) else decide (q.2>p.2)) 2 2 2 0=gtI q p:=by
    unfold gtI;by_cases c:q.1=p.1
    .by_cases c2:q.2=p.2
     .simp[SeqAt.lex,c,c2]
     .simp[SeqAt.lex,c,c2]
    .simp[SeqAt.lex,c]
   rw[<-e];show g
  .match j,h1,h2 with
   |0,_,_=>show SeqAt.EqAt.int_int q.1 t3 p.1 t1
   |1,_,_=>show SeqAt.EqAt.int_int q.2 t4 p.2 t2
  .match j,h1,h2 with
   |0,_,_=>show SeqAt.GtAt.int_int q.1 t3 p.1 t1
   |1,_,_=>show SeqAt.GtAt.int_int q.2 t4 p.2 t2
 .cases gtI q p
  .rfl
  .rfl
open PySem.W
def mD:Mx Int->D
 |.inl i=>.i i
 |.inr t=>tI t
def qsh:SD Bool:=[true,true,false,false]
def mK(ks:SD (Mx Int)):D:= .t (ks.map mD)
def IsK(H:Hp)(ks:SD (Mx Int))(v:V):Prop:=ks.map isL=qsh/\Is H (mK ks) v
section
variable{P:Sy}{w:SB}{H:Hp}{h:SF}{a:Sx}
theorem nX(ok:HOk P w H h):∀{ks:SD (Mx Int)}{vs:SD V}{us:SD Sv},Iss H (ks.map mD) vs->ax vs us->ItemsM (intKind P w) h ks us
 |[],_,_,i,r=>by rw[bn i] at r;cases r;show .nil
 |.inl k::ks,_,_,i,r=>by
  have{u,us,0,q,i2}:=aN i;obtain rfl:=aG q;cases r with
  |cons h t=>
   have{t',0}:=h;show .val (show Value.isInt k (.int k t')=true by simp[Value.isInt]) (nX ok i2 t)
 |.inr k::ks,_,_,i,r=>by
  have{u,us,0,q,i2}:=aN i;have{b,0,hb}:=bP q;cases r with
  |cons h t=>
   cases h;show .tup (vq ok hb) (nX ok i2 t)
def HA(ok:HOk P w H h)(e:IsK H ks (.ref a)):(vg (intKind P w) qsh).is h ks a:=by
 have{sh,e}:=e;have{b,vs,eb,hb,hi}:=br e;cases eb;have{_,MQ,r,o,h1,h2,n,h3}:=(show aE P w H h a (.tup vs) from ok a _ hb);show{sh,o,MQ.toArray,n,h1,h2,h3,by simpa using nX ok hi r}
def HB{H':Hp}(ht:∀b ys,H b=some (.tup ys)->H' b=some (.tup ys)){v:V}(h:IsK H ks v):IsK H' ks v:=by
 have{sh,h}:=h;have{b,vs,0,hb,hi}:=br h;have go:∀{xs:SD (Mx Int)}{vs:SD V},Iss H (xs.map mD) vs->Iss H' (xs.map mD) vs:=by
  intro xs;induction xs with
  |nil=>intro vs h;rw[bn h];show ao
  |cons x xs ih=>
   intro vs h;have{u,us,0,q,r}:=aN h;cases x with
   |inl k=>rw[show u=.int k from aG q];show am bw (ih r)
   |inr k=>
    have{c,0,hc}:=bP q;show am (fk (ht _ _ hc)) (ih r)
 show{sh,bi (ht _ _ hb) (go hi)}
abbrev hkM(P:Sy)(w:SB):=vg (intKind P w) qsh
instance mOk:KOk (hkM P w) IsK:={HA,λh=>let ⟨b,_,e,_⟩:=br h.2;{b,e},λht _ _=>HB ht,λh=>h}
abbrev DM(P:Sy)(w:SB):Hp->Sx->SD (SD (Mx Int)×V)->Prop:=DG (hkM P w) IsK
end
abbrev HC(P:Sy)(w:SB):TE->TE->TE:=nT (hkM P w) IsK
abbrev HD(P:Sy)(w:SB):TE->TE->TE:=vk (hkM P w) IsK
abbrev HE(P:Sy)(w:SB):TE->TE->TE->TS:=nU (hkM P w) IsK
abbrev HF(P:Sy)(w:SB):TE:=nV (hkM P w) IsK
section
variable{X:Cx}{o i e f value ek ev:SE}{pos M8 Nh M1:Pos}{td ty tv tx tk:TE}
def HG(hu:X.A.units+2<cLine)(ho:PE X o td)(hi:PE X i ty)(hs:gk i):PE X (.Subscript o i pos) (HC X.prog X.w td ty):=vm hu ho hi hs
def HH(hu:X.A.units+2<cLine)(hi:PE X i ty)(ho:PE X o td):PC X .NotIn i o (HD X.prog X.w ty td):=G9 hu hi ho
def HI(hu:X.A.units+2<cLine)(ho:PE X o td)(hi:PE X i ty)(hv:PE X value tv)(hs:swapsWith value (some (.Subscript o i M8)) pos.line X.env=pure false):
  PS X (.Assign [.Subscript o i M8] value pos) (HE X.prog X.w td ty tv):=vn hu ho hi hv hs
def HJ:PE X (.Dict [] [] pos) (HF X.prog X.w):=vo
end
section
variable{prog:Sy}{w:SB}{A:SC}{E:Sv->Sw->Prop}{s:Sw}
def nY{t:Sx}(MU:s.heap.IsTupleIter it t i)(ht:s.heap.IsTuple t vs)(hx:vs[i]? =some x)(hQ:∀h',h'.IsTupleIter it t (i+1)->Heap.SameBut it s.heap h'->Q x {s with heap:=h'}):
  wpAny (model prog w) A (Builtin.SmallTypes.nextOf (.ref it)) Q E s:=by
 have{o,ho,hc,hd}:=id MU;have{q,hq,_,nq,hdq}:=ht;unfold Builtin.SmallTypes.nextOf;show A0 (B6 (name:=Str.ofString "__next__") MU.typeIs Cr (An Cr MU.typeIs F.entry_tuple_iterator_next ?_ (F.args_tuple_iterator_next_1 _)));change wpAny _ _ (field (.ref it) 0>>=_) _ _ s;show A0 (Bt ho hd (x:= .ref t) rfl ?_);change wpAny _ _ (if(Value.ref t==Value.none)=true then _ else _) _ _ s;rw[A5 (show¬((Value.ref t==Value.none)=true) from AS)];change wpAny _ _ (field (.ref it) 1>>=_) _ _ s;show A0 (Bt ho hd (x:= .int i 0) rfl ?_);change wpAny _ _ (seqItems? (.ref t)>>=_) _ _ s;show A0 (BH hq hdq ?_);simp only[B1,hx];show A0 (CI ho hd (by simp) (A3 {x,0,A3 (hQ _ {_,B8 _ ho (DU (C4 hd _)),(Obj.cls_mapFields ..).trans hc,by rw[C4 hd];simp[rawInt]} (BI ..))}))
def vB{t:Sx}{Q:Sv->Sw->Prop}(hh:A.handled=none)(MU:s.heap.IsTupleIter it t i)(ht:s.heap.IsTuple t vs)(hx:vs[i]? =none)
  (hE:∀h' e,Heap.ExtBut it s.heap h'->(∃o,h'.get? e=some o/\o.cls=.type "StopIteration")->E (.ref e) {s with heap:=h'}):wpAny (model prog w) A (Builtin.SmallTypes.nextOf (.ref it)) Q E s:=by
 have{o,ho,hc,hd}:=id MU;have{q,hq,_,nq,hdq}:=ht;unfold Builtin.SmallTypes.nextOf;show A0 (B6 (name:=Str.ofString "__next__") MU.typeIs Cr (An Cr MU.typeIs F.entry_tuple_iterator_next ?_ (F.args_tuple_iterator_next_1 _)));change wpAny _ _ (field (.ref it) 0>>=_) _ _ s;show A0 (Bt ho hd (x:= .ref t) rfl ?_);change wpAny _ _ (if(Value.ref t==Value.none)=true then _ else _) _ _ s;rw[A5 (show¬((Value.ref t==Value.none)=true) from AS)];change wpAny _ _ (field (.ref it) 1>>=_) _ _ s;show A0 (Bt ho hd (x:= .int i 0) rfl ?_);change wpAny _ _ (seqItems? (.ref t)>>=_) _ _ s;show A0 (BH hq hdq ?_);simp only[B1,hx];show A0 (C1 (A0 (CI ho hd (by simp) ?_)));change wpAny _ _ (newExc (.type "StopIteration") []>>=_) _ _ _;show A0 ?_;simp only[newExc,newTuple];show A0 (Ap ?_ (by size_fits));show A0 (m:=firstArgMember _ _) (Cq (a:=Value.none) (by first|rfl|(simp only[firstArgMember];rfl)) (Ap ?_ (by size_fits)));simp -iota only[raiseNew];show A0 (wpAny_handled ?_);(first|rw[show A.in1.handled=none from hh]|rw[hh]);show A0 (A3 (wpAny_throw (hE _ _ (((BI ..).extBut.push _).push _) {_,AE _ rfl,0})))
theorem vC(hh:A.handled=none)(it t:Sx)(NM:t≠it)(vs:Array Sv):Draws prog w A it [it,t] vs.size (λi v=>vs[i]? =some v) (λi h=>h.IsTupleIter it t i/\h.IsTuple t vs) where
 live:=λ_ _ st=>let ⟨⟨o,ho,_⟩,_⟩:=st;{o,ho}
 frame:=λ_ _ _ Np hk=>by have{st1,N7}:=Np;show{st1.at λo e=>hk it (by simp) o e,N7.at λo e=>hk t (by simp) o e}
 item:=λi s Q E hi Np hQ=>by have{st1,N7}:=Np;show nY st1 N7 (x:=vs[i]) (by simp[hi]) λh' a b=>hQ _ h' s.toks (by simp[hi]) {a,N7.extBut b.extBut NM} b
 done:=λs Q E Np hE=>by have{st1,N7}:=Np;show vB hh st1 N7 (by simp) hE
def HK{t:Sx}(hL:s.heap.IsTuple t vs)
  (h:∀h',IsEnum h' (s.heap.objs.size+1) s.heap.objs.size 0 .none->h'.IsTupleIter s.heap.objs.size t 0->h'.objs.size=s.heap.objs.size+2->(∀b o,s.heap.get? b=some o->h'.get? b=some o)->Q (.ref (s.heap.objs.size+1)) {s with heap:=h'}):
  wpAny (model prog w) A (call (.type "enumerate") [.ref t]) Q E s:=by
 have mt:Meets (Builtin.«enumerate.__new__» ⟨[.type "enumerate",.ref t],[]⟩) (λ_ R s=>s.heap.IsTuple t vs/\R (.ok (.ret (.ref (s.heap.push {cls:= .type "tuple_iterator",data:= .fields #[.ref t,.int 0 0]}).objs.size))) {s with heap:=(s.heap.push {cls:= .type "tuple_iterator",data:= .fields #[.ref t,.int 0 0]}).push {cls:= .type "enumerate",data:= .fields #[.none,.bool false,.ref s.heap.objs.size,rawInt 0,.none,.none]}}):=
  .of_wp λprog w A R s h=>by
   have{hp,g,d,tk,os}:=s;have{hL,h}:=h;have Pi:=sub_enumerate;have{{c,dct,dt,sl},hl,hc,n,hd}:=id hL;have hc:c=.type "tuple":=hc;have hd:dt=.seq vs n:=hd;subst hc hd
   wp_walk using AutoSeq1.wpAny_loadPart' hl
   show wpAny_stack_any λst=>A3 ?_;split
   .next c _ _ _ _ _=>cases (c==Value.type "enumerate")<;>(wp_walk using AutoSeq1.wpAny_loadPart' hl,CJ hL;show{1,h})
   .wp_walk using AutoSeq1.wpAny_loadPart' hl,CJ hL;show{1,h}
 show callType_new F.called_enumerate (by decide) (F.typeCall_enumerate_1 _) (F.newCall_enumerate_1 _) (λobj=>F.args_object_init_2 obj _) F.entry_enumerate_new mt {hL,?_};have hz:(s.heap.push {cls:= .type "tuple_iterator",data:= .fields #[.ref t,.int 0 0]}).objs.size=s.heap.objs.size+1:=Aq ..
 change _/\_;rw[hz];have he:=AE (s.heap.push {cls:= .type "tuple_iterator",data:= .fields #[.ref t,.int 0 0]}) (o:={cls:= .type "enumerate",data:= .fields #[.none,.bool false,.ref s.heap.objs.size,rawInt 0,.none,.none]}) rfl;rw[hz] at he;show{{_,he,0},h _ he {_,A4 _ (AE _ rfl),0,0} (by rw[Aq,hz]) λb o x=>A4 _ (A4 _ x)}
end
def gw(K:W.Frag)(a:Sx):It:=
 {λi H=>∃xs x,SqT K H a xs/\xs[i]? =some x,λi H v H'=>∃x p,(∀xs,SqT K H a xs->xs[i]? =some x)/\v=.ref p/\H p=none/\H'=upd H p (.tup [.int i,x]),λi H=>∃xs,SqT K H a xs/\xs.length=i}
def HL{k:Nat}(a e it:Sx)(NM:e≠it)(hai:a≠it)(hae:e≠a):
  Turn P w K (.Tuple NP k pos) (gw K a) [e,it] e (λi h=>(∃NN,IsEnum h e it (i:Nat) NN)/\h.IsTupleIter it a i) where
 mem:=by simp
 obj:=λi h st b hb=>by
  have{{NN,h1},o,h2,h3,h4}:=st;simp only[AJ,Aw,By] at hb;rcases hb with rfl|rfl
  .show{_,h1,λv y=>by cases y}
  .show{o,h2,λv y=>by rw[h4] at y;cases y}
 keep:=λi h h' Np kk=>by have{{NN,z},N7}:=Np;show{{NN,kk e (by simp) _ z},N7.at λo z=>kk it (by simp) o z}
 item:=by
  intro X hP hw hK hc i MO s σ H E I hf st hg;subst hP hw hK;have{xs,x,hq,hx}:=hg;have{MQ,rv,p,hz}:=I.tuple hq;have{u,hu,ru}:=rv.get hx;have{{NN,he},MU}:=st;have ltE:e<s.heap.objs.size:=AQ he;have MT:i<MQ.toArray.size:=by have:=(A8.mp hu).1;simpa using this
  show wpAny_pyNext_enum_itemD (vC (A:=X.A.in1) (show X.A.in1.handled=none from I.ok.hd hc) it a hai MQ.toArray) he {MU,p} MT NM (by simp[NM,hae]) λx' h' tk px ho zu69 hT hsz hk=>?_;have{On,_}:=zu69;show{.ref s.heap.objs.size,0,?_};obtain rfl:x'=u:=by
   have px:MQ.toArray[i]? =some x':=px;have:MQ[i]? =some x':=by simpa using px
   rw[hu] at this;show(Ad this).symm
  show wpAny_letOwnedTupleGo_enum ho λh2 QI sb=>?_;have k2:∀b o,b∉[e,it]->s.heap.get? b=some o->h2.get? b=some o:=λb o n z=>by
   simp only[AJ,Aw,By,not_or] at n;show(sb.2 b n.1).trans (hk b o n.1 n.2 z)
  have RJ:h2.get? s.heap.objs.size=some {cls:= .type "tuple",data:= .seq #[.int i tk,x']}:=(sb.2 _ (Br ltE)).trans hT;show{.ref s.heap.objs.size,upd H s.heap.objs.size (.tup [.int i,x]),I.turnNew (t':=tk+1) hf k2 {by change 2<=sizeLine;decide,[.int i tk,x'],.cons {1} (.cons ru .nil),{_,RJ,0,1}},0,{x,_,λys hy=>by rw[I.tuple_inj hy hq];show hx,0,I.hok.fresh (A9 _),0},{{x',by simpa using QI},On.at λo z=>(sb.2 it NM.symm).trans z},λb hb=>?_};have there:∃o,s.heap.get? b=some o:=by
   simp only[AJ,Aw,By] at hb;rcases hb with rfl|rfl
   .show{_,he}
   .show MU.imp λo q=>q.1
  have{o,q}:=there;rw[au (AR (AQ q))];show(hf b hb).1
 done:=by
  intro X hP hw hK hc i MO s σ H E I hf st hg;subst hP hw hK;have{xs,hq,hx}:=hg;have{MQ,rv,p,hz}:=I.tuple hq;have{{NN,he},MU}:=st;have hl:=rv.length;have{f0,f1,f2,f3,f4,f5}:=hf it (by simp);have hn:i=MQ.toArray.size:=by simp;lia
  show wpAny_pyNext_enum_endD (vC (A:=X.A.in1) (show X.A.in1.handled=none from I.ok.hd hc) it a hai MQ.toArray) he {hn▸MU,p} λh' eb=>{0,I.turned (t':=s.toks) (λb o hb z=>eb b o hb z) f0 f1 f3 f4 f5}
 self:=λ_ _ _ _ _ st h=>let ⟨⟨_,z⟩,_⟩:=st;wpAny_pyIter_enum z h
section
variable{X:Cx}{NP:SD SE}{k:Nat}{N6 p pos:Pos}{e:SE}{te:TE}
def HM(K:W.Frag)(tl:TE):TI:=λσ H R=>tl σ H λx H1=>∃a,x=.ref a/\(∃xs,SqT K H1 a xs)/\R (gw K a) H1
def nZ(hg:Gl X "enumerate")(hm:X.mg "enumerate"=none)(hl:PE X e te)(he:starEach [e] X.env=[(false,eval e X.env)]:=by rfl):PI X (.Tuple NP k N6) (.Call (.Name "enumerate" p) [e] [] pos) (HM X.K te):=by
 intro MO s σ H R I h;show Bl (cY I hg hm boot_enumerate ?_);show B7 (thn ((ab hl af he) _ MO s σ H (λvs H1=>match vs with|[x]=>(∃a,x=.ref a/\(∃xs,SqT X.K H1 a xs)/\R (gw X.K a) H1)|_=>False) I h) λus s1 zu70=>?_) he (by rfl);have{vs,H1,I1,r1,q1}:=zu70
 match vs,q1,r1 with
 |[x],q1,r1=>
 have{a,0,{xs,hq},q}:=q1;have{u,0,ru}:=dq r1;obtain rfl:u=Value.ref a:=ru;have{MQ,rv,pl,hz}:=I1.tuple hq;have la:a<s1.heap.objs.size:=let ⟨_,q,_⟩:=pl;AQ q;show HK (show s1.heap.IsTuple a MQ.toArray from pl) λh' hen MU hsz hk=>?_;show wpAny_pyIter_enum hen ?_;show{_,[_,_],_,_,H1,0,I1.kept (t':=s1.toks) hk,HL a _ _ (Br (BQ _)) (AR la) (Br (Ao la)),{{_,by simpa using hen},MU},λb hb=>?_,q};have fr:∀b,s1.heap.objs.size<=b->cz X MO H1 b:=λb z=>I1.fpOk z (I1.hok.fresh z);simp only[AJ,Aw,By] at hb;rcases hb with rfl|rfl<;>show fr _ (by lia)
end
def vD{D:Ends}{σ:St}(Pv:Nat->St->Hp->Prop)(h0:Pv 0 σ H)(hl:∀i σ H,i<=xs.length->Pv i σ H->SqT K H a xs)
  (hs:∀i x σ H p,xs[i]? =some x->Pv i σ H->H p=none->g (.ref p) σ (upd H p (.tup [.int i,x])) λσ2 H2=>tb (eLp D (Pv (i+1))) σ2 H2) (hd:∀σ H,Pv xs.length σ H->D.nx σ H):
  ∃Wq:Nat->Nat->St->Hp->Prop,(∃m,Wq 0 m σ H)/\∀i m σ H,Wq i m σ H->
   ((gw K a).stop i H/\D.nx σ H)\/((gw K a).go i H/\∃N:St->Hp->Prop,(∀σ' H',N σ' H'->∃m',m'<m/\Wq (i+1) m' σ' H')/\∀x H',(gw K a).yld i H x H'->g x σ H' λσ2 H2=>tb (eLp D (N)) σ2 H2):=by
 show{λi m σ H=>m=xs.length-i/\i<=xs.length/\Pv i σ H,{xs.length,7,AO _,h0},?_};rintro i m σ H ⟨rfl,hi,p⟩;have q:=hl i σ H hi p;by_cases MT:i<xs.length
 .show .inr {{xs,xs[i],q,by simp[MT]},Pv (i+1),λσ' H' p'=>{xs.length-(i+1),4,0,MT,p'},λx H' y=>?_};have{z,pp,e1,e2,e3,e4}:=y;subst e2 e4;show hs i z σ H pp (e1 xs q) p e3
 .obtain rfl:i=xs.length:=by lia
  show .inl {{xs,q,0},hd σ H p}
def HN{ti:TT}{σ:St}{H1:Hp}{Q:VK}(Pv:Nat->Hp->Prop)(h0:Pv 0 (upd H1 acc (.lst [])))(hl:∀i H2,i<=xs.length->Pv i H2->SqT K H2 a xs)
  (hs:∀i x H2 p,xs[i]? =some x->Pv i H2->H2 p=none->g (.ref p) (dH own js σ) (upd H2 p (.tup [.int i,x])) λσ4 H4=>ti σ4 H4 λb H5=>if b=true then te σ4 H5 λy H6=>rAppend (.ref acc) [y] H6 λ_ H7=>Pv (i+1) H7 else Pv (i+1) H5) (hd:∀H2,Pv xs.length H2->Q (.ref acc) H2)
  (mono:∀σ H (R R':St->Hp->Prop) x,(∀σ' H',R σ' H'->R' σ' H')->g x σ H R->g x σ H R') (NY:∀σ H (R R':Bool->Hp->Prop),(∀b H',R b H'->R' b H')->ti σ H R->ti σ H R') (NZ:∀σ H (R R':VK),(∀v H',R v H'->R' v H')->te σ H R->te σ H R'):
  jc (gw K a) own js g ti te σ H1 acc Q:=by
 show{λi m H2=>m=xs.length-i/\i<=xs.length/\Pv i H2,{xs.length,7,AO _,h0},?_};rintro i m H2 ⟨rfl,hi,p⟩;have qa:=hl i H2 hi p;by_cases MT:i<xs.length
 .show .inr {{xs,xs[i],qa,by simp[MT]},λv H3 z=>?_};have{x,pp,e1,e3,e4,e5}:=z;subst e3 e5;show mono _ _ _ _ _ (λσ4 H4 q=>NY _ _ _ _ (λb H5 q=>?_) q) (hs i x _ pp (e1 xs qa) p e4);cases b with
  |true=>
   show NZ _ _ _ _ (λv H6 q=>?_) q;have{l,zs,y,a1,a2,a3,a4,a5}:=q;show{l,zs,y,a1,a2,a3,a4,_,4,0,MT,a5}
  |false=>show{_,4,0,MT,q}
 .obtain rfl:i=xs.length:=by lia
  show .inl {{xs,qa,0},hd H2 p}
def HP{ti:TT}{σ:St}{H1:Hp}{Q:VK}(Pv:Nat->Hp->Prop)(h0:Pv 0 (upd H1 acc (.lst [])))(hl:∀i H2,i<=xs.length->Pv i H2->SqL K H2 a xs)
  (hs:∀i x H2 p,xs[i]? =some x->Pv i H2->H2 p=none->g (.ref p) (dH own js σ) (upd H2 p (.tup [.int i,x])) λσ4 H4=>ti σ4 H4 λb H5=>if b=true then te σ4 H5 λy H6=>rAppend (.ref acc) [y] H6 λ_ H7=>Pv (i+1) H7 else Pv (i+1) H5) (hd:∀H2,Pv xs.length H2->Q (.ref acc) H2)
  (mono:∀σ H (R R':St->Hp->Prop) x,(∀σ' H',R σ' H'->R' σ' H')->g x σ H R->g x σ H R') (NY:∀σ H (R R':Bool->Hp->Prop),(∀b H',R b H'->R' b H')->ti σ H R->ti σ H R') (NZ:∀σ H (R R':VK),(∀v H',R v H'->R' v H')->te σ H R->te σ H R'):
  jc (Ite K a) own js g ti te σ H1 acc Q:=by
 show{λi m H2=>m=xs.length-i/\i<=xs.length/\Pv i H2,{xs.length,7,AO _,h0},?_};rintro i m H2 ⟨rfl,hi,p⟩;have qa:=hl i H2 hi p;by_cases MT:i<xs.length
 .show .inr {{xs,xs[i],qa,by simp[MT]},λv H3 z=>?_};have{x,pp,e1,e3,e4,e5}:=z;subst e3 e5;show mono _ _ _ _ _ (λσ4 H4 q=>NY _ _ _ _ (λb H5 q=>?_) q) (hs i x _ pp (e1 xs qa) p e4);cases b with
  |true=>
   show NZ _ _ _ _ (λv H6 q=>?_) q;have{l,zs,y,a1,a2,a3,a4,a5}:=q;show{l,zs,y,a1,a2,a3,a4,_,4,0,MT,a5}
  |false=>show{_,4,0,MT,q}
 .obtain rfl:i=xs.length:=by lia
  show .inl {{xs,qa,A9 _},hd H2 p}
def vE(hc:X.calm=true):bE X (.builtin "sum") (λxs H Q=>∃(p:Sx) (ns:SD Int),xs=[.ref p]/\SqT X.K H p (ns.map V.int)/\Q (.int ns.sum) H):=by
 intro MO s σ H xs us Q I r h;have{p,ns,0,hq,q}:=h;have{u,0,rx}:=dq r;cases rx;have{MQ,r',pl,hz}:=I.tuple hq;have hi:IntsAre MQ ns:=mI r';have{ys,e}:=hi.allInts.items;have hl:s.heap.IsTuple p MQ.toArray:=pl;rw[e] at hl;have n1:=hi.numsOf;rw[show MQ=MQ.toArray.toList from rfl,e,nums_intItems] at n1;have lt:p<s.heap.objs.size:=let ⟨_,q,_⟩:=hl;AQ q;show call_sum_walkG (CJ hl ?_);show{_,_,_,_,_,_,numAt ys,0,Walks.tuple (A:=X.A.in1) (show X.A.in1.handled=none from I.ok.hd hc) _ p (AR lt) (intItems ys),{{_,AE _ rfl,0,0},hl.push _},λb hb=>?_,λ_ _=>intItems_at,λh' tk t' hk=>?_}
 .simp only[AJ,Aw,By] at hb;rw[Aq];rcases hb with rfl|rfl
  .show BQ _
  .show Ao lt
 .show{.int ns.sum,H,I.kept λb o z=>hk b o (λy=>?_) (A4 _ z),{t',?_},q}
  .simp only[AJ,Aw,By] at y;show absurd (AQ z) (by rw[y];show BU _)
  .rw[preSum_eq,D' (by simp[intItems]),n1]
section
variable{prog:Sy}{w:SB}{A:SC}{E:Sv->Sw->Prop}{s:Sw}
def HQ{TI TO:Sx}{k2:Nat}{xs:Array Sv}{y a b:Sv}{Q:SG Sv->Sw->Prop}(D:ZipApart z TI TO i1 i2 l1 l2)(hz:IsZip s.heap z TI TO .none)(P6:IsPair s.heap TI (.ref i1) (.ref i2))(QO:IsPair s.heap TO a b)
  (h1:s.heap.IsTupleIter i1 l1 k1) (h2:s.heap.IsTupleIter i2 l2 k2) (Oq:s.heap.IsTuple l1 xs) (NB:s.heap.IsTuple l2 ys) (hx:xs[k1]? =some x) (hy:ys[k2]? =some y)
  (hQ:∀h',IsZip h' z TI TO (rawInt s.heap.objs.size)->IsPair h' TO x y->h'.IsTupleIter i1 l1 (k1+1)->h'.IsTupleIter i2 l2 (k2+1)->IsPair h' s.heap.objs.size x y->h'.objs.size=s.heap.objs.size+1->(∀c o,c≠z->c≠TO->c≠i1->c≠i2->s.heap.get? c=some o->h'.get? c=some o)->Q (some (.ref s.heap.objs.size)) {s with heap:=h'}):
  wpAny (model prog w) A (pyNext (.ref z)) Q E s:=by
 have hT:s.TypeIs (.ref z) "zip":={_,hz,0};unfold pyNext;show A0 (CU (B6 (name:=Str.ofString "__next__") hT F.slot_zip_next (An F.slot_zip_next hT F.entry_zip_next ?_ (F.args_zip_next_1 _))));change wpAny _ _ (field (.ref z) 2>>=_) _ _ _;show A0 (Bt hz rfl (x:= .bool false) rfl ?_);change wpAny _ _ (field (.ref z) 3>>=_) _ _ _;show A0 (Bt hz rfl (x:= .ref TI) rfl (A0 (BH P6 rfl ?_)));change wpAny _ _ (Builtin.SmallTypes.ownedTupleIsFree (.ref z)>>=_) _ _ _;show A0 ?_;unfold Builtin.SmallTypes.ownedTupleIsFree;show A0 (Bt hz rfl (x:= .none) rfl (A3 ?_));simp only[C9];show A0 (C1 (A0 (Bt hz rfl (x:= .ref TO) rfl (A0 (DI hz (by simp) λa1 RZ s1=>?_)))));have RZ:IsZip a1 z TI TO .ellipsis:=RZ;show A0 ?_;simp only[List.zipIdx_cons,List.zipIdx_nil,Cu,List.forIn_nil];show A0 (A0 (wpAny_onRaise ?_));change wpAny _ _ (Builtin.SmallTypes.nextOf (.ref i1)>>=_) _ _ _;show A0 (nY (h1.extBut s1.extBut D.i1z) (Oq.extBut s1.extBut D.l1z) hx λa2 g1 s2=>A3 ?_);have o2:IsPair a2 TO a b:=s2.extBut _ _ D.TOi1 (s1.extBut _ _ D.TOz QO);show A0 (BH o2 rfl (A0 (wpAny_updateSeq_pair o2 λa3 o3 s3=>?_)));have o3:IsPair a3 TO x b:=o3;show A0 (CQ (A3 ?_));show A0 (A0 (wpAny_onRaise ?_));change wpAny _ _ (Builtin.SmallTypes.nextOf (.ref i2)>>=_) _ _ _;show A0 (nY (((h2.extBut s1.extBut D.i2z).extBut s2.extBut D.i12.symm).extBut s3.extBut D.TOi2.symm) (((NB.extBut s1.extBut D.l2z).extBut s2.extBut D.l2i1).extBut s3.extBut D.l2TO) hy λa4 g2 s4=>A3 ?_);have o4:IsPair a4 TO x b:=s4.extBut _ _ D.TOi2 o3;show A0 (BH o4 rfl (A0 (wpAny_updateSeq_pair o4 λa5 o5 s5=>?_)));have o5:IsPair a5 TO x y:=o5;show A0 (CQ (A3 (A3 ?_)));show A0 (BH o5 rfl (A0 (wpAny_newTuple ?_)));have sz:a5.objs.size=s.heap.objs.size:=by rw[s5.1,s4.1,s3.1,s2.1,s1.1]
 have z5:IsZip a5 z TI TO .ellipsis:=s5.extBut _ _ D.TOz.symm (s4.extBut _ _ D.i2z.symm (s3.extBut _ _ D.TOz.symm (s2.extBut _ _ D.i1z.symm RZ)));have k5:∀c o,c≠z->c≠TO->c≠i1->c≠i2->s.heap.get? c=some o->a5.get? c=some o:=λc o c1 c2 c3 c4 e=>s5.extBut _ _ c2 (s4.extBut _ _ c4 (s3.extBut _ _ c2 (s2.extBut _ _ c3 (s1.extBut _ _ c1 e))));have m1:a5.IsTupleIter i1 l1 (k1+1):=((g1.extBut s3.extBut D.TOi1.symm).extBut s4.extBut D.i12).extBut s5.extBut D.TOi1.symm;have m2:a5.IsTupleIter i2 l2 (k2+1):=g2.extBut s5.extBut D.TOi2.symm;have zl:z<a5.objs.size:=AQ z5;change wpAny _ _ (Builtin.SmallTypes.ownedTupleHandOut (.ref z) (.ref a5.objs.size)>>=_) _ _ _;show A0 ?_;unfold Builtin.SmallTypes.ownedTupleHandOut;have z6:IsZip (a5.push {cls:= .type "tuple",data:= .seq #[x,y]}) z TI TO .ellipsis:=A4 _ z5;show A0 (DI z6 (by simp) λa7 z7 s7=>?_);have z7:IsZip a7 z TI TO (rawInt a5.objs.size):=z7;show DI z7 (by simp) λa8 z8 s8=>?_;have z8:IsZip a8 z TI TO (rawInt a5.objs.size):=z8;have up:∀c o,c≠z->a5.get? c=some o->a8.get? c=some o:=λc o c1 e=>s8.extBut _ _ c1 (s7.extBut _ _ c1 (A4 _ e));have t8:IsPair a8 a5.objs.size x y:=s8.extBut _ _ (Br zl) (s7.extBut _ _ (Br zl) (AE _ rfl));have e8:a8.objs.size=a5.objs.size+1:=by rw[s8.1,s7.1,Aq]
 rw[sz] at z8 t8 e8;show A3 {1,A3 ?_};change Q (some (.ref a5.objs.size)) _;rw[sz];show hQ a8 z8 (up _ _ D.TOz o5) (m1.at λo e=>up _ o D.i1z e) (m2.at λo e=>up _ o D.i2z e) t8 e8 λc o c1 c2 c3 c4 e=>up c o c1 (k5 c o c1 c2 c3 c4 e)
def HR{TI TO:Sx}{xs:Array Sv}{a b:Sv}{Q:SG Sv->Sw->Prop}(hh:A.handled=none)(D:ZipApart z TI TO i1 i2 l1 l2)(hz:IsZip s.heap z TI TO .none)(P6:IsPair s.heap TI (.ref i1) (.ref i2))(QO:IsPair s.heap TO a b)
  (h1:s.heap.IsTupleIter i1 l1 k1) (Oq:s.heap.IsTuple l1 xs) (hx:xs[k1]? =none) (hQ:∀h',(∀c o,c≠z->c≠TO->c≠i1->c≠i2->s.heap.get? c=some o->h'.get? c=some o)->Q none {s with heap:=h'}):wpAny (model prog w) A (pyNext (.ref z)) Q E s:=by
 have hT:s.TypeIs (.ref z) "zip":={_,hz,0};unfold pyNext;show A0 (CU (B6 (name:=Str.ofString "__next__") hT F.slot_zip_next (An F.slot_zip_next hT F.entry_zip_next ?_ (F.args_zip_next_1 _))));change wpAny _ _ (field (.ref z) 2>>=_) _ _ _;show A0 (Bt hz rfl (x:= .bool false) rfl ?_);change wpAny _ _ (field (.ref z) 3>>=_) _ _ _;show A0 (Bt hz rfl (x:= .ref TI) rfl (A0 (BH P6 rfl ?_)));change wpAny _ _ (Builtin.SmallTypes.ownedTupleIsFree (.ref z)>>=_) _ _ _;show A0 ?_;unfold Builtin.SmallTypes.ownedTupleIsFree;show A0 (Bt hz rfl (x:= .none) rfl (A3 ?_));simp only[C9];show A0 (C1 (A0 (Bt hz rfl (x:= .ref TO) rfl (A0 (DI hz (by simp) λa1 RZ s1=>?_)))));have RZ:IsZip a1 z TI TO .ellipsis:=RZ;show A0 ?_;simp only[List.zipIdx_cons,List.zipIdx_nil,Cu,List.forIn_nil];show A0 (A0 (wpAny_onRaise ?_));change wpAny _ _ (Builtin.SmallTypes.nextOf (.ref i1)>>=_) _ _ _;show A0 (vB hh (h1.extBut s1.extBut D.i1z) (Oq.extBut s1.extBut D.l1z) hx λa2 e s2 he=>?_);have{oe,hoe,hce}:=he;have z2:IsZip a2 z TI TO .ellipsis:=s2 _ _ D.i1z.symm RZ;have ez:e≠z:=λx=>by subst x;rw[z2] at hoe;cases hoe;simp at hce
 show DI z2 (by simp) λa3 _ s3=>?_;show A0 (C2 (T:="StopIteration") (b:=true) {oe,s3.extBut _ _ ez hoe,hce} isSubtype_stop (A3 (hQ _ λc o c1 _ c3 _ x=>s3.extBut _ _ c1 (s2 _ _ c3 (s1.extBut _ _ c1 x)))))
end
section
variable{prog:Sy}{w:SB}{A:SC}{E:Sv->Sw->Prop}{s:Sw}
abbrev tz1(h:SF)(a:Sx):SF:=h.push {cls:= .type "tuple_iterator",data:= .fields #[.ref a,.int 0 0]}
abbrev tz2(h:SF)(a b:Sx):SF:=(tz1 h a).push {cls:= .type "tuple_iterator",data:= .fields #[.ref b,.int 0 0]}
abbrev tz3(h:SF)(a b:Sx):SF:=(tz2 h a b).push {cls:= .type "tuple",data:= .seq #[.ref h.objs.size,.ref (tz1 h a).objs.size]}
abbrev tz4(h:SF)(a b:Sx):SF:=(tz3 h a b).push {cls:= .type "tuple",data:= .seq #[.none,.none]}
abbrev tz5(h:SF)(a b:Sx):SF:=(tz4 h a b).push {cls:= .type "zip",data:= .fields #[.none,.bool false,.bool false,.ref (tz2 h a b).objs.size,.ref (tz3 h a b).objs.size]}
def HS{xs:Array Sv}(ha:s.heap.IsTuple a xs)(hb:s.heap.IsTuple b ys)
  (h:∀h',IsZip h' (s.heap.objs.size+4) (s.heap.objs.size+2) (s.heap.objs.size+3) .none->IsPair h' (s.heap.objs.size+2) (.ref s.heap.objs.size) (.ref (s.heap.objs.size+1))->IsPair h' (s.heap.objs.size+3) .none .none->h'.IsTupleIter s.heap.objs.size a 0->h'.IsTupleIter (s.heap.objs.size+1) b 0->(∀c o,s.heap.get? c=some o->h'.get? c=some o)->Q (.ref (s.heap.objs.size+4)) {s with heap:=h'}):
  wpAny (model prog w) A (call (.type "zip") [.ref a,.ref b]) Q E s:=by
 have mt:Meets (Builtin.«zip.__new__» ⟨[.type "zip",.ref a,.ref b],[]⟩) (λ_ R s=>s.heap.IsTuple a xs/\s.heap.IsTuple b ys/\R (.ok (.ret (.ref (tz4 s.heap a b).objs.size))) {s with heap:=tz5 s.heap a b}):=
  .of_wp λprog w A R s h=>by
   have{hp,g,d,tk,os}:=s;have{h1,h2,h}:=h;have Pi:=sub_zip;have Rh:Heap.IsTuple (Shared.heap ⟨hp,g,d,tk,os⟩) a xs:=h1;have RV:Heap.IsTuple (Shared.heap ⟨hp.push {cls:= .type "tuple_iterator",data:= .fields #[.ref a,.int 0 0]},g,d,tk,os⟩) b ys:=Heap.IsTuple.push h2 _
   wp_walk using wpAny_pyIter_tuple Rh,CJ RV
   show{1,h}
 show callType_new F.called_zip (by decide) (F.typeCall_zip_2 _ _) (F.newCall_zip_2 _ _) (λobj=>F.args_object_init_3 obj _ _) F.entry_zip_new mt {ha,hb,?_};have z1:(tz1 s.heap a).objs.size=s.heap.objs.size+1:=Aq ..
 have z2:(tz2 s.heap a b).objs.size=s.heap.objs.size+2:=by rw[Aq,z1]
 have z3:(tz3 s.heap a b).objs.size=s.heap.objs.size+3:=by rw[Aq,z2]
 have z4:(tz4 s.heap a b).objs.size=s.heap.objs.size+4:=by rw[Aq,z3]
 have g5:(tz5 s.heap a b).get? (tz4 s.heap a b).objs.size=some _:=AE _ rfl;have g4:(tz5 s.heap a b).get? (tz3 s.heap a b).objs.size=some _:=A4 _ (AE _ rfl);have g3:(tz5 s.heap a b).get? (tz2 s.heap a b).objs.size=some _:=A4 _ (A4 _ (AE _ rfl));have g2:(tz5 s.heap a b).get? (tz1 s.heap a).objs.size=some _:=A4 _ (A4 _ (A4 _ (AE _ rfl)));have g1:(tz5 s.heap a b).get? s.heap.objs.size=some _:=A4 _ (A4 _ (A4 _ (A4 _ (AE _ rfl))));change _/\_;rw[z2,z3,z4] at g5;rw[z1,z2] at g3;rw[z3] at g4;rw[z1] at g2;rw[z4];show{{_,g5,0},h _ g5 g3 g4 {_,g1,0,0} {_,g2,0,0} λc o x=>A4 _ (A4 _ (A4 _ (A4 _ (A4 _ x))))}
end
def ItzT(K : W.Frag)(a b : Sx) : It :=
  {λi H => ∃ xs x ys y, SqT K H a xs /\ SqT K H b ys /\ xs[i]? = some x /\ ys[i]? = some y,
   λi H v H' => ∃ x y p, (∀ xs, SqT K H a xs -> xs[i]? = some x) /\ (∀ ys, SqT K H b ys -> ys[i]? = some y) /\ v = .ref p /\ H p = none /\ H' = upd H p (.tup [x, y]),
   λi H => ∃ xs, SqT K H a xs /\ xs.length <= i}
def HU{k:Nat}{TI TO:Sx}(D:ZipApart z TI TO i1 i2 a b):
  Turn P w K (.Tuple NP k pos) (ItzT K a b) [z,TI,TO,i1,i2] z (λi h=>IsZip h z TI TO .none/\IsPair h TI (.ref i1) (.ref i2)/\(∃x y,IsPair h TO x y)/\h.IsTupleIter i1 a i/\h.IsTupleIter i2 b i) where
 mem:=by simp
 obj:=λi h st c hc=>by
  have{h1,h2,{x,y,h3},{o4,h4,_,d4},{o5,h5,_,d5}}:=st;simp only[AJ,Aw,By] at hc;rcases hc with rfl|rfl|rfl|rfl|rfl
  .show{_,h1,λv q=>by cases q}
  .show{_,h2,λv q=>by cases q}
  .show{_,h3,λv q=>by cases q}
  .show{_,h4,λv q=>by rw[d4] at q;cases q}
  .show{_,h5,λv q=>by rw[d5] at q;cases q}
 keep:=λi h h' st kk=>{kk z (by simp) _ st.1,kk TI (by simp) _ st.2.1,st.2.2.1.imp λx q=>q.imp λy q=>kk TO (by simp) _ q,st.2.2.2.1.at λo q=>kk i1 (by simp) o q,st.2.2.2.2.at λo q=>kk i2 (by simp) o q}
 item:=by
  intro X hP hw hK hc i MO s σ H E I hf st hg;subst hP hw hK;have{xs,x,ys,y,hqa,hqb,hx,hy}:=hg;have{as,ra,pa,za}:=I.tuple hqa;have{bs,rb,pb,zb}:=I.tuple hqb;have{u,hu,ru}:=ra.get hx;have{v,hv,rv}:=rb.get hy;have{hz,P6,{_,_,QO},h1,h2}:=st;have ltz:z<s.heap.objs.size:=AQ hz;show HQ D hz P6 QO h1 h2 (show s.heap.IsTuple a as.toArray from pa) (show s.heap.IsTuple b bs.toArray from pb) (x:=u) (y:=v) (by simpa using hu) (by simpa using hv) λh' hz' hTO' h1' h2' hT hsz hk=>{.ref s.heap.objs.size,0,?_};show wpAny_letOwnedTupleGo_zip hz' λh3 Qu sb=>?_;have kk:∀c o,c∉[z,TI,TO,i1,i2]->s.heap.get? c=some o->h3.get? c=some o:=λc o n e=>by
   simp only[AJ,Aw,By,not_or] at n;show(sb.2 c n.1).trans (hk c o n.1 n.2.2.1 n.2.2.2.1 n.2.2.2.2 e)
  have hT3:h3.get? s.heap.objs.size=some {cls:= .type "tuple",data:= .seq #[u,v]}:=(sb.2 _ (Br ltz)).trans hT;have hTI3:IsPair h3 TI (.ref i1) (.ref i2):=(sb.2 _ D.TIz).trans (hk _ _ D.TIz D.TITO D.TIi1 D.TIi2 P6);show{.ref s.heap.objs.size,upd H s.heap.objs.size (.tup [x,y]),I.turnNew (t':=s.toks) hf kk {by change 2<=sizeLine;decide,[u,v],.cons ru (.cons rv .nil),{_,hT3,0,1}},0,
   {x,y,_,λzs OH=>by rw[I.tuple_inj OH hqa];show hx,λzs OH=>by rw[I.tuple_inj OH hqb];show hy,0,I.hok.fresh (A9 _),0},
   {Qu,hTI3,{_,_,(sb.2 _ D.TOz).trans hTO'},h1'.at λo q=>(sb.2 _ D.i1z).trans q,h2'.at λo q=>(sb.2 _ D.i2z).trans q},λc hc=>?_}
  have there:∃o,s.heap.get? c=some o:=by
   simp only[AJ,Aw,By] at hc;rcases hc with rfl|rfl|rfl|rfl|rfl
   .show{_,hz}
   .show{_,P6}
   .show{_,QO}
   .show h1.imp λo q=>q.1
   .show h2.imp λo q=>q.1
  have{o,q}:=there;rw[au (AR (AQ q))];show(hf c hc).1
 done:=by
  intro X hP hw hK hc i MO s σ H E I hf st hg;subst hP hw hK;have{xs,hqa,hx}:=hg;have{as,ra,pa,za}:=I.tuple hqa;have{hz,P6,{_,_,QO},h1,h2}:=st;have la:=ra.length;show HR (I.ok.hd hc) D hz P6 QO h1 (show s.heap.IsTuple a as.toArray from pa) (by simp;lia) λh' hk=>{0,I.turnAll (t':=s.toks) hf λc o n e=>?_};simp only[AJ,Aw,By,not_or] at n;show hk c o n.1 n.2.2.1 n.2.2.2.1 n.2.2.2.2 e
 self:=λ_ _ _ _ _ st h=>wpAny_pyIter_zip st.1 h
section
variable{X:Cx}{NP:SD SE}{k:Nat}{N6 p pos:Pos}{e f:SE}{te tf:TE}
inductive iZipT_(K:W.Frag)(R:(It->Hp->Prop))(vs:List V)(H1:Hp):Prop
 |mk a b:vs=[.ref a,.ref b]->((∃xs,SqT K H1 a xs))->((∃ys,SqT K H1 b ys))->R (ItzT K a b) H1->iZipT_ K R vs H1
def HV(K:W.Frag)(ta:TA):TI:=λσ H R=>ta σ H λvs H1=>iZipT_ K R vs H1
def HW{ta:TA}(hg:Gl X "zip")(hm:X.mg "zip"=none)(hl:PA X [e,f] ta)(he:starEach [e,f] X.env=(false,eval e X.env)::starEach [f] X.env:=by rfl)(hp:(backTo pos (starEach [f] X.env)).any (·.1)=false:=by rfl):
  PI X (.Tuple NP k N6) (.Call (.Name "zip" p) [e,f] [] pos) (HV X.K ta):=by
 intro MO s σ H R I h;show Bl (cY I hg hm PyProof.Rows.Boot.«zip» ?_);show B7 (thn (hl _ MO s σ H _ I h) λus s1 zu71=>?_) he hp;have{vs,H1,I1,r1,a,b,ev,{xs,hqa},{ys,hqb},q}:=zu71;subst ev;have{u,v,0,ru,rv}:=gi r1;obtain rfl:u=Value.ref a:=ru;obtain rfl:v=Value.ref b:=rv;have{as,ra,pa,za}:=I1.tuple hqa;have{bs,rb,pb,zb}:=I1.tuple hqb;have la:a<s1.heap.objs.size:=let ⟨_,q,_⟩:=pa;AQ q;have lb:b<s1.heap.objs.size:=let ⟨_,q,_⟩:=pb;AQ q;show HS (show s1.heap.IsTuple a as.toArray from pa) (show s1.heap.IsTuple b bs.toArray from pb) λh' hz P6 QO h1 h2 hk=>?_;show wpAny_pyIter_zip hz ?_;show{_,[_,_,_,_,_],_,_,H1,0,I1.kept (t':=s1.toks) hk,HU (zipApart_new la lb),{hz,P6,{_,_,QO},h1,h2},λc hc=>?_,q};have fr:∀c,s1.heap.objs.size<=c->cz X MO H1 c:=λc z=>I1.fpOk z (I1.hok.fresh z);simp only[AJ,Aw,By] at hc;rcases hc with rfl|rfl|rfl|rfl|rfl<;>show fr _ (by lia)
end
def HX{ys:SD V}{D:Ends}{σ:St}(hn:xs.length=ys.length)(Pv:Nat->St->Hp->Prop)(h0:Pv 0 σ H)(hl:∀i σ H,i<=xs.length->Pv i σ H->SqT K H a xs/\SqT K H b ys)
  (hs:∀i x y σ H p,xs[i]? =some x->ys[i]? =some y->Pv i σ H->H p=none->g (.ref p) σ (upd H p (.tup [x,y])) λσ2 H2=>tb (eLp D (Pv (i+1))) σ2 H2) (hd:∀σ H,Pv xs.length σ H->D.nx σ H):
  ∃Wq:Nat->Nat->St->Hp->Prop,(∃m,Wq 0 m σ H)/\∀i m σ H,Wq i m σ H->
   ((ItzT K a b).stop i H/\D.nx σ H)\/((ItzT K a b).go i H/\∃N:St->Hp->Prop,(∀σ' H',N σ' H'->∃m',m'<m/\Wq (i+1) m' σ' H')/\∀x H',(ItzT K a b).yld i H x H'->g x σ H' λσ2 H2=>tb (eLp D (N)) σ2 H2):=by
 show{λi m σ H=>m=xs.length-i/\i<=xs.length/\Pv i σ H,{xs.length,7,AO _,h0},?_};rintro i m σ H ⟨rfl,hi,p⟩;have{qa,qb}:=hl i σ H hi p;by_cases MT:i<xs.length
 .have ly:i<ys.length:=by lia
  show .inr {{xs,xs[i],ys,ys[i],qa,qb,by simp[MT],by simp[ly]},Pv (i+1),λσ' H' p'=>{xs.length-(i+1),4,0,MT,p'},λv H' z=>?_};have{x,y,pp,e1,e2,e3,e4,e5}:=z;subst e3 e5;show hs i x y σ H pp (e1 xs qa) (e2 ys qb) p e4
 .obtain rfl:i=xs.length:=by lia
  show .inl {{xs,qa,A9 _},hd σ H p}
inductive tNotL_(K:W.Frag)(Q:VK)(x:V)(H1:Hp):Prop
 |mk p xs:x=.ref p->SqL K H1 p xs->Q (.bl xs.isEmpty) H1->tNotL_ K Q x H1
def HY(K:W.Frag)(ta:TE):TE:=λσ H Q=>ta σ H λx H1=>tNotL_ K Q x H1
def HZ{a:SE}{ta:TE}(ha:PE X a ta):PE X (.UnaryOp .Not a pos) (HY X.K ta):=by
 intro MO s σ H Q I h;show UnaryOp_ (thn (ha MO s σ H _ I h) λv s1 zu72=>?_);have{x,H1,I1,r1,q1}:=zu72;have{p,xs,0,hx,q}:=q1;cases r1;have{MQ,r,pl,hz}:=I1.list hx;have MS:=r.length;have hn:=gh;show not_of (wpAny_truthy_list pl.isList (by simp only[AK];lia) {.bl xs.isEmpty,H1,I1.tok _,by rw[mG r,Bool.not_not];rfl,q})
end L2
local macro_rules | `(tactic| ac_rfl) => `(tactic| (intro _ _ _ _ h; cases h; subst_vars; rfl))
namespace Mine
open PySem L2 PyProof.Rows
variable{H H' H'' H2:Hp}{K:W.Frag}{L L':Nat->Int}{P:Sy}{QP rs vs ws:SD V}{R:SD (SD (Mx Int)×Int)}{Wq:Nat->Nat->Int}{X:Nat->SD (Nat×Int)}{a acc f:Sx}{b:Nat->Sx}{d e fi g i j m n s:Nat}{fd:SA}{ks r row:SD Int}{kvs:SD (SD (SD Int)×V)}{l:W.OpenLaw}{mg:Str->SG Sv}{o:HO}{sp z:Int}{st:SH}{v:V}{w:SB}{x:SD Int×Int}{xs ys:SD (Nat×Int)}
def top(i:Nat):SH:=PySem.Challenge.pw_floorcurves_k92_whole_that_hang_together.main.body.getD i (.Pass {(0),(0),(0),(0)})
abbrev og:SH:=top 8
def Ia:FnScope ["thing"] ["thing"] (al og):=by and_intros
abbrev oh:SH:=top 9
def Ib:FnScope ["thing","least","greatest"] ["thing","least","greatest"] (al oh):=by and_intros
abbrev oj:SH:=top 10
def Ic:FnScope ["d","k"] ["d","k"] (al oj):=by and_intros
abbrev om:SH:=top 11
def Ie:FnScope ["d","k"] ["d","k"] (al om):=by and_intros
abbrev on:SH:=top 12
def Ig:FnScope ["d"] ["d"] (al on):=by and_intros
abbrev oq:SH:=top 14
def fV:FnScope ["number","chosen","found","place"] ["number","chosen"] (al oq):=by and_intros
abbrev ot:SH:=top 16
def cI:FnScope ["things","pairs","standing","thing","one","other","kept","left"] ["things","pairs"] (al ot):=by and_intros
abbrev jt:SH:=top 17
def kN:FnScope ["things","pairs","standing"] ["things","pairs"] (al jt):=by and_intros
abbrev ou:SH:=top 19
def ju:FnScope ["d","drawing","ends","i","j","w"] ["d","drawing"] (al ou):=by and_intros
abbrev ow:SH:=top 20
def Ih:FnScope ["d","drawing"] ["d","drawing"] (al ow):=by and_intros
abbrev ox:SH:=top 21
def Ii:FnScope ["lift"] ["lift"] (al ox):=by and_intros
abbrev oy:SH:=top 22
def kO:FnScope ["d","floor","weight","spare","found","j","w"] ["d","floor","weight","spare"] (al oy):=by and_intros
abbrev oz:SH:=top 23
def jv:FnScope ["lifts","weight","spare","found","place","lift","rest"] ["lifts","weight","spare"] (al oz):=by and_intros
abbrev jw:SH:=top 24
def ii:FnScope ["d","floor","drawing","spare","there","found","lifts","ends","left"] ["d","floor","drawing","spare"] (al jw):=by and_intros
abbrev kP:SH:=top 25
def gx:FnScope ["d","k","begun","floor","longer","drawing","spare"] ["d","k"] (al kP):=by and_intros
abbrev kQ:SH:=top 26
def Ij:FnScope ["d","drawing"] ["d","drawing"] (al kQ):=by and_intros
abbrev oA:SH:=top 27
def kR:FnScope ["drawing","product","lift"] ["drawing"] (al oA):=by and_intros
abbrev oB:SH:=top 29
def Ik:FnScope ["numbers","place","more"] ["numbers","place","more"] (al oB):=by and_intros
abbrev oC:SH:=top 30
def kS:FnScope ["numbers","product","number"] ["numbers"] (al oC):=by and_intros
abbrev oD:SH:=top 32
def Il:FnScope ["d","drawing"] ["d","drawing"] (al oD):=by and_intros
abbrev oE:SH:=top 33
def kT:FnScope ["d","drawing","found","place","number"] ["d","drawing"] (al oE):=by and_intros
abbrev oF:SH:=top 34
def ij:FnScope ["numbers","first","last","alike","found","here","choices","fuller","others"] ["numbers","first","last","alike"] (al oF):=by and_intros
abbrev oG:SH:=top 35
def fW:FnScope ["d","marks","known","mark","fuller","numbers","further","choices"] ["d","marks"] (al oG):=by and_intros
abbrev oH:SH:=top 36
def Im:FnScope ["d","drawing"] ["d","drawing"] (al oH):=by and_intros
abbrev jx:SH:=top 37
def vG:FnScope ["d","k","whole"] ["d","k"] (al jx):=by and_intros
abbrev oI:SH:=top 39
def kU:FnScope ["d","found","x","y"] ["d"] (al oI):=by and_intros
abbrev oJ:SH:=top 40
def Io:FnScope ["d","point"] ["d","point"] (al oJ):=by and_intros
abbrev oK:SH:=top 41
def Ip:FnScope ["a","b","c"] ["a","b","c"] (al oK):=by and_intros
abbrev kW:SH:=top 42
def Iq:FnScope ["d"] ["d"] (al kW):=by and_intros
abbrev jy:SH:=top 43
def vH:FnScope ["d","down"] ["d"] (al jy):=by and_intros
abbrev oM:SH:=top 47
def vI:FnScope ["way","side","place"] ["way","side"] (al oM):=by and_intros
abbrev oN:SH:=top 48
def gy:FnScope ["d","way","side","place","a","b","c","found","facing"] ["d","way","side"] (al oN):=by and_intros
abbrev oO:SH:=top 49
def Ir:FnScope ["piece"] ["piece"] (al oO):=by and_intros
abbrev kX:SH:=top 51
def vJ:FnScope ["row","k","with_first"] ["row","k"] (al kX):=by and_intros
abbrev kY:SH:=top 52
def vK:FnScope ["d","k","row"] ["d","k"] (al kY):=by and_intros
abbrev oP:SH:=top 54
def jz:FnScope ["d","way","side","edge","found","piece","further","rest"] ["d","way","side","edge"] (al oP):=by and_intros
abbrev oQ:SH:=top 55
def ik:FnScope ["d","way","under","over","found","pieces","others"] ["d","way"] (al oQ):=by and_intros
abbrev oR:SH:=top 56
def kZ:FnScope ["cutting","product","piece"] ["cutting"] (al oR):=by and_intros
abbrev oS:SH:=top 57
def jA:FnScope ["piece","found","ahead","point"] ["piece"] (al oS):=by and_intros
abbrev oT:SH:=top 58
def im:FnScope ["cutting","known","facing","piece","around","side"] ["cutting"] (al oT):=by and_intros
abbrev k7:SH:=top 59
def Iu:FnScope ["cutting"] ["cutting"] (al k7):=by and_intros
abbrev oU:SH:=top 60
def gz:FnScope ["cutting","thread_of","first","pairs","piece","side","thread"] ["cutting"] (al oU):=by and_intros
abbrev oV:SH:=top 61
def Iw:FnScope ["cutting"] ["cutting"] (al oV):=by and_intros
abbrev oW:SH:=top 62
def jB:FnScope ["d","k","total","way","cutting"] ["d","k"] (al oW):=by and_intros
abbrev oX:SH:=top 64
def io:FnScope ["d","lesser","total","e","f","choices"] ["d","lesser"] (al oX):=by and_intros
abbrev oY:SH:=top 65
def oZ:FnScope ["d","counts","degree"] ["d"] (al oY):=by and_intros
abbrev o0:SH:=top 67
def vL:FnScope ["thing","number"] ["thing"] (al o0):=by and_intros
abbrev jC:SH:=top 68
def vM:FnScope ["row"] ["row"] (al jC):=by and_intros
abbrev o6:SH:=top 69
def Ix:FnScope ["d","held","free"] ["d","held","free"] (al o6):=by and_intros
abbrev o7:SH:=top 71
def Iy:FnScope ["row","length"] ["row","length"] (al o7):=by and_intros
abbrev k9:SH:=top 72
def ip:FnScope ["row","found","number","longer","begun"] ["row"] (al k9):=by and_intros
abbrev o8:SH:=top 73
def lg:FnScope ["row","weight","first","missing","found","place"] ["row","weight","first"] (al o8):=by and_intros
abbrev o9:SH:=top 74
def jD:FnScope ["row","chosen","product","number","part"] ["row","chosen"] (al o9):=by and_intros
abbrev pe:SH:=top 75
def lm:FnScope ["row","fuller","found","place","number"] ["row","fuller"] (al pe):=by and_intros
abbrev ph:SH:=top 76
def jE:FnScope ["d","k","held","free","found","place","number","lesser"] ["d","k","held","free"] (al ph):=by and_intros
abbrev pi:SH:=top 77
def jF:FnScope ["d","k","held","free","found","kept","freed","lesser"] ["d","k","held","free"] (al pi):=by and_intros
abbrev pq:SH:=top 78
def jG:FnScope ["asked","d","k","held","free"] ["asked"] (al pq):=by and_intros
abbrev pz:SH:=top 79
def iq:FnScope ["asked","known","total","number","weights","lesser"] ["asked","known"] (al pz):=by and_intros
abbrev pA:SH:=top 80
def Iz:FnScope ["d","k","held","free"] ["d","k","held","free"] (al pA):=by and_intros
abbrev pB:SH:=top 81
def IA:FnScope ["d","k","held","free"] ["d","k","held","free"] (al pB):=by and_intros
abbrev pC:SH:=top 83
def IB:FnScope ["d","k"] ["d","k"] (al pC):=by and_intros
abbrev pD:SH:=top 84
def IC:FnScope ["d","k"] ["d","k"] (al pD):=by and_intros
abbrev pF:SH:=top 85
def lp:FnScope ["d","found","e","k"] ["d"] (al pF):=by and_intros
abbrev pG:SH:=top 86
def ir:FnScope ["table","greatest","found","d","s","number"] ["table","greatest"] (al pG):=by and_intros
abbrev pH:SH:=top 87
def jH:FnScope ["total","wholes","counts","sign","r","rest","s","product"] ["total","wholes","counts","sign"] (al pH):=by and_intros
abbrev pI:SH:=top 88
def lq:FnScope ["counts","wholes","d","e"] ["counts"] (al pI):=by and_intros
abbrev pJ:SH:=top 89
def pK:FnScope ["d","k","s","rows"] ["d","k"] (al pJ):=by and_intros
abbrev pM:SH:=top 91
def ID:FnScope ["_law_script","_law_k"] ["_law_script","_law_k"] (al pM):=by and_intros
abbrev pN:SH:=top 92
def pO:FnScope ["_law_cell","_law_place","_law_far"] ["_law_cell","_law_place"] (al pN):=by and_intros
abbrev pP:SH:=top 93
def IE:FnScope ["_law_bag_here"] ["_law_bag_here"] (al pP):=by and_intros
abbrev pQ:SH:=top 94
def jI:FnScope ["_law_bag_here","_law_many","_law_found","_law_k"] ["_law_bag_here","_law_many"] (al pQ):=by and_intros
abbrev pR:SH:=top 95
def fA:FnScope ["_law_script","_law_bag_here","_law_d","_law_k","_law_way"] ["_law_script"] (al pR):=by and_intros
abbrev pT:SH:=top 96
def jJ:FnScope ["_law_script","_law_d","_law_k","_law_told","_law_number"] ["_law_script"] (al pT):=by and_intros
set_option genInjectivity false
set_option genSizeOfSpec false
set_option genSizeOf false
structure Fb(K:W.Frag)(mg:Str->SG Sv)(n:Str)(st:SH)(ps:SD Str)(f:Sx)(d:SA):Prop where
 F:Fun K n n st f d
 B:gR K d ps []
 m:mg n=some (.ref f)
structure Fns(K:W.Frag)(mg:Str->SG Sv) where
 f0:Addr
 d0:FuncData
 f1:Addr
 d1:FuncData
 f2:Addr
 d2:FuncData
 f3:Addr
 d3:FuncData
 f4:Addr
 d4:FuncData
 f5:Addr
 d5:FuncData
 f6:Addr
 d6:FuncData
 f7:Addr
 d7:FuncData
 f8:Addr
 d8:FuncData
 f9:Addr
 d9:FuncData
 f10:Addr
 d10:FuncData
 f11:Addr
 d11:FuncData
 f12:Addr
 d12:FuncData
 f13:Addr
 d13:FuncData
 f14:Addr
 d14:FuncData
 f15:Addr
 d15:FuncData
 f16:Addr
 d16:FuncData
 f17:Addr
 d17:FuncData
 f18:Addr
 d18:FuncData
 f19:Addr
 d19:FuncData
 f20:Addr
 d20:FuncData
 f21:Addr
 d21:FuncData
 f22:Addr
 d22:FuncData
 f23:Addr
 d23:FuncData
 f24:Addr
 d24:FuncData
 f25:Addr
 d25:FuncData
 f26:Addr
 d26:FuncData
 f27:Addr
 d27:FuncData
 f28:Addr
 d28:FuncData
 f29:Addr
 d29:FuncData
 f30:Addr
 d30:FuncData
 f31:Addr
 d31:FuncData
 f32:Addr
 d32:FuncData
 f33:Addr
 d33:FuncData
 f34:Addr
 d34:FuncData
 f35:Addr
 d35:FuncData
 f36:Addr
 d36:FuncData
 f37:Addr
 d37:FuncData
 f38:Addr
 d38:FuncData
 f39:Addr
 d39:FuncData
 f40:Addr
 d40:FuncData
 f41:Addr
 d41:FuncData
 f42:Addr
 d42:FuncData
 f43:Addr
 d43:FuncData
 f44:Addr
 d44:FuncData
 f45:Addr
 d45:FuncData
 f46:Addr
 d46:FuncData
 f47:Addr
 d47:FuncData
 f48:Addr
 d48:FuncData
 f49:Addr
 d49:FuncData
 f50:Addr
 d50:FuncData
 f51:Addr
 d51:FuncData
 f52:Addr
 d52:FuncData
 f53:Addr
 d53:FuncData
 f54:Addr
 d54:FuncData
 f55:Addr
 d55:FuncData
 f56:Addr
 d56:FuncData
 f57:Addr
 d57:FuncData
 f58:Addr
 d58:FuncData
 f59:Addr
 d59:FuncData
 f60:Addr
 d60:FuncData
 f61:Addr
 d61:FuncData
 f62:Addr
 d62:FuncData
 f63:Addr
 d63:FuncData
 f64:Addr
 d64:FuncData
 f65:Addr
 d65:FuncData
 f66:Addr
 d66:FuncData
 f67:Addr
 d67:FuncData
 f68:Addr
 d68:FuncData
 f69:Addr
 d69:FuncData
 f70:Addr
 d70:FuncData
 f71:Addr
 d71:FuncData
 f72:Addr
 d72:FuncData
 X0:Fb K mg "is_whole" og ["thing"] f0 d0
 X1:Fb K mg "need_between" oh ["thing","least","greatest"] f1 d1
 X2:Fb K mg "need_narrow" oj ["d","k"] f2 d2
 X3:Fb K mg "need_wide" om ["d","k"] f3 d3
 X4:Fb K mg "need_degree" on ["d"] f4 d4
 X5:Fb K mg "choose" oq ["number","chosen"] f5 d5
 X6:Fb K mg "gathered" ot ["things","pairs"] f6 d6
 X7:Fb K mg "how_many_sets" jt ["things","pairs"] f7 d7
 X8:Fb K mg "ends_at" ou ["d","drawing"] f8 d8
 X9:Fb K mg "sound" ow ["d","drawing"] f9 d9
 X10:Fb K mg "lost" ox ["lift"] f10 d10
 X11:Fb K mg "lifts_from" oy ["d","floor","weight","spare"] f11 d11
 X12:Fb K mg "leaving" oz ["lifts","weight","spare"] f12 d12
 X13:Fb K mg "with_floor" jw ["d","floor","drawing","spare"] f13 d13
 X14:Fb K mg "drawings" kP ["d","k"] f14 d14
 X15:Fb K mg "parts" kQ ["d","drawing"] f15 d15
 X16:Fb K mg "worth" oA ["drawing"] f16 d16
 X17:Fb K mg "with_more" oB ["numbers","place","more"] f17 d17
 X18:Fb K mg "product_of" oC ["numbers"] f18 d18
 X19:Fb K mg "need_sound" oD ["d","drawing"] f19 d19
 X20:Fb K mg "end_marks" oE ["d","drawing"] f20 d20
 X21:Fb K mg "put_between" oF ["numbers","first","last","alike"] f21 d21
 X22:Fb K mg "how_many_orders" oG ["d","marks"] f22 d22
 X23:Fb K mg "how_many" oH ["d","drawing"] f23 d23
 X24:Fb K mg "whole_by_floors" jx ["d","k"] f24 d24
 X25:Fb K mg "points" oI ["d"] f25 d25
 X26:Fb K mg "is_point" oJ ["d","point"] f26 d26
 X27:Fb K mg "corner" oK ["a","b","c"] f27 d27
 X28:Fb K mg "upper_edge" kW ["d"] f28 d28
 X29:Fb K mg "lower_edge" jy ["d"] f29 d29
 X30:Fb K mg "first_turn" oM ["way","side"] f30 d30
 X31:Fb K mg "steps" oN ["d","way","side"] f31 d31
 X32:Fb K mg "piece_worth" oO ["piece"] f32 d32
 X33:Fb K mg "leaving_out" kX ["row","k"] f33 d33
 X34:Fb K mg "ways" kY ["d","k"] f34 d34
 X35:Fb K mg "manners" oP ["d","way","side","edge"] f35 d35
 X36:Fb K mg "cuttings" oQ ["d","way"] f36 d36
 X37:Fb K mg "cut_worth" oR ["cutting"] f37 d37
 X38:Fb K mg "sides" oS ["piece"] f38 d38
 X39:Fb K mg "threads" oT ["cutting"] f39 d39
 X40:Fb K mg "corner_pieces" k7 ["cutting"] f40 d40
 X41:Fb K mg "joined" oU ["cutting"] f41 d41
 X42:Fb K mg "cut_parts" oV ["cutting"] f42 d42
 X43:Fb K mg "whole_by_ways" oW ["d","k"] f43 d43
 X44:Fb K mg "split_in_two" oX ["d","lesser"] f44 d44
 X45:Fb K mg "without_holes" oY ["d"] f45 d45
 X46:Fb K mg "is_row" o0 ["thing"] f46 d46
 X47:Fb K mg "row_weight" jC ["row"] f47 d47
 X48:Fb K mg "need_rows" o6 ["d","held","free"] f48 d48
 X49:Fb K mg "filled_up" o7 ["row","length"] f49 d49
 X50:Fb K mg "rows_within" k9 ["row"] f50 d50
 X51:Fb K mg "rows_beyond" o8 ["row","weight","first"] f51 d51
 X52:Fb K mg "choices" o9 ["row","chosen"] f52 d52
 X53:Fb K mg "weights_gained" pe ["row","fuller"] f53 d53
 X54:Fb K mg "with_one_held" ph ["d","k","held","free"] f54 d54
 X55:Fb K mg "with_one_degree_fewer" pi ["d","k","held","free"] f55 d55
 X56:Fb K mg "summands" pq ["asked"] f56 d56
 X57:Fb K mg "counted" pz ["asked","known"] f57 d57
 X58:Fb K mg "asked_of" pA ["d","k","held","free"] f58 d58
 X59:Fb K mg "by_ends" pB ["d","k","held","free"] f59 d59
 X60:Fb K mg "points_through" pC ["d","k"] f60 d60
 X61:Fb K mg "count_row" pD ["d","k"] f61 d61
 X62:Fb K mg "rows_up_to" pF ["d"] f62 d62
 X63:Fb K mg "by_degree" pG ["table","greatest"] f63 d63
 X64:Fb K mg "add_products" pH ["total","wholes","counts","sign"] f64 d64
 X65:Fb K mg "wholes_by_degree" pI ["counts"] f65 d65
 X66:Fb K mg "reckoned_whole" pJ ["d","k"] f66 d66
 X67:Fb K mg "_law_cell_at" pM ["_law_script","_law_k"] f67 d67
 X68:Fb K mg "_law_bag" pN ["_law_cell","_law_place"] f68 d68
 X69:Fb K mg "_law_mixed" pP ["_law_bag_here"] f69 d69
 X70:Fb K mg "_law_digit" pQ ["_law_bag_here","_law_many"] f70 d70
 X71:Fb K mg "_law_asked" pR ["_law_script"] f71 d71
 X72:Fb K mg "law" pT ["_law_script"] f72 d72
 n_isinstance:mg "isinstance"=none
 n_int:mg "int"=none
 n_bool:mg "bool"=none
 n_range:mg "range"=none
 n_len:mg "len"=none
 n_min:mg "min"=none
 n_enumerate:mg "enumerate"=none
 n_sum:mg "sum"=none
 n_sorted:mg "sorted"=none
 n_list:mg "list"=none
 n_tuple:mg "tuple"=none
 n_set:mg "set"=none
 n_abs:mg "abs"=none
 n_max:mg "max"=none
 n_zip:mg "zip"=none
 n_dict:mg "dict"=none
 k_LEFT:Tok
 m_LEFT:mg "LEFT"=some (.int (1) k_LEFT)
 k_RIGHT:Tok
 m_RIGHT:mg "RIGHT"=some (.int (-1) k_RIGHT)
 a_NARROW:Addr
 m_NARROW:mg "NARROW"=some (.ref a_NARROW)
 D_NARROW:gZ K a_NARROW [(1,6),(2,6),(3,6),(4,2)]=true
 a_WIDE:Addr
 m_WIDE:mg "WIDE"=some (.ref a_WIDE)
 D_WIDE:gZ K a_WIDE [(1,6),(2,6),(3,6),(4,6),(5,3)]=true
 c_NoBound:Addr
 m_NoBound:mg "NoBound"=some (.ref c_NoBound)
 c_NoDrawing:Addr
 m_NoDrawing:mg "NoDrawing"=some (.ref c_NoDrawing)
 c_NoEnds:Addr
 m_NoEnds:mg "NoEnds"=some (.ref c_NoEnds)
 x_NoBound:W.excIn K c_NoBound bmV "ValueError.__new__"=true
 X_NoBound:XC K c_NoBound
 x_NoDrawing:W.excIn K c_NoDrawing bmV "ValueError.__new__"=true
 X_NoDrawing:XC K c_NoDrawing
 x_NoEnds:W.excIn K c_NoEnds bmV "ValueError.__new__"=true
 X_NoEnds:XC K c_NoEnds
theorem pcq{X:Cx}{k:Nat}{x:Str}{ps:SD Str}{sp:Sp}{e:SE}{es:SD SE}{t:TA}{p pos:Pos}(F:FnOk X.prog X.w X.K X.mg X.base CX0 k f fd ps sp)(hr:Room n X.A)(B:Fb X.K X.mg x st ps f fd)(ha:PA X (e::es) t)(hk:k<=n:=by decide)(hg:Gl X x:=by rfl)(QE:(x==("__debug__":Str))=false:=by decide)(he:starEach (e::es) X.env=(false,eval e X.env)::starEach es X.env:=by rfl)(OS:(backTo pos (starEach es X.env)).any (·.1)=false:=by rfl):PE X (.Call (.Name x p) (e::es) [] pos) (sj sp [] E0 t):=fN F (hr.mono hk) hg B.m B.F.kp B.B .nil fP ha QE he OS
theorem pSA{X:Cx}{x:Str}{e:SE}{te:TE}{pos M8:Pos}(hN:X.N.Nodup)(he:PE X e te)(hi:X.N[i]? =some x:=by rfl)(hx:Loc X.env.scope x:=by trivial)(hs:swapsWith e (some (.Name x M8)) pos.line X.env=pure false:=by rfl)(hf:X.fn x=true\/X.env.scope.names.lookup x=some .local:=by trivial):PS X (.Assign [.Name x M8] e pos) (iV te (cx i)):=zq hN hi hx he hs hf
theorem pGA{X:Cx}{x:Str}{pos:Pos}(hN:X.N.Nodup)(hi:X.N[i]? =some x:=by rfl)(hx:Loc X.env.scope x:=by trivial)(hf:X.fn x=true\/X.env.scope.names.lookup x=some .local:=by trivial):PG X (.Name x pos) (cx i):=bN hN hi hx hf
def zB(h:Nat.ble n sizeLine=true):n<=sizeLine:=Nat.le_of_ble_eq_true h
theorem FbO{base:SF}{x:Str}{N ps:SD Str}{k:Nat}{sp:Sp}(B:Fb K mg x st ps f fd)(S:FnScope N ps (al st))(OE:∀(Na:Sv) (A:SC) (outer:SD Env) (s:Sw) (H:Hp) (vs:SD V) (Q:VK) (E:XK),Room k (A.deeper (envOfC x (al st) s.heap.objs.size f Na))->sp vs H Q E->∃t,PSs (gj CX0 P w K mg base N x (al st) f Na A outer s H E).nox (dX st) t/\t {nx:=λ_ H'=>Q .non H',rt:=Q} (start N vs) H)(len:∀vs H Q E,sp vs H Q E->vs.length=ps.length:=by ac_rfl):FnOk P w K mg base CX0 (k+1) f fd ps sp:=B.F.ok S len OE
abbrev OKQ{K:PySem.W.Frag}{mg:Str->SG Sv}{n:Str}{st:SH}{ps:SD Str}{f:Sx}{d:SA}(_:Fb K mg n st ps f d)(P:Sy)(w:SB)(base:SF)(k:Nat)(sp:Sp):Prop:=FnOk P w K mg base CX0 k f d ps sp
def aR{α:Type}{f:α->D}{L:SD α}(h:Iss H (L.map f) vs)(hi:vs[i]? =some v):∃x,L[i]? =some x/\Is H (f x) v:=by
 have⟨d,hd,h⟩:=h.of_get hi;rw[AD] at hd;have{x,hx,0}:=AB.mp hd;show{x,hx,h}
abbrev Lf:=Int×Int×Int
variable{p:Lf}{ps:SD Lf}
def dy(e:SD Int)(p:Lf):SD Int:=(e.set (p.1-1).toNat (e.getD (p.1-1).toNat 0-p.2.2)).set (p.2.1-1).toNat ((e.set (p.1-1).toNat (e.getD (p.1-1).toNat 0-p.2.2)).getD (p.2.1-1).toNat 0+p.2.2)
def bF(n:Nat)(ps:SD Lf):SD Int:=ps.foldl dy (List.replicate n 1)
def gC(ps:SD Lf)(f:Int):Int:=((ps.filter λp=>decide (p.2.1=f)).map (·.2.2)).sum
def gD(ps:SD Lf)(f:Int):Int:=((ps.filter λp=>decide (p.1=f)).map (·.2.2)).sum
def Okl(n:Nat)(p:Lf):Prop:=1<=p.1/\p.1<=n/\1<=p.2.1/\p.2.1<=n
def pU{l:SD Int}{v:Int}(h:i<l.length):(l.set i v).getD j 0=if i=j then v else l.getD j 0:=by
 rw[List.getD,List.getElem?_set];by_cases e:i=j
 .subst e;rw[A6 rfl,A6 rfl,A6 h];rfl
 .rw[A5 e,A5 e];rfl
def IF{e:SD Int}:(dy e p).length=e.length:=by unfold dy;rw[C6,C6]
def IG{e:SD Int}(he:e.length=n)(hp:Okl n p)(i:Nat):(dy e p).getD i 0=e.getD i 0+(if p.2.1=1+(i:Int) then p.2.2 else 0)-(if p.1=1+(i:Int) then p.2.2 else 0):=by
 have{h1,h2,h3,h4}:=hp;unfold dy;have a1:(p.1-1).toNat<e.length:=by lia
 rw[pU (by rw[C6];lia),pU a1];by_cases c1:(p.2.1-1).toNat=i
 .have d1:p.2.1=1+(i:Int):=by lia
  rw[A6 c1,A6 d1,c1];by_cases c2:(p.1-1).toNat=i
  .have d2:p.1=1+(i:Int):=by lia
   rw[A6 c2,A6 d2,c2];lia
  .have d2:¬p.1=1+(i:Int):=by lia
   rw[A5 c2,A5 d2];lia
 .have d1:¬p.2.1=1+(i:Int):=by lia
  rw[A5 c1,A5 d1,pU a1];by_cases c2:(p.1-1).toNat=i
  .have d2:p.1=1+(i:Int):=by lia
   rw[A6 c2,A6 d2,c2];lia
  .have d2:¬p.1=1+(i:Int):=by lia
   rw[A5 c2,A5 d2];lia
def IH(p:Lf)(ps:SD Lf)(f:Int):gC (p::ps) f=(if p.2.1=f then p.2.2 else 0)+gC ps f:=by
 unfold gC;rw[Bz];by_cases h:p.2.1=f<;>simp[h]
def II(p:Lf)(ps:SD Lf)(f:Int):gD (p::ps) f=(if p.1=f then p.2.2 else 0)+gD ps f:=by
 unfold gD;rw[Bz];by_cases h:p.1=f<;>simp[h]
theorem lr{n:Nat}:∀(ps:SD Lf) (e:SD Int),e.length=n->(∀p∈ps,Okl n p)->(ps.foldl dy e).length=n/\∀i:Nat,(ps.foldl dy e).getD i 0=e.getD i 0+gC ps (1+(i:Int))-gD ps (1+(i:Int))
 |[],e,he,_=>{he,λi=>by simp[gC,gD]}
 |p::ps,e,he,h=>by
  rw[CH];have{h1,h2}:=lr ps (dy e p) (by rw[IF];show he) λq hq=>h q (by simp[hq]);show{h1,λi=>?_};rw[h2 i,IG he (h p (by simp)) i,IH,II];lia
theorem lu(n:Nat)(ps:SD Lf)(h:∀p∈ps,Okl n p):(bF n ps).length=n:=(lr ps _ (by simp) h).1
def back(xs:SD Int):Lf:=(xs.getD 0 0,xs.getD 1 0,xs.getD 2 0)
def bY(p:Lf):SD Int:=[p.1,p.2.1,p.2.2]
def vN(p:Lf):back (bY p)=p:=rfl
def gF(L:Nat->Int)(p:Int×Int):Nat->Int:=λt=>if L t=L (p.2-1).toNat then L (p.1-1).toNat else L t
def iu(ps:SD (Int×Int)):Nat->Int:=ps.foldl gF λt=>1+(t:Int)
def Okp(d:Nat)(p:Int×Int):Prop:=1<=p.1/\p.1<=d/\1<=p.2/\p.2<=d
def pV(d:Nat)(L:Nat->Int):SD Nat:=(List.range d).filter λt=>decide (L t=1+(t:Int))
def lw(ps:SD Lf):SD (Int×Int):=ps.map λp=>(p.1,p.2.1)
theorem IJ(h:∀p∈ps,Okl d p):∀p∈lw ps,Okp d p:=λp hp=>by
 have{q,hq,0}:=Ai.mp hp;show h q hq
def pW(h:i<ks.length):(ks.map V.int)[i]? =some (.int (ks.getD i 0)):=by rw[AD,A2 h];simp[List.getD,h]
def map_set{l:SD Int}{i:Nat}{v:Int}:(l.set i v).map V.int=(l.map V.int).set i (.int v):=by rw[List.map_set]
def lf(p:Lf):D:=tI (bY p)
def lfs(ps:SD Lf):D:= .l (ps.map lf)
def fX(h:Is H (lf p) v):∃a,v=.ref a/\H a=some (.tup [.int p.1,.int p.2.1,.int p.2.2]):=bP h
def jK(h:H a=some (.tup [.int p.1,.int p.2.1,.int p.2.2])):Is H (lf p) (.ref a):=fk (xs:=bY p) h
def vO(ps:SD Lf):lfs ps=.l ((ps.map bY).map tI):=by unfold lfs;rw[BC];rfl
def av(H H':Hp):Prop:=∀a xs,H a=some (.tup xs)->H' a=some (.tup xs)
def av.of_same(s:ae H H'):av H H':=λa xs e=>s _ _ e
def av.trans(s:av H H')(t:av H' H''):av H H'':=λa xs e=>t _ _ (s _ _ e)
theorem av.upd{H:Hp}{b:Sx}{zs ys:SD V}(hb:H b=some (.lst zs)):av H (L2.upd H b (.lst ys)):=λa xs e=>by
 rw[au (by rintro rfl;rw[hb] at e;cases e)];show e
theorem lx{H H':Hp}(t:av H H'):∀{ps:SD Lf}{vs:SD V},Iss H (ps.map lf) vs->Iss H' (ps.map lf) vs
 |[],_,h=>by rw[bn h];show ao
 |p::ps,_,h=>by
  have{u,us,0,h1,h2}:=aN h;have{a,0,ha}:=fX h1;show am (jK (t _ _ ha)) (lx t h2)
def bC(p q:Lf):Bool:=if p.1=q.1 then(if p.2.1=q.2.1 then decide (p.2.2<q.2.2) else decide (p.2.1<q.2.1)) else decide (p.1<q.1)
def gG:SD Lf->SD Lf->Bool
 |_,[]=>false
 |[],_::_=>true
 |x::xs,y::ys=>if x=y then gG xs ys else bC x y
def vP{q:Lf}{w:V}(h:Is H (lf p) v)(k:Is H (lf q) w):EqR K H 1 v w (decide (p=q)):=by
 have e:=h.eqr (K:=K) (n:=1) (by simp[lf,tI,bY,dep,df]) (by simp[lf,tI,bY,Kin,cG]) k;have:eqD (lf p) (lf q)=decide (p=q):=by
  have{a,b,c}:=p;have{d,e,f}:=q;simp[lf,tI,bY,eqD,de,Bool.and_assoc]
 rwa [this] at e
def IL{q:Lf}{w:V}(h:Is H (lf p) v)(k:Is H (lf q) w):LtR K H 1 v w (bC p q):=by
 have{a,0,ha}:=fX h;have{b,0,hb}:=fX k;have e:=LtR.tuples (K:=K) (H:=H) (d:=0) (a:=a) (b:=b) (λj=>if j=0 then decide (p.1=q.1) else if j=1 then decide (p.2.1=q.2.1) else decide (p.2.2=q.2.2)) (λj=>if j=0 then decide (p.1<q.1) else if j=1 then decide (p.2.1<q.2.1) else decide (p.2.2<q.2.2)) (SqT.of ha) (SqT.of hb) (λj x y hx hy=>?_) (λj x y hx hy _=>?_)
 .have e2:SeqAt.lex (λj=>if j=0 then decide (p.1=q.1) else if j=1 then decide (p.2.1=q.2.1) else decide (p.2.2=q.2.2)) (λj=>if j=0 then decide (p.1<q.1) else if j=1 then decide (p.2.1<q.2.1) else decide (p.2.2<q.2.2)) 3 3 3 0=bC p q:=by
   unfold bC;by_cases e0:p.1=q.1
   .by_cases e1:p.2.1=q.2.1
    .by_cases e2:p.2.2=q.2.2
     .simp[SeqAt.lex,e0,e1,e2]
     .simp[SeqAt.lex,e0,e1,e2]
    .simp[SeqAt.lex,e0,e1]
   .simp[SeqAt.lex,e0]
  show e2▸e
 .match j,hx,hy with
  |0,hx,hy=>cases hx;cases hy;show EqR.int 0 _ _
  |1,hx,hy=>cases hx;cases hy;show EqR.int 0 _ _
  |2,hx,hy=>cases hx;cases hy;show EqR.int 0 _ _
  |j+3,hx,_=>simp at hx
 .match j,hx,hy with
  |0,hx,hy=>cases hx;cases hy;show LtR.int 0 _ _
  |1,hx,hy=>cases hx;cases hy;show LtR.int 0 _ _
  |2,hx,hy=>cases hx;cases hy;show LtR.int 0 _ _
  |j+3,hx,_=>simp at hx
theorem vQ(p q:SD Lf):∀(k i:Nat),min p.length q.length-i=k->i<=min p.length q.length->SeqAt.lex (λj=>decide (p.getD j (0,0,0)=q.getD j (0,0,0))) (λj=>bC (p.getD j (0,0,0)) (q.getD j (0,0,0))) p.length q.length k i=gG (p.drop i) (q.drop i)
 |0,i,hk,hi=>by
  rw[SeqAt.lex];rcases(by lia:q.length=i\/(p.length=i/\i<q.length)) with e|⟨e,e2⟩
  .rw[Bk (l:=q) (by lia)];have:¬p.length<q.length:=by lia
   cases p.drop i<;>simp[gG,this]
  .rw[Bk (l:=p) (by lia),Al e2];have:p.length<q.length:=by lia
   simp[gG,this]
 |k+1,i,hk,hi=>by
  have h1:i<p.length:=by lia
  have h2:i<q.length:=by lia
  have g1:p.getD i (0,0,0)=p[i]:=by simp[List.getD,h1]
  have g2:q.getD i (0,0,0)=q[i]:=by simp[List.getD,h2]
  rw[SeqAt.lex,Al h1,Al h2,gG,g1,g2];by_cases e:p[i]=q[i]
  .rw[A6 (B4 e),A6 e];show vQ p q k (i+1) (by lia) (by lia)
  .rw[A5 (by simpa using e),A5 e]
def IM{p q:SD Lf}(h:Iss H (p.map lf) vs)(k:Iss H (q.map lf) ws):
  (∀(j:Nat) x y,vs[j]? =some x->ws[j]? =some y->EqR K H 1 x y (decide (p.getD j (0,0,0)=q.getD j (0,0,0))))/\(∀(j:Nat) x y,vs[j]? =some x->ws[j]? =some y->decide (p.getD j (0,0,0)=q.getD j (0,0,0))=false->LtR K H 1 x y (bC (p.getD j (0,0,0)) (q.getD j (0,0,0)))):=by
 have go:∀(j:Nat) x y,vs[j]? =some x->ws[j]? =some y->Is H (lf (p.getD j (0,0,0))) x/\Is H (lf (q.getD j (0,0,0))) y:=λj x y hx hy=>by
  have{d,hd,h1}:=h.of_get hx;have{e,he,h2}:=k.of_get hy;rw[AD] at hd he;have{d',ON,0}:=AB.mp hd;have{e',OV,0}:=AB.mp he;rw[List.getD,ON,List.getD,OV];show{h1,h2}
 show{λj x y hx hy=>vP (go j x y hx hy).1 (go j x y hx hy).2,λj x y hx hy _=>IL (go j x y hx hy).1 (go j x y hx hy).2}
def IN{p q:SD Lf}{w:V}(h:Is H (lfs p) v)(k:Is H (lfs q) w):Ask K H v w (gG p q):=by
 have{a,vs,0,ha,h}:=aA h;have{b,ws,0,hb,k}:=aA k;have{e1,e2}:=IM (K:=K) h k;show{a,b,vs,ws,(1),2,SqL.of ha,SqL.of hb,5,e1,e2,?_};rw[h.length,k.length,A1,A1,vQ p q _ 0 (DW _) (AO _),CB,CB]
def nw(H0 H:Hp):Hp:=λb=>match H0 b with|some (.lst _)=>none|_=>H b
theorem bx{H0:Hp}:ae (nw H0 H) H:=λb o e=>by
 unfold nw at e;split at e
 .cases e
 .show e
theorem fB{H0:Hp}(s:ae H H'):ae (nw H0 H) (nw H0 H'):=λb o e=>by
 unfold nw at e⊢;split at e
 .cases e
 .show s _ _ e
theorem iw{H0 H1:Hp}(s:ae H0 H1):ae (nw H1 H) (nw H0 H):=λb o e=>by
 unfold nw at e⊢;split at e
 .cases e
 .rename_i h;split
  .rename_i xs h0;show absurd (s _ _ h0) (h xs)
  .show e
theorem ix{H0 H1:Hp}{xs:SD V}(s:ae H0 H1)(ha:H1 a=some (.lst xs)):ae (nw H1 H) (hid (nw H0 H) a):=λb o e=>by
 have hb:b≠a:=by
  rintro rfl;unfold nw at e;rw[ha] at e;cases e
 rw[dM hb];show iw s b o e
def bZ{H0:Hp}(h:H0 a=none):nw H0 H a=H a:=by unfold nw;rw[h]
def lz{H0:Hp}{xs:SD V}(s:ae H0 H)(h:H a=some (.tup xs)):nw H0 H a=some (.tup xs):=by
 unfold nw;split
 .rename_i ys e;rw[s _ _ e] at h;cases h
 .show h
def IP{H0:Hp}(s:ae H0 H)(h:Iss H (ps.map lf) vs):Iss (nw H0 H) (ps.map lf) vs:=lx (λa xs e=>lz s e) h
def vR{H0:Hp}(s:ae H0 H)(n:H0 a=none)(h:Is H (lfs ps) (.ref a)):Is (nw H0 H) (lfs ps) (.ref a):=by
 have{_,vs,e,ha,hi}:=aA h;cases e;show aD (by rw[bZ n];show ha) (IP s hi)
def Acc(H0 H:Hp)(a:Sx)(xs:SD D):Prop:=∃vs,H a=some (.lst vs)/\Iss (hid (nw H0 H) a) xs vs
def Acc.start{H0:Hp}(h:H a=some (.lst [])):Acc H0 H a []:={[],h,ao}
def Acc.mono{H0 H H':Hp}{a:Sx}{xs:SD D}(s:ae H H')(g:Acc H0 H a xs):Acc H0 H' a xs:=by have{vs,e,h}:=g;show{vs,s _ _ e,h.mono (dh (fB s))}
def vS{H0:Hp}:hid (nw H0 (upd H a o)) a=hid (nw H0 H) a:=by
 funext b
 unfold hid;split
 .rfl
 .rename_i h;unfold nw;rw[au h]
theorem Acc.add{H0 H1:Hp}{xs:SD D}{x:D}(s01:ae H0 H1)(Qv:ae H1 H2)(ha:H1 a=some (.lst vs))(h:Iss (hid (nw H0 H1) a) xs vs)(k:Is (nw H1 H2) x v):Acc H0 (upd H2 a (.lst (vs++[v]))) a (xs++[x]):=
 {vs++[v],ak,by rw[vS];show(h.mono (dh (fB Qv))).append (am (k.mono (ix s01 ha)) ao)}
theorem Acc.adds{H0 H1:Hp}{xs ys:SD D}{us:SD V}(s01:ae H0 H1)(Qv:ae H1 H2)(ha:H1 a=some (.lst vs))(h:Iss (hid (nw H0 H1) a) xs vs)(k:Iss (nw H1 H2) ys us):Acc H0 (upd H2 a (.lst (vs++us))) a (xs++ys):=
 {vs++us,ak,by rw[vS];show(h.mono (dh (fB Qv))).append (k.mono (ix s01 ha))}
def Acc.is{H0:Hp}{xs:SD D}(n:H0 a=none)(g:Acc H0 H a xs):Is (nw H0 H) (.l xs) (.ref a):=by have{_,e,h}:=g;show aD (by rw[bZ n];show e) (h.mono m3)
def cj(p:Lf):Int:=(p.2.1-p.1)*p.2.2-1
def eR(f j:Int)(n:Nat)(sp:Int):SD Lf:=((List.range n).map λw:Nat=>((f,j,1+(w:Int)):Lf)).filter λp=>decide (cj p<=sp)
def dz(f:Int)(m n:Nat)(sp:Int):SD Lf:=(List.range m).flatMap λi:Nat=>eR f (f+1+(i:Int)) n sp
def cJ:Nat->SD Lf->Int->Int->SD (SD Lf)
 |0,_,_,_=>[[]]
 |n+1,ls,wt,sp=>[[]]++(List.range ls.length).flatMap λi=>match ls[i]? with
  |none=>[]
  |some p=>if p.2.2<=wt/\cj p<=sp then(cJ n (ls.drop i) (wt-p.2.2) (sp-cj p)).map (p:: ·) else []
def dA(n:Nat)(ls:SD Lf)(wt sp:Int)(i:Nat):SD (SD Lf):=match ls[i]? with
  |none=>[]
  |some p=>if p.2.2<=wt/\cj p<=sp then(cJ n (ls.drop i) (wt-p.2.2) (sp-cj p)).map (p:: ·) else []
def pX(n:Nat)(ls:SD Lf)(wt sp:Int):cJ (n+1) ls wt sp=[[]]++(List.range ls.length).flatMap (dA n ls wt sp):=rfl
def thF(d f:Nat)(ps:SD Lf):Int:=(bF d ps).getD (f-1) 0
def fC(d f:Nat)(th sp:Int)(ls:SD Lf):Int:=sp-(ls.map cj).sum-(th-(ls.map (·.2.2)).sum)*((d:Int)-(f:Int))
def gH(d f:Nat)(th sp:Int):SD (SD Lf):=cJ 8 (dz f (d-f) th.toNat sp) th sp
def eu(d f:Nat)(ps:SD Lf)(sp:Int):SD (SD Lf×Int):=((gH d f (thF d f ps) sp).filter λls=>decide (0<=fC d f (thF d f ps) sp ls)).map λls=>(ps++ls,fC d f (thF d f ps) sp ls)
def bR(d:Nat)(k:Int):Nat->SD (SD Lf×Int)
 |0=>[([],k)]
 |f+1=>(bR d k f).flatMap λx=>eu d (f+1) x.1 x.2
def dk(d k:Nat):SD (SD Lf):=((bR d k d).filter λx=>decide (x.2=0)).map (·.1)
def jL(d:Nat)(p:Lf):Bool:=decide (1<=p.1)&&decide (p.1<p.2.1)&&decide (p.2.1<=d)&&decide (1<=p.2.2)&&decide (p.2.2<=8)
def stB(d f:Nat)(x:SD Lf×Int):Bool:=x.1.all (jL d)&&decide (x.1.length<=20)&&decide (0<=thF d (f+1) x.1)&&decide (thF d (f+1) x.1<8)&&decide (0<=x.2)&&decide (x.2<=6)&&decide ((gH d (f+1) (thF d (f+1) x.1) x.2).length<=200)
def okB(d k:Nat):Bool:=(List.range d).all (λf=>(bR d k f).all (stB d f)&&decide ((bR d k (f+1)).length<=900))&&(bR d k d).all λx=>decide (x.1.length<=20)
def Wide(d k:Nat):Prop:=1<=d/\((d<=4/\k<=6)\/(d=5/\k<=3))
def vT(f j:Int)(n:Nat)(sp:Int):eR f j (n+1) sp=eR f j n sp++(if cj (f,j,1+(n:Int))<=sp then [(f,j,1+(n:Int))] else []):=by
 unfold eR;rw[B0,A7,Bi];by_cases h:cj (f,j,1+(n:Int))<=sp<;>simp[h]
def vU(f:Int)(m n:Nat)(sp:Int):dz f (m+1) n sp=dz f m n sp++eR f (f+1+(m:Int)) n sp:=by
 unfold dz;rw[B0,Ax];simp
def vV(f j:Int)(n:Nat)(sp:Int):(eR f j n sp).length<=n:=by
 unfold eR;show BA (Bp _ _) (by simp)
theorem pY(f:Int)(n:Nat)(sp:Int):∀m,(dz f m n sp).length<=m*n
 |0=>by simp[dz]
 |m+1=>by
  rw[vU,AA,Ck];have:=pY f n sp m;have:=vV f (f+1+(m:Int)) n sp;lia
def pZ{f:Int}(h:p∈dz f m n sp):p.1=f/\f<p.2.1/\p.2.1<=f+m/\1<=p.2.2/\p.2.2<=n:=by
 unfold dz eR at h;simp only[BB,AY,Ct,Ai] at h;have{i,hi,{w,hw,0},_}:=h;show{0,?_,?_,?_,?_}
 .change f<f+1+(i:Int);lia
 .change f+1+(i:Int)<=f+m;lia
 .change 1<=1+(w:Int);lia
 .change 1+(w:Int)<=n;lia
def gI{α:Type}(g:Nat->SD α)(i:Nat):(List.range (i+1)).flatMap g=(List.range i).flatMap g++g i:=by
 rw[B0,Ax];simp
theorem lA{α:Type}(g:Nat->SD α):∀{m i:Nat},i<m->((List.range i).flatMap g).length+(g i).length<=((List.range m).flatMap g).length
 |0,i,h=>absurd h (by lia)
 |m+1,i,h=>by
  rw[gI,AA];by_cases e:i=m
  .rw[e];show A9 _
  .have:=lA g (m:=m) (i:=i) (by lia);lia
def IQ{ls:SD Lf}{wt:Int}{x:SD Lf}(h:x∈cJ (n+1) ls wt sp):x=[]\/∃(i:Nat) (p:Lf) (r:SD Lf),ls[i]? =some p/\p.2.2<=wt/\cj p<=sp/\r∈cJ n (ls.drop i) (wt-p.2.2) (sp-cj p)/\x=p::r:=by
 rw[pX] at h;rcases BP.mp h with h|h
 .show .inl (Ag.mp h)
 .have{i,hi,h}:=BB.mp h;unfold dA at h;split at h
  .cases h
  .rename_i p hp;split at h
   .rename_i c;have{r,hr,0}:=Ai.mp h;show .inr {i,p,r,hp,c.1,c.2,hr,0}
   .cases h
theorem p6:∀{n:Nat}{ls:SD Lf}{wt sp:Int}{x:SD Lf},(∀p∈ls,1<=p.2.2)->0<=wt->x∈cJ n ls wt sp->x.length<=n/\0<=(x.map (·.2.2)).sum/\(x.map (·.2.2)).sum<=wt/\∀p∈x,p∈ls
 |0,ls,wt,sp,x,_,h0,h=>by
  rw[cJ] at h;rw[Ag.mp h];show{7,7,by simpa using h0,λp hp=>nomatch hp}
 |n+1,ls,wt,sp,x,hw,h0,h=>by
  rcases IQ h with rfl|⟨i,p,r,hp,c1,c2,hr,rfl⟩
  .show{7,7,by simpa using h0,λp hp=>nomatch hp}
  .have pm:=AH hp;have p1:=hw p pm;have{a,b,c,d}:=p6 (λq hq=>hw q (DQ hq)) (by lia) hr;show{by rw[AW];lia,?_,?_,λq hq=>?_}
   .rw[AG,Ay];lia
   .rw[AG,Ay];lia
   .rcases AJ.mp hq with rfl|hq
    .show pm
    .show DQ (d q hq)
def p7 :jL d p=true↔1<=p.1/\p.1<p.2.1/\p.2.1<=d/\1<=p.2.2/\p.2.2<=8:=by
 unfold jL;simp only[AM,Ar];constructor
 .rintro⟨⟨⟨⟨a,b⟩,c⟩,d⟩,e⟩;show{a,b,c,d,e}
 .rintro⟨a,b,c,d,e⟩;show{{{{a,b},c},d},e}
def IR{f:Nat}{x:SD Lf×Int}(h:stB d f x=true):(∀p∈x.1,jL d p=true)/\x.1.length<=20/\0<=thF d (f+1) x.1/\thF d (f+1) x.1<8/\0<=x.2/\x.2<=6/\(gH d (f+1) (thF d (f+1) x.1) x.2).length<=200:=by
 unfold stB at h;simp only[AM,Ar,AX] at h;have{{{{{{a,b},c},d},e},f},g}:=h;show{a,b,c,d,e,f,g}
def IS{k:Nat}(h:okB d k=true):(∀f<d,(∀x∈bR d k f,stB d f x=true)/\(bR d k (f+1)).length<=900)/\∀x∈bR d k d,x.1.length<=20:=by
 unfold okB at h;simp only[AM,Ar,AX,AY] at h;show h
def IT(p q:Lf):ltI (bY p) (bY q)=bC p q:=by
 unfold bC ltI bY;simp only[cH,AW,CG];split
 .split
  .split
   .rename_i h;simp[h]
   .rfl
  .rfl
 .rfl
def Srt(ps:SD Lf):Prop:=ps.Pairwise λa b=>bC b a=false
structure Snd(d:Nat)(ps:SD Lf):Prop where
 ok:∀p∈ps,1<=p.1/\p.1<p.2.1/\p.2.1<=d/\1<=p.2.2
 nn:∀i:Nat,i<d->0<=1+gC ps (1+(i:Int))-gD ps (1+(i:Int))
 so:Srt ps
def eF(ps:SD Lf)(i:Nat):Int:=1+gC ps (1+(i:Int))-gD ps (1+(i:Int))
def IU(h:∀p∈ps,Okl d p)(hi:i<d):(bF d ps).getD i 0=eF ps i:=by
 have:=(lr ps (List.replicate d 1) (by simp) h).2 i;unfold bF;rw[this];unfold eF;have:(List.replicate d (1:Int)).getD i 0=1:=by simp[List.getD,hi]
 rw[this]
def hV(d:Nat)(ps:SD Lf):Prop:=(∀p∈ps,1<=p.1/\p.1<p.2.1/\p.2.1<=d/\1<=p.2.2)/\∀i:Nat,i<d->0<=eF ps i
theorem hV.okl(h:hV d ps):∀p∈ps,Okl d p:=λp hp=>by
 have{a,b,c,_}:=h.1 p hp;show{a,4,4,c}
def fY(x:Lf):SD Lf->SD Lf
 |[]=>[x]
 |y::ys=>if bC x y then x::y::ys else if x=y then y::ys else y::fY x ys
def dB(xs:SD Lf):SD Lf:=xs.foldr fY []
def fZ(d:Nat)(es:SD Int)(i:Nat):SD Lf:=List.replicate (es.getD i 0).toNat (1+(i:Int),(d:Int)+1,1)
def fD(d:Nat)(es:SD Int):SD Lf:=(List.range d).flatMap (fZ d es)
def p8{q:Lf}:bC p q=true↔p.1<q.1\/(p.1=q.1/\(p.2.1<q.2.1\/(p.2.1=q.2.1/\p.2.2<q.2.2))):=by
 unfold bC;by_cases e0:p.1=q.1
 .by_cases e1:p.2.1=q.2.1
  .simp[e0,e1]
  .simp[e0,e1]
 .simp[e0]
def lB :¬bC p p=true:=by rw[p8];lia
def vW{q r:Lf}(h:bC p q=true)(k:bC q r=true):bC p r=true:=by rw[p8] at*;lia
def vX{q:Lf}(h:¬bC p q=true)(k:p≠q):bC q p=true:=by
 rw[p8] at*
 have{a,b,c}:=p;have{d,e,f}:=q;simp only[ne_eq,Prod.mk.injEq,not_and] at*
 lia
theorem p9{x z:Lf}:∀{ys:SD Lf},z∈fY x ys↔z=x\/z∈ys
 |[]=>by simp[fY]
 |y::ys=>by
  unfold fY;split
  .simp
  .split
   .rename_i e;subst e;simp
   .simp[p9 (ys:=ys)];constructor
    .rintro(h|h|h)
     .show .inr (.inl h)
     .show .inl h
     .show .inr (.inr h)
    .rintro(h|h|h)
     .show .inr (.inl h)
     .show .inl h
     .show .inr (.inr h)
theorem vY{x:Lf}:∀{ys:SD Lf},(ys.Pairwise λa b=>bC a b=true)->(fY x ys).Pairwise λa b=>bC a b=true
 |[],_=>by simp[fY]
 |y::ys,h=>by
  unfold fY;split
  .rename_i e;show List.Pairwise.cons (λz hz=>?_) h;rcases AJ.mp hz with rfl|hz
   .show e
   .show vW e ((CV.mp h).1 z hz)
  .split
   .show h
   .rename_i e1 e2;show List.Pairwise.cons (λz hz=>?_) (vY (CV.mp h).2);rcases p9.mp hz with rfl|hz
    .show vX e1 e2
    .show(CV.mp h).1 z hz
theorem qc{z:Lf}:∀{xs:SD Lf},z∈dB xs↔z∈xs
 |[]=>by simp[dB]
 |x::xs=>by
  have:=qc (z:=z) (xs:=xs);unfold dB at this⊢;rw[List.foldr_cons,p9,this,AJ]
theorem qe:∀(xs:SD Lf),(dB xs).Pairwise λa b=>bC a b=true
 |[]=>by simp[dB]
 |x::xs=>by
  have:=qe xs;unfold dB at this⊢;rw[List.foldr_cons];show vY this
theorem vZ:∀{xs ys:SD Lf},(xs.Pairwise λa b=>bC a b=true)->(ys.Pairwise λa b=>bC a b=true)->(∀z,z∈xs↔z∈ys)->xs=ys
 |[],[],_,_,_=>rfl
 |[],y::ys,_,_,h=>absurd ((h y).mpr (by simp)) (by simp)
 |x::xs,[],_,_,h=>absurd ((h x).mp (by simp)) (by simp)
 |x::xs,y::ys,h1,h2,h=>by
  have a1:=CV.mp h1;have a2:=CV.mp h2;have e:x=y:=by
   show Classical.byContradiction λne=>?_;have m1:x∈ys:=by rcases AJ.mp ((h x).mp (by simp)) with e|e;show absurd e ne;show e
   have m2:y∈xs:=by rcases AJ.mp ((h y).mpr (by simp)) with e|e;show absurd e.symm ne;show e
   show lB (vW (a1.1 y m2) (a2.1 x m1))
  subst e;have:xs=ys:=vZ a1.2 a2.2 λz=>by
   have hz:=h z;rw[AJ,AJ] at hz;constructor
   .intro m;rcases hz.mp (.inr m) with e|e
    .subst e;show absurd (a1.1 z m) lB
    .show e
   .intro m;rcases hz.mpr (.inr m) with e|e
    .subst e;show absurd (a2.1 z m) lB
    .show e
  rw[this]
def IV{q:Lf}(h:bY p=bY q):p=q:=by rw[<-vN p,<-vN q,h]
def IW{N2:SD (SD Int)}(nd:N2.Nodup)(mem:∀z,z∈N2↔z∈ps.map bY)(so:∀i j,i<j->j<N2.length->ltI (N2.getD j []) (N2.getD i [])=false):N2=(dB ps).map bY:=by
 have{qs,e,hq}:=nJ (f:=bY) (P:=λp=>p∈ps) N2 λv hv=>by
  have{p,hp,0}:=Ai.mp ((mem v).mp hv);show{p,hp,0}
 subst e;have:qs=dB ps:=by
  show vZ ?_ (qe ps) λz=>?_
  .rw[List.pairwise_iff_getElem];intro i j hi hj Ox;have h1:=so i j Ox (by rw[A1];show hj);rw[A',A',AD,AD,A2 hi,A2 hj] at h1;simp only[DT,Option.getD_some] at h1;rw[IT] at h1;show vX (by rw[h1];simp) λe=>?_;unfold List.Nodup at nd;rw[List.pairwise_map,List.pairwise_iff_getElem] at nd;show nd i j hi hj Ox (by rw[e])
  .rw[qc];constructor
   .show hq z
   .intro hz;have{q,Rc,e}:=Ai.mp ((mem (bY z)).mpr (List.mem_map_of_mem hz));rw[<-IV e];show Rc
 rw[this]
def chF(n:Int):Nat->Int
 |0=>1
 |k+1=>chF n k*(n-(k:Int))/((k:Int)+1)
def chB:Bool:=(List.range 16).all λn=>(List.range (n+1)).all λk=>decide (0<=chF (n:Int) k)&&decide (chF (n:Int) k<=6435)
def IX:chB=true:=by ac_nf
def v0{n:Int}{k:Nat}(h1:(k:Int)<=n)(h2:n<=15):0<=chF n k/\chF n k<=6435:=by
 have{m,0}:=BS (show 0<=n by lia);have h:=IX;unfold chB at h;rw[AX] at h;have h:=h m (AY.mpr (by lia));rw[AX] at h;have h:=h k (AY.mpr (by lia));simpa using h
def wmF(t:SD Int)(p:Nat)(m:Int):SD Int:=t.set p (t.getD p 0+m)
def eS(t:SD Int)(p:Nat)(m:Int):(wmF t p m).length=t.length:=by unfold wmF;rw[C6]
def lC{t:SD Int}{p:Nat}{m:Int}(h:p<t.length):(wmF t p m).getD i 0=t.getD i 0+if p=i then m else 0:=by
 unfold wmF;rw[A',List.getElem?_set];by_cases e:p=i
 .subst e;simp[h]
 .simp[e]
def IY{t:SD Int}{p:Nat}{x:Int}(h:p<t.length):t.take p++[x]++t.drop (p+1)=t.set p x:=by
 rw[List.set_eq_take_append_cons_drop,A6 h];simp
def spR:Nat->Nat->SD (SD Nat)
 |0,a=>[[a]]
 |g+1,a=>(List.range (a+1)).flatMap λh=>(spR g (a-h)).map (h:: ·)
def ck(t:SD Int):Nat->SD Nat->Int
 |_,[]=>1
 |p,s::r=>chF (t.getD p 0+(s:Int)) s*ck t (p+1) r
def cu(t:SD Int):Nat->SD Nat->SD Int
 |_,[]=>t
 |p,s::r=>cu (wmF t p (s:Int)) (p+1) r
theorem v9{t:SD Int}{m:Int}{q:Nat}(hq:q<t.length):∀{r:SD Nat}{p:Nat},q<p->ck (wmF t q m) p r=ck t p r
 |[],p,_=>rfl
 |s::r,p,h=>by
  unfold ck;rw[lC hq,A5 (by lia),v9 hq (r:=r) (by lia)];simp
def pbF:Nat->SD Int->Nat->Nat->SD (SD Int×Int)
 |0,t,p,a=>[(wmF t p (a:Int),chF (t.getD p 0+(a:Int)) a)]
 |g+1,t,p,a=>(List.range (a+1)).flatMap λh:Nat=>(pbF g (wmF t p (h:Int)) (p+1) (a-h)).map λx=>(x.1,chF (t.getD p 0+(h:Int)) h*x.2)
theorem wb{α β:Type}{f g:α->SD β}:∀{xs:SD α},(∀x∈xs,f x=g x)->xs.flatMap f=xs.flatMap g
 |[],_=>rfl
 |x::xs,h=>by rw[Bc,Bc,h x (by simp),wb λy hy=>h y (by simp[hy])]
theorem wd:∀{g:Nat}{t:SD Int}{p a:Nat},p+g<t.length->pbF g t p a=(spR g a).map λr=>(cu t p r,ck t p r)
 |0,t,p,a,_=>by simp[pbF,spR,cu,ck]
 |g+1,t,p,a,h=>by
  unfold pbF spR;rw[List.map_flatMap];show wb λx _=>?_;rw[wd (by rw[eS];lia),BC,BC];show As λr _=>?_;simp only[Function.comp,cu,ck];rw[v9 (by lia) (BQ p)]
theorem qf:∀{g a:Nat}{r:SD Nat},r∈spR g a->r.length=g+1/\r.sum=a
 |0,a,r,h=>by simp[spR] at h;subst h;simp
 |g+1,a,r,h=>by
  unfold spR at h;have{x,hx,h}:=BB.mp h;have{r',h',0}:=Ai.mp h;have hx:=AY.mp hx;have{e1,e2}:=qf h';simp[e1,e2];lia
theorem lD:∀{t:SD Int}{p:Nat}{m:Int},p<t.length->(wmF t p m).sum=t.sum+m
 |[],p,m,h=>absurd h (by simp)
 |x::t,0,m,_=>by simp[wmF];lia
 |x::t,p+1,m,h=>by
  have:=lD (t:=t) (p:=p) (m:=m) (by simpa using h);unfold wmF at this⊢;simp only[List.set_cons_succ,Ay,List.getD_cons_succ] at this⊢;lia
theorem we:∀{r:SD Nat}{t:SD Int}{p:Nat},p+r.length<=t.length->(∀i:Nat,0<=t.getD i 0)->(cu t p r).length=t.length/\(cu t p r).sum=t.sum+(r.sum:Nat)/\∀i:Nat,0<=(cu t p r).getD i 0
 |[],t,p,_,h=>by simpa[cu] using h
 |s::r,t,p,hl,h=>by
  have hp:p<t.length:=by simp at hl;lia
  have{e1,e2,e3}:=we (r:=r) (t:=wmF t p (s:Int)) (p:=p+1) (by rw[eS];simp at hl;lia) (λi=>by rw[lC hp];have:=h i;split<;>lia)
  unfold cu;show{by rw[e1,eS],?_,e3};rw[e2,lD hp,Ay];lia
theorem iy:∀{t:SD Int},(∀i:Nat,0<=t.getD i 0)->0<=t.sum/\∀i:Nat,t.getD i 0<=t.sum
 |[],_=>by simp
 |x::t,h=>by
  have hx:=h 0;have{e1,e2}:=iy (t:=t) λi=>by have:=h (i+1);simpa using this
  simp only[List.getD_cons_zero] at hx;rw[Ay];show{4,λi=>?_};cases i with
  |zero=>simp;lia
  |succ i=>have:=e2 i;rw[List.getD_cons_succ];lia
theorem wg:∀{r:SD Nat}{t:SD Int}{p:Nat},(∀i:Nat,0<=t.getD i 0)->t.sum+(r.sum:Nat)<=15->0<=ck t p r/\ck t p r<=6435^r.length
 |[],t,p,_,_=>by simp[ck]
 |s::r,t,p,h,hs=>by
  rw[Ay] at hs;have{e1,e2}:=iy h;have a1:=e2 p;have a2:=h p;have{c1,c2}:=v0 (n:=t.getD p 0+(s:Int)) (k:=s) (by lia) (by lia);have{q1,q2}:=wg (r:=r) (t:=t) (p:=p+1) h (by lia);unfold ck;show{Ch c1 q1,?_};rw[AW,Int.pow_succ,Int.mul_comm];show DD q2 c2 c1 (Int.pow_nonneg (by decide))
abbrev Tab:=SD (SD Int×Int)
def bD(D:Tab)(g:SD Int->Int):Int:=(D.map λx=>x.2*g x.1).sum
def cX(D:Tab)(k:SD Int):Int:=((D.find? λx=>decide (x.1=k)).map (·.2)).getD 0
def eT(D:Tab)(k:SD Int)(v:Int):Tab:=if(D.any λx=>decide (x.1=k))=true then D.map (λx=>if x.1=k then(x.1,v) else x) else D++[(k,v)]
def iz(D:Tab)(k:SD Int)(v:Int):Tab:=eT D k (cX D k+v)
def wj(D:Tab)(k:SD Int)(v:Int):(eT D k v).map (·.1)=if k∈D.map (·.1) then D.map (·.1) else D.map (·.1)++[k]:=by
 unfold eT;have:(D.any λx=>decide (x.1=k))=true↔k∈D.map (·.1):=by
  rw[List.any_eq_true,Ai];simp
 by_cases h:k∈D.map (·.1)
 .rw[A6 h,A6 (this.mpr h),BC];show As λx _=>?_;simp only[Function.comp];split<;>rfl
 .rw[A5 h,A5 (λz=>h (this.mp z)),A7];rfl
def IZ{D:Tab}{k:SD Int}{v:Int}{g:SD Int->Int}(h:k∉D.map (·.1)):bD (eT D k v) g=bD D g+v*g k/\cX D k=0:=by
 have hn:∀x∈D,x.1≠k:=λx hx e=>h (Ai.mpr {x,hx,e});have e1:(D.any λx=>decide (x.1=k))=false:=by
  rw[List.any_eq_false];intro x hx;simpa using hn x hx
 have e2:D.find? (λx=>decide (x.1=k))=none:=by
  rw[List.find?_eq_none];intro x hx;simpa using hn x hx
 unfold eT cX bD;rw[e1,e2];simp
theorem wn:∀{D:Tab}{k:SD Int}{v:Int}{g:SD Int->Int},(D.map (·.1)).Nodup->k∈D.map (·.1)->bD (D.map λx=>if x.1=k then(x.1,v) else x) g=bD D g+(v-cX D k)*g k
 |[],_,_,_,_,h=>by simp at h
 |x::D,k,v,g,nd,h=>by
  rw[AG,BM] at nd;by_cases e:x.1=k
  .subst e;have hn:∀y∈D,y.1≠x.1:=λy hy e=>nd.1 (Ai.mpr {y,hy,e});have e1:(D.map λy=>if y.1=x.1 then(y.1,v) else y)=D:=by
    conv=>rhs;rw[<-List.map_id D]
    show As λy hy=>?_;rw[A5 (hn y hy)];rfl
   have e2:cX (x::D) x.1=x.2:=by simp[cX]
   rw[AG,e1,e2];simp only[bD,C9,AG,Ay];rw[Int.sub_mul];lia
  .have hk:k∈D.map (·.1):=by
    rw[AG,AJ] at h;rcases h with h|h
    .show absurd h.symm e
    .show h
   have ih:=wn (g:=g) (v:=v) nd.2 hk;have e2:cX (x::D) k=cX D k:=by simp[cX,Bj,e]
   rw[e2,AG];simp only[bD,AG,Ay,A5 e] at ih⊢;lia
def I0{D:Tab}(nd:(D.map (·.1)).Nodup)(k:SD Int)(v:Int)(g:SD Int->Int):bD (iz D k v) g=bD D g+v*g k:=by
 unfold iz;by_cases h:k∈D.map (·.1)
 .have e:(D.any λx=>decide (x.1=k))=true:=by
   rw[List.any_eq_true];have{x,hx,e}:=Ai.mp h;show{x,hx,B4 e}
  unfold eT;rw[A6 e,wn nd h];rw[show cX D k+v-cX D k=v by lia]
 .have{e1,e2}:=IZ (v:=cX D k+v) (g:=g) h;rw[e1,e2];simp
def I8{D:Tab}(nd:(D.map (·.1)).Nodup)(k:SD Int)(v:Int):((eT D k v).map (·.1)).Nodup:=by
 rw[wj];split
 .show nd
 .rename_i h;rw[DA];show{nd,7,λa ha b hb=>by simp at hb;subst hb;show λe=>h (e▸ha)}
structure TabOk(d n:Nat)(D:Tab):Prop where
 nd:(D.map (·.1)).Nodup
 key:∀x∈D,x.1.length=d/\x.1.sum=(n:Int)/\∀i:Nat,0<=x.1.getD i 0
def TabOk.add{D:Tab}(h:TabOk d n D){k:SD Int}{v:Int}(hk:k.length=d/\k.sum=(n:Int)/\∀i:Nat,0<=k.getD i 0):TabOk d n (iz D k v):=by
 show{I8 h.nd _ _,λx hx=>?_};have:x.1∈(eT D k (cX D k+v)).map (·.1):=List.mem_map_of_mem hx;rw[wj] at this;have:x.1∈D.map (·.1)\/x.1=k:=by
  split at this
  .show .inl this
  .rcases BP.mp this with h|h
   .show .inl h
   .show .inr (by simpa using h)
 rcases this with h'|h'
 .have{y,hy,e}:=Ai.mp h';rw[<-e];show h.key y hy
 .rw[h'];show hk
def inP(t:SD Int)(v:Int)(p:Nat)(rs:SD (SD Nat))(acc:Tab):Tab:=rs.foldl (λacc r=>iz acc (cu t p r) (v*ck t p r)) acc
def stP(p:Nat)(rs:SD (SD Nat))(xs acc:Tab):Tab:=xs.foldl (λacc x=>inP x.1 x.2 p rs acc) acc
def iA(g:SD Int->Int)(p:Nat)(rs:SD (SD Nat))(t:SD Int):Int:=(rs.map λr=>ck t p r*g (cu t p r)).sum
def qg(p d n n':Nat)(rs:SD (SD Nat)):Prop:=∀r∈rs,p+r.length<=d/\n+r.sum=n'
def I9{n' p:Nat}{r:SD Nat}{t:SD Int}(h:t.length=d/\t.sum=(n:Int)/\∀i:Nat,0<=t.getD i 0)(hr:p+r.length<=d/\n+r.sum=n'):(cu t p r).length=d/\(cu t p r).sum=(n':Int)/\∀i:Nat,0<=(cu t p r).getD i 0:=by
 have{e1,e2,e3}:=we (r:=r) (t:=t) (p:=p) (by rw[h.1];show hr.1) h.2.2;show{by rw[e1,h.1],by rw[e2,h.2.1,<-hr.2];lia,e3}
theorem qh{d n n' p:Nat}{t:SD Int}{v:Int}(h:t.length=d/\t.sum=(n:Int)/\∀i:Nat,0<=t.getD i 0)(g:SD Int->Int):∀{rs:SD (SD Nat)}{acc:Tab},qg p d n n' rs->TabOk d n' acc->TabOk d n' (inP t v p rs acc)/\bD (inP t v p rs acc) g=bD acc g+v*iA g p rs t
 |[],acc,_,ha=>by simp[inP,iA,ha]
 |r::rs,acc,hr,ha=>by
  have a1:=ha.add (v:=v*ck t p r) (I9 h (hr r (by simp)));have{b1,b2}:=qh (v:=v) h g (rs:=rs) (λr' h'=>hr r' (by simp[h'])) a1;show{b1,?_};change bD (inP t v p rs (iz acc (cu t p r) (v*ck t p r))) g=_;rw[b2,I0 ha.nd];simp only[iA,AG,Ay];rw[Int.mul_add,Int.mul_assoc];lia
theorem qi{d n n' p:Nat}{rs:SD (SD Nat)}(hr:qg p d n n' rs)(g:SD Int->Int):∀{xs acc:Tab},(∀x∈xs,x.1.length=d/\x.1.sum=(n:Int)/\∀i:Nat,0<=x.1.getD i 0)->TabOk d n' acc->TabOk d n' (stP p rs xs acc)/\bD (stP p rs xs acc) g=bD acc g+bD xs (iA g p rs)
 |[],acc,_,ha=>by simp[stP,bD,ha]
 |x::xs,acc,hx,ha=>by
  have{a1,a2}:=qh (v:=x.2) (hx x (by simp)) g hr ha;have{b1,b2}:=qi hr g (xs:=xs) (λy hy=>hx y (by simp[hy])) a1;show{b1,?_};change bD (stP p rs xs (inP x.1 x.2 p rs acc)) g=_;rw[b2,a2];simp only[bD,AG,Ay];lia
def TF(cnt:Lf->Nat):SD Lf->SD Int->Int
 |[],_=>1
 |m::ms,t=>iA (TF cnt ms) (m.1-1).toNat (spR (m.2.1-m.1-1).toNat (cnt m)) t
def hmF(d:Nat)(mk:SD Lf):Int:=TF (λm=>mk.count m) (dB mk) (List.replicate d 0)
def Ja(D:Tab):bD D (λ_=>1)=(D.map (·.2)).sum:=by
 unfold bD;congr 1
 show As λx _=>?_;change x.2*1=x.2;lia
def enc:SD Int->Nat
 |[]=>0
 |x::t=>x.toNat+16*enc t
theorem wo:∀{t:SD Int},(∀i:Nat,0<=t.getD i 0/\t.getD i 0<=15)->enc t<16^t.length
 |[],_=>by simp[enc]
 |x::t,h=>by
  have h0:=h 0;have ih:=wo (t:=t) λi=>by have:=h (i+1);simpa using this
  simp only[List.getD_cons_zero] at h0;unfold enc;rw[AW,Nat.pow_succ];lia
theorem wu:∀{t u:SD Int},t.length=u.length->(∀i:Nat,0<=t.getD i 0/\t.getD i 0<=15)->(∀i:Nat,0<=u.getD i 0/\u.getD i 0<=15)->enc t=enc u->t=u
 |[],[],_,_,_,_=>rfl
 |[],_::_,h,_,_,_=>absurd h (by simp)
 |_::_,[],h,_,_,_=>absurd h (by simp)
 |x::t,y::u,hl,ht,hu,e=>by
  have h0:=ht 0;have h1:=hu 0;simp only[List.getD_cons_zero] at h0 h1;unfold enc at e;have ih:=wu (t:=t) (u:=u) (by simpa using hl) (λi=>by have:=ht (i+1);simpa using this) (λi=>by have:=hu (i+1);simpa using this) (by lia);rw[ih,show x=y by lia]
theorem ww:∀(N:Nat) (xs:SD Nat),xs.Nodup->(∀x∈xs,x<N)->xs.length<=N
 |0,[],_,_=>A9 _
 |0,x::xs,_,h=>absurd (h x (by simp)) (by lia)
 |N+1,xs,nd,h=>by
  have h1:=ww N (xs.filter λx=>decide (x≠N)) (nd.filter _) λx hx=>by
   have{a,b}:=Ct.mp hx;have:=h x a;have:x≠N:=by simpa using b
   lia
  have h2:xs.length<=(xs.filter λx=>decide (x≠N)).length+1:=by
   clear h1 h;induction xs with
   |nil=>simp
   |cons y ys ih=>
    rw[BM] at nd;by_cases e:y=N
    .subst e;have:(ys.filter λx=>decide (x≠y))=ys:=by
      rw[List.filter_eq_self];intro z hz;simp;rintro rfl;show nd.1 hz
     rw[Bz,A5 (by simp),this,AW];show A9 _
    .have:=ih nd.2;rw[Bz,A6 (by simpa using e),AW,AW];lia
  lia
def TabOk.size{D:Tab}(h:TabOk d n D)(hd:d<=5)(hn:n<=15):D.length<=1048576:=by
 have hb:∀x∈D,∀i:Nat,0<=x.1.getD i 0/\x.1.getD i 0<=15:=λx hx i=>by
  have{_,e2,e3}:=h.key x hx;have:=(iy e3).2 i;show{e3 i,4}
 have:=ww (16^d) (D.map λx=>enc x.1) ?_ ?_
 .rw[A1] at this;have:16^d<=16^5:=CK (by decide) hd;lia
 .have nd:=h.nd;unfold List.Nodup at nd⊢;rw[List.pairwise_map] at nd⊢;show List.Pairwise.imp_of_mem (fun{a b} ha OU NM e=>NM ?_) nd;show wu (by rw[(h.key a ha).1,(h.key b OU).1]) (hb a ha) (hb b OU) e
 .intro x hx;have{y,hy,0}:=Ai.mp hx;have:=wo (hb y hy);rw[(h.key y hy).1] at this;show this
def bG(t:SD Int):SD Key:=t.map Sum.inl
def lE(t:SD Int):(bG t).map kV=t.map V.int:=by unfold bG;rw[BC];rfl
theorem wx:∀{t u:SD Int},bG t=bG u->t=u
 |[],[],_=>rfl
 |[],_::_,h=>by simp[bG] at h
 |_::_,[],h=>by simp[bG] at h
 |x::t,y::u,h=>by
  simp only[bG,AG,CY,Sum.inl.injEq] at h;rw[h.1,wx (t:=t) (u:=u) h.2]
theorem qj{t u:SD Int}:bG t=bG u↔t=u:={wx,λe=>by rw[e]}
def bp(D:Tab):SD (SD Key×V):=D.map λx=>(bG x.1,V.int x.2)
def wy(D:Tab):(bp D).length=D.length:=by unfold bp;rw[A1]
def wz(D:Tab)(k:SD Int)(v:Int):aX (bp D) (bG k) (.int v)=bp (eT D k v):=by
 have e:((bp D).any λkv=>decide (kv.1=bG k))=(D.any λx=>decide (x.1=k)):=by
  unfold bp;rw[List.any_map];congr 1
  funext x
  simp only[Function.comp,qj]
 unfold aX eT;rw[e];split
 .unfold bp;rw[BC,BC];show As λx _=>?_;simp only[Function.comp,qj];split<;>rfl
 .unfold bp;rw[A7];rfl
def wA(D:Tab)(k:SD Int):aM (bp D) (bG k)=(D.find? λx=>decide (x.1=k)).map λx=>V.int x.2:=by
 unfold aM bp;rw[List.find?_map,Option.map_map];have:((λkv:SD Key×V=>decide (kv.1=bG k))∘λx:SD Int×Int=>(bG x.1,V.int x.2))=λx=>decide (x.1=k):=by
  funext x
  simp only[Function.comp,qj]
 rw[this];rfl
def Jb(D:Tab)(k:SD Int):(aM (bp D) (bG k)).getD (.int 0)=.int (cX D k):=by
 rw[wA];unfold cX;cases D.find? λx=>decide (x.1=k)<;>rfl
def Jc{D:Tab}(nd:(D.map (·.1)).Nodup)(h:x∈D):aM (bp D) (bG x.1)=some (.int x.2):=by
 rw[wA];have:D.find? (λy=>decide (y.1=x.1))=some x:=by
  induction D with
  |nil=>simp at h
  |cons y D ih=>
   rw[AG,BM] at nd;rcases AJ.mp h with rfl|h
   .simp
   .have:y.1≠x.1:=λe=>nd.1 (Ai.mpr {x,h,e.symm});rw[Bj,Ak this];show ih nd.2 h
 rw[this];rfl
def Jd(D:Tab):(bp D).map (·.2)=(D.map (·.2)).map V.int:=by unfold bp;rw[BC,BC];rfl
def prD(x:SD Int×Int):D:= .t [tI x.1,.i x.2]
def Je(l:SD Lf)(x:Lf):(List.range l.length).countP (λj=>decide (l.getD j (0,0,0)=x))=l.count x:=by
 have e:(List.range l.length).map (λj=>l.getD j (0,0,0))=l:=by
  apply List.ext_getElem?;intro i;rw[AD];rcases Bs i l.length with c|c
  .rw[List.getElem?_range c];simp[List.getD,c]
  .rw[CF (by simpa using c),CF c];rfl
 conv=>rhs;rw[<-e]
 rw[List.count,List.countP_map];congr 1
 funext j
 simp only[Function.comp];show(Bool.beq_eq_decide_eq _ _).symm
theorem wB:∀(l S:SD Lf),S.Nodup->(S.map λm=>l.count m).sum<=l.length
 |[],S,_=>by
  have:(S.map λm=>List.count m ([]:SD Lf))=S.map λ_=>0:=by simp
  rw[this];induction S with
  |nil=>simp
  |cons a S ih=>rename_i nd;simpa using ih (BM.mp nd).2
 |x::l,S,nd=>by
  have ih:=wB l S nd;have:(S.map λm=>(x::l).count m).sum<=(S.map λm=>l.count m).sum+1/\(x∉S->(S.map λm=>(x::l).count m).sum=(S.map λm=>l.count m).sum):=by
   clear ih;induction S with
   |nil=>simp
   |cons a S ih=>
    have{n1,n2}:=BM.mp nd;have{i1,i2}:=ih n2;simp only[AG,Ay];by_cases e:x=a
    .subst e;have:=i2 n1;rw[List.count_cons_self];show{4,λh=>absurd (by simp) h}
    .have e':List.count a (x::l)=List.count a l:=List.count_cons_of_ne e;rw[e'];show{4,λh=>by rw[i2 (λz=>h (by simp[z]))]}
  rw[AW];lia
def gb(ps:SD Lf):Int:=ps.foldl (λa p=>a*p.2.2^2) 1
def Okw(d:Nat)(p:Lf):Prop:=Okl d p/\1<=p.2.2/\p.2.2<=2^20
def lF:SD Lf->Bool
 |[]=>true
 |x::r=>r.all (λy=> !(bC y x))&&lF r
theorem wC:∀{ps:SD Lf},lF ps=true->Srt ps
 |[],_=>List.Pairwise.nil
 |x::r,h=>by
  unfold lF at h;rw[AM,AX] at h;show CV.mpr {λy hy=>by simpa using h.1 y hy,wC h.2}
def lG(d:Nat)(ps:SD Lf):Bool:=ps.all (jL d)&&(List.range d).all (λi=>decide (0<=eF ps i))&&lF ps
def Jf(h:lG d ps=true):Snd d ps:=by
 unfold lG at h;simp only[AM,AX,AY,Ar] at h;show{λp hp=>by have:=p7.mp (h.1.1 p hp);lia,λi hi=>h.1.2 i hi,wC h.2}
def hmD(d:Nat)(x:SD Lf):Int:=hmF d (x++fD d (bF d x))
def qk(d:Nat)(x:SD Lf):Nat:=(pV d (iu (lw x))).length
def jM(d:Nat)(x:SD Lf):Bool:=lG d x&&decide (x.length<=20)&&decide (0<=gb x)&&decide (gb x<2^40)
def wD{x:SD Lf}(h:jM d x=true):Snd d x/\(∀p∈x,Okw d p)/\x.length<=20/\0<=gb x/\gb x<2^40:=by
 unfold jM at h;simp only[AM,Ar] at h;have{{{h1,h2},h3},h4}:=h;show{Jf h1,λp hp=>?_,h2,h3,h4};unfold lG at h1;simp only[AM,AX] at h1;have:=p7.mp (h1.1.1 p hp);show{{4,4,4,4},4,4}
def lH(d:Nat)(x:SD Lf):Int:=gb x*hmD d x
def isW(d:Nat)(x:SD Lf):Bool:=decide (qk d x=1)
def wtG:Int->SD Int->Int
 |_,[]=>0
 |i,x::r=>i*x+wtG (i+1) r
def wtF(r:SD Int):Int:=wtG 1 r
def rwS(found:SD (SD Int))(n:Int):SD (SD Int):=found.flatMap λb=>(List.range (n+1).toNat).map λh:Nat=>b++[(h:Int)]
def rwF(row:SD Int):SD (SD Int):=row.foldl rwS [[]]
def rbF:Nat->SD Int->Int->Nat->SD (SD Int)
 |0,_,_,_=>[]
 |n+1,row,wt,first=>if wt-wtF row=0 then [row] else(List.range (min row.length (wt-wtF row).toNat-first)).flatMap λj=>rbF n (wmF row (first+j) 1) wt (first+j)
def cK:SD Int->SD Int->Int
 |x::a,y::b=>chF x y.toNat*cK a b
 |_,_=>1
def wgG:Int->SD Int->SD Int->SD Int
 |i,x::a,y::b=>List.replicate (y-x).toNat i++wgG (i+1) a b
 |_,_,_=>[]
def wgF(r f:SD Int):SD Int:=wgG 1 r f
structure Ask4 where
 d:Int
 k:Int
 h:List Int
 f:List Int
variable{q:Ask4}
abbrev Sm4:=Int×SD Int×Ask4
def eA(q:Ask4)(p:Nat):SD Sm4:=if q.f.getD p 0>0 then [(1,[(p:Int)+1],{q.d,q.k,wmF q.h p 1,wmF q.f p (-1)})] else []
def iB(q:Ask4):SD Sm4:=(List.range q.f.length).flatMap (eA q)
def iC(q:Ask4)(kp fr:SD Int):Sm4:=(cK q.h kp*cK fr q.f,wgF q.f fr,{q.d-1,q.k+fr.sum-q.f.sum-q.d+1,kp,fr})
def eB(q:Ask4)(kp:SD Int):SD Sm4:=(rbF 8 q.f (q.d-1-wtF kp) 0).map (iC q kp)
def iD(q:Ask4):SD Sm4:=(rwF q.h).flatMap (eB q)
def eU(q:Ask4):SD Sm4:=iB q++iD q
def cM(ws:SD Int):Int:=ws.foldl (· * ·) 1
def gc:Nat->Ask4->Int
 |0,_=>0
 |n+1,q=>if q.k<0 then 0 else if q.d=1 then(if q.k=0 then 1 else 0) else((eU q).map λx=>x.1*cM x.2.1*gc n x.2.2).sum
def Nn(t:SD Int):Prop:=∀i:Nat,0<=t.getD i 0
def Nn.cons{x:Int}{t:SD Int}:Nn (x::t)↔0<=x/\Nn t:=by
 constructor
 .intro h;show{h 0,λi=>h (i+1)}
 .rintro⟨a,b⟩ i;cases i with
  |zero=>show a
  |succ i=>show b i
theorem eC:∀{t:SD Int}{i:Int},0<=i->Nn t->0<=wtG i t
 |[],_,_,_=>DR 0
 |x::t,i,hi,h=>by
  have{a,b}:=Nn.cons.mp h;have:=eC (i:=i+1) (by lia) b;have:=Ch hi a;unfold wtG;lia
theorem dP:∀{t:SD Int}{i:Int},1<=i->Nn t->0<=t.sum/\t.sum<=wtG i t
 |[],_,_,_=>{DR 0,DR 0}
 |x::t,i,hi,h=>by
  have{a,b}:=Nn.cons.mp h;have{s1,s2}:=dP (i:=i+1) (by lia) b;have:1*x<=i*x:=Int.mul_le_mul_of_nonneg_right hi a;rw[Ay];unfold wtG;lia
theorem lI{m:Int}:∀{t:SD Int}{p:Nat}{i:Int},p<t.length->wtG i (wmF t p m)=wtG i t+(i+p)*m
 |[],p,_,h=>absurd h (by simp)
 |x::t,0,i,_=>by
  change wtG i ((x+m)::t)=wtG i (x::t)+_;unfold wtG;rw[Int.mul_add];simp;lia
 |x::t,p+1,i,h=>by
  have ih:=lI (m:=m) (t:=t) (p:=p) (i:=i+1) (by simpa using h);change wtG i (x::wmF t p m)=wtG i (x::t)+_;unfold wtG;rw[ih,show i+1+(p:Int)=i+((p+1:Nat):Int) by lia];lia
theorem lJ{t:SD Int}{p:Nat}{m:Int}(hp:p<t.length)(h:Nn t)(hm:0<=t.getD p 0+m):Nn (wmF t p m):=λi=>by
 rw[lC hp];split
 .next e=>rw[<-e];show hm
 .have:=h i;lia
def Jg{t:SD Int}{x:Int}(h:Nn t)(hx:0<=x):Nn (t++[x]):=by
 induction t with
 |nil=>show Nn.cons.mpr {hx,λi=>by simp}
 |cons y t ih=>
  have{a,b}:=Nn.cons.mp h;show Nn.cons.mpr {a,ih b}
def Le:SD Int->SD Int->Prop
 |x::a,y::b=>0<=x/\x<=y/\Le a b
 |[],[]=>True
 |_,_=>False
theorem Le.len:∀{a b:SD Int},Le a b->a.length=b.length
 |[],[],_=>rfl
 |x::a,y::b,h=>BZ (· +1) (Le.len h.2.2)
theorem Le.nn:∀{a b:SD Int},Le a b->Nn a/\Nn b
 |[],[],_=>{λi=>by simp,λi=>by simp}
 |x::a,y::b,h=>by
  have{p,q}:=Le.nn h.2.2;show{Nn.cons.mpr {h.1,p},Nn.cons.mpr {by have:=h.1;have:=h.2.1;lia,q}}
theorem Le.snoc:∀{a b:SD Int}{x y:Int},Le a b->0<=x->x<=y->Le (a++[x]) (b++[y])
 |[],[],_,_,_,h1,h2=>{h1,h2,trivial}
 |_::a,_::b,_,_,h,h1,h2=>{h.1,h.2.1,Le.snoc h.2.2 h1 h2}
theorem Le.self:∀{a:SD Int},Nn a->Le a a
 |[],_=>trivial
 |x::a,h=>by
  have{p,q}:=Nn.cons.mp h;show{p,DR x,Le.self q}
theorem Le.wt:∀{a b:SD Int}{i:Int},0<=i->Le a b->wtG i a<=wtG i b
 |[],[],_,_,_=>DR 0
 |x::a,y::b,i,hi,h=>by
  have:=Le.wt (i:=i+1) (by lia) h.2.2;have:=Int.mul_le_mul_of_nonneg_left h.2.1 hi;unfold wtG;lia
theorem Le.gain:∀{a b:SD Int}{i:Int},1<=i->Le a b->a.sum<=b.sum/\b.sum-a.sum<=wtG i b-wtG i a
 |[],[],_,_,_=>by simp[wtG]
 |x::a,y::b,i,hi,h=>by
  have{g1,g2}:=Le.gain (i:=i+1) (by lia) h.2.2;have h1:=h.2.1;have:1*(y-x)<=i*(y-x):=Int.mul_le_mul_of_nonneg_right hi (by lia);have e:i*(y-x)=i*y-i*x:=Int.mul_sub i y x;rw[Ay,Ay];unfold wtG;lia
def Le.wm{a b:SD Int}{p:Nat}(h:Le a b)(hp:p<b.length):Le a (wmF b p 1):=by
 induction a generalizing b p with
 |nil=>
  cases b with
  |nil=>show trivial
  |cons y b=>show h.elim
 |cons x a ih=>
  cases b with
  |nil=>show h.elim
  |cons y b=>
   cases p with
   |zero=>show{h.1,by change x<=y+1;have:=h.2.1;lia,h.2.2}
   |succ p=>show{h.1,h.2.1,ih h.2.2 (by simpa using hp)}
def ql{t:SD Int}(hn:Nn row)(h:t∈rwF row):Le t row:=by
 have go:∀(r2 r1:SD Int) (F:SD (SD Int)),(∀t∈F,Le t r1)->Nn r2->∀t∈r2.foldl rwS F,Le t (r1++r2):=by
  intro r2;induction r2 with
  |nil=>intro r1 F hF _ t ht;rw[BE];show hF t ht
  |cons n r2 ih=>
   intro r1 F hF hn t ht;have{n0,n2}:=Nn.cons.mp hn;rw[show r1++n::r2=(r1++[n])++r2 by simp];show ih (r1++[n]) (rwS F n) (λu hu=>?_) n2 t ht;have{b,hb,hu}:=BB.mp hu;have{k,hk,0}:=Ai.mp hu;have hk:=AY.mp hk;show(hF b hb).snoc (by lia) (by lia)
 show go row [] [[]] (λt ht=>by rw[Ag.mp ht];show trivial) hn t h
def wE{F:SD (SD Int)}{n:Int}:(rwS F n).length=F.length*(n+1).toNat:=by
 unfold rwS;induction F with
 |nil=>simp
 |cons b F ih=>
  rw[Bc,AA,ih,A1,BN,AW,Ck,Nat.add_comm]
def Jh(n:Nat):n+1<=2^n:=by
 induction n with
 |zero=>decide
 |succ n ih=>rw[Nat.pow_succ];lia
theorem wF:∀(row:SD Int) (F:SD (SD Int)),Nn row->(row.foldl rwS F).length<=F.length*2^row.sum.toNat
 |[],F,_=>by simp
 |n::row,F,h=>by
  have{a,b}:=Nn.cons.mp h;have ih:=wF row (rwS F n) b;rw[wE] at ih;have s0:=(dP (i:=1) (by decide) b).1;rw[Ay,show(n+row.sum).toNat=n.toNat+row.sum.toNat by lia,Nat.pow_add,<-Nat.mul_assoc];show BA ih (Nat.mul_le_mul_right _ (Nat.mul_le_mul_left _ ?_));rw[show(n+1).toNat=n.toNat+1 by lia];show Jh _
theorem Ji{t:SD Int}(h:Nn t)(i:Nat):Nn (t.take i):=λj=>by
 rw[A',List.getElem?_take];split
 .have:=h j;rwa [A'] at this
 .simp
def qm(hn:Nn row)(hs:row.sum<=5)(i:Nat):(rwF (row.take i)).length<=32:=by
 have nt:Nn (row.take i):=λj=>by
  rw[A',List.getElem?_take];split
  .have:=hn j;rwa [A'] at this
  .simp
 have st:(row.take i).sum<=5:=by
  have e:(row.take i).sum+(row.drop i).sum=row.sum:=by rw[<-C5,Bb]
  have nd:Nn (row.drop i):=λj=>by
   rw[A',List.getElem?_drop];have:=hn (i+j);rwa [A'] at this
  have:=(dP (i:=1) (by decide) nd).1;lia
 have h:=wF (row.take i) [[]] nt;have s0:=(dP (i:=1) (by decide) nt).1;have:2^(row.take i).sum.toNat<=2^5:=CK (by decide) (by lia);unfold rwF;simp only[AW,CG] at h;lia
theorem wG{wt:Int}:∀{n:Nat}{row t:SD Int}{first:Nat},t∈rbF n row wt first->Nn row->∀{a:SD Int},Le a row->Le a t/\wtF t=wt
 |0,_,_,_,h,_,_,_=>nomatch h
 |n+1,row,t,first,h,hn,a,ha=>by
  unfold rbF at h;split at h
  .next e=>rw[Ag.mp h];show{ha,4}
  .have{j,hj,h}:=BB.mp h;have hj:=AY.mp hj;have hp:first+j<row.length:=by lia
   show wG h (lJ hp hn (by have:=hn (first+j);lia)) (ha.wm hp)
theorem qo{wt:Int}:∀{n:Nat}{row:SD Int}{first:Nat},row.length<=5->(rbF n row wt first).length<=5^n
 |0,_,_,_=>AO _
 |n+1,row,first,h=>by
  unfold rbF;split
  .show Nat.one_le_pow _ _ (by decide)
  .have go:∀m,m<=5->((List.range m).flatMap λj=>rbF n (wmF row (first+j) 1) wt (first+j)).length<=m*5^n:=by
    intro m;induction m with
    |zero=>intro _;show AO _
    |succ m ih=>
     intro hm;rw[B0,Ax,AA,Ck,Bc,List.flatMap_nil,BE];have:=ih (by lia);have:=qo (n:=n) (wt:=wt) (row:=wmF row (first+m) 1) (first:=first+m) (by rw[eS];show h);lia
   have:=go (min row.length (wt-wtF row).toNat-first) (by lia);have h5:(min row.length (wt-wtF row).toNat-first)*5^n<=5*5^n:=Nat.mul_le_mul_right _ (by lia);rw[Nat.pow_succ,Nat.mul_comm];lia
def ch2:Bool:=(List.range 16).all λn=>(List.range (n+1)).all λk=>decide (0<=chF (n:Int) k)&&decide (chF (n:Int) k<=2^n)
def Jj:ch2=true:=by ac_nf
def wH{n k:Int}(h0:0<=k)(h1:k<=n)(h2:n<=15):0<=chF n k.toNat/\chF n k.toNat<=2^n.toNat:=by
 have{m,0}:=BS (show 0<=n by lia);have h:=Jj;unfold ch2 at h;rw[AX] at h;have h:=h m (AY.mpr (by lia));rw[AX] at h;have h:=h k.toNat (AY.mpr (by lia));simpa using h
theorem wI:∀{a b:SD Int},Le a b->b.sum<=15->0<=cK b a/\cK b a<=2^b.sum.toNat
 |[],[],_,_=>by simp[cK]
 |x::a,y::b,h,hs=>by
  have{h1,h2,h3}:=h;have s0:=(dP (i:=1) (by decide) (Le.nn h3).2).1;rw[Ay] at hs;have{c1,c2}:=wI h3 (by lia);have{d1,d2}:=wH h1 h2 (by lia);rw[Ay,show(y+b.sum).toNat=y.toNat+b.sum.toNat by lia,Int.pow_add];unfold cK;show{Ch d1 c1,DD d2 c2 c1 (Int.pow_nonneg (by decide))}
def lK{a b:SD Int}(h:Le a b)(hs:b.sum<=5):0<=cK b a/\cK b a<=32:=by
 have{c1,c2}:=wI h (by lia);have s0:=(dP (i:=1) (by decide) (Le.nn h).2).1;have:(2:Int)^b.sum.toNat<=2^5:=by
  have:b.sum.toNat=0\/b.sum.toNat=1\/b.sum.toNat=2\/b.sum.toNat=3\/b.sum.toNat=4\/b.sum.toNat=5:=by lia
  rcases this with e|e|e|e|e|e<;>rw[e]<;>decide
 show{c1,4}
structure AskOk(L:Nat)(q:Ask4):Prop where
 hl:q.h.length=L
 fl:q.f.length=L
 hn:Nn q.h
 fn:Nn q.f
 wt:wtF q.h+wtF q.f=q.d
 d1:1<=q.d
 dL:q.d<=L
 L5:L<=5
 k6:q.k<=6
def muF(q:Ask4):Int:=6*q.d+q.f.sum
section
variable{L:Nat}{q:Ask4}
def AskOk.sums(a:AskOk L q):0<=q.h.sum/\q.h.sum<=5/\0<=q.f.sum/\q.f.sum<=5:=by
 have{h1,h2}:=dP (i:=1) (by decide) a.hn;have{f1,f2}:=dP (i:=1) (by decide) a.fn;have w1:=eC (i:=1) (by decide) a.hn;have w2:=eC (i:=1) (by decide) a.fn;have:=a.wt;have:=a.dL;have:=a.L5;unfold wtF at*
 lia
def AskOk.held(a:AskOk L q){x:Sm4}(hx:x∈iB q):AskOk L x.2.2/\muF x.2.2+1<=muF q/\x.1=1/\∃w:Int,x.2.1=[w]/\1<=w/\w<=5:=by
 unfold iB at hx;have{p,hp,hx}:=BB.mp hx;have hp:=AY.mp hp;unfold eA at hx;split at hx
 .next hf=>
  rw[Ag.mp hx];have Nr:p<q.h.length:=by rw[a.hl,<-a.fl];show hp
  have h5:=a.L5;have fl:=a.fl;show{{by rw[eS];show a.hl,by rw[eS];show fl,lJ Nr a.hn (by have:=a.hn p;lia),lJ hp a.fn (by lia),?_,a.d1,a.dL,h5,a.k6},?_,0,1,4,4}
  .have:=a.wt;change wtF (wmF q.h p 1)+wtF (wmF q.f p (-1))=q.d;unfold wtF at*
   rw[lI Nr,lI hp];lia
  .change 6*q.d+(wmF q.f p (-1)).sum+1<=6*q.d+q.f.sum;rw[lD hp];lia
 .cases hx
def AskOk.few(a:AskOk L q)(d2:2<=q.d){kp fr:SD Int}(hk:kp∈rwF q.h)(hf:fr∈rbF 8 q.f (q.d-1-wtF kp) 0):AskOk L {q.d-1,q.k+fr.sum-q.f.sum-q.d+1,kp,fr}/\6*(q.d-1)+fr.sum+1<=muF q/\Le kp q.h/\Le q.f fr/\fr.sum<=5:=by
 have l1:=ql a.hn hk;have{l2,e}:=wG hf a.fn (Le.self a.fn);have n1:=(Le.nn l1).1;have n2:=(Le.nn l2).2;have w1:=eC (i:=1) (by decide) n1;have w2:=eC (i:=1) (by decide) a.fn;have{g1,g2}:=l2.gain (i:=1) (by decide);have{s1,s2}:=dP (i:=1) (by decide) n2;have h5:=a.L5;have dL:=a.dL;have k6:=a.k6;have sf:=a.sums;unfold wtF at e w1 w2;show{{l1.len.trans a.hl,l2.len.symm.trans a.fl,n1,n2,?_,?_,?_,h5,?_},?_,l1,l2,?_}
 .change wtF kp+wtF fr=q.d-1;unfold wtF;lia
 .change 1<=q.d-1;lia
 .change q.d-1<=L;lia
 .change q.k+fr.sum-q.f.sum-q.d+1<=6;lia
 .unfold muF;lia
 .lia
def wJ{x:Sm4}(hx:x∈iD q):∃kp∈rwF q.h,∃fr∈rbF 8 q.f (q.d-1-wtF kp) 0,x=iC q kp fr:=by
 unfold iD at hx;have{kp,hk,hx}:=BB.mp hx;unfold eB at hx;have{fr,hf,0}:=Ai.mp hx;show{kp,hk,fr,hf,0}
def AskOk.less(a:AskOk L q)(d2:2<=q.d){x:Sm4}(hx:x∈eU q):AskOk L x.2.2/\muF x.2.2+1<=muF q:=by
 unfold eU at hx;rcases BP.mp hx with hx|hx
 .show{(a.held hx).1,(a.held hx).2.1}
 .have{kp,hk,fr,hf,0}:=wJ hx;have{h1,h2,_}:=a.few d2 hk hf;show{h1,h2}
end
def AskOk.mu{L:Nat}(a:AskOk L q):6<=muF q/\muF q<=35:=by
 have:=a.sums;have:=a.d1;have:=a.dL;have:=a.L5;unfold muF;lia
theorem wK{L:Nat}:∀{n m:Nat}{q:Ask4},AskOk L q->muF q<=n->muF q<=m->gc n q=gc m q
 |0,_,q,a,h,_=>by have:=a.mu;lia
 |_+1,0,q,a,_,h=>by have:=a.mu;lia
 |n+1,m+1,q,a,h1,h2=>by
  unfold gc;split
  .rfl
  .split
   .rfl
   .next hd=>
    show BZ List.sum (As λx hx=>?_);have{b,c}:=a.less (by have:=a.d1;lia) hx;rw[wK b (n:=n) (m:=m) (by lia) (by lia)]
def cF(q:Ask4):Int:=gc 36 q
def Jk(h:q.k<0):cF q=0:=A6 h
def Jl(h:¬q.k<0)(hd:q.d=1):cF q=if q.k=0 then 1 else 0:=by
 unfold cF gc;rw[A5 h,A6 hd]
def Jm{L:Nat}(a:AskOk L q)(h:¬q.k<0)(hd:¬q.d=1):cF q=((eU q).map λx=>x.1*cM x.2.1*cF x.2.2).sum:=by
 have e:cF q=gc 37 q:=wK a (by have:=a.mu;lia) (by have:=a.mu;lia);rw[e];unfold gc;rw[A5 h,A5 hd];rfl
theorem wL:∀{t:SD Int}{i:Int},wtG i (t++[0])=wtG i t
 |[],i=>by simp[wtG]
 |x::t,i=>by
  change i*x+wtG (i+1) (t++[0])=i*x+wtG (i+1) t;rw[wL]
def cb(n:Nat)(t:SD Int):SD Int:=t++List.replicate (n-t.length) 0
def Jn :∀{t:SD Int}{i:Int},wtG i (t++List.replicate n 0)=wtG i t:=by
 induction n with
 |zero=>intro t i;simp
 |succ n ih=>
  intro t i;rw[List.replicate_succ',<-BV,wL,ih]
def dQ:Nat->Nat->Nat->SD (SD Int)
 |_,0,_=>[[]]
 |i,n+1,b=>(List.range (b/i+1)).flatMap λx=>(dQ (i+1) n (b-i*x)).map ((x:Int):: ·)
theorem qp:∀{n i b:Nat}{t:SD Int},1<=i->t.length=n->Nn t->wtG (i:Int) t<=b->t∈dQ i n b
 |0,i,b,t,_,hl,_,_=>by rw[Bv.mp hl];show Aa
 |n+1,i,b,[],_,hl,_,_=>nomatch hl
 |n+1,i,b,x::t,hi,hl,hn,hw=>by
  have{x0,tn}:=Nn.cons.mp hn;have{m,0}:=BS x0;have w:=eC (i:=(i:Int)+1) (by lia) tn;unfold wtG at hw;have hm:i*m<=b:=by
   have:((i*m:Nat):Int)=(i:Int)*(m:Int):=Int.natCast_mul i m;lia
  unfold dQ;show BB.mpr {m,AY.mpr (Nat.lt_succ_of_le ((Nat.le_div_iff_mul_le (by lia)).mpr (by rw[Nat.mul_comm];show hm))),Ai.mpr {t,qp (by lia) (by simpa using hl) tn ?_,0}};have:((i*m:Nat):Int)=(i:Int)*(m:Int):=Int.natCast_mul i m;change wtG ((i:Int)+1) t<=_;lia
def wM:Bool:=(List.range 6).all λL=>decide ((dQ 1 L 5).length<=19)
def Jo:wM=true:=by ac_nf
def Jp(a b:SD Int):cM (a++b)=cM a*cM b:=by
 have go:∀(b:SD Int) (x:Int),b.foldl (· * ·) x=x*b.foldl (· * ·) 1:=λb=>by
  induction b with
  |nil=>intro x;simp
  |cons y b ih=>
   intro x;rw[CH,CH,ih,ih (1*y),Int.one_mul,Int.mul_assoc]
 unfold cM;rw[Bo,go]
def chG(n:Int):Nat->Int
 |0=>1
 |i+1=>chG n i*(n-(0+(i:Int)))/((0+(i:Int))+1)
def cho(n k:Int):Int:=if k<0\/k>n then 0 else chG n k.toNat
def bS(f:Nat->Int):Nat->Int
 |0=>0
 |n+1=>bS f n+f n
theorem jN{f g:Nat->Int}:∀{n:Nat},(∀i,i<n->f i=g i)->bS f n=bS g n
 |0,_=>rfl
 |n+1,h=>by
  unfold bS;rw[jN λi hi=>h i (by lia),h n (by lia)]
def qr{f:Nat->Int}(h:∀i,i<n->f i=0):bS f n=0:=by
 rw[jN (g:=λ_=>0) h];clear h;induction n with
 |zero=>rfl
 |succ n ih=>unfold bS;rw[ih];rfl
theorem wN(f g:Nat->Int):∀n:Nat,bS (λi=>f i+g i) n=bS f n+bS g n
 |0=>rfl
 |n+1=>by
  unfold bS;rw[wN f g n];lia
theorem wO{k:Nat}{a:Int}:∀{n:Nat},k<n->bS (λi=>if i=k then a else 0) n=a
 |0,h=>absurd h (Nat.not_lt_zero _)
 |n+1,h=>by
  unfold bS;by_cases e:n=k
  .subst e;rw[A6 rfl,qr λi hi=>A5 (by lia)];lia
  .rw[A5 e,wO (by lia)];lia
def vF:SD (Nat×Int)->Nat->Int
 |[],_=>0
 |(k,a)::r,i=>if i=k then a else vF r i
theorem lL:∀{kvs:SD (Nat×Int)}{i:Nat},i∉kvs.map (·.1)->vF kvs i=0
 |[],_,_=>rfl
 |(k,a)::r,i,h=>by
  rw[AG,AJ,not_or] at h;unfold vF;rw[A5 h.1,lL h.2]
theorem qt(G:Nat->Int->Int)(hG:∀i,G i 0=0){n:Nat}:∀{kvs:SD (Nat×Int)},(kvs.map (·.1)).Nodup->(∀x∈kvs,x.1<n)->(kvs.map λx=>G x.1 x.2).sum=bS (λi=>G i (vF kvs i)) n
 |[],_,_=>(qr (f:=λi=>G i (vF [] i)) λi _=>hG i).symm
 |(k,a)::r,nd,h=>by
  rw[AG,BM] at nd;rw[AG,Ay,qt G hG nd.2 λx hx=>h x (AT _ hx)];have hk:k<n:=h (k,a) Aa;have e:(λi=>G i (vF ((k,a)::r) i))=λi=>(if i=k then G k a else 0)+G i (vF r i):=by
   funext i
   change G i (if i=k then a else vF r i)=_;by_cases hi:i=k
   .subst hi;rw[A6 rfl,A6 rfl,lL nd.1,hG];lia
   .rw[A5 hi,A5 hi];lia
  rw[e,wN,wO hk]
def cvn(ch:Nat->Nat->Int)(n:Nat)(f g:Nat->Int)(s:Nat):Int:=bS (λr=>bS (λt=>if r+t=s then f r*g t*ch s r else 0) n) n
def wP{ch:Nat->Nat->Int}{f f' g g':Nat->Int}(hf:∀i,i<n->f i=f' i)(hg:∀i,i<n->g i=g' i)(s:Nat):cvn ch n f g s=cvn ch n f' g' s:=by
 unfold cvn;show jN λr hr=>jN λt ht=>?_;rw[hf r hr,hg t ht]
def below(F:Nat->Int)(d:Nat):Int:=bS (λe=>F (e+1)) (d-1)
theorem lM{F G:Nat->Int}(h:∀e,1<=e->e<d->F e=G e):below F d=below G d:=jN λe he=>h (e+1) (by lia) (by lia)
def dI(xs:SD (Nat×Int)):SD (Key×V):=xs.map λx=>(.inl (x.1:Int),.int x.2)
def eV(xs:SD (Nat×Int))(k:Nat)(v:Int):SD (Nat×Int):=if(xs.any λx=>decide (x.1=k))=true then xs.map (λx=>if x.1=k then(x.1,v) else x) else xs++[(k,v)]
theorem jO{a b:Nat}:(Sum.inl (a:Int):Key)=Sum.inl (b:Int)↔a=b:={λh=>by have:=Sum.inl.inj h;lia,λh=>by rw[h]}
def Jq(xs:SD (Nat×Int))(k:Nat):((dI xs).any λkv=>decide (kv.1=(Sum.inl (k:Int):Key)))=xs.any λx=>decide (x.1=k):=by
 unfold dI;rw[List.any_map];congr 1
 funext x
 show decide_eq_decide.mpr jO
def wQ(xs:SD (Nat×Int))(k:Nat)(v:Int):aX (dI xs) (.inl (k:Int)) (.int v)=dI (eV xs k v):=by
 unfold aX eV;rw[Jq];by_cases h:(xs.any λx=>decide (x.1=k))=true
 .rw[A6 h,A6 h];unfold dI;rw[BC,BC];show As λx _=>?_;change(if(Sum.inl (x.1:Int):Key)=.inl (k:Int) then _ else _)=_;by_cases e:x.1=k
  .rw[A6 (jO.mpr e)];simp only[Function.comp,A6 e]
  .rw[A5 λz=>e (jO.mp z)];simp only[Function.comp,A5 e]
 .rw[A5 h,A5 h];unfold dI;rw[A7];rfl
def wR(xs:SD (Nat×Int))(k:Nat):aM (dI xs) (.inl (k:Int))=if k∈xs.map (·.1) then some (.int (vF xs k)) else none:=by
 induction xs with
 |nil=>rfl
 |cons x r ih=>
  have{j,a}:=x;unfold aM dI at ih⊢;rw[AG,Bj,AG];by_cases e:j=k
  .subst e;simp[vF]
  .have e':¬((Sum.inl (j:Int):Key)=.inl (k:Int)):=λz=>e (jO.mp z);rw[Ak e'];have e2:¬k=j:=λz=>e z.symm;simp only[AJ,e2,false_or];rw[show vF ((j,a)::r) k=vF r k from A5 e2];show ih
def wS(xs:SD (Nat×Int))(k:Nat)(v:Int):(eV xs k v).map (·.1)=if k∈xs.map (·.1) then xs.map (·.1) else xs.map (·.1)++[k]:=by
 unfold eV;have:(xs.any λx=>decide (x.1=k))=true↔k∈xs.map (·.1):=by
  rw[List.any_eq_true,Ai];simp
 by_cases h:k∈xs.map (·.1)
 .rw[A6 h,A6 (this.mpr h),BC];show As λx _=>?_;simp only[Function.comp];split<;>rfl
 .rw[A5 h,A5 (λz=>h (this.mp z)),A7];rfl
def Jr(h:(xs.map (·.1)).Nodup)(k:Nat)(v:Int):((eV xs k v).map (·.1)).Nodup:=by
 rw[wS];by_cases e:k∈xs.map (·.1)
 .rw[A6 e];show h
 .rw[A5 e];show DA.mpr {h,7,λa ha b hb z=>?_};rw[Ag.mp hb] at z;show e (z▸ha)
theorem wT{k:Nat}{v:Int}{i:Nat}:∀{xs:SD (Nat×Int)},vF (xs++[(k,v)]) i=if i∈xs.map (·.1) then vF xs i else if i=k then v else 0
 |[]=>by simp[vF]
 |(j,a)::r=>by
  rw[DL,AG];unfold vF;by_cases e:i=j
  .simp[e]
  .rw[A5 e,A5 e,wT];by_cases hi:i∈r.map (·.1)
   .rw[A6 hi,A6 (AT _ hi)]
   .rw[A5 hi,A5 λz=>(AJ.mp z).elim e hi]
theorem qu{k:Nat}{v:Int}{i:Nat}:∀{xs:SD (Nat×Int)},k∈xs.map (·.1)->vF (xs.map λx=>if x.1=k then(x.1,v) else x) i=if i=k then v else vF xs i
 |[],h=>by simp at h
 |(j,a)::r,h=>by
  rw[AG];by_cases ej:j=k
  .subst ej;rw[A6 rfl];unfold vF;by_cases e:i=j
   .rw[A6 e,A6 e]
   .rw[A5 e,A5 e,A5 e];by_cases hr:j∈r.map (·.1)
    .rw[qu hr,A5 e]
    .rw[show(r.map λx=>if x.1=j then(x.1,v) else x)=r by
      conv=>rhs;rw[<-List.map_id r]
      show As λx hx=>?_;rw[A5 λz=>hr (Ai.mpr {x,hx,z})];rfl]
  .have hr:k∈r.map (·.1):=by
    rw[AG,AJ] at h;show h.resolve_left λz=>ej z.symm
   rw[A5 ej];unfold vF;by_cases e:i=j
   .rw[A6 e,A6 e,A5 (by lia)]
   .rw[A5 e,A5 e,qu hr]
def wU(xs:SD (Nat×Int))(k:Nat)(v:Int)(i:Nat):vF (eV xs k v) i=if i=k then v else vF xs i:=by
 unfold eV;have:(xs.any λx=>decide (x.1=k))=true↔k∈xs.map (·.1):=by
  rw[List.any_eq_true,Ai];simp
 by_cases h:k∈xs.map (·.1)
 .rw[A6 (this.mpr h),qu h]
 .rw[A5 (λz=>h (this.mp z)),wT];by_cases e:i=k
  .subst e;rw[A5 h,A6 rfl,A6 rfl]
  .rw[A5 e,A5 e];by_cases hi:i∈xs.map (·.1)
   .rw[A6 hi]
   .rw[A5 hi,lL hi]
def chS(s r:Nat):Int:=cho ((s:Int)-1) ((r:Int)-1)
def chQ:Bool:=(List.range 20).all λn=>(List.range 20).all λk=>decide (0<=cho (n:Int) (k:Int))&&decide (cho (n:Int) (k:Int)<1000000)
def Js:chQ=true:=by ac_nf
def Jt{r:Nat}(h1:1<=s)(h2:s<=20)(h3:1<=r)(h4:r<=20):0<=chS s r/\chS s r<1000000:=by
 have h:=Js;unfold chQ at h;rw[AX] at h;have h:=h (s-1) (AY.mpr (by lia));rw[AX] at h;have h:=h (r-1) (AY.mpr (by lia));have e1:((s-1:Nat):Int)=(s:Int)-1:=by lia
 have e2:((r-1:Nat):Int)=(r:Int)-1:=by lia
 rw[e1,e2] at h;unfold chS;simpa using h
def Sz(q n:Nat):Prop:=q*n<=20/\1<=n/\n<=5
def Sz.le{q:Nat}(h:Sz q n)(hd:d<=n):q*d<=20:=BA (Nat.mul_le_mul_left q hd) h.1
def cv(f g:Nat->Int)(s:Nat):Int:=cvn chS 21 f g s
def Wh(g:Nat)(N Wq:Nat->Nat->Int):Prop:=∀d s,Wq d s=if 1<=d/\d<=g then N d s-below (λe=>cv (Wq e) (N (d-e)) s) d else 0
def bH(d s:Nat)(v:Int):SD Int:=[(d:Int),(s:Int),v]
def qv{d' s':Nat}{v v':Int}(h:bH d s v=bH d' s' v'):d=d'/\s=s'/\v=v':=by
 unfold bH at h;simp only[CY,and_true] at h;show{4,4,h.2.2}
theorem qw:∀{n:Nat}{l:SD Nat},l.Nodup->(∀x∈l,x<n)->l.length<=n
 |0,l,_,h=>by
  cases l with
  |nil=>simp
  |cons a r=>show absurd (h a Aa) (by lia)
 |n+1,l,nd,h=>by
  by_cases hn:n∈l
  .have:=qw (n:=n) (nd.erase n) λx hx=>by
    have h1:=(nd.mem_erase_iff).mp hx;have:=h x h1.2;have:=h1.1;lia
   rw[List.length_erase_of_mem hn] at this;lia
  .have:=qw (n:=n) nd λx hx=>by
    have:=h x hx;have:x≠n:=λe=>hn (e▸hx);lia
   lia
def bL(m:Nat)(xs:SD (Nat×Int)):Prop:=(xs.map (·.1)).Nodup/\∀x∈xs,1<=x.1/\x.1<=m
def bL.nil(m:Nat):bL m []:={DZ,λ_ h=>nomatch h}
theorem bL.keys(h:bL m xs):∀k∈xs.map (·.1),1<=k/\k<=m:=λk hk=>by
 have{x,hx,0}:=Ai.mp hk;show h.2 x hx
def bL.put{k:Nat}{v:Int}(h:bL m xs)(h1:1<=k)(h2:k<=m):bL m (eV xs k v):=by
 show{Jr h.1 k v,λx hx=>?_};have hk:x.1∈(eV xs k v).map (·.1):=Ai.mpr {x,hx,0};rw[wS] at hk;by_cases e:k∈xs.map (·.1)
 .rw[A6 e] at hk;show h.keys _ hk
 .rw[A5 e] at hk;rcases BP.mp hk with hk|hk
  .show h.keys _ hk
  .rw[Ag.mp hk];show{h1,h2}
def bL.len(h:bL m xs):xs.length<=m+1:=by
 have:=qw h.1 (n:=m+1) λk hk=>by have:=h.keys k hk;lia
 rwa [A1] at this
theorem qx{k:Nat}{v:Int}:∀{xs:SD (Nat×Int)},(xs.map (·.1)).Nodup->(k,v)∈xs->vF xs k=v
 |[],_,h=>nomatch h
 |(j,a)::r,nd,h=>by
  rw[AG,BM] at nd;unfold vF;rcases AJ.mp h with e|h
  .cases e;rw[A6 rfl]
  .have:k∈r.map (·.1):=Ai.mpr {_,h,0};rw[A5 λe:k=j=>nd.1 (e▸this),qx nd.2 h]
def prd(x:Nat×Int)(ys:SD (Nat×Int))(s:Nat):Int:=(ys.map λy=>if x.1+y.1=s then x.2*y.2*chS s x.1 else 0).sum
def gJ(xs ys:SD (Nat×Int))(s:Nat):Int:=(xs.map λx=>prd x ys s).sum
def Ju{k:Nat}(hx:bL m xs)(hy:bL k ys)(hm:m<=20)(hk:k<=20)(s:Nat):gJ xs ys s=cv (vF xs) (vF ys) s:=by
 unfold gJ;have e1:∀x:Nat×Int,prd x ys s=bS (λt=>if x.1+t=s then x.2*vF ys t*chS s x.1 else 0) 21:=λx=>by
  unfold prd;show qt (λt v=>if x.1+t=s then x.2*v*chS s x.1 else 0) (λt=>by split<;>simp) hy.1 λy h=>by have:=(hy.2 y h).2;lia
 rw[As λx _=>e1 x];show qt (λr v=>bS (λt=>if r+t=s then v*vF ys t*chS s r else 0) 21) (λr=>qr λt _=>by split<;>simp) hx.1 λx h=>by have:=(hx.2 x h).2;lia
def Jv{x:Nat×Int}{y:Nat×Int}(h:ys[j]? =some y)(s:Nat):prd x (ys.take (j+1)) s=prd x (ys.take j) s+if x.1+y.1=s then x.2*y.2*chS s x.1 else 0:=by
 unfold prd;rw[AL,h,A7,C5];simp
def Jw{x:Nat×Int}(h:xs[j]? =some x)(s:Nat):gJ (xs.take (j+1)) ys s=gJ (xs.take j) ys s+prd x ys s:=by
 unfold gJ;rw[AL,h,A7,C5];simp
def cn(g:Nat)(X:Nat->SD (Nat×Int))(d s:Nat):Int:=if 1<=d/\d<=g then vF (X d) s else 0
def aY(b:Nat->Sx)(g:Nat):SD (Key×V):=(List.range g).map λi=>(.inl ((i+1:Nat):Int),.ref (b (i+1)))
def lN(b:Nat->Sx)(g:Nat):(aY b g).length=g:=by unfold aY;rw[A1,BN]
def wV(h:i<g):(aY b g)[i]? =some (.inl ((i+1:Nat):Int),.ref (b (i+1))):=by
 unfold aY;rw[AD,List.getElem?_range h];rfl
theorem lO{b:Nat->Sx}{d:Nat}:∀{g:Nat},aM (aY b g) (.inl (d:Int))=if 1<=d/\d<=g then some (.ref (b d)) else none
 |0=>by rw[A5 (by lia)];rfl
 |g+1=>by
  have e:aY b (g+1)=aY b g++[(.inl ((g+1:Nat):Int),.ref (b (g+1)))]:=by unfold aY;rw[B0,A7];rfl
  rw[e,sM _ _ _ _ (by rw[lO,A5 (by lia)]),lO];by_cases h:d=g+1
  .subst h;rw[A6 rfl,A6 (by lia)]
  .rw[A5 λz=>h (jO.mp z)];by_cases h2:1<=d/\d<=g
   .rw[A6 h2,A6 (by lia)]
   .rw[A5 h2,A5 (by lia)]
def Jx(h1:1<=d)(h2:d<=g):aM (aY b g) (.inl (d:Int))=some (.ref (b d)):=by rw[lO,A6 {h1,h2}]
def Jy{b':Nat->Sx}(h:∀d,1<=d->d<=g->b d=b' d):aY b g=aY b' g:=by
 unfold aY;show As λi hi=>?_;have:=AY.mp hi;rw[h (i+1) (by lia) (by lia)]
def wW(b:Nat->Sx)(g:Nat)(p:Sx):aX (aY b g) (.inl ((g+1:Nat):Int)) (.ref p)=aY (λd=>if d=g+1 then p else b d) (g+1):=by
 unfold aX;rw[A5 (by rw[fQ,lO,A5 (by lia)];simp)];have e:aY (λd=>if d=g+1 then p else b d) (g+1)=aY (λd=>if d=g+1 then p else b d) g++[(.inl ((g+1:Nat):Int),.ref p)]:=by
  unfold aY;rw[B0,A7];simp
 rw[e,Jy (b:=b) (b':=λd=>if d=g+1 then p else b d) λd h1 h2=>(A5 (by lia)).symm]
def Fz(H H':Hp):Prop:=∀a u,H a=some u->H' a=some u\/∃kvs o,(u=.dK kvs\/∃o',u=.frz o' (.dK kvs))/\H' a=some (.frz o (.dK kvs))
def Pz(x y:SG HO):Prop:=∀u,x=some u->y=some u\/∃kvs o,(u=.dK kvs\/∃o',u=.frz o' (.dK kvs))/\y=some (.frz o (.dK kvs))
def Pz.of_eq{x y:SG HO}(h:y=x):Pz x y:=λu e=>.inl (h.trans e)
def Pz.frz{H H':Hp}{c:Sx}{o:Obj}{kvs:SD (Key×V)}(h:Rd H c (.dK kvs))(e:H' c=some (.frz o (.dK kvs))):Pz (H c) (H' c):=by
 intro u hu;rcases h with h|⟨o',h⟩
 .rw[h] at hu;cases hu;show .inr {kvs,o,.inl rfl,e}
 .rw[h] at hu;cases hu;show .inr {kvs,o,.inr {1},e}
def Pz.trans{x y z:SG HO}(a:Pz x y)(b:Pz y z):Pz x z:=by
 intro u e;rcases a u e with e1|⟨kvs,o,e1,e2⟩
 .show b u e1
 .rcases b _ e2 with e3|⟨k2,o2,e3|⟨o3,e3⟩,e4⟩
  .show .inr {kvs,o,e1,e3}
  .cases e3
  .cases e3;show .inr {kvs,o2,e1,e4}
def Pz.rd(z:Pz (H a) (H' a)){kvs:SD (Key×V)}(h:Rd H a (.dK kvs)):Rd H' a (.dK kvs):=by
 rcases h with h|⟨o,h⟩
 .rcases z _ h with e|⟨k2,o2,e1|⟨o3,e1⟩,e2⟩
  .show .inl e
  .cases e1;show .inr {_,e2}
  .cases e1
 .rcases z _ h with e|⟨k2,o2,e1|⟨o3,e1⟩,e2⟩
  .show .inr {_,e}
  .cases e1
  .cases e1;show .inr {_,e2}
def Fz.refl(H:Hp):Fz H H:=λ_ _ e=>.inl e
theorem Fz.rd{H H':Hp}(z:Fz H H'){a:Sx}{kvs:SD (Key×V)}(h:Rd H a (.dK kvs)):Rd H' a (.dK kvs):=Pz.rd (z a) h
theorem Fz.trans{H H1 H2:Hp}(a:Fz H H1)(b:Fz H1 H2):Fz H H2:=λx=>Pz.trans (a x) (b x)
def Fz.of_same(s:ae H H'):Fz H H':=λ_ _ e=>.inl (s _ _ e)
def Fz.free(z:Fz H H')(h:H' a=none):H a=none:=by
 cases e:H a with
 |none=>rfl
 |some u=>rcases z _ _ e with h2|⟨_,_,_,h2⟩<;>rw[h] at h2<;>cases h2
def Fz.walk{d:Sx}{o:Obj}{kvs:SD (Key×V)}(h:Rd H d (.dK kvs))(e:H' d=some (.frz o (.dK kvs)))(k:∀b,b≠d->H' b=H b):Fz H H':=by
 intro a;by_cases hd:a=d
 .subst hd;show Pz.frz h e
 .show Pz.of_eq (k a hd)
theorem Fz.put{H1:Hp}(z:Fz H H1){p:Sx}(n:H p=none) :Fz H (upd H1 p o):=λa u e=>by
 have:a≠p:=by rintro rfl;rw[n] at e;cases e
 rw[au this];show z a u e
def Tb(q g:Nat)(H:Hp)(a:Sx)(b:Nat->Sx)(X:Nat->SD (Nat×Int)):Prop:=Rd H a (.dK (aY b g))/\∀d,1<=d->d<=g->Rd H (b d) (.dK (dI (X d)))/\bL (q*d) (X d)
def Tb.fz{q:Nat}(t:Tb q g H a b X)(z:Fz H H'):Tb q g H' a b X:={z.rd t.1,λd h1 h2=>{z.rd (t.2 d h1 h2).1,(t.2 d h1 h2).2}}
theorem wX(h:Rd H a (.dK (dI xs))){k:Nat}(hk:k∈xs.map (·.1)):cU H a (.int (k:Int)) (some (.int (vF xs k))):= .inl {dI xs,.inl (k:Int),h,0,by rw[wR,A6 hk]}
theorem iF(h:Rd H a (.dK (aY b g)))(h1:1<=d)(h2:d<=g):cU H a (.int (d:Int)) (some (.ref (b d))):= .inl {aY b g,.inl (d:Int),h,0,by rw[Jx h1 h2]}
def wY{k:Key}(h:(dI xs)[i]? =some (k,v)):∃x,xs[i]? =some x/\k=.inl (x.1:Int):=by
 unfold dI at h;rw[AD] at h;have{x,hx,e}:=AB.mp h;cases e;show{x,hx,0}
def lP(xs:SD (Nat×Int)):(dI xs).length=xs.length:=by unfold dI;rw[A1]
def cL:SD (SD Int):=[[],[1],[1,3],[1,12,21,15],[1,27,225,675,666,378,105],[1,48,882,7915]]
def cT(d k:Nat):Int:=(cL.getD d []).getD k 0
def ptF(d:Nat):Nat:=d*(d+3)/2
def dm(g:Nat):SD (SD Int):=(List.range g).flatMap λi=>(List.range ((i+1)*i/2+1)).map λk=>bH (i+1) (ptF (i+1)-k) (cT (i+1) k)
def Ft(g d s:Nat):Int:=if 1<=d/\d<=g/\s<=ptF d then cT d (ptF d-s) else 0
def Jz:((List.range 5).all λg=>(List.range 5).all λd=>(List.range 20).all λs=>decide (Ft g d s=0)||(decide (1<=d)&&decide (d<=g)&&decide (1<=s)&&decide (s<=4*d)&&decide (bH d s (Ft g d s)∈dm g)))=true:=by ac_nf
def qy(hg:g<5)(h:Ft g d s≠0):1<=d/\d<=g/\1<=s/\s<=4*d/\bH d s (Ft g d s)∈dm g:=by
 have hd:1<=d/\d<=g/\s<=ptF d:=Classical.byContradiction λc=>h (A5 c);have:∀d,d<5->ptF d<20:=by decide
 have:=this d (by lia);have:=AX.mp (AX.mp (AX.mp Jz g (AY.mpr hg)) d (AY.mpr (by lia))) s (AY.mpr (by lia));simp only[C7,AM,Ar] at this;have{{{{a,b},c},e},f}:=this.resolve_left h;show{a,b,c,e,f}
def wZ:∀g,g<5->∀r∈dm g,Ft g (r.getD 0 0).toNat (r.getD 1 0).toNat≠0/\r=bH (r.getD 0 0).toNat (r.getD 1 0).toNat (Ft g (r.getD 0 0).toNat (r.getD 1 0).toNat):=by ac_nf
def JA(hg:g<5) :r∈dm g↔∃d s,Ft g d s≠0/\r=bH d s (Ft g d s):=by
 constructor
 .intro h;show{_,_,(wZ g hg r h).1,(wZ g hg r h).2}
 .rintro⟨d,s,h,rfl⟩;show(qy hg h).2.2.2.2
def JB:∀e:Nat,e<4->∀k:Nat,k<7->cF {((e+1:Nat):Int),(k:Int),cb (e+1) [],cb (e+1) [((e+1:Nat):Int)]}=cT (e+1) k:=by ac_nf
def JC:∀k:Nat,k<4->cF {((5:Nat):Int),(k:Int),cb 5 [],cb 5 [((5:Nat):Int)]}=cT 5 k:=by ac_nf
def JD{k:Nat}(h:Wide d k):cF {(d:Int),(k:Int),cb d [],cb d [(d:Int)]}=cT d k:=by
 have{d1,h}:=h;rcases h with⟨d4,k6⟩|⟨rfl,k3⟩
 .obtain⟨e,rfl⟩:∃e,d=e+1:={d-1,4};show JB e (by lia) k (by lia)
 .show JC k (by lia)
def Nf(d k e s:Nat):Int:=if e<d then Ft (d-1) e s else if e=d/\s+k=ptF d then cT d k else 0
def jP(d k:Nat):SD (SD Int):=dm (d-1)++[bH d (ptF d-k) (cT d k)]
def qz:∀d:Nat,d<6->ptF d<=4*d:=by decide
def w4{k:Nat}(hd:1<=d/\d<6)(hk:k+1<=ptF d)(h:Nf d k e s≠0):1<=e/\e<=d/\1<=s/\s<=4*e/\bH e s (Nf d k e s)∈jP d k:=by
 unfold Nf at h⊢;split at h
 .next c=>
  rw[A6 c];have{a,b,c',e',f}:=qy (g:=d-1) (by lia) h;show{a,4,c',e',List.mem_append_left _ f}
 .next c=>
  rw[A5 c];split at h
  .next c2=>
   rw[A6 c2];have{0,c2}:=c2;have:=qz e (by lia);show{4,4,4,4,B3 _ (Ag.mpr ?_)};rw[show ptF e-k=s by lia]
  .show absurd rfl h
def JE{k:Nat}(hd:1<=d/\d<6)(hk:k+1<=ptF d)(h:r∈jP d k):∃e s,r=bH e s (Nf d k e s)/\1<=e/\e<=d/\1<=s/\s<=4*e:=by
 rcases BP.mp h with h|h
 .have{e,s,hs,0}:=(JA (g:=d-1) (by lia)).mp h;have{a,b,c,f,_}:=qy (g:=d-1) (by lia) hs;show{e,s,?_,a,4,c,f};unfold Nf;rw[A6 (by lia)]
 .rw[Ag.mp h];have:=qz d hd.2;show{d,ptF d-k,?_,hd.1,A9 _,4,4};unfold Nf;rw[A5 (by lia),A6 {0,4}]
def JF:∀g,g<6->∀d,d<6->∀s,s<21->-(2^64)<Ft g d s/\Ft g d s<2^64:=by ac_nf
def JG:∀d,d<6->∀k,k<21->-(2^64)<cT d k/\cT d k<2^64:=by ac_nf
def JH{k:Nat}(hd:1<=d/\d<6)(hk:k+1<=ptF d): -(2^64)<Nf d k e s/\Nf d k e s<2^64:=by
 by_cases h:Nf d k e s=0
 .rw[h];decide
 .have{a,b,c,f,_}:=w4 hd hk h;have p:=qz d hd.2;unfold Nf;split
  .show JF _ (by lia) _ (by lia) _ (by lia)
  .split
   .show JG _ (by lia) _ (by lia)
   .decide
def VL:SD (SD Int):=[[],[1],[1],[1,12],[1,27,225,620]]
def Vt(e s:Nat):Int:=if 1<=e/\s<=ptF e then(VL.getD e []).getD (ptF e-s) 0 else 0
def JI:∀e,e<5->1<=e->∀s,s<21->Vt e s=Ft 4 e s-below (λe'=>cv (Vt e') (Ft 4 (e-e')) s) e:=by ac_nf
def JJ(h:e<=g)(g4:g<=4):Ft g e s=Ft 4 e s:=by
 unfold Ft;by_cases c:1<=e/\s<=ptF e
 .rw[A6 {c.1,h,c.2},A6 {c.1,4,c.2}]
 .rw[A5 (λz=>c {z.1,z.2.2}),A5 (λz=>c {z.1,z.2.2})]
def qA{k:Nat}(hd:d<6)(h:e<d):Nf d k e s=Ft 4 e s:=by
 unfold Nf;rw[A6 h,JJ (by lia) (by lia)]
theorem w6{d k:Nat}{Wq:Nat->Nat->Int}(hd:d<6)(h:Wh d (Nf d k) Wq):∀n e,e<n->1<=e->e<d->∀s,s<21->Wq e s=Vt e s
 |0,e,hn,_,_,_,_=>absurd hn (Nat.not_lt_zero _)
 |n+1,e,hn,e1,ed,s,hs=>by
  rw[h e s,A6 {e1,4},JI e (by lia) e1 s hs,qA hd ed];congr 1
  show lM λe' h1 h2=>wP (λi hi=>w6 hd h n e' (by lia) h1 (by lia) i hi) (λi _=>qA hd (by lia)) s
def lQ(d k:Nat):Int:=cT d k-below (λe=>cv (Vt e) (Ft 4 (d-e)) (ptF d-k)) d
def JK{k:Nat}(hd:1<=d/\d<6)(hk:k+1<=ptF d)(h:Wh d (Nf d k) Wq):Wq d (ptF d-k)=lQ d k:=by
 rw[h d,A6 {hd.1,A9 _}];unfold lQ;congr 1
 .unfold Nf;rw[A5 (by lia),A6 {0,4}]
 .show lM λe h1 h2=>wP (λi hi=>w6 hd.2 h (e+1) e (by lia) h1 h2 i hi) (λi _=>qA hd.2 (by lia)) _
def cN(d k:Nat):Int:=if ptF d<k+1 then 0 else lQ d k
def whT:SD Int:=[0,1,1,12,620,87304,26312976,14616808192,13525751027392]
def wh(z:Int):Int:=whT.getD z.toNat 0
def iG(d e:Int):Int:=(d-e)*cho (3*d-4) (3*e-2)-e*cho (3*d-4) (3*e-1)
def lR(d:Int):Nat->Int
 |0=>0
 |m+1=>lR d m+wh (1+(m:Int))*wh (d-(1+(m:Int)))*(1+(m:Int))*(1+(m:Int))*(d-(1+(m:Int)))*iG d (1+(m:Int))
def JL:∀n:Fin 9,n.val<2\/lR (n.val:Int) (n.val-1)=wh n.val:=by ac_nf
def JM(h2:2<=n)(h8:n<=8):lR n (n-1)=wh n:=by
 rcases JL {n,4} with h|h
 .show absurd h (by change¬n<2;lia)
 .show h
def JN:∀n:Fin 9,∀m:Fin 9,-(2^64)<iG (n.val:Int) (1+(m.val:Int))/\iG (n.val:Int) (1+(m.val:Int))<2^64:=by ac_nf
theorem JO(hn:n<=8)(hm:m<=8): -(2^64)<iG n (1+(m:Int))/\iG n (1+(m:Int))<2^64:=JN {n,4} {m,4}
def JP(z:Int): -(2^64)<wh z/\wh z<2^64:=by
 unfold wh;generalize z.toNat=n;by_cases h:n<9
 .have:∀n:Fin 9,-(2^64)<whT.getD n.val 0/\whT.getD n.val 0<2^64:=by ac_nf
  show this {n,h}
 .rw[A',CF (by change 9<=n;lia)];decide
def fE(d x n:Nat):SD Pt:=(List.range n).map λj:Nat=>((x:Int),(d:Int)-(x:Int)-(j:Int))
def fF(d n:Nat):SD Pt:=(List.range n).flatMap λx=>fE d x (d+1-x)
def cp(d:Nat):SD Pt:=fF d (d+1)
def w8(d n:Nat):fF d (n+1)=fF d n++fE d n (d+1-n):=by unfold fF;rw[B0,Ax,List.flatMap_singleton]
def JQ(d x n:Nat):fE d x (n+1)=fE d x n++[((x:Int),(d:Int)-(x:Int)-(n:Int))]:=by unfold fE;rw[B0,A7];rfl
def w9(d x n:Nat):(fE d x n).length=n:=by simp[fE]
def JR(d n:Nat)(hn:n<=d+1)(hd:d<=5):(fF d n).length<=36:=by
 have:∀m,m<=6->(fF d m).length<=6*m:=λm hm=>by
  induction m with
  |zero=>simp[fF]
  |succ m ih=>
   have:=ih (by lia);rw[w8,AA,w9];lia
 have:=this n (by lia);lia
def lvA{α:Type}:SD α->Nat->SD (SD α)
 |row,0=>[row]
 |[],_+1=>[]
 |x::row,k+1=>(lvA row (k+1)).map (x:: ·)++lvA row k
theorem qB{α:Type}:∀(row:SD α) (k:Nat),row.length<k->lvA row k=[]
 |_,0,h=>by lia
 |[],_+1,_=>rfl
 |x::row,k+1,h=>by
  simp only[AW] at h;rw[lvA,qB row (k+1) (by lia),qB row k (by lia)];rfl
theorem jQ{α:Type}:∀(row:SD α) (k:Nat),(lvA row k).length<=2^row.length
 |[],0=>by simp[lvA]
 |[],_+1=>by simp[lvA]
 |x::row,0=>by
  rw[lvA];show Nat.one_le_two_pow
 |x::row,k+1=>by
  rw[lvA,AA,A1,AW,Nat.pow_succ];have h1:=jQ row (k+1);have h2:=jQ row k;lia
theorem lS{α:Type}:∀(row:SD α) (k:Nat) (ws:SD α),ws∈lvA row k->ws.length<=row.length
 |row,0,ws,h=>by
  have:ws=row:=by cases row<;>simpa[lvA] using h
  rw[this];show A9 _
 |[],_+1,ws,h=>by simp[lvA] at h
 |x::row,k+1,ws,h=>by
  rw[lvA] at h;rcases BP.mp h with q|q
  .have{us,hu,0}:=Ai.mp q;have:=lS row (k+1) us hu;simp;lia
  .have:=lS row k ws q;simp;lia
def dC(d:Nat):SD Pt:=((cp d).drop 1).dropLast
def p0(d:Nat):Pt:=(0,(d:Int))
def pl(d:Nat):Pt:=((d:Int),0)
def bj(d k:Nat):SD (SD Pt):=(lvA (dC d) k).map λw=>[p0 d]++w++[pl d]
def dD(d k:Nat):Prop:=1<=d/\((d<=3/\k<=6)\/(d=4/\k<=2))
def cc(H0 H:Hp)(Wq:SD (SD V))(vs:SD V):Prop:=vs.length=Wq.length/\∀(i:Nat) ws,Wq[i]? =some ws->∃a,vs[i]? =some (.ref a)/\H0 a=none/\H a=some (.lst ws)
theorem cc.nil{H0:Hp}:cc H0 H [] []:={0,λi ws h=>by simp at h}
theorem cc.mono{H0 H0':Hp}{Wq:SD (SD V)}(h:cc H0 H Wq vs)(s0:ae H0' H0)(s:ae H H'):cc H0' H' Wq vs:={h.1,λi ws e=>by
 have{a,e1,e2,e3}:=h.2 i ws e;show{a,e1,s0.free e2,s _ _ e3}}
def cc.append{H0:Hp}{Wq W':SD (SD V)}{vs':SD V}(h:cc H0 H Wq vs)(h':cc H0 H W' vs'):cc H0 H (Wq++W') (vs++vs'):=by
 show{by rw[AA,AA,h.1,h'.1],λi ws e=>?_};rcases Bs i Wq.length with q|q
 .rw[Bm q] at e;rw[Bm (by rw[h.1];show q)];show h.2 i ws e
 .rw[BR q] at e;rw[BR (by rw[h.1];show q),h.1];show h'.2 _ ws e
theorem cc.one{H0:Hp}(h0:H0 a=none)(h:H a=some (.lst ws)):cc H0 H [ws] [.ref a]:={0,λi us e=>by
 match i,e with
 |0,e=>cases e;show{a,0,h0,h}
 |i+1,e=>simp at e}
def upE(d:Nat):SD Pt:=(List.range (d+1)).map λi:Nat=>((i:Int),(d:Int)-(i:Int))
def loE(d:Nat):SD Pt:=((List.range (d+1)).map λi:Nat=>((0:Int),(d:Int)-(i:Int)))++(List.range d).map λi:Nat=>((1:Int)+(i:Int),(0:Int))
abbrev Pc:=SD Pt
variable{S:SD (Pc×Pc)}{c:Pc}{cs:SD Pc}{y:Pc×Pc}
def zP:Pt:=(0,0)
def crn(a b c:Pt):Int:=(b.1-a.1)*(c.2-b.2)-(b.2-a.2)*(c.1-b.1)
def fG(ps:SD Pt)(R0:Int):SG Nat:=((List.range (ps.length-2)).find? λi=>decide (crn (ps.getD i zP) (ps.getD (i+1) zP) (ps.getD (i+2) zP)*R0>0)).map (· +1)
def eD(a b c:Pt):Pt:=(a.1+c.1-b.1,a.2+c.2-b.2)
def jR(d:Nat)(p:Pt):Bool:=decide (p.1>=0)&&(decide (p.2>=0)&&decide (p.1+p.2<=(d:Int)))
def iH(d:Nat)(ps:SD Pt)(R0:Int):SD (Pc×SD Pt):=match fG ps R0 with
 |none=>[]
 |some p=>[([ps.getD (p-1) zP,ps.getD p zP,ps.getD (p+1) zP],ps.take p++ps.drop (p+1))]++
  if jR d (eD (ps.getD (p-1) zP) (ps.getD p zP) (ps.getD (p+1) zP))=true then [([ps.getD (p-1) zP,ps.getD p zP,ps.getD (p+1) zP,eD (ps.getD (p-1) zP) (ps.getD p zP) (ps.getD (p+1) zP)],ps.take p++[eD (ps.getD (p-1) zP) (ps.getD p zP) (ps.getD (p+1) zP)]++ps.drop (p+1))] else []
def bm:Nat->Nat->SD Pt->Int->SD Pt->SD (SD Pc)
 |0,_,_,_,_=>[]
 |n+1,d,ps,s,e=>if ps=e then [[]] else(iH d ps s).flatMap λx=>(bm n d x.2 s e).map (x.1:: ·)
def inB(p:Pt):Bool:=decide (-20<=p.1)&&decide (p.1<=20)&&decide (-20<=p.2)&&decide (p.2<=20)
def psB(ps:SD Pt):Bool:=ps.all inB&&decide (ps.length<=30)
def okM:Nat->Nat->SD Pt->Int->SD Pt->Bool
 |0,_,_,_,_=>false
 |n+1,d,ps,s,e=>psB ps&&(decide (ps=e)||(iH d ps s).all λx=>okM n d x.2 s e)&&decide ((bm (n+1) d ps s e).length<=100)&&(bm (n+1) d ps s e).all λx=>decide (x.length<=100)
def ovF(d:Nat)(ps:SD Pt):SD (SD Pc):=if bm 30 d ps (-1) (loE d)=[] then [] else bm 30 d ps 1 (upE d)
def cq(d:Nat)(ps:SD Pt):SD (SD Pc):=(ovF d ps).flatMap λx=>(bm 30 d ps (-1) (loE d)).map λy=>x++y
def iI:SD Pc->SD Pc->Bool
 |_,[]=>false
 |[],_::_=>true
 |x::xs,y::ys=>if x=y then iI xs ys else et x y
def pcD(c:Pc):D:= .t (c.map pt)
def bT(cs:SD Pc):D:= .l (cs.map pcD)
def JS{a b:Pc}(h:pcD a=pcD b):a=b:=by
 unfold pcD at h;show mX (D.t.inj h)
def qC{a b:Pc}{w:V}(h:Is H (pcD a) v)(k:Is H (pcD b) w):EqR K H 2 v w (decide (a=b)):=by
 have e:=h.eqr (K:=K) (n:=2) (by have:=mZ (ps:=a);unfold pcD dep;lia) (by unfold pcD Kin;show mY) k;have:eqD (pcD a) (pcD b)=decide (a=b):=by
  by_cases c:a=b
  .rw[c,EI];simp
  .rw[EJ λz=>c (JS z)];simp[c]
 rwa [this] at e
def JT{a b:Pc}{w:V}(h:Is H (pcD a) v)(k:Is H (pcD b) w):LtR K H 2 v w (et a b):=by
 have{x,vs,0,ha,h}:=br h;have{y,ws,0,hb,k}:=br k;have{e1,e2}:=uh (K:=K) h k;have e:=LtR.tuples (K:=K) (H:=H) (d:=1) (a:=x) (b:=y) _ _ (SqT.of ha) (SqT.of hb) e1 e2;rw[h.length,k.length,A1,A1,ng a b _ 0 (DW _) (AO _),CB,CB] at e;show e
theorem xa(p q:SD Pc):∀(k i:Nat),min p.length q.length-i=k->i<=min p.length q.length->SeqAt.lex (λj=>decide (p.getD j []=q.getD j [])) (λj=>et (p.getD j []) (q.getD j [])) p.length q.length k i=iI (p.drop i) (q.drop i)
 |0,i,hk,hi=>by
  rw[SeqAt.lex];rcases(by lia:q.length=i\/(p.length=i/\i<q.length)) with e|⟨e,e2⟩
  .rw[Bk (l:=q) (by lia)];have:¬p.length<q.length:=by lia
   cases p.drop i<;>simp[iI,this]
  .rw[Bk (l:=p) (by lia),Al e2];have:p.length<q.length:=by lia
   simp[iI,this]
 |k+1,i,hk,hi=>by
  have h1:i<p.length:=by lia
  have h2:i<q.length:=by lia
  have g1:p.getD i []=p[i]:=by simp[List.getD,h1]
  have g2:q.getD i []=q[i]:=by simp[List.getD,h2]
  rw[SeqAt.lex,Al h1,Al h2,iI,g1,g2];by_cases e:p[i]=q[i]
  .rw[A6 (B4 e),A6 e];show xa p q k (i+1) (by lia) (by lia)
  .rw[A5 (by simpa using e),A5 e]
def JU{p q:SD Pc}(h:Iss H (p.map pcD) vs)(k:Iss H (q.map pcD) ws):
  (∀(j:Nat) x y,vs[j]? =some x->ws[j]? =some y->EqR K H 2 x y (decide (p.getD j []=q.getD j [])))/\(∀(j:Nat) x y,vs[j]? =some x->ws[j]? =some y->decide (p.getD j []=q.getD j [])=false->LtR K H 2 x y (et (p.getD j []) (q.getD j []))):=by
 have go:∀(j:Nat) x y,vs[j]? =some x->ws[j]? =some y->Is H (pcD (p.getD j [])) x/\Is H (pcD (q.getD j [])) y:=λj x y hx hy=>by
  have{d,hd,h1}:=h.of_get hx;have{e,he,h2}:=k.of_get hy;rw[AD] at hd he;have{d',ON,0}:=AB.mp hd;have{e',OV,0}:=AB.mp he;rw[List.getD,ON,List.getD,OV];show{h1,h2}
 show{λj x y hx hy=>qC (go j x y hx hy).1 (go j x y hx hy).2,λj x y hx hy _=>JT (go j x y hx hy).1 (go j x y hx hy).2}
def JV{p q:SD Pc}{w:V}(h:Is H (bT p) v)(k:Is H (bT q) w):Ask K H v w (iI p q):=by
 have{a,vs,0,ha,h}:=aA h;have{b,ws,0,hb,k}:=aA k;have{e1,e2}:=JU (K:=K) h k;show{a,b,vs,ws,(2),2,SqL.of ha,SqL.of hb,5,e1,e2,?_};rw[h.length,k.length,A1,A1,xa p q _ 0 (DW _) (AO _),CB,CB]
theorem lT{α:Type}{f:α->D}(z:α){H:Hp}{Wq:SD α}{vs:SD V}(h:Iss H (Wq.map f) vs):∀(l:SD Nat),(∀i∈l,i<Wq.length)->Iss H ((l.map λi=>Wq.getD i z).map f) (l.map λi=>vs.getD i .non)
 |[],_=>ao
 |i::l,hl=>by
  have hi:i<Wq.length:=hl i (by simp);have hr:i<vs.length:=by rw[h.length,A1];show hi
  show am ?_ (lT z h l λj hj=>hl j (by simp[hj]));have{d,hd,h1}:=h.of_get (A2 hr);rw[AD,A2 hi] at hd;cases hd;change Is H (f (Wq.getD i z)) (vs.getD i .non);rw[A',A',A2 hi,A2 hr];show h1
def xb(t:av H H'){p:Pt}(h:Is H (pt p) v):Is H' (pt p) v:=by
 have{a,0,ha}:=fR h;show fj (t _ _ ha)
theorem qE{H H':Hp}(t:av H H'):∀{ps:SD Pt}{vs:SD V},Iss H (ps.map pt) vs->Iss H' (ps.map pt) vs
 |[],_,h=>by rw[bn h];show ao
 |p::ps,_,h=>by
  have{u,us,0,h1,h2}:=aN h;show am (xb t h1) (qE t h2)
def cw(t:av H H')(h:Is H (pcD c) v):Is H' (pcD c) v:=by
 have{a,vs,0,ha,hi}:=br h;show bi (t _ _ ha) (qE t hi)
theorem eE{H H':Hp}(t:av H H'):∀{cs:SD Pc}{vs:SD V},Iss H (cs.map pcD) vs->Iss H' (cs.map pcD) vs
 |[],_,h=>by rw[bn h];show ao
 |p::ps,_,h=>by
  have{u,us,0,h1,h2}:=aN h;show am (cw t h1) (eE t h2)
def iJ{H0:Hp}(s:ae H0 H):av H (nw H0 H):=λa xs e=>lz s e
def xc{H0:Hp}{ps:SD Pt}(s:ae H0 H)(n:H0 a=none)(h:Is H (pts ps) (.ref a)):Is (nw H0 H) (pts ps) (.ref a):=by
 have{_,vs,e,ha,hi}:=aA h;cases e;show aD (by rw[bZ n];show ha) (qE (iJ s) hi)
def xf{H0:Hp}(s:ae H0 H)(n:H0 a=none)(h:Is H (bT cs) (.ref a)):Is (nw H0 H) (bT cs) (.ref a):=by
 have{_,vs,e,ha,hi}:=aA h;cases e;show aD (by rw[bZ n];show ha) (eE (iJ s) hi)
theorem JW{H0 H1:Hp}(n:H1 a=none)(s:ae H1 H2):ae (nw H0 H1) (hid (nw H0 H2) a):=λb o e=>by
 have hb:b≠a:=by rintro rfl;rw[bx _ _ e] at n;cases n
 rw[dM hb];show fB s b o e
def xg{ps es:SD Pt}{s:Int}(h:okM n d ps s es=true):(bm n d ps s es).length<=100/\∀x∈bm n d ps s es,x.length<=100:=by
 cases n with
 |zero=>cases h
 |succ n=>
  unfold okM at h;simp only[AM,Ar,AX] at h;show{h.1.2,h.2}
def fH{ps:SD Pt}(h:j<ps.length):atI (ps.map pt) (j:Int)=some (pt (ps.getD j zP)):=by
 show gu (j:=j) rfl ?_;rw[AD,A2 h,A',A2 h];rfl
def jS{ps:SD Pt}(h:j<ps.length):ps.getD j zP∈ps:=by
 rw[A',A2 h];show CT h
def xh{ps:SD Pt}(h:psB ps=true):(∀p∈ps,-20<=p.1/\p.1<=20/\-20<=p.2/\p.2<=20)/\ps.length<=30:=by
 unfold psB inB at h;simp only[AM,Ar,AX] at h;show{λp hp=>by have:=h.1 p hp;lia,h.2}
theorem xk{p:Nat->Bool}:∀{n i:Nat},i<n->(∀j<i,p j=false)->p i=true->(List.range n).find? p=some i
 |0,i,h,_,_=>absurd h (by lia)
 |n+1,i,h,hb,hp=>by
  rw[B0,List.find?_append];by_cases e:i=n
  .subst e;have:(List.range i).find? p=none:=by
    rw[List.find?_eq_none];intro j hj;rw[hb j (AY.mp hj)];decide
   rw[this];simp[hp]
  .rw[xk (n:=n) (by lia) hb hp];rfl
def JX{p:Nat->Bool}(h:∀j<n,p j=false):(List.range n).find? p=none:=by
 rw[List.find?_eq_none];intro j hj;rw[h j (AY.mp hj)];decide
def JY{ps:SD Pt}{s:Int}{p:Nat}(h:fG ps s=some p):1<=p/\p+1<ps.length:=by
 unfold fG at h;have{i,hi,0}:=AB.mp h;have:=AY.mp (List.mem_of_find?_eq_some hi);lia
def wkP(p:Pt):SD Int:=[p.1,p.2]
def wk(ps:SD Pt):SD (SD Int):=ps.map wkP
def lU{a b:SD Pt}(h:wk a=wk b):a=b:=by
 induction a generalizing b with
 |nil=>cases b with
  |nil=>rfl
  |cons=>cases h
 |cons p a ih=>cases b with
  |nil=>cases h
  |cons q b=>
   unfold wk at h;rw[AG,AG] at h;injection h with h1 h2;unfold wkP at h1;simp only[CY,and_true] at h1;rw[ih h2,Prod.ext h1.1 h1.2]
def abI(i:Int):Int:=if i<0 then -i else i
def pwF(c:Pc):Int:=if c.length=3 then abI (crn (c.getD 0 zP) (c.getD 1 zP) (c.getD 2 zP)) else 1
def cO:SD Pc->Int
 |[]=>1
 |c::cs=>pwF c*cO cs
theorem xm:∀(a b:SD Pc),cO (a++b)=cO a*cO b
 |[],b=>by simp[cO]
 |c::a,b=>by
  rw[DL,cO,cO,xm a b,Int.mul_assoc]
def JZ(c:Pc):cO [c]=pwF c:=by simp[cO]
def J0(h:cs[i]? =some c):cO (cs.take (i+1))=cO (cs.take i)*pwF c:=by
 rw[AL,h,xm];change _*cO [c]=_;rw[JZ]
def pcB(c:Pc):Bool:=c.all inB&&(decide (c.length=3)||decide (c.length=4))
def jT(c:Pc):Prop:=(∀p∈c,inB p=true)/\(c.length=3\/c.length=4)
def J1(h:pcB c=true):jT c:=by
 unfold pcB at h;simp only[AM,C7,Ar,AX] at h;show h
def okP(d:Nat)(ps:SD Pt):Bool:=okM 30 d ps (-1) (loE d)&&okM 30 d ps 1 (upE d)&&decide ((cq d ps).length<64)
def iE:Int->Int->Bool
 |.ofNat m,.ofNat n=>Nat.beq m n
 |.negSucc m,.negSucc n=>Nat.beq m n
 |_,_=>false
def lV{a b:Int}:iE a b=true↔a=b:=by
 cases a<;>cases b<;>simp[iE]<;>lia
def pE(p q:Pt):Bool:=match iE p.1 q.1 with
 |true=>iE p.2 q.2
 |false=>false
def xn{p q:Pt}:pE p q=true↔p=q:=by
 unfold pE;constructor
 .intro h;split at h
  .next e=>show Prod.ext (lV.mp e) (lV.mp h)
  .cases h
 .rintro rfl;rw[lV.mpr rfl];show lV.mpr rfl
def cE:Pc->Pc->Bool
 |[],[]=>true
 |p::a,q::b=>match pE p q with
  |true=>cE a b
  |false=>false
 |_,_=>false
theorem fI:∀{a b:Pc},cE a b=true↔a=b
 |[],[]=>by simp[cE]
 |[],q::b=>by simp[cE]
 |p::a,[]=>by simp[cE]
 |p::a,q::b=>by
  unfold cE;constructor
  .intro h;split at h
   .next e=>rw[xn.mp e,fI.mp h]
   .cases h
  .intro h;injection h with h1 h2;rw[xn.mpr h1];show fI.mpr h2
def qF(a b:Pc):cE a b=decide (a=b):=by
 by_cases h:a=b
 .rw[fI.mpr h];simp[h]
 .have:cE a b≠true:=λz=>h (fI.mp z);simp[h,this]
def lW(p q:Pt):Pt:=if ft q p=true then q else p
def lX(p q:Pt):Pt:=if gtI q p=true then q else p
def eW:Pt->SD Pt->SD Pc
 |_,[]=>[]
 |a,p::ps=>[lW a p,lX a p]::eW p ps
def aO(c:Pc):SD Pc:=eW (c.getLastD zP) c
def bv:SD (Pc×Pc)->Pc->Pc
 |[],_=>[]
 |x::R,k=>match cE x.1 k with
  |true=>x.2
  |false=>bv R k
def dE:SD (Pc×Pc)->Pc->Bool
 |[],_=>false
 |x::R,k=>match cE x.1 k with
  |true=>true
  |false=>dE R k
def isS:SD Pc->Pc->Bool
 |[],_=>false
 |x::R,k=>match cE x k with
  |true=>true
  |false=>isS R k
def bI:SD Pc->SD Pc->SD Pc
 |D,[]=>D
 |D,x::xs=>bI (match isS D x with|true=>D|false=>D++[x]) xs
def cQ(c:Pc):SD (Pc×Pc):=if c.length=4 then [((aO c).getD 0 [],(aO c).getD 2 []),((aO c).getD 1 [],(aO c).getD 3 [])] else []
def dF(S:SD (Pc×Pc))(kept left:Pc):SD (Pc×Pc):=S.map λy=>(y.1,match cE y.2 left with|true=>kept|false=>y.2)
def ce(S:SD (Pc×Pc))(ps:SD (Pc×Pc)):SD (Pc×Pc):=ps.foldl (λS x=>dF S (bv S x.1) (bv S x.2)) S
def bM(xs:SD Pc):SD (Pc×Pc):=xs.map λx=>(x,x)
def gK(cs:SD Pc):SD (Pc×Pc):=ce (bM (bI [] (cs.flatMap aO))) (cs.flatMap cQ)
def bu(cs:SD Pc):SD Pc:=cs.filter λc=>decide (c.length=3)
def jo1(T:SD (Pc×Pc))(c:Pc)(FJ:SD (Pc×Pc)×SD (Pc×Pc))(s:Pc):SD (Pc×Pc)×SD (Pc×Pc):=
 match dE FJ.1 (bv T s) with
 |true=>(FJ.1,FJ.2++[(bv FJ.1 (bv T s),c)])
 |false=>(FJ.1++[(bv T s,c)],FJ.2)
def jo2(T:SD (Pc×Pc))(FJ:SD (Pc×Pc)×SD (Pc×Pc))(c:Pc):SD (Pc×Pc)×SD (Pc×Pc):=(aO c).foldl (jo1 T c) FJ
def joG(T:SD (Pc×Pc))(cs:SD Pc):SD (Pc×Pc)×SD (Pc×Pc):=cs.foldl (jo2 T) ([],[])
def jU(cs:SD Pc):SD (Pc×Pc):=(joG (gK cs) (bu cs)).2
def qG(xs:SD Pc)(ps:SD (Pc×Pc)):Nat:=((ce (bM xs) ps).filter λy=>cE y.2 y.1).length
def lY(cs:SD Pc):Nat:=qG (bu cs) (jU cs)
def ndB:SD Pc->Bool
 |[]=>true
 |x::xs=>match isS xs x with
  |true=>false
  |false=>ndB xs
def qH(cs:SD Pc):Bool:=ndB (bu cs)&&decide (cs.length<=100)&&cs.all pcB
def jV{a b:Pc}(h:a≠b):cE a b=false:=by rw[qF];simp[h]
def qI{x:Pc×Pc}{R:SD (Pc×Pc)}{k:Pc}(e:x.1=k):bv (x::R) k=x.2:=by
 change(match cE x.1 k with|true=>x.2|false=>bv R k)=_;rw[fI.mpr e]
def qJ{x:Pc×Pc}{R:SD (Pc×Pc)}{k:Pc}(e:x.1≠k):bv (x::R) k=bv R k:=by
 change(match cE x.1 k with|true=>x.2|false=>bv R k)=_;rw[jV e]
theorem jW{k:Pc}:∀{S:SD (Pc×Pc)},dE S k=true↔k∈S.map (·.1)
 |[]=>by simp[dE]
 |x::S=>by
  have ih:=jW (k:=k) (S:=S);change(match cE x.1 k with|true=>true|false=>dE S k)=true↔_;by_cases e:x.1=k
  .rw[fI.mpr e];simp[e]
  .rw[jV e,AG,AJ];show{λh=>.inr (ih.mp h),λh=>h.elim (λz=>absurd z.symm e) ih.mpr}
theorem lZ{k:Pc}:∀{S:SD Pc},isS S k=true↔k∈S
 |[]=>by simp[isS]
 |x::S=>by
  have ih:=lZ (k:=k) (S:=S);change(match cE x k with|true=>true|false=>isS S k)=true↔_;by_cases e:x=k
  .rw[fI.mpr e];simp[e]
  .rw[jV e,AJ];show{λh=>.inr (ih.mp h),λh=>h.elim (λz=>absurd z.symm e) ih.mpr}
theorem xo:∀{xs:SD Pc},ndB xs=true->xs.Nodup
 |[],_=>DZ
 |x::xs,h=>by
  have h:(match isS xs x with|true=>false|false=>ndB xs)=true:=h;cases e:isS xs x with
  |true=>rw[e] at h;cases h
  |false=>
   rw[e] at h;show BM.mpr {λz=>(by rw[lZ.mpr z] at e;cases e),xo h}
theorem qK{k p:Pc}{B:SD (Pc×Pc)}:∀{A:SD (Pc×Pc)},k∉A.map (·.1)->bv (A++(k,p)::B) k=p
 |[],_=>qI rfl
 |x::A,h=>by
  rw[DL,qJ (λz=>h (by simp[z]))];show qK λz=>h (AT _ z)
def xp(S:SD (Pc×Pc))(a b:Pc):(dF S a b).map (·.1)=S.map (·.1):=by
 unfold dF;rw[BC];rfl
theorem l6:∀(ps S:SD (Pc×Pc)),(ce S ps).map (·.1)=S.map (·.1)
 |[],_=>rfl
 |x::ps,S=>by
  change(ce (dF S _ _) ps).map (·.1)=_;rw[l6 ps,xp]
def l'(xs:SD Pc):(bM xs).map (·.1)=xs:=by
 unfold bM;rw[BC];show List.map_id xs
def J2{ps:SD (Pc×Pc)}{x:Pc×Pc}:ce S (ps++[x])=dF (ce S ps) (bv (ce S ps) x.1) (bv (ce S ps) x.2):=by
 unfold ce;rw[Bo];rfl
def J'{a b:Pc}(h:S[j]? =some y):dF (S.take (j+1)) a b++S.drop (j+1)=dF (S.take j) a b++(y.1,match cE y.2 b with|true=>a|false=>y.2)::S.drop (j+1):=by
 rw[AL,h];unfold dF;rw[A7,BV];rfl
def qL{α:Type}{S:SD α}{y:α}(h:S[j]? =some y):S.drop j=y::S.drop (j+1):=by
 have{hj,e}:=A8.mp h;rw[Al hj,e]
def dR(D:SD Pc)(x:Pc):SD Pc:=match isS D x with|true=>D|false=>D++[x]
theorem qM:∀(a b D:SD Pc),bI D (a++b)=bI (bI D a) b
 |[],_,_=>rfl
 |x::a,b,D=>qM a b _
def Ka(D xs:SD Pc)(x:Pc):bI D (xs++[x])=dR (bI D xs) x:=qM xs [x] D
def Kb{D:SD Pc}{x y:Pc}:y∈dR D x↔y∈D\/y=x:=by
 unfold dR;cases e:isS D x with
 |true=>show{.inl,λh=>h.elim id λz=>(by rw[z];show lZ.mp e)}
 |false=>simp
def Kc{D:SD Pc}{x:Pc}(h:D.Nodup):(dR D x).Nodup:=by
 unfold dR;cases e:isS D x with
 |true=>show h
 |false=>
  show DA.mpr {h,7,λa ha b hb z=>?_};rw[Ag.mp hb] at z;rw[z] at ha;rw[lZ.mpr ha] at e;cases e
theorem ma{y:Pc}:∀{xs D:SD Pc},y∈bI D xs↔y∈D\/y∈xs
 |[],D=>by simp[bI]
 |x::xs,D=>by
  change y∈bI (dR D x) xs↔_;rw[ma,Kb,AJ,or_assoc]
theorem xq:∀{xs D:SD Pc},D.Nodup->(bI D xs).Nodup
 |[],D,h=>h
 |x::xs,D,h=>xq (xs:=xs) (D:=dR D x) (Kc h)
def Kd(D:SD Pc)(x:Pc):(dR D x).length<=D.length+1:=by
 unfold dR;cases isS D x<;>simp
theorem md:∀(xs D:SD Pc),(bI D xs).length<=D.length+xs.length
 |[],D=>A9 _
 |x::xs,D=>by
  have h1:(bI D (x::xs)).length<=_:=md xs (dR D x);have h2:=Kd D x;simp only[AW];lia
theorem qN:∀(c:SD Pt) (a:Pt),(eW a c).length=c.length
 |[],_=>rfl
 |p::c,a=>by
  change(eW p c).length+1=c.length+1;rw[qN c p]
def jX(c:Pc):(aO c).length=c.length:=qN c _
def xr(h:∀c∈cs,jT c):(cs.flatMap aO).length<=4*cs.length:=by
 induction cs with
 |nil=>show A9 _
 |cons c cs ih=>
  have:=ih λc hc=>h c (AT _ hc);have h2:=(h c Aa).2;rw[Bc,AA,jX,AW];lia
def Ke :(cs.flatMap cQ).length<=2*cs.length:=by
 induction cs with
 |nil=>show A9 _
 |cons c cs ih=>
  rw[Bc,AA,AW];have:(cQ c).length<=2:=by unfold cQ;split<;>simp
  lia
def Kf{x:Pc×Pc}(h:x∈cQ c):x.1∈aO c/\x.2∈aO c:=by
 unfold cQ at h;split at h
 .next e=>
  have l:=jX c;have gm:∀i,i<4->(aO c).getD i []∈aO c:=λi hi=>by
   rw[A',A2 (by lia)];show CT _
  simp only[AJ,Aw,By] at h;rcases h with rfl|rfl
  .show{gm 0 (by lia),gm 2 (by lia)}
  .show{gm 1 (by lia),gm 3 (by lia)}
 .cases h
def Kg(cs:SD Pc):(gK cs).map (·.1)=bI [] (cs.flatMap aO):=by
 unfold gK;rw[l6,l']
def Kh{s:Pc}(hc:c∈cs)(hs:s∈aO c):s∈(gK cs).map (·.1):=by
 rw[Kg];show ma.mpr (.inr (BB.mpr {c,hc,hs}))
def Ki(T:SD (Pc×Pc))(c:Pc)(FJ:SD (Pc×Pc)×SD (Pc×Pc))(s:Pc):(jo1 T c FJ s).1.length+(jo1 T c FJ s).2.length=FJ.1.length+FJ.2.length+1:=by
 unfold jo1;cases dE FJ.1 (bv T s)<;>simp<;>lia
def iK(C:SD Pc)(FJ:SD (Pc×Pc)×SD (Pc×Pc)):Prop:=(∀x∈FJ.1,x.2∈C)/\∀x∈FJ.2,x.1∈C/\x.2∈C
def Kj{k:Pc}(h:k∈S.map (·.1)):(k,bv S k)∈S:=by
 induction S with
 |nil=>cases h
 |cons x S ih=>
  by_cases e:x.1=k
  .rw[qI e,<-e];show Aa
  .rw[qJ e];show AT _ (ih ?_);rw[AG] at h;show(AJ.mp h).elim (λz=>absurd z.symm e) id
def Kk{C:SD Pc}{T:SD (Pc×Pc)}{FJ:SD (Pc×Pc)×SD (Pc×Pc)}(s:Pc)(hc:c∈C)(h:iK C FJ):iK C (jo1 T c FJ s):=by
 unfold jo1;cases e:dE FJ.1 (bv T s) with
 |true=>
  show{h.1,λx hx=>?_};rcases BP.mp hx with hx|hx
  .show h.2 x hx
  .rw[Ag.mp hx];show{h.1 _ (Kj (jW.mp e)),hc}
 |false=>
  show{λx hx=>?_,h.2};rcases BP.mp hx with hx|hx
  .show h.1 x hx
  .rw[Ag.mp hx];show hc
theorem xt{C:SD Pc}{T:SD (Pc×Pc)}{c:Pc}(hc:c∈C):∀(ss:SD Pc) (FJ:SD (Pc×Pc)×SD (Pc×Pc)),iK C FJ->iK C (ss.foldl (jo1 T c) FJ)
 |[],_,h=>h
 |s::ss,FJ,h=>xt hc ss _ (Kk s hc h)
theorem xu{C:SD Pc}{T:SD (Pc×Pc)}:∀(cs:SD Pc) (FJ:SD (Pc×Pc)×SD (Pc×Pc)),(∀c∈cs,c∈C)->iK C FJ->iK C (cs.foldl (jo2 T) FJ)
 |[],_,_,h=>h
 |c::cs,FJ,hc,h=>xu cs _ (λx hx=>hc x (AT _ hx)) (xt (hc c Aa) _ _ h)
def Kl(cs:SD Pc):∀x∈jU cs,x.1∈bu cs/\x.2∈bu cs:=
 (xu (C:=bu cs) (T:=gK cs) (bu cs) ([],[]) (λ_ h=>h) {λ_ h=>(nomatch h),λ_ h=>(nomatch h)}).2
theorem qO(T:SD (Pc×Pc))(c:Pc):∀(ss:SD Pc) (FJ:SD (Pc×Pc)×SD (Pc×Pc)),(ss.foldl (jo1 T c) FJ).1.length+(ss.foldl (jo1 T c) FJ).2.length=FJ.1.length+FJ.2.length+ss.length
 |[],_=>rfl
 |s::ss,FJ=>by
  rw[CH,qO T c ss,Ki,AW];lia
theorem xv(T:SD (Pc×Pc)):∀(cs:SD Pc) (FJ:SD (Pc×Pc)×SD (Pc×Pc)),(∀c∈cs,c.length<=4)->(cs.foldl (jo2 T) FJ).1.length+(cs.foldl (jo2 T) FJ).2.length<=FJ.1.length+FJ.2.length+4*cs.length
 |[],_,_=>A9 _
 |c::cs,FJ,h=>by
  have h1:=xv T cs (jo2 T FJ c) λx hx=>h x (AT _ hx);have h2:(jo2 T FJ c).1.length+(jo2 T FJ c).2.length=_:=qO T c (aO c) FJ;have h3:=h c Aa;rw[jX] at h2;rw[CH,AW];lia
def xw(h:c∈bu cs):c∈cs/\c.length=3:=by
 unfold bu at h;have:=Ct.mp h;show{this.1,by simpa using this.2}
def qP(cs:SD Pc):(bu cs).length<=cs.length:=Bp _ _
def xx(h:cs[i]? =some c):bu (cs.take (i+1))=bu (cs.take i)++if c.length=3 then [c] else []:=by
 unfold bu;rw[AL,h,Bi];simp[Bz]
def Cut(cs:SD Pc):Prop:=(∀c∈cs,jT c)/\cs.length<=100/\(bu cs).Nodup
theorem xz{α:Type}[DecidableEq α]:∀{l L:SD α},l.Nodup->(∀x∈l,x∈L)->l.length<=L.length
 |[],L,_,_=>AO _
 |x::r,L,nd,h=>by
  rw[BM] at nd;have hx:x∈L:=h x Aa;have:=xz (L:=L.erase x) nd.2 λy hy=>(List.mem_erase_of_ne λe:y=x=>nd.1 (e▸hy)).mpr (h y (AT _ hy));rw[List.length_erase_of_mem hx] at this;have:=List.length_pos_of_mem hx;rw[AW];lia
def gL(cs:SD Pc):Int:=if lY cs=1 then cO cs else 0
def me(d:Nat)(w:SD Pt):Int:=((cq d w).map gL).sum
def cf(d:Nat)(L:SD (SD Pt)):Int:=(L.map (me d)).sum
def qQ{α:Type}(f:α->Int){L M:SD α}(h:L.Perm M):(L.map f).sum=(M.map f).sum:=by
 induction h with
 |nil=>rfl
 |cons x _ ih=>rw[AG,AG,Ay,Ay,ih]
 |swap x y l=>simp only[AG,Ay];lia
 |trans _ _ i1 i2=>rw[i1,i2]
def xA{α:Type}(f:α->Int){L:SD α}{c:α}(h:L[i]? =some c):((L.take (i+1)).map f).sum=((L.take i).map f).sum+f c:=by
 rw[AL,h,A7,C5];simp
def mkD(d:Nat)(x:SD Lf):SD (SD Int):=(x++fD d (bF d x)).map bY
def mkB(d:Nat)(x:SD Lf):Bool:=((x++fD d (bF d x)).all λm=>decide (1<=m.1)&&decide (m.1<m.2.1)&&decide (m.2.1<=(d:Int)+1))&&decide ((x++fD d (bF d x)).length<=15)&&ssB (mkD d x)
def mf(c:Nat->Nat->SG Bool)(n:Nat):Bool:=decide (n<2)||match fw c n with
 |none=>false
 |some p=>decide (p.size<=1000)&&p.toList.isPerm (List.range n)
def jY(d k:Nat):Int:=(((dk d k).filter (isW d)).map (lH d)).sum
def sDr(d k:Nat):Bool:=mf (λi j=>(dk d k)[i]?.bind λx=>(dk d k)[j]?.map λy=>gG x y) (dk d k).length
def f92(d k:Nat):Bool:=okB d k&&(dk d k).all (λx=>jM d x&&mkB d x)&&decide ((dk d k).length<=1000)
def Fl(d k:Nat):Prop:=f92 d k=true/\sDr d k=true/\jY d k=cN d k
def a92(d k:Nat):Bool:=f92 d k&&sDr d k&&decide (jY d k=cN d k)
def Km:((List.range 7).all (a92 1))=true:=by ac_nf
def Kn:((List.range 7).all (a92 2))=true:=by ac_nf
def Ko:((List.range 7).all (a92 3))=true:=by ac_nf
def Kp:((List.range 7).all (a92 4))=true:=by ac_nf
def Kq:((List.range 3).all (a92 5))=true:=by ac_nf
def Kr:f92 5 3=true:=by ac_nf
def Kt:sDr 5 3=true:=by ac_nf
def Ku:jY 5 3=cN 5 3:=by ac_nf
def xB{k:Nat}(h:Wide d k):Fl d k:=by
 unfold Wide at h;have go:∀{m n:Nat},((List.range n).all (a92 m))=true->∀{k},k<n->Fl m k:=λh k hk=>by
  have:=AX.mp h k (AY.mpr hk);unfold a92 at this;simp only[AM,Ar] at this;show{this.1.1,this.1.2,this.2}
 have hd:d=1\/d=2\/d=3\/d=4\/(d=5/\k<3)\/(d=5/\k=3):=by lia
 rcases hd with rfl|rfl|rfl|rfl|⟨rfl,hk⟩|⟨rfl,rfl⟩
 .show go Km (by lia)
 .show go Kn (by lia)
 .show go Ko (by lia)
 .show go Kp (by lia)
 .show go Kq hk
 .show{Kr,Kt,Ku}
def Kv{k:Nat}(h:Wide d k):(okB d k=true/\(dk d k).length<=1000/\sDr d k=true)/\(∀x∈dk d k,jM d x=true/\mkB d x=true):=by
 have{a,b,_}:=xB h;unfold f92 at a;simp only[AM,Ar,AX] at a;show{{a.1.1,a.2,b},a.1.2}
def sWy(d k:Nat):Bool:=mf (λi j=>(bj d k)[i]?.bind λx=>(bj d k)[j]?.map λy=>et x y) (bj d k).length
def gM(d:Nat)(w:SD Pt):Bool:=okP d w&&(cq d w).all qH
def Wy(d k:Nat):Prop:=(bj d k).length<=1000/\(bj d k).all (gM d)=true/\sWy d k=true/\cf d (bj d k)=cN d k
def w92(d k:Nat):Bool:=decide ((bj d k).length<=1000)&&(bj d k).all (gM d)&&sWy d k&&decide (cf d (bj d k)=cN d k)
def jZ{k:Nat}(h:w92 d k=true):Wy d k:=by
 unfold w92 at h;simp only[AM,Ar] at h;show{h.1.1.1,h.1.1.2,h.1.2,h.2}
def qR{α:Type}{f:α->Bool}{L:SD α}(a:(L.take n).all f=true)(b:(L.drop n).all f=true):L.all f=true:=by
 have:=List.all_append (xs:=L.take n) (ys:=L.drop n) (f:=f);rw[Bb,a,b] at this;show this
def qS{L:SD (SD Pt)}{x y:Int}(a:cf d (L.take n)=x)(b:cf d (L.drop n)=y):cf d L=x+y:=by
 rw[<-a,<-b];unfold cf;rw[<-C5,<-A7,Bb]
def Kw:((List.range 7).all (w92 1))=true:=by ac_nf
def Kx:((List.range 7).all (w92 2))=true:=by ac_nf
def Ky:((List.range 3).all (w92 3))=true:=by ac_nf
def Kz:w92 3 3=true:=by ac_nf
def KA:w92 3 4=true:=by ac_nf
def KB:w92 3 5=true:=by ac_nf
def KC:w92 3 6=true:=by ac_nf
def KD:((List.range 2).all (w92 4))=true:=by ac_nf
def xC:(bj 4 2).length<=1000/\sWy 4 2=true:=by ac_nf
def KE:(((bj 4 2).take 20).all (gM 4))=true:=by ac_nf
def KF:((((bj 4 2).drop 20).take 20).all (gM 4))=true:=by ac_nf
def KG:(((((bj 4 2).drop 20).drop 20).take 20).all (gM 4))=true:=by ac_nf
def KH:(((((bj 4 2).drop 20).drop 20).drop 20).all (gM 4))=true:=by ac_nf
def KI:cf 4 ((bj 4 2).take 20)=52:=by ac_nf
def KJ:cf 4 (((bj 4 2).drop 20).take 20)=141:=by ac_nf
def KL:cf 4 ((((bj 4 2).drop 20).drop 20).take 20)=32:=by ac_nf
def KM:cf 4 ((((bj 4 2).drop 20).drop 20).drop 20)=0:=by ac_nf
def j0{k:Nat}(h:dD d k):Wy d k:=by
 unfold dD at h;have go:∀{m n:Nat},((List.range n).all (w92 m))=true->∀{k},k<n->Wy m k:=λh k hk=>jZ (AX.mp h k (AY.mpr hk));have hd:d=1\/d=2\/(d=3/\k<3)\/(d=3/\k=3)\/(d=3/\k=4)\/(d=3/\k=5)\/(d=3/\k=6)\/(d=4/\k<2)\/(d=4/\k=2):=by lia
 rcases hd with rfl|rfl|⟨rfl,hk⟩|⟨rfl,rfl⟩|⟨rfl,rfl⟩|⟨rfl,rfl⟩|⟨rfl,rfl⟩|⟨rfl,hk⟩|⟨rfl,rfl⟩
 .show go Kw (by lia)
 .show go Kx (by lia)
 .show go Ky hk
 .show jZ Kz
 .show jZ KA
 .show jZ KB
 .show jZ KC
 .show go KD hk
 .show{xC.1,qR KE (qR KF (qR KG KH)),xC.2,(qS KI (qS KJ (qS KL KM))).trans (by ac_nf)}
def KN(h:qH cs=true):Cut cs:=by
 unfold qH at h;simp only[AM,Ar,AX] at h;have{{a1,a2},a3}:=h;show{λc hc=>J1 (a3 c hc),a2,xo a1}
theorem KO{k:Nat}(h:dD d k):∀w∈bj d k,okP d w=true/\∀cs∈cq d w,Cut cs:=λw hw=>by
 have:=AX.mp (j0 h).2.1 w hw;unfold gM at this;rw[AM,AX] at this;show{this.1,λcs hc=>KN (this.2 cs hc)}
section
variable{κ:Type}[DecidableEq κ]
def tK(R:SD (κ×Int)):SD (κ×V):=R.map λx=>(x.1,V.int x.2)
def eX:SD (κ×Int)->κ->Int
 |[],_=>0
 |(a,b)::r,k=>if a=k then b else eX r k
def cR:SD (κ×Int)->κ->Int->SD (κ×Int)
 |[],k,v=>[(k,v)]
 |(a,b)::r,k,v=>if a=k then(a,v)::r else(a,b)::cR r k v
def KP(R:SD (κ×Int)):(tK R).length=R.length:=by unfold tK;rw[A1]
theorem mh(k:κ):∀R:SD (κ×Int),aM (tK R) k=if k∈R.map (·.1) then some (.int (eX R k)) else none
 |[]=>rfl
 |(a,b)::r=>by
  have ih:=mh k r;change aM ((a,V.int b)::tK r) k=_;by_cases e:a=k
  .subst e;rw[dr rfl];simp[eX]
  .rw[cZ e,ih];have:¬k=a:=λz=>e z.symm;change _=if k∈a::r.map (·.1) then some (V.int (if a=k then b else eX r k)) else none
   rw[A5 e];by_cases h:k∈r.map (·.1)
   .rw[A6 h,A6 (AT _ h)]
   .rw[A5 h,A5 λz=>(AJ.mp z).elim this h]
theorem xD(k:κ)(v:Int):∀R:SD (κ×Int),(cR R k v).map (·.1)=if k∈R.map (·.1) then R.map (·.1) else R.map (·.1)++[k]
 |[]=>by simp[cR]
 |(a,b)::r=>by
  have ih:=xD k v r;unfold cR;by_cases e:a=k
  .subst e;simp
  .rw[A5 e,AG,ih];have:¬k=a:=λz=>e z.symm;change _=if k∈a::r.map (·.1) then a::r.map (·.1) else a::r.map (·.1)++[k]
   by_cases h:k∈r.map (·.1)
   .rw[A6 h,A6 (AT _ h)]
   .rw[A5 h,A5 λz=>(AJ.mp z).elim this h];rfl
def KQ{k:κ}{v:Int}{R:SD (κ×Int)}(h:(R.map (·.1)).Nodup):((cR R k v).map (·.1)).Nodup:=by
 rw[xD];by_cases e:k∈R.map (·.1)
 .rw[A6 e];show h
 .rw[A5 e];show DA.mpr {h,7,λa ha b hb z=>?_};rw[Ag.mp hb] at z;show e (z▸ha)
theorem xE{k:κ}{v:Int}:∀{R:SD (κ×Int)}{x:κ×Int},x∈cR R k v->x∈R\/x=(k,v)
 |[],x,h=>.inr (Ag.mp h)
 |(a,b)::r,x,h=>by
  unfold cR at h;by_cases e:a=k
  .rw[A6 e] at h;rcases AJ.mp h with h|h
   .show .inr (by rw[h,e])
   .show .inl (AT _ h)
  .rw[A5 e] at h;rcases AJ.mp h with h|h
   .show .inl (by rw[h];show Aa)
   .show(xE h).imp (AT _) id
theorem xF{k:κ}{v:Int}:∀{R:SD (κ×Int)},(R.map (·.1)).Nodup->aX (tK R) k (.int v)=tK (cR R k v)
 |[],_=>rfl
 |(a,b)::r,nd=>by
  rw[AG,BM] at nd;have ih:=xF (k:=k) (v:=v) nd.2;unfold aX at ih⊢;change(if(((a,V.int b)::tK r).any λkv=>decide (kv.1=k))=true then _ else _)=_;rw[List.any_cons];by_cases e:a=k
  .subst e;rw[B4 rfl,Bool.true_or,A6 rfl];unfold cR;rw[A6 rfl];change((a,V.int b)::tK r).map _=(a,V.int v)::tK r;rw[AG,A6 rfl];congr 1
   conv=>rhs;rw[<-List.map_id (tK r)]
   show As λx hx=>?_;have{y,hy,0}:=Ai.mp hx;rw[A5 λz=>nd.1 (Ai.mpr {y,hy,z})];rfl
  .rw[Ak e,Bool.false_or];unfold cR;rw[A5 e];change _=(a,V.int b)::tK (cR r k v);rw[<-ih];by_cases c:((tK r).any λkv=>decide (kv.1=k))=true
   .rw[A6 c,A6 c];change((a,V.int b)::tK r).map _=_;rw[AG,A5 e]
   .rw[A5 c,A5 c];rfl
end
theorem KR(h:i<ks.length):atI (ks.map V.int) (i:Int)=some (.int (ks.getD i 0)):=ki (by rw[AD,A2 h];simp[List.getD,h])
abbrev Bag(H:Hp)(b:Sx)(Og st:Int):Prop:=H b=some (.lst [.int Og,.int st])
inductive spBag(vs:List V)(H:Hp)(Q:VK)(E':XK):Prop
 |mk (c pl:Int):vs=[.int c,.int pl]->0<=pl->pl<=100000->(∀(b:Addr) (Og st:Int) (H':Hp),ae H H'->H b=none->Bag H' b Og st->0<=Og->0<=st->Q (.ref b) H')->spBag vs H Q E'
inductive spMixed(vs:List V)(H:Hp)(Q:VK)(E':XK):Prop
 |mk (b:Addr) (Og st:Int):vs=[.ref b]->Bag H b Og st->(∀z M0,0<=z->0<=M0->Q (.int z) (upd H b (.lst [.int Og,.int M0])))->spMixed vs H Q E'
inductive spDigit(vs:List V)(H:Hp)(Q:VK)(E':XK):Prop
 |mk (b:Addr) (OI Og st:Int):vs=[.ref b,.int OI]->Bag H b Og st->0<=Og->0<=st->0<OI->OI<=10^60->(∀z far' M0,0<=z->z<OI->0<=far'->0<=M0->Q (.int z) (upd H b (.lst [.int far',.int M0])))->spDigit vs H Q E'
def But(b:Sx)(H H':Hp):Prop:=∀c o,H c=some o->c≠b->H' c=some o
def KS(h0:0<z)(h1:z<=10^60):z≠0/\z.natAbs<2^512:=by
 have:(10:Nat)^60<2^512:=by decide
 constructor<;>lia
def But.of_same{b:Sx}(s:ae H H'):But b H H':=λc o e _=>s _ _ e
def But.trans{b:Sx}(s:But b H H')(t:But b H' H''):But b H H'':=λc o e n=>t c o (s c o e n) n
theorem But.upd{b:Sx}{H:Hp}{o:HO}:But b H (L2.upd H b o):=λc u e n=>by rw[au n];show e
theorem But.same{b:Sx}{H1:Hp}(s:ae H H1)(nb:H b=none)(t:But b H1 H2):ae H H2:=λc o e=>t c o (s c o e) (by rintro rfl;rw[nb] at e;cases e)
def qT{k:Nat}:ci vs none (some (k:Int))=vs.take k:=by
 unfold ci;rw[HT.sIx_nat,HT.sIx_none,CB,DW];show List.take_eq_take_iff.mpr (by lia)
inductive spCell(K:W.Frag)(vs:List V)(H:Hp)(Q:VK)(E':XK):Prop
 |mk (a:Addr) (ns:List Int) (k:Int):vs=[.ref a,.int k]->SqL K H a (ns.map V.int)->0<=k->(∀z,Q (.int z) H)->spCell K vs H Q E'
inductive sp_law(K:W.Frag)(vs:List V)(H:Hp)(Q:VK)(E':XK):Prop
 |mk (a:Addr) (ns:List Int):vs=[.ref a]->SqL K H a (ns.map V.int)->ns.length<=63->(∀H',Q (.bl true) H')->sp_law K vs H Q E'
def qU{ws:SD Int}(hw:∀i:Nat,i<d->ws[i]? =some (wh i))(h0:0<=z)(h1:z<d):atI (ws.map V.int) z=some (.int (wh z)):=by
 have{n,0}:=BS h0;show gu (j:=n) rfl (by rw[AD,hw n (by lia)];rfl)
inductive spSpl(K:W.Frag)(vs:List V)(H:Hp)(Q:VK)(E':XK):Prop
 |mk (a:Addr) (d:Nat) (ws:List Int):vs=[.int d,.ref a]->SqL K H a (ws.map V.int)->2<=d->d<=8->ws.length=d->((∀i:Nat,i<d->ws[i]? =some (wh i)))->Q (.int (wh d)) H->spSpl K vs H Q E'
inductive spAskD(K:W.Frag)(vs:List V)(H:Hp)(Q:VK)(E':XK):Prop
 |mk (a:Addr) (ns:List Int):vs=[.ref a]->SqL K H a (ns.map V.int)->(∀(d k:Nat) (t:Addr) (H':Hp),ae H H'->Wide d k->H' t=some (.tup [.int d,.int k])->Q (.ref t) H')->spAskD K vs H Q E'
def stD(x:SD Lf×Int):D:= .t [lfs x.1,.i x.2]
def Lok(p:Lf):Prop:=0<=p.2.1-p.1/\p.2.1-p.1<=10/\1<=p.2.2/\p.2.2<=20
inductive spBetQ(vs:List V)(H:Hp)(Q:VK)(E':XK):Prop
 |mk (i lo hi:Int):vs=[.int i,.int lo,.int hi]->lo<=i->i<=hi->Q .non H->spBetQ vs H Q E'
inductive spDegQ(vs:List V)(H:Hp)(Q:VK)(E':XK):Prop
 |mk (i:Int):vs=[.int i]->1<=i->i<=5->Q .non H->spDegQ vs H Q E'
inductive spWidQ(vs:List V)(H:Hp)(Q:VK)(E':XK):Prop
 |mk (d k:Nat):vs=[.int d,.int k]->Wide d k->Q .non H->spWidQ vs H Q E'
inductive spEndQ(vs:List V)(H:Hp)(Q:VK)(E':XK):Prop
 |mk (n:Nat) (dv:V) (ps:List Lf):vs=[.int n,dv]->1<=n->n<=5->Is H (lfs ps) dv->((∀p∈ps,Okl n p))->(∀l H',ae H H'->H l=none->H' l=some (.lst ((bF n ps).map V.int))->Q (.ref l) H')->spEndQ vs H Q E'
inductive spLost(vs:List V)(H:Hp)(Q:VK)(E':XK):Prop
 |mk (v:V) (p:Lf):vs=[v]->Is H (lf p) v->Lok p->Q (.int (cj p)) H->spLost vs H Q E'
inductive spLfr(vs:List V)(H:Hp)(Q:VK)(E':XK):Prop
 |mk (d f n:Nat) (sp:Int):vs=[.int d,.int f,.int n,.int sp]->f<=d->d<=5->n<=20->(∀l H',ae H H'->H l=none->Is H' (lfs (dz f (d-f) n sp)) (.ref l)->Q (.ref l) H')->spLfr vs H Q E'
inductive spLeav(n:Nat)(E':W.Frag)(vs:List V)(H:Hp)(Q:VK)(E2:XK):Prop
 |mk (v:V) (ls:List Lf) (wt sp:Int):vs=[v,.int wt,.int sp]->Is H (lfs ls) v->((∀p∈ls,Lok p))->0<=wt->wt<n->(cJ n ls wt sp).length<=1000->ls.length<=200->n<=100->(∀l H',ae H H'->H l=none->Is (nw H H') (.l ((cJ n ls wt sp).map lfs)) (.ref l)->Q (.ref l) H')->spLeav n E' vs H Q E2
inductive spWith(vs:List V)(H:Hp)(Q:VK)(E':XK):Prop
 |mk (d f:Nat) (v:V) (x:List Lf×Int):vs=[.int d,.int ((f+1:Nat):Int),v,.int x.2]->f<d->d<=5->Is H (lfs x.1) v->stB d f x=true->(∀l H',ae H H'->H l=none->Is (nw H H') (.l ((eu d (f+1) x.1 x.2).map stD)) (.ref l)->Q (.ref l) H')->spWith vs H Q E'
def xG{n:String}:W.kitOne K (.type n) (.type n)=some true:=by
 unfold W.kitOne;simp
def xH{x:SD Lf×Int}(h:Is H (stD x) v):∃t u,v=.ref t/\H t=some (.tup [u,.int x.2])/\Is H (lfs x.1) u:=by
 have{t,vs,0,ht,hi}:=br h;have{u,us,0,h1,h2}:=aN hi;have{u2,us2,0,h3,h4}:=aN h2;rw[aG h3,bn h4] at ht;show{t,u,0,ht,h1}
theorem KU :∀x∈ps.map bY,x.length=3:=λx hx=>by
 have{p,_,0}:=Ai.mp hx;rfl
def KW(h1:1<=d)(h5:d<=5):(d:Int)*((d:Int)-1)/2=((d*(d-1)/2:Nat):Int):=by
 have:d=1\/d=2\/d=3\/d=4\/d=5:=by lia
 rcases this with rfl|rfl|rfl|rfl|rfl<;>rfl
theorem mi(k:But a H H'):ae (hid H a) H':=λb o e=>by
 have hb:b≠a:=by rintro rfl;rw[ER] at e;cases e
 rw[dM hb] at e;show k _ _ e hb
def mj(h:i<=vs.length):ci vs (some (i:Int)) none=vs.drop i:=by
 unfold ci;rw[HT.sIx_nat,HT.sIx_none,Nat.min_eq_left h,D' (by simp)]
def Snd.good(h:Snd d ps):hV d ps:={h.ok,h.nn}
theorem Snd.okl{d:Nat}{ps:SD Lf}(h:Snd d ps):∀p∈ps,Okl d p:=h.good.okl
def KY{ns:SD Int}(h:∀i:Nat,0<=ns.getD i 0):0<=jh ns:=h _
def Snd.ends(h:Snd d ps)(i:Nat):0<=(bF d ps).getD i 0:=by
 rcases Bs i d with c|c
 .rw[IU h.okl c];show h.nn i c
 .rw[A',CF (by rw[lu d ps h.okl];show c)];show DR _
inductive spSou(vs:List V)(H:Hp)(Q:VK)(E':XK):Prop
 |mk (n:Nat) (dv:V) (ps:List Lf):vs=[.int n,dv]->1<=n->n<=5->Is H (lfs ps) dv->Snd n ps->(∀H',ae H H'->Q (.bl true) H')->spSou vs H Q E'
inductive spNeS(vs:List V)(H:Hp)(Q:VK)(E':XK):Prop
 |mk (n:Nat) (dv:V) (ps:List Lf):vs=[.int n,dv]->1<=n->n<=5->Is H (lfs ps) dv->Snd n ps->(∀H',ae H H'->Q .non H')->spNeS vs H Q E'
inductive spEnM(vs:List V)(H:Hp)(Q:VK)(E':XK):Prop
 |mk (n:Nat) (dv:V) (ps:List Lf):vs=[.int n,dv]->1<=n->n<=5->Is H (lfs ps) dv->Snd n ps->(fD n (bF n ps)).length<=20->(∀l H',ae H H'->H l=none->Is H' (lfs (fD n (bF n ps))) (.ref l)->Q (.ref l) H')->spEnM vs H Q E'
theorem xI{l:Sx}{xs:SD V}{qs:SD Lf}(s:ae H H')(hl:H l=some (.lst xs))(h:Iss H (qs.map lf) vs):Iss (upd H' l o) (qs.map lf) vs:=
 lx (λa ys e=>by rw[au (by rintro rfl;rw[hl] at e;cases e)];show s _ _ e) h
def KZ{q:Lf}(h:Is H (lf p) v)(k:Is H (lf q) v):p=q:=by
 have{a,0,ha}:=fX h;have{b,e,hb}:=fX k;cases e;rw[ha] at hb;have{a1,a2,a3}:=p;have{b1,b2,b3}:=q;simp at hb;simp[hb]
def K0{wt:SD Lf}{m:Lf}(h:Iss H (wt.map lf) QP)(k:Is H (lf m) v):Fs K H 1 QP v (λj=>decide (wt.getD j (0,0,0)=m)):=by
 have bO:∀(j:Nat) z,QP[j]? =some z->Is H (lf (wt.getD j (0,0,0))) z:=λj z hz=>by
  have{d',ON,h1}:=aR h hz;rw[List.getD,ON];show h1
 show{5,λj z hz=>{?_,vP (bO j z hz) k},λi j z hi hj=>?_}
 .have{a,e,_}:=fX (bO j z hz);show{a,e}
 .change decide (wt.getD i (0,0,0)=m)=decide (wt.getD j (0,0,0)=m);rw[KZ (bO i z hi) (bO j z hj)]
def ti(t:SD Int):D:=tI t
inductive spCho(vs:List V)(H:Hp)(Q:VK)(E':XK):Prop
 |mk (n:Int) (k:Nat):vs=[.int n,.int k]->(k:Int)<=n->n<=15->Q (.int (chF n k)) H->spCho vs H Q E'
inductive spWm(vs:List V)(H:Hp)(Q:VK)(E':XK):Prop
 |mk (v:V) (t:List Int) (p:Nat) (m:Int):vs=[v,.int p,.int m]->Is H (tI t) v->p<t.length->t.length<=5->(∀u H',ae H H'->Is H' (tI (wmF t p m)) u->Q u H')->spWm vs H Q E'
def K1(t:SD Int)(a:Nat):Prop:=t.length<=5/\(∀i:Nat,0<=t.getD i 0)/\t.sum+(a:Int)<=15
inductive spPB(n:Nat)(E':W.Frag)(vs:List V)(H:Hp)(Q:VK)(E2:XK):Prop
 |mk (v:V) (t:List Int) (p g a:Nat):vs=[v,.int p,.int ((p:Int)+(g:Int)),.int a]->Is H (tI t) v->g<n->n<=6->p+g<t.length->K1 t a->(∀l H',ae H H'->H l=none->Is H' (.l ((pbF g t p a).map prD)) (.ref l)->Q (.ref l) H')->spPB n E' vs H Q E2
def xJ(d:Nat)(mk:SD Lf):Prop:=(∀m∈mk,1<=m.1/\m.1<m.2.1/\m.2.1<=(d:Int)+1)/\mk.length<=15
inductive spHMO(vs:List V)(H:Hp)(Q:VK)(E':XK):Prop
 |mk (d:Nat) (v:V) (mk:List Lf):vs=[.int d,v]->1<=d->d<=5->Is H (lfs mk) v->xJ d mk->ssB (mk.map bY)=true->(∀H',ae H H'->Q (.int (hmF d mk)) H')->spHMO vs H Q E'
def K2{x:SD Lf}(h:mkB d x=true):xJ d (x++fD d (bF d x))/\ssB (mkD d x)=true:=by
 unfold mkB at h;simp only[AM,Ar,AX] at h;show{{λm hm=>{(h.1.1 m hm).1.1,(h.1.1 m hm).1.2,(h.1.1 m hm).2},h.1.2},h.2}
inductive spHM(vs:List V)(H:Hp)(Q:VK)(E':XK):Prop
 |mk (d:Nat) (v:V) (ps:List Lf):vs=[.int d,v]->1<=d->d<=5->Is H (lfs ps) v->Snd d ps->mkB d ps=true->(∀H',ae H H'->Q (.int (hmF d (ps++fD d (bF d ps)))) H')->spHM vs H Q E'
def K3{t:SD Int}{p:Nat}(H':Hp)(vs:SD V)(h:Iss H' (t.map .i) vs):Iss H' ((t.take p).map .i) (ci vs none (some (p:Int))):=by
 rw[qT,List.map_take];show h.take p
def K4{t:SD Int}{p:Nat}(hp:p<=t.length)(H':Hp)(vs:SD V)(h:Iss H' (t.map .i) vs):Iss H' ((t.drop p).map .i) (ci vs (some (p:Int)) none):=by
 rw[mj (by rw[h.length,A1];show hp),List.map_drop];show h.drop p
theorem xK:∀{g:Nat}{t:SD Int}{p a:Nat},(pbF g t p a).length<=(a+1)^g
 |0,t,p,a=>by simp[pbF]
 |g+1,t,p,a=>by
  have go:∀n,n<=a+1->((List.range n).flatMap λh:Nat=>(pbF g (wmF t p (h:Int)) (p+1) (a-h)).map λx=>(x.1,chF (t.getD p 0+(h:Int)) h*x.2)).length<=n*(a+1)^g:=by
   intro n hn;induction n with
   |zero=>simp
   |succ n ih=>
    rw[gI,AA,A1];have h1:=ih (by lia);have h2:=xK (g:=g) (t:=wmF t p (n:Int)) (p:=p+1) (a:=a-n);have h3:(a-n+1)^g<=(a+1)^g:=Nat.pow_le_pow_left (by lia) g;rw[Ck];lia
  have:=go (a+1) (A9 _);rw[Nat.pow_succ,Nat.mul_comm];show this
def K5{t:SD Int}{p a:Nat}(hg:g<=5)(ha:a<=15):(pbF g t p a).length<=1048576:=by
 have h1:=xK (g:=g) (t:=t) (p:=p) (a:=a);have h2:(a+1)^g<=16^g:=Nat.pow_le_pow_left (by lia) g;have h3:16^g<=16^5:=CK (by decide) hg;lia
def ml(h:n<=1048576):n<sizeLine:=by rw[At];lia
def qV{t:Sx}{u:V}(h:H t=some (.tup [u,.int x.2]))(k:Is H (tI x.1) u):Is H (prD x) (.ref t):=bi h (am k (am bw ao))
def qW(h:Is H (prD x) v):∃t u,v=.ref t/\H t=some (.tup [u,.int x.2])/\Is H (tI x.1) u:=by
 have{t,vs,0,ht,hi}:=br h;have{u1,us,0,No,hi}:=aN hi;have{u2,us,0,N5,hi}:=aN hi;rw[bn hi,aG N5] at ht;show{t,u1,0,ht,No}
def K6(s:av H H'){t:SD Int}(h:Is H (tI t) v):Is H' (tI t) v:=by
 have{a,0,ha}:=bP h;show fk (s _ _ ha)
def mm(s:av H H')(h:Is H (prD x) v):Is H' (prD x) v:=by
 have{a,u,0,ha,hu}:=qW h;show qV (s _ _ ha) (K6 s hu)
theorem xL{H H':Hp}(s:av H H'):∀{xs:SD (SD Int×Int)}{vs:SD V},Iss H (xs.map prD) vs->Iss H' (xs.map prD) vs
 |[],_,h=>by rw[bn h];show ao
 |x::xs,_,h=>by
  have{u,us,0,q,r}:=aN h;show am (mm s q) (xL s r)
def K7{r:SD Nat}{t:SD Int}{p:Nat}(h:∀i:Nat,0<=t.getD i 0)(hs:t.sum+(r.sum:Nat)<=15)(hl:r.length<=5): -(2^64)<ck t p r/\ck t p r<2^64:=by
 have{a,b}:=wg (p:=p) h hs;have:(6435:Int)^r.length<=6435^5:=by
  have:r.length=0\/r.length=1\/r.length=2\/r.length=3\/r.length=4\/r.length=5:=by lia
  rcases this with e|e|e|e|e|e<;>rw[e]<;>decide
 lia
def K8{wt:SD Lf}{m:Lf}(h:Iss H (wt.map lf) QP)(k:Is H (lf m) v):nD K H 1 QP v (λj=>decide (wt.getD j (0,0,0)=m)):=by
 have{a,b,c}:=K0 (K:=K) h k;show{a,λj z hz=>{(b j z hz).1,(b j z hz).2.told},c}
theorem K9(xs:SD Lf):(dB xs).Nodup:=(qe xs).imp fun{a b} h e=>by subst e;show lB h
def xM{α β:Type}(f:β->α->β)(b:β)(xs:SD α)(j:Nat)(x:α)(h:xs[j]? =some x):(xs.take (j+1)).foldl f b=f ((xs.take j).foldl f b) x:=by
 rw[AL,h,Bo];rfl
def K'(cnt:Lf->Nat)(m:Lf)(ms:SD Lf):TF cnt (m::ms)=iA (TF cnt ms) (m.1-1).toNat (spR (m.2.1-m.1-1).toNat (cnt m)):=by funext t;rfl
def La{p:Nat}{rs:SD (SD Nat)}{D:Tab}{acc:Tab}(h:D[j]? =some x):stP p rs (D.take (j+1)) acc=inP x.1 x.2 p rs (stP p rs (D.take j) acc):=xM _ _ D j x h
def Lb{d:Sx}{kvs:SD (SD Key×V)}(h:H d=some (.dT kvs)):av H (upd H d o):=(LTS.dict h).2
theorem xN{κ:Type}[DecidableEq κ]{k:κ}:∀{R:SD (κ×Int)},k∈R.map (·.1)->(k,eX R k)∈R
 |[],h=>nomatch h
 |(a,b)::r,h=>by
  unfold eX;by_cases e:a=k
  .rw[A6 e,e];show Aa
  .rw[A5 e];rw[AG,AJ] at h;show AT _ (xN (h.resolve_left λz=>e z.symm))
theorem xO{κ:Type}[DecidableEq κ]{k:κ}{v:Int}:∀{R:SD (κ×Int)},eX (cR R k v) k=v/\k∈(cR R k v).map (·.1)
 |[]=>by simp[cR,eX]
 |(a,b)::r=>by
  have{h1,h2}:=xO (k:=k) (v:=v) (R:=r);unfold cR;by_cases e:a=k
  .rw[A6 e];show{A6 e,by rw[AG,e];show Aa}
  .rw[A5 e];show{by unfold eX;rw[A5 e];show h1,by rw[AG];show AT _ h2}
def rwL(t:SD Int):D:= .l (t.map .i)
def qD(q:Ask4):D:= .t [.i q.d,.i q.k,tI q.h,tI q.f]
def smD(x:Sm4):D:= .t [.i x.1,rwL x.2.1,qD x.2.2]
def kq(q:Ask4):SD (Mx Int):=[.inl q.d,.inl q.k,.inr q.h,.inr q.f]
def Lc{r:Ask4}(h:kq q=kq r):q=r:=by
 have{a,b,c,d}:=q;have{a',b',c',d'}:=r;unfold kq at h;simp only[CY,Sum.inl.injEq,Sum.inr.injEq,and_true] at h;have{0,0,0,0}:=h;rfl
def qX(h:Is H (qD q) v):IsK H (kq q) v:={0,h}
def iL{t:SD Int}(h:Is H (rwL t) v):∃a,v=.ref a/\H a=some (.lst (t.map V.int)):=by
 have{a,vs,0,ha,hi}:=aA h;rw[kB hi] at ha;show{a,0,ha}
def j4{t:SD Int}(h:H a=some (.lst (t.map V.int))):Is H (rwL t) (.ref a):=aD h (m7 t)
def xP{H0:Hp}{t:SD Int}(n:H0 a=none)(h:Is H (rwL t) (.ref a)):Is (nw H0 H) (rwL t) (.ref a):=by
 have{_,e,ha}:=iL h;cases e;show j4 (by rw[bZ n];show ha)
def fJ(t:av H H'){xs:SD Int}(h:Is H (tI xs) v):Is H' (tI xs) v:=by
 have{a,0,ha}:=bP h;show fk (t _ _ ha)
theorem gN{H H':Hp}(t:av H H'):∀{ts:SD (SD Int)}{vs:SD V},Iss H (ts.map tI) vs->Iss H' (ts.map tI) vs
 |[],_,h=>by rw[bn h];show ao
 |p::ps,_,h=>by
  have{u,us,0,h1,h2}:=aN h;show am (fJ t h1) (gN t h2)
def xQ(t:av H H')(h:Is H (qD q) v):Is H' (qD q) v:=by
 have{a,vs,0,ha,hi}:=br h;have{u1,us,0,h1,hi}:=aN hi;have{u2,us,0,h2,hi}:=aN hi;have{u3,us,0,h3,hi}:=aN hi;have{u4,us,0,h4,hi}:=aN hi;rw[bn hi,aG h1,aG h2] at ha;show bi (t _ _ ha) (am bw (am bw (am (fJ t h3) (am (fJ t h4) ao))))
def eY(t:SD Int):Prop:=Nn t/\t.length<=5/\(t=[]\/∃s x,t=s++[x]/\0<x)
inductive spIsR(vs:List V)(H:Hp)(Q:VK)(E':XK):Prop
 |mk (v:V) (t:List Int):vs=[v]->Is H (rwL t) v->eY t->Q (.bl true) H->spIsR vs H Q E'
inductive spRwL(vs:List V)(H:Hp)(Q:VK)(E':XK):Prop
 |mk (v:V) (t:List Int):vs=[v]->Is H (rwL t) v->t.length<=5->(∀H',ae H H'->Q (.int (wtF t)) H')->spRwL vs H Q E'
inductive spRwT(vs:List V)(H:Hp)(Q:VK)(E':XK):Prop
 |mk (v:V) (t:List Int):vs=[v]->Is H (tI t) v->t.length<=5->(∀H',ae H H'->Q (.int (wtF t)) H')->spRwT vs H Q E'
inductive spNeR(vs:List V)(H:Hp)(Q:VK)(E':XK):Prop
 |mk (d:Int) (v1 v2:V) (a b:List Int):vs=[.int d,v1,v2]->Is H (rwL a) v1->Is H (rwL b) v2->eY a->eY b->wtF a+wtF b=d->(∀H',ae H H'->Q .non H')->spNeR vs H Q E'
inductive spPrd(vs:List V)(H:Hp)(Q:VK)(E':XK):Prop
 |mk (v:V) (ws:List Int):vs=[v]->Is H (rwL ws) v->((∀w∈ws,1<=w/\w<=5))->Q (.int (cM ws)) H->spPrd vs H Q E'
inductive spFil(vs:List V)(H:Hp)(Q:VK)(E':XK):Prop
 |mk (v:V) (t:List Int) (n:Nat):vs=[v,.int n]->Is H (rwL t) v->t.length<=n->n<=5->(∀u H',ae H H'->Is H' (tI (cb n t)) u->Q u H')->spFil vs H Q E'
inductive spRwn(vs:List V)(H:Hp)(Q:VK)(E':XK):Prop
 |mk (v:V) (t:List Int):vs=[v]->Is H (tI t) v->Nn t->t.sum<=5->t.length<=5->(∀l H',ae H H'->H l=none->Is H' (.l ((rwF t).map tI)) (.ref l)->Q (.ref l) H')->spRwn vs H Q E'
inductive spRby(n:Nat)(E':W.Frag)(vs:List V)(H:Hp)(Q:VK)(E2:XK):Prop
 |mk (v:V) (t:List Int) (wt:Int) (fi:Nat):vs=[v,.int wt,.int fi]->Is H (tI t) v->Nn t->t.length<=5->(wt-wtF t).toNat+1<=n->n<=8->-1000<=wt->wt<=1000->-1000<=wtF t->wtF t<=1000->fi<=5->(∀l H',ae H H'->H l=none->Is H' (.l ((rbF n t wt fi).map tI)) (.ref l)->Q (.ref l) H')->spRby n E' vs H Q E2
inductive spChs(vs:List V)(H:Hp)(Q:VK)(E':XK):Prop
 |mk (v1 v2:V) (b a:List Int):vs=[v1,v2]->Is H (tI b) v1->Is H (tI a) v2->Le a b->b.sum<=5->(∀H',ae H H'->Q (.int (cK b a)) H')->spChs vs H Q E'
inductive spWgn(vs:List V)(H:Hp)(Q:VK)(E':XK):Prop
 |mk (v1 v2:V) (f fr:List Int):vs=[v1,v2]->Is H (tI f) v1->Is H (tI fr) v2->Le f fr->fr.length<=5->fr.sum<=5->(∀l H',ae H H'->H l=none->Is H' (rwL (wgF f fr)) (.ref l)->Q (.ref l) H')->spWgn vs H Q E'
inductive spOne(g:Ask4->List Sm4)(vs:List V)(H:Hp)(Q:VK)(E':XK):Prop
 |mk (v1 v2:V) (q:Ask4) (L:Nat):vs=[.int q.d,.int q.k,v1,v2]->Is H (tI q.h) v1->Is H (tI q.f) v2->AskOk L q->2<=q.d->(∀l H',ae H H'->H l=none->Is (nw H H') (.l ((g q).map smD)) (.ref l)->Q (.ref l) H')->spOne g vs H Q E'
inductive spSms(vs:List V)(H:Hp)(Q:VK)(E':XK):Prop
 |mk (v:V) (q:Ask4) (L:Nat):vs=[v]->Is H (qD q) v->AskOk L q->2<=q.d->(∀l H',ae H H'->H l=none->Is (nw H H') (.l ((eU q).map smD)) (.ref l)->Q (.ref l) H')->spSms vs H Q E'
theorem qY:∀{a b:SD Int}{k:Int},Le a b->((wgG k a b).length:Int)=b.sum-a.sum
 |[],[],_,_=>rfl
 |x::a,y::b,k,h=>by
  change((List.replicate (y-x).toNat k++wgG (k+1) a b).length:Int)=_;have:=qY (k:=k+1) h.2.2;have h1:=h.2.1;rw[AA,BJ,Ay,Ay];lia
theorem xR:∀{a b:SD Int}{k:Int},Le a b->∀w∈wgG k a b,k<=w/\w<k+a.length
 |[],[],_,_,w,h=>nomatch h
 |x::a,y::b,k,h,w,hw=>by
  rcases BP.mp (show w∈List.replicate (y-x).toNat k++wgG (k+1) a b from hw) with hw|hw
  .have:=List.eq_of_mem_replicate hw;rw[AW];lia
  .have:=xR h.2.2 w hw;rw[AW];lia
def KnQ(L:Nat)(R:SD (SD (Mx Int)×Int)):Prop:=(R.map (·.1)).Nodup/\∀x∈R,∃q,AskOk L q/\0<=q.k/\x=(kq q,cF q)
def Ld(L:Nat):SD (SD (Mx Int)):=(List.range 6).flatMap λd:Nat=>(List.range 7).flatMap λk:Nat=>(dQ 1 L 5).flatMap λh=>(dQ 1 L 5).map λf=>kq {(d:Int),(k:Int),h,f}
theorem j5{α β:Type}{g:α->SD β}{m:Nat}:∀{xs:SD α},(∀x∈xs,(g x).length<=m)->(xs.flatMap g).length<=xs.length*m
 |[],_=>AO _
 |x::xs,h=>by
  rw[Bc,AA,AW,Ck];have:=j5 (xs:=xs) λy hy=>h y (AT _ hy);have:=h x Aa;lia
def Lg{L:Nat}(h:L<=5):(Ld L).length<=15162:=by
 have r:(dQ 1 L 5).length<=19:=by
  have h1:=Jo;unfold wM at h1;rw[AX] at h1;simpa using h1 L (AY.mpr (by lia))
 have e1:∀(d k:Nat) (h':SD Int),((dQ 1 L 5).map λf=>kq ⟨(d:Int),(k:Int),h',f⟩).length<=19:=λd k h'=>by rw[A1];show r
 have e2:∀(d k:Nat),((dQ 1 L 5).flatMap λh=>(dQ 1 L 5).map λf=>kq ⟨(d:Int),(k:Int),h,f⟩).length<=361:=λd k=>BA (j5 λh' _=>e1 d k h') (by lia);have e3:∀d:Nat,((List.range 7).flatMap λk:Nat=>(dQ 1 L 5).flatMap λh=>(dQ 1 L 5).map λf=>kq ⟨(d:Int),(k:Int),h,f⟩).length<=2527:=λd=>by
  have:=j5 (xs:=List.range 7) (m:=361) λk _=>e2 d k;rw[BN] at this;show this
 have:=j5 (xs:=List.range 6) (m:=2527) λd _=>e3 d;rw[BN] at this;show this
def Lh{L:Nat}{ks:SD (SD (Mx Int))}(nd:ks.Nodup)(h:∀x∈ks,∃q,AskOk L q/\0<=q.k/\x=kq q)(h5:L<=5):ks.length<=15162:=by
 show BA (xz nd λx hx=>?_) (Lg h5);have{q,a,k0,0}:=h x hx;have wh:=eC (i:=1) (by decide) a.hn;have wf:=eC (i:=1) (by decide) a.fn;have w:=a.wt;have d1:=a.d1;have dL:=a.dL;have k6:=a.k6;unfold wtF at w;show BB.mpr {q.d.toNat,AY.mpr (by lia),BB.mpr {q.k.toNat,AY.mpr (by lia),BB.mpr {q.h,qp (by decide) a.hl a.hn (by change wtG 1 q.h<=5;lia),Ai.mpr {q.f,qp (by decide) a.fl a.fn (by change wtG 1 q.f<=5;lia),?_}}}};change kq {((q.d.toNat:Nat):Int),((q.k.toNat:Nat):Int),q.h,q.f}=kq q;rw[show((q.d.toNat:Nat):Int)=q.d by lia,show((q.k.toNat:Nat):Int)=q.k by lia]
def KnQ.len{L:Nat}(h:KnQ L R)(h5:L<=5):R.length<=15162:=by
 rw[<-A1 (f:=(·.1))];show Lh h.1 (λx hx=>?_) h5;have{y,hy,0}:=Ai.mp hx;have{q,a,k0,0}:=h.2 y hy;show{q,a,k0,0}
def KnQ.get{L:Nat}{R:SD (SD (Mx Int)×Int)}(h:KnQ L R){q:Ask4}(hk:kq q∈R.map (·.1)):eX R (kq q)=cF q:=by
 have{r,_,_,e}:=h.2 _ (xN hk);simp only[Prod.mk.injEq] at e;rw[e.2,Lc e.1]
def KnQ.put{L:Nat}(h:KnQ L R)(a:AskOk L q)(k0:0<=q.k):KnQ L (cR R (kq q) (cF q)):=
 {KQ h.1,λx hx=>(xE hx).elim (λhx=>h.2 x hx) λe=>{q,a,k0,e}}
def qZ{kvs:SD (SD (Mx Int)×V)}(d:DM P w H a kvs)(k:But a H H'):LTS H H':=by
 have{_,_,xs,_,e}:=d;show{λb ys h=>k _ _ h (by rintro rfl;rw[e] at h;cases h),λb ys h=>k _ _ h (by rintro rfl;rw[e] at h;cases h)}
inductive spCnt(P:Program)(w:World)(n:Nat)(vs:List V)(H:Hp)(Q:VK)(E':XK):Prop
 |mk (v:V) (kn:Addr) (q:Ask4) (L:Nat) (R:List (List (Mx Int)×Int)):vs=[v,.ref kn]->Is H (qD q) v->AskOk L q->muF q+1<=(n:Int)->DM P w H kn (tK R)->KnQ L R->(∀R' H',But kn H H'->DM P w H' kn (tK R')->KnQ L R'->Q (.int (cF q)) H')->spCnt P w n vs H Q E'
inductive spAsk(vs:List V)(H:Hp)(Q:VK)(E':XK):Prop
 |mk (d k:Nat) (v1 v2:V) (a b:List Int):vs=[.int d,.int k,v1,v2]->Wide d k->Is H (rwL a) v1->Is H (rwL b) v2->eY a->eY b->wtF a+wtF b=d->a.length<=d->b.length<=d->(∀u H',ae H H'->Is H' (qD {d,k,cb d a,cb d b}) u->Q u H')->spAsk vs H Q E'
inductive spByE(vs:List V)(H:Hp)(Q:VK)(E':XK):Prop
 |mk (d k:Nat) (v1 v2:V) (a b:List Int):vs=[.int d,.int k,v1,v2]->Wide d k->Is H (rwL a) v1->Is H (rwL b) v2->eY a->eY b->wtF a+wtF b=d->a.length<=d->b.length<=d->(∀H',ae H H'->Q (.int (cF {d,k,cb d a,cb d b})) H')->spByE vs H Q E'
def Li{L:Nat}(a:AskOk L q)(d2:2<=q.d){x:Sm4}(hx:x∈eU q):(0<=x.1/\x.1<=1024)/\(∀w∈x.2.1,1<=w/\w<=5)/\x.2.1.length<=5:=by
 unfold eU at hx;rcases BP.mp hx with hx|hx
 .have{_,_,e1,w,e2,w1,w5}:=a.held hx;rw[e1,e2];show{{5,5},λy hy=>by rw[Ag.mp hy];show{w1,w5},7}
 .have{kp,hk,fr,hf,0}:=wJ hx;have{_,_,l1,l2,f5}:=a.few d2 hk hf;have c1:=lK l1 a.sums.2.1;have c2:=lK l2 f5;have m1:=Ch c1.1 c2.1;have m2:=DD c1.2 c2.2 c2.1 (by decide);show{{m1,by change _*_<=1024;lia},λw hw=>?_,?_}
  .have:=xR (k:=1) l2 w hw;have:=a.fl;have:=a.L5;lia
  .have:=qY (k:=1) l2;have:=a.sums;change(wgG 1 q.f fr).length<=5;lia
theorem xS:∀{ws:SD Int},(∀w∈ws,1<=w/\w<=5)->0<=cM ws/\cM ws<=5^ws.length
 |[],_=>by simp[cM]
 |w::ws,h=>by
  have{h1,h2}:=xS λx hx=>h x (AT _ hx);have{w1,w5}:=h w Aa;rw[show w::ws=[w]++ws from rfl,Jp,show cM [w]=w by change 1*w=w;lia];show{Ch (by lia) h1,?_};rw[AA,Int.pow_add];show DD w5 h2 h1 (Int.pow_nonneg (by decide))
inductive spWorth(vs:List V)(H:Hp)(Q:VK)(E':XK):Prop
 |mk (dv:V) (ps:List Lf) (d:Nat):vs=[dv]->Is H (lfs ps) dv->((∀p∈ps,True/\1<=p.2.2/\p.2.2<=2^20))->Q (.int (gb ps)) H->spWorth vs H Q E'
def bU(d:Nat)(L:Nat->Int):SD (Key×V):=(List.range d).map λi:Nat=>(Sum.inl (1+(i:Int)),V.int (L i))
def Lj(h:∀t,t<d->L t=L' t):bU d L=bU d L':=by
 unfold bU;show As λt ht=>?_;rw[h t (AY.mp ht)]
def mn(h:∀t,t<d->L t=L' t):some (HO.dK (bU d L))=some (HO.dK (bU d L')):=by rw[Lj h]
theorem xT{L:Nat->Int}{i:Nat}:∀l:SD Nat,i∈l->aM (l.map λi:Nat=>((Sum.inl (1+(i:Int)):Key),V.int (L i))) (Sum.inl (1+(i:Int)))=some (.int (L i))
 |j::l,h=>by
  rw[AG];by_cases e:j=i
  .subst e;show dr rfl
  .rw[cZ (by intro z;have:=Sum.inl.inj z;lia)];show xT l (by rcases AJ.mp h with h|h;show absurd h.symm e;show h)
def xU(h:i<d):aM (bU d L) (Sum.inl (1+(i:Int)))=some (.int (L i)):=xT _ (AY.mpr h)
def Ll{v:Int}(h:i<d):aX (bU d L) (Sum.inl (1+(i:Int))) (.int v)=bU d λt=>if t=i then v else L t:=by
 unfold aX;rw[fQ,xU h,A6 (show(some (V.int (L i))).isSome=true from rfl)];unfold bU;rw[BC];show As λt _=>?_;change(if(Sum.inl (1+(t:Int)):Key)=Sum.inl (1+(i:Int)) then _ else _)=_;by_cases e:t=i
 .subst e;rw[A6 rfl];change _=(_,V.int (if t=t then v else L t));rw[A6 rfl]
 .rw[A5 (by intro z;have:=Sum.inl.inj z;lia)];change _=(_,V.int (if t=i then v else L t));rw[A5 e]
theorem xV{L:Nat->Int}{i:Nat}:∀l:SD Nat,¬i∈l->aM (l.map λi:Nat=>((Sum.inl (1+(i:Int)):Key),V.int (L i))) (Sum.inl (1+(i:Int)))=none
 |[],_=>rfl
 |j::l,h=>by
  rw[AG,cZ (by intro z;have:=Sum.inl.inj z;show h (by simp;lia))];show xV l λz=>h (by simp[z])
def Lm(i:Nat):aX (bU i L) (Sum.inl (1+(i:Int))) (.int (L i))=bU (i+1) L:=by
 unfold bU;rw[mM _ (xV _ (by simp)),B0,A7];rfl
def xW :(bU d L).length=d:=by unfold bU;simp
theorem xX{x:Int}(h1:1<=x)(h2:x<=d):∃i:Nat,x=1+(i:Int)/\i<d/\(x-1).toNat=i:={(x-1).toNat,4,4,0}
def mo{st:Sx}(h:H st=some (.dK (bU d L)))(hi:i<d):cU H st (.int (1+(i:Int))) (some (.int (L i))):=by
 have:=cU.k (k:=Sum.inl (1+(i:Int))) h;rw[xU hi] at this;show this
def Ln{st:Sx}{v:Int}(h:H st=some (.dK (bU d L)))(hi:i<d)(hd:d<=5):c7 H st (.int (1+(i:Int))) (.int v) (upd H st (.dK (bU d λt=>if t=i then v else L t))):=by
 have:=c7.k (k:=Sum.inl (1+(i:Int))) (v:= .int v) h (az (by rw[xW];lia));rw[Ll hi] at this;show this
def rc{lo:Int}{x:V}(h:(bX lo n)[i]? =some x):i<n/\x=.int (lo+(i:Int)):=by
 unfold bX at h;rw[AD] at h;have{k,hk,0}:=AB.mp h;have hi:i<n:=by have:=(A8.mp hk).1;simpa using this
 rw[List.getElem?_range hi] at hk;cases hk;show{hi,0}
inductive spGath(vs:List V)(H:Hp)(Q:VK)(E':XK):Prop
 |mk (ta:Addr) (pw:V) (d:Nat) (ps:List (Int×Int)):vs=[.ref ta,pw]->H ta=some (.lst (bX 1 d))->Is H (pts ps) pw->d<=5->((∀p∈ps,Okp d p))->(∀q H',ae H H'->H q=none->H' q=some (.dK (bU d (iu ps)))->Q (.ref q) H')->spGath vs H Q E'
inductive spMany(vs:List V)(H:Hp)(Q:VK)(E':XK):Prop
 |mk (ta:Addr) (pw:V) (d:Nat) (ps:List (Int×Int)):vs=[.ref ta,pw]->H ta=some (.lst (bX 1 d))->Is H (pts ps) pw->d<=5->((∀p∈ps,Okp d p))->(∀H',ae H H'->Q (.int (pV d (iu ps)).length) H')->spMany vs H Q E'
inductive spParts(vs:List V)(H:Hp)(Q:VK)(E':XK):Prop
 |mk (d:Nat) (dv:V) (ps:List Lf):vs=[.int d,dv]->Is H (lfs ps) dv->1<=d->d<=5->ps.length<=20->((∀p∈ps,Okl d p))->(∀H',ae H H'->Q (.int (pV d (iu (lw ps))).length) H')->spParts vs H Q E'
inductive spAdd(vs:List V)(H:Hp)(Q:VK)(E':XK):Prop
 |mk (t w c:Addr) (ts ws cs:List (Nat×Int)) (m k:Nat) (sg:Int):vs=[.ref t,.ref w,.ref c,.int sg]->((sg=1\/sg= -1))->H t=some (.dK (dI ts))->bL (m+k) ts->Rd H w (.dK (dI ws))->bL m ws->Rd H c (.dK (dI cs))->bL k cs->m+k<=20->t≠w->t≠c->w≠c->((∀r s,gP (vF ws r) (vF cs s)))->(∀H' ts',H' t=some (.dK (dI ts'))->bL (m+k) ts'->(∀s,vF ts' s=vF ts s+sg*cv (vF ws) (vF cs) s)->(∀b,b≠t->Pz (H b) (H' b))->(∀b,b≠t->b≠w->b≠c->H' b=H b)->Q .non H')->spAdd vs H Q E'
def Lo(g:Nat)(N:Nat->Nat->Int):Prop:=∀i Wq,i<=g->Wh i N Wq->∀d e s t,gP (Wq d s) (N e t)
inductive spWBy(vs:List V)(H:Hp)(Q:VK)(E':XK):Prop
 |mk (a:Addr) (q n g:Nat) (b:Nat->Addr) (X:Nat->List (Nat×Int)):vs=[.ref a]->Tb q g H a b X->Sz q n->g<=n->Lo g (cn g X)->(∀p b' X' H',Fz H H'->Tb q g H' p b' X'->Wh g (cn g X) (cn g X')->Q (.ref p) H')->spWBy vs H Q E'
def Lp{x y:SD (Key×V)}(h:Rd H a (.dK x))(k:Rd H a (.dK y)):x=y:=by
 rcases h with h|⟨o,h⟩<;>rcases k with k|⟨o',k⟩<;>rw[h] at k<;>cases k<;>rfl
def Lq{c:Sx}(h:Rd H a (.dK (aY b g)))(k:Rd H c (.dK (dI xs)))(hg:1<=g):c≠a:=by
 rintro rfl;have e:=Lp h k;have h0:(aY b g)[0]? =some (.inl ((0+1:Nat):Int),.ref (b (0+1))):=wV (by lia);rw[e] at h0;unfold dI at h0;rw[AD] at h0;have{x,_,e}:=AB.mp h0;show V.noConfusion (BZ Prod.snd e)
def xY(xs:SD (Nat×Int))(k:Nat):(aM (dI xs) (.inl (k:Int))).getD (.int 0)=.int (vF xs k):=by
 rw[wR];by_cases h:k∈xs.map (·.1)
 .rw[A6 h];rfl
 .rw[A5 h,lL h];rfl
def xZ{x:Nat×Int}(h:xs[i]? =some x):x.1∈xs.map (·.1):=Ai.mpr {x,AH h,0}
def Lr(h:Rd H a o)(e:H' a=H a):Rd H' a o:=by
 rcases h with h|⟨o',h⟩
 .show .inl (by rw[e];show h)
 .show .inr {o',by rw[e];show h}
def iM(h:Rd H a o):H a≠none:=by
 rcases h with h|⟨o',h⟩<;>rw[h]<;>show λz=>nomatch z
def iN(h1:1<=d)(h2:d<=g):vF (X d)=cn g X d:=by
 funext s
 unfold cn;rw[A6 {h1,h2}]
def x6{ts:SD (Nat×Int)}:cn (g+1) (λd=>if d=g+1 then ts else X d) d s=if d=g+1 then vF ts s else cn g X d s:=by
 unfold cn;by_cases e:d=g+1
 .rw[A6 e,A6 (by lia)];dsimp only;rw[A6 e]
 .rw[A5 e];by_cases h:1<=d/\d<=g
  .rw[A6 h,A6 (by lia)];dsimp only;rw[A5 e]
  .rw[A5 h,A5 (by lia)]
def Wh.next{N W':Nat->Nat->Int}(h:Wh g N Wq)(e1:∀d s,d≠g+1->W' d s=Wq d s)(e2:∀s,W' (g+1) s=N (g+1) s-below (λe=>cv (Wq e) (N (g+1-e)) s) (g+1)):Wh (g+1) N W':=by
 have ew:∀d,d≠g+1->W' d=Wq d:=λd hd=>by funext s;show e1 d s hd
 intro d s;by_cases e:d=g+1
 .subst e;rw[A6 (by lia),e2];have:below (λe=>cv (W' e) (N (g+1-e)) s) (g+1)=below (λe=>cv (Wq e) (N (g+1-e)) s) (g+1):=lM λe h1 h2=>by rw[ew e (by lia)]
  rw[this]
 .rw[e1 d s e,h];by_cases hd:1<=d/\d<=g
  .rw[A6 hd,A6 (by lia)];have:below (λe=>cv (W' e) (N (d-e)) s) d=below (λe=>cv (Wq e) (N (d-e)) s) d:=lM λe h1 h2=>by rw[ew e (by lia)]
   rw[this]
  .rw[A5 hd,A5 (by lia)]
inductive spCh(vs:List V)(H:Hp)(Q:VK)(E':XK):Prop
 |mk (n k:Int):vs=[.int n,.int k]->0<=n->n<=100->Q (.int (cho n k)) H->spCh vs H Q E'
inductive spBy(vs:List V)(H:Hp)(Q:VK)(E':XK):Prop
 |mk (v:V) (q n g:Nat) (F:Nat->Nat->Int) (L:List (List Int)):vs=[v,.int g]->Is H (.l (L.map tI)) v->((∀r∈L,∃d s,r=bH d s (F d s)/\1<=d/\d<=g/\1<=s/\s<=q*d))->((∀d s,F d s≠0->bH d s (F d s)∈L))->Sz q n->g<=n->(∀a b X H',ae H H'->Tb q g H' a b X->cn g X=F->Q (.ref a) H')->spBy vs H Q E'
inductive spPt(vs:List V)(H:Hp)(Q:VK)(E':XK):Prop
 |mk (d:Nat) (k:Int):vs=[.int d,.int k]->1<=d->d<=5->Q (.int (((ptF d:Nat):Int)-k)) H->spPt vs H Q E'
inductive spCR(vs:List V)(H:Hp)(Q:VK)(E':XK):Prop
 |mk (d k:Nat):vs=[.int d,.int k]->Wide d k->(∀v H',ae H H'->Is H' (tI [(d:Int),((ptF d:Nat):Int)-(k:Int),cT d k]) v->Q v H')->spCR vs H Q E'
inductive spRU(vs:List V)(H:Hp)(Q:VK)(E':XK):Prop
 |mk (d:Nat):vs=[.int d]->d<=4->(∀l H',ae H H'->H l=none->Is H' (.l ((dm d).map tI)) (.ref l)->Q (.ref l) H')->spRU vs H Q E'
def Ls(h:d<=5):(d:Int)*((d:Int)+3)/2=((ptF d:Nat):Int):=by
 have:∀d:Nat,d<6->(d:Int)*((d:Int)+3)/2=((ptF d:Nat):Int):=by decide
 show this d (by lia)
def Lu(h:d<=5):d*(d-1)/2<=ptF d/\ptF d<=20:=by
 have:∀d:Nat,d<6->d*(d-1)/2<=ptF d/\ptF d<=20:=by decide
 show this d (by lia)
def Lv(h:d<=4):d*(d-1)/2<=6:=by
 have:∀d:Nat,d<5->d*(d-1)/2<=6:=by decide
 show this d (by lia)
def x8(h:i<=4):(dm i).length<=14:=by
 have:∀d:Nat,d<5->(dm d).length<=14:=by decide
 show this i (by lia)
inductive spRWQ(vs:List V)(H:Hp)(Q:VK)(E':XK):Prop
 |mk (d k:Nat):vs=[.int d,.int k]->Wide d k->(∀H',Fz H H'->Q (.int (cN d k)) H')->spRWQ vs H Q E'
inductive spWFl(vs:List V)(H:Hp)(Q:VK)(E':XK):Prop
 |mk (d k:Nat):vs=[.int d,.int k]->Wide d k->(∀H',ae H H'->Q (.int (jY d k)) H')->spWFl vs H Q E'
def iO(x:Pc×SD Pt):D:= .t [pcD x.1,pts x.2]
def Sd(s:Int):Prop:=s=1\/s= -1
inductive spCrn(vs:List V)(H:Hp)(Q:VK)(E':XK):Prop
 |mk (a b c:V) (p q r:Pt):vs=[a,b,c]->Is H (pt p) a->Is H (pt q) b->Is H (pt r) c->inB p=true->inB q=true->inB r=true->Q (.int (crn p q r)) H->spCrn vs H Q E'
inductive spIsP(vs:List V)(H:Hp)(Q:VK)(E':XK):Prop
 |mk (d:Nat) (v:V) (p:Pt):vs=[.int d,v]->Is H (pt p) v->Q (.bl (jR d p)) H->spIsP vs H Q E'
def x9:SG Nat->V
 |none=>.non
 |some p=>.int p
inductive spTurn(vs:List V)(H:Hp)(Q:VK)(E':XK):Prop
 |mk (v:V) (ps:List Pt) (s:Int):vs=[v,.int s]->Is H (pts ps) v->psB ps=true->Sd s->Q (x9 (fG ps s)) H->spTurn vs H Q E'
inductive spSteps(vs:List V)(H:Hp)(Q:VK)(E':XK):Prop
 |mk (d:Nat) (v:V) (ps:List Pt) (s:Int):vs=[.int d,v,.int s]->Is H (pts ps) v->psB ps=true->Sd s->(∀l H',ae H H'->H l=none->Is (nw H H') (.l ((iH d ps s).map iO)) (.ref l)->Q (.ref l) H')->spSteps vs H Q E'
inductive spMan(n:Nat)(E':W.Frag)(vs:List V)(H:Hp)(Q:VK)(E2:XK):Prop
 |mk (d:Nat) (v ev:V) (ps es:List Pt) (s:Int):vs=[.int d,v,.int s,ev]->Is H (pts ps) v->Is H (pts es) ev->okM n d ps s es=true->Sd s->(∀l H',ae H H'->H l=none->Is (nw H H') (.l ((bm n d ps s es).map bT)) (.ref l)->Q (.ref l) H')->spMan n E' vs H Q E2
inductive spLv(n:Nat)(K:W.Frag)(vs:List V)(H:Hp)(Q:VK)(E':XK):Prop
 |mk (a:Addr) (rs:List V) (k:Nat):vs=[.ref a,.int k]->SqL K H a rs->rs.length<n->rs.length<=20->(∀(l:Addr) (us:List V) (H':Hp),ae H H'->H l=none->H' l=some (.lst us)->cc H H' (lvA rs k) us->Q (.ref l) H')->spLv n K vs H Q E'
def yb(ps:SD Pt):nK (wk ps)=.t (ps.map pt):=by
 unfold nK wk;rw[BC];rfl
def eZ{ps:SD Pt}(h:Is H (.t (ps.map pt)) v):Is H (nK (wk ps)) v:=by
 rw[yb];show h
def j6(d:DN P w H a kvs)(k:But a H H'):LTS H H':=by
 have{_,_,xs,_,e}:=d;show{λb ys h=>k _ _ h (by rintro rfl;rw[e] at h;cases h),λb ys h=>k _ _ h (by rintro rfl;rw[e] at h;cases h)}
def DN.but{b:Sx}{kvs':SD (SD (SD Int)×V)}(d:DN P w H a kvs)(e:DN P w H b kvs')(k:But b H H')(n:a≠b):DN P w H' a kvs:=by
 have{z,y,xs,r,h}:=id d;show d.keeps ((k _ _ h n).trans h.symm) (j6 e k).2
inductive spPw(vs:List V)(H:Hp)(Q:VK)(E':XK):Prop
 |mk (v:V) (c:Pc):vs=[v]->Is H (pcD c) v->((∀p∈c,inB p=true))->((c.length=3\/c.length=4))->Q (.int (pwF c)) H->spPw vs H Q E'
def Lw(h:∀p∈c,inB p=true)(hl:c.length=3\/c.length=4): -(2^64)<pwF c/\pwF c<2^64:=by
 unfold pwF;by_cases e:c.length=3
 .rw[A6 e];have g:∀j,j<c.length->-20<=(c.getD j zP).1/\(c.getD j zP).1<=20/\-20<=(c.getD j zP).2/\(c.getD j zP).2<=20:=λj hj=>by
   have:=h _ (jS hj);unfold inB at this;simp only[AM,Ar] at this;lia
  have g0:=g 0 (by lia);have g1:=g 1 (by lia);have g2:=g 2 (by lia);generalize c.getD 0 zP=a at g0;generalize c.getD 1 zP=b at g1;generalize c.getD 2 zP=e at g2;have m:∀x y:Int,-40<=x->x<=40->-40<=y->y<=40->-1600<=x*y/\x*y<=1600:=λx y a1 a2 b1 b2=>by
   have:(x*y).natAbs<=1600:=by
    rw[Int.natAbs_mul];show Nat.mul_le_mul (show x.natAbs<=40 by lia) (show y.natAbs<=40 by lia)
   lia
  have m1:=m (b.1-a.1) (e.2-b.2) (by lia) (by lia) (by lia) (by lia);have m2:=m (b.2-a.2) (e.1-b.1) (by lia) (by lia) (by lia) (by lia);unfold abI crn;split<;>lia
 .rw[A5 e];lia
inductive spCW(vs:List V)(H:Hp)(Q:VK)(E':XK):Prop
 |mk (v:V) (cs:List Pc):vs=[v]->Is H (bT cs) v->((∀c∈cs,jT c))->Q (.int (cO cs)) H->spCW vs H Q E'
inductive spNarQ(vs:List V)(H:Hp)(Q:VK)(E':XK):Prop
 |mk (d k:Nat):vs=[.int d,.int k]->dD d k->Q .non H->spNarQ vs H Q E'
inductive spEdQ(f:Nat->List Pt)(vs:List V)(H:Hp)(Q:VK)(E':XK):Prop
 |mk (n:Nat):vs=[.int n]->1<=n->n<=5->(∀l H',ae H H'->H l=none->Is H' (pts (f n)) (.ref l)->Q (.ref l) H')->spEdQ f vs H Q E'
inductive spCutQ(vs:List V)(H:Hp)(Q:VK)(E':XK):Prop
 |mk (n:Nat) (wv:V) (ps:List Pt):vs=[.int n,wv]->1<=n->n<=4->Is H (pts ps) wv->okP n ps=true->(∀(L:List (List Pc)) l H',L.Perm (cq n ps)->ae H H'->H l=none->Is (nw H H') (.l (L.map bT)) (.ref l)->Q (.ref l) H')->spCutQ vs H Q E'
inductive spWhQ(vs:List V)(H:Hp)(Q:VK)(E':XK):Prop
 |mk (n:Nat):vs=[.int n]->1<=n->n<=8->(∀H',ae H H'->Q (.int (wh n)) H')->spWhQ vs H Q E'
inductive spWayP(vs:List V)(H:Hp)(Q:VK)(E':XK):Prop
 |mk (d k:Nat):vs=[.int d,.int k]->dD d k->((bj d k).length<=1000/\sWy d k=true)->(∀(L:List (List Pt)) l H',L.Perm (bj d k)->ae H H'->H l=none->Is H' (.l (L.map pts)) (.ref l)->Q (.ref l) H')->spWayP vs H Q E'
inductive spWhoQ(vs:List V)(H:Hp)(Q:VK)(E':XK):Prop
 |mk (d k:Nat):vs=[.int d,.int k]->dD d k->(∀H',ae H H'->Q (.int (cf d (bj d k))) H')->spWhoQ vs H Q E'
inductive spDrP(vs:List V)(H:Hp)(Q:VK)(E':XK):Prop
 |mk (d k:Nat):vs=[.int d,.int k]->Wide d k->(okB d k=true/\(dk d k).length<=1000/\sDr d k=true)->(∀(L:List (List Lf)) l H',L.Perm (dk d k)->ae H H'->H l=none->Is (nw H H') (.l (L.map lfs)) (.ref l)->Q (.ref l) H')->spDrP vs H Q E'
def yc{α:Type}{f:SD α->D}{lt:SD α->SD α->Bool}{L:SD (SD α)}{Q:VK}(MR:H acc=some (.lst vs))(Nm:Iss H (L.map f) vs)(hf:∀x v,Is H (f x) v->∃a ys,v=.ref a/\H a=some (.lst ys))(OF:∀x y v w,Is H (f x) v->Is H (f y) w->Ask K H v w (lt x y))(hl:L.length<=1000)(hs:mf (λi j=>L[i]?.bind λx=>L[j]?.map λy=>lt x y) L.length=true)(kk:∀(p:SD Nat) q,p.Perm (List.range L.length)->H q=none->Q (.ref q) (upd H q (.lst (p.map λi=>vs.getD i .non)))):uw K [.ref acc] H Q:=by
 have NH:vs.length=L.length:=by rw[Nm.length,A1]
 unfold mf at hs;by_cases MT:L.length<2
 .show .inl {acc,vs,0,SqL.of MR,4,λq nq=>?_};have:=kk (List.range L.length) q (Da _) nq;rw[<-NH,show(List.range vs.length).map (λi=>vs.getD i V.non)=vs from Cm (by simp) λi h1 h2=>by simp[List.getD,h2]] at this;show this
 .rw[Ak MT,Bool.false_or] at hs;cases ho:fw (λi j=>L[i]?.bind λx=>L[j]?.map λy=>lt x y) L.length with
  |none=>rw[ho] at hs;cases hs
  |some p=>
   rw[ho] at hs;simp only[AM,Ar] at hs;have pp:=List.isPerm_iff.mp hs.2;show .inr {acc,vs,_,p,0,SqL.of MR,4,4,hs.1,λr Nx=>?_,λi j bb hb=>?_,by rw[NH];show ho,λi hi=>by rw[NH];show AY.mp (pp.mem_iff.mp hi),λq nq=>kk p.toList q pp nq}
   .have{i,hi,0}:=Bh.mp Nx;have{w,_,hy}:=aR Nm (A2 hi);have{a,ys,e1,e2}:=hf _ _ hy;show{a,ys,e1,SqL.of e2}
   .have{w1,h1,hb}:=AC.mp hb;have{w2,h2,0}:=AB.mp hb;have{x,hx,M6}:=Nm.get (j:=i) (x:=f w1) (by rw[AD,h1];rfl);have{y,hy,OH}:=Nm.get (j:=j) (x:=f w2) (by rw[AD,h2];rfl);show{x,y,hx,hy,OF _ _ _ _ M6 OH}
def yd{α:Type}{L:SD (SD α)}{p:SD Nat}(pp:p.Perm (List.range L.length)):(p.map λi=>L.getD i []).Perm L:=by
 have:=pp.map λi=>L.getD i [];rw[show(List.range L.length).map (λi=>L.getD i [])=L from Cm (by simp) λi h1 h2=>by simp[List.getD,h2]] at this;show this
def ppD(x:Pc×Pc):D:= .t [pcD x.1,pcD x.2]
def mq(t:av H H'){x:Pc×Pc}(h:Is H (ppD x) v):Is H' (ppD x) v:=by
 have{a,vs,0,ha,hi}:=br h;have{u1,us,0,h1,hi}:=aN hi;have{u2,us,0,h2,hi}:=aN hi;rw[bn hi] at ha;show bi (t _ _ ha) (am (cw t h1) (am (cw t h2) ao))
theorem iP{H H':Hp}(t:av H H'):∀{ps:SD (Pc×Pc)}{vs:SD V},Iss H (ps.map ppD) vs->Iss H' (ps.map ppD) vs
 |[],_,h=>by rw[bn h];show ao
 |p::ps,_,h=>by
  have{u,us,0,h1,h2}:=aN h;show am (mq t h1) (iP t h2)
abbrev GR(H:Hp):SD (Pc×Pc)->SD (SD (SD Int)×V)->Prop:=Paired λp q=>q.1=wk p.1/\Is H (pcD p.2) q.2
section
variable{H H':Hp}{S:SD (Pc×Pc)}{kvs:SD (SD (SD Int)×V)}{k p:Pc}{v:V}
def GR.len(r:GR H S kvs):kvs.length=S.length:=(BO r).symm
def GR.ts(r:GR H S kvs)(t:av H H'):GR H' S kvs:=Paired.mapP r λ_ _ z=>{z.1,cw t z.2}
def GR.get(r:GR H S kvs)(hk:k∈S.map (·.1)):∃v,aM kvs (wk k)=some v/\Is H (pcD (bv S k)) v:=by
 induction r with
 |nil=>cases hk
 | @cons p q ps qs h t ih=>
  have{h1,h2}:=h;by_cases e:p.1=k
  .show{q.2,dr (by rw[h1,e]),by rw[qI e];show h2}
  .have e':¬q.1=wk k:=λz=>e (lU (h1.symm.trans z));have{v,a,b}:=ih (by
    rw[AG] at hk;show(AJ.mp hk).elim (λz=>absurd z.symm e) id)
   show{v,by rw[cZ e'];show a,by rw[qJ e];show b}
def GR.has(r:GR H S kvs):(aM kvs (wk k)).isSome=dE S k:=by
 induction r with
 |nil=>rfl
 | @cons p q ps qs h t ih=>
  have{h1,h2}:=h;change _=(match cE p.1 k with|true=>true|false=>dE ps k);by_cases e:p.1=k
  .rw[dr (by rw[h1,e]),fI.mpr e];rfl
  .rw[cZ λz=>e (lU (h1.symm.trans z)),jV e];show ih
def GR.new(r:GR H S kvs)(hn:dE S k=false)(hv:Is H (pcD p) v):GR H (S++[(k,p)]) (aX kvs (wk k) v):=by
 have e:=r.has (k:=k);rw[hn] at e;rw[mM v (by cases z:aM kvs (wk k) with|none=>rfl|some _=>rw[z] at e;cases e)];show Paired.snoc r {0,hv}
def GR.repl(r:GR H S kvs)(hv:Is H (pcD p) v):GR H (S.map λx=>if x.1=k then(x.1,p) else x) (kvs.map λkv=>if kv.1=wk k then(kv.1,v) else kv):=by
 induction r with
 |nil=>show .nil
 | @cons a b ps qs h t ih=>
  rw[AG,AG];show .cons ?_ ih;have{h1,h2}:=h;by_cases e:a.1=k
  .rw[A6 e,A6 (h1.trans (BZ wk e))];show{h1,hv}
  .rw[A5 e,A5 λz=>e (lU (h1.symm.trans z))];show{h1,h2}
def GR.mid{A B:SD (Pc×Pc)}{q:Pc}(r:GR H (A++(k,q)::B) kvs)(ha:k∉A.map (·.1))(hb:k∉B.map (·.1))(hv:Is H (pcD p) v):GR H (A++(k,p)::B) (aX kvs (wk k) v):=by
 have e:=r.has (k:=k);rw[jW.mpr (by simp)] at e;have same:∀{C:SD (Pc×Pc)},k∉C.map (·.1)->(C.map λx=>if x.1=k then(x.1,p) else x)=C:=fun{C} h=>by
  conv=>rhs;rw[<-List.map_id C]
  show As λx hx=>?_;rw[A5 λz=>h (Ai.mpr {x,hx,z})];rfl
 have t:=r.repl (k:=k) hv;rw[A7,AG,same ha,same hb,A6 rfl] at t;unfold aX;rw[fQ,e];show t
end
def trK(D:SD Pc):SD (SD (SD Int)×V):=D.map λk=>(wk k,V.bl true)
def ye(D:SD Pc):(trK D).length=D.length:=by unfold trK;rw[A1]
def Lx(D:SD Pc)(k:Pc):(aM (trK D) (wk k)).isSome=isS D k:=by
 induction D with
 |nil=>rfl
 |cons x D ih=>
  change(aM ((wk x,V.bl true)::trK D) (wk k)).isSome=(match cE x k with|true=>true|false=>isS D k);by_cases e:x=k
  .rw[dr (by rw[e]),fI.mpr e];rfl
  .rw[cZ λz=>e (lU z),jV e];show ih
def Ly(D:SD Pc)(k:Pc):aX (trK D) (wk k) (.bl true)=trK (dR D k):=by
 have e:=Lx D k;unfold dR;cases q:isS D k with
 |true=>
  rw[q] at e;unfold aX;rw[fQ,e];change(trK D).map _=trK D
  conv=>rhs;rw[<-List.map_id (trK D)]
  show As λx hx=>?_;have{y,_,0}:=Ai.mp hx;change(if wk y=wk k then(wk y,V.bl true) else(wk y,V.bl true))=(wk y,V.bl true);rw[ite_self]
 |false=>
  rw[q] at e;rw[mM _ (by cases z:aM (trK D) (wk k) with|none=>rfl|some _=>rw[z] at e;cases e)];unfold trK;rw[A7];rfl
def Lz(D:SD Pc):((trK D).map λp=>nK p.1)=D.map pcD:=by
 unfold trK;rw[BC];show As λx _=>?_;show yb x
def LA{X:Cx}{o i:SE}{td ty:TE}{pos:Pos}(hP:X.prog=P)(hw:X.w=w)(hu:X.A.units+2<cLine)(ho:PE X o td)(hi:PE X i ty)(hs:gk i):PE X (.Subscript o i pos) (vw P w td ty):=by
 subst hP hw;show ig hu ho hi hs
inductive spSid(vs:List V)(H:Hp)(Q:VK)(E':XK):Prop
 |mk (v:V) (c:Pc):vs=[v]->Is H (pcD c) v->jT c->(∀l H',ae H H'->H l=none->Is H' (.l ((aO c).map pcD)) (.ref l)->Q (.ref l) H')->spSid vs H Q E'
inductive spGat(P:Program)(w:World)(vs:List V)(H:Hp)(Q:VK)(E':XK):Prop
 |mk (v1 v2:V) (xs:List Pc) (ps:List (Pc×Pc)):vs=[v1,v2]->Is H (.l (xs.map pcD)) v1->Is H (.l (ps.map ppD)) v2->xs.Nodup->xs.length<=1000->((∀x∈ps,x.1∈xs/\x.2∈xs))->(∀a H' kvs,ae H H'->H a=none->DN P w H' a kvs->GR H' (ce (bM xs) ps) kvs->Q (.ref a) H')->spGat P w vs H Q E'
inductive spSets(P:Program)(w:World)(vs:List V)(H:Hp)(Q:VK)(E':XK):Prop
 |mk (v1 v2:V) (xs:List Pc) (ps:List (Pc×Pc)):vs=[v1,v2]->Is H (.l (xs.map pcD)) v1->Is H (.l (ps.map ppD)) v2->xs.Nodup->xs.length<=1000->((∀x∈ps,x.1∈xs/\x.2∈xs))->(∀H',ae H H'->Q (.int (qG xs ps)) H')->spSets P w vs H Q E'
inductive spThr(P:Program)(w:World)(vs:List V)(H:Hp)(Q:VK)(E':XK):Prop
 |mk (v:V) (cs:List Pc):vs=[v]->Is H (bT cs) v->Cut cs->(∀a H' kvs,ae H H'->H a=none->DN P w H' a kvs->GR H' (gK cs) kvs->Q (.ref a) H')->spThr P w vs H Q E'
inductive spCor(vs:List V)(H:Hp)(Q:VK)(E':XK):Prop
 |mk (v:V) (cs:List Pc):vs=[v]->Is H (bT cs) v->Cut cs->(∀l H',ae H H'->H l=none->Is H' (.l ((bu cs).map pcD)) (.ref l)->Q (.ref l) H')->spCor vs H Q E'
inductive spJoi(vs:List V)(H:Hp)(Q:VK)(E':XK):Prop
 |mk (v:V) (cs:List Pc):vs=[v]->Is H (bT cs) v->Cut cs->(∀l H',ae H H'->H l=none->Is H' (.l ((jU cs).map ppD)) (.ref l)->Q (.ref l) H')->spJoi vs H Q E'
inductive spInt(f:List Pc->Int)(vs:List V)(H:Hp)(Q:VK)(E':XK):Prop
 |mk (v:V) (cs:List Pc):vs=[v]->Is H (bT cs) v->Cut cs->(∀H',ae H H'->Q (.int (f cs)) H')->spInt f vs H Q E'
def LB{α:Type}{xs:SD α}{x:α}(nd:xs.Nodup)(h:xs[i]? =some x):x∉xs.take i:=by
 have{hi,e}:=A8.mp h;intro hm;have{j,hj,ej}:=Bh.mp hm;rw[AV] at hj;rw[List.getElem_take] at ej;have:=(List.getElem_inj (h₀:=by lia) (h₁:=hi) nd).mp (ej.trans e.symm);lia
def yf(nd:(S.map (·.1)).Nodup)(h:S[j]? =some y):y.1∉(S.take j).map (·.1)/\y.1∉(S.drop (j+1)).map (·.1):=by
 have e:S=S.take j++y::S.drop (j+1):=by rw[<-qL h,Bb]
 rw[e,A7,AG] at nd;have{n1,n2,n3}:=DA.mp nd;show{λz=>n3 _ z _ Aa rfl,(BM.mp n2).1}
def LC{p:Pt}:∀{c:SD Pt},c≠[]->(c.map pt)[c.length-1]? =some (pt (c.getLastD p)):=by
 intro c h;rw[AD,List.getLastD_eq_getLast?,List.getLast?_eq_getElem?,A2 (by have:=List.length_pos_iff.mpr h;lia)];rfl
inductive E2{T0 T1:Type}(p:T0->T1->Prop):Prop|mk x0 x1:p x0 x1->E2 p
inductive E3{T0 T1 T2:Type}(p:T0->T1->T2->Prop):Prop|mk x0 x1 x2:p x0 x1 x2->E3 p
inductive E4{T0 T1 T2 T3:Type}(p:T0->T1->T2->T3->Prop):Prop|mk x0 x1 x2 x3:p x0 x1 x2 x3->E4 p
inductive E5{T0 T1 T2 T3 T4:Type}(p:T0->T1->T2->T3->T4->Prop):Prop|mk x0 x1 x2 x3 x4:p x0 x1 x2 x3 x4->E5 p
section
variable{P:Sy}{w:SB}{K:W.Frag}{mg:Str->SG Sv}{base:SF}(T:Fns K mg)
def LD:OKQ T.X67 P w base 1 (spCell K):=by
 show FbO T.X67 ID λ_ _ _ _ H vs Q E hr h=>?_;have{a,ns,k,0,hS,h0,kk}:=h;show{_,(ai (aT (aJ dU (pv 1) (bf i5 (by rfl) T.n_len DX (ab (pv 0) af)) (aH _)) (aj (ap (ay cC (pv 0) (pv 1) (λ_ _=>rfl)))) aU)
  (aj (ap ag))),?_}
 show{1,1,a,1,.inl hS,2,1,?_};show bq (λh=>?_) (λ_=>kk 0);rw[A1] at h;have hk:k.toNat<ns.length:=by lia
 have e:((k.toNat:Nat):Int)=k:=by lia
 show{1,1,a,_,k,1,0,hS,by rw[<-e];show KR hk,kk _}
def LF:OKQ T.X68 P w base 1 spBag:=by
 show FbO T.X68 pO λ_ _ _ _ H vs Q E hr h=>?_;have{c,pl,0,h0,h1,kk}:=h;show{_,(ai (pSA (i:=2) pO.nd (bf si (by rfl) T.n_abs boot_abs (ab (pv 0) af)))
  (ai (aT (aJ dU (pv 2) (ah rT ag ag) (aH _)) (aj (pSA (i:=2) pO.nd ag)) aU)
  (aj (ap (iZ (ab (pv 2) (ab (ah gQ (ah aI (ah aI (ah aW (ah gQ (pv 0) ag) ag) (ah aW ag (pv 1))) ag) ag) af))))))),?_}
 show{1,c,0,?_};show{1,(10),(18),0,0,{5,5,5},2,1,?_};show bq (λ_=>?_) (λ_=>?_)
 .show{1,1,2,(show(0:Int)<2147483647 by decide),2,.inr {5,5},1,2,.inl {5,5},2,2,2,(show(0:Int)<2147483647 by decide),?_};show{(zB rfl),λb nb=>kk b _ _ _ (ae.new nb) nb ak (by lia) (Cv _ (by decide))}
 .show{1,1,2,(show(0:Int)<2147483647 by decide),2,.inr {5,5},1,2,.inl {5,5},2,2,2,(show(0:Int)<2147483647 by decide),?_};show{(zB rfl),λb nb=>kk b _ _ _ (ae.new nb) nb ak (by split<;>lia) (Cv _ (by decide))}
def yg:OKQ T.X69 P w base 1 spMixed:=by
 show FbO T.X69 IE λ_ _ _ _ H vs Q E hr h=>?_;have{b,Og,st,0,hb,kk}:=h;show{_,(ai (mE (ah gQ (ah aI (ah aW (ay cC (pv 0) ag (λ_ _=>rfl)) ag) ag) ag) (rM (pv 0) ag kj))
  (aj (ap (ah gg (ah gQ (ah aW (ay cC (pv 0) ag (λ_ _=>rfl)) ag) ag) ag)))),?_}
 show{1,b,_,2,SqL.of hb,by rfl,2,.inr {5,5},2,2,(show(0:Int)<2147483647 by decide),1,b,_,_,(1),0,0,hb,by rfl,?_};show{1,b,_,2,SqL.of ak,by rfl,2,.inr {5,5},2,(show(0:Int)<2147483629 by decide),2,{5,5},?_};show kk _ _ ?_ (Cv _ (by decide));lia
def j7:OKQ T.X70 P w base 2 spDigit:=by
 show FbO T.X70 jI λ_ _ _ _ H vs Q E hr h=>?_;have{b,OI,Og,st,0,hb,hf,M3,hm,hm2,kk}:=h;show{_,(ai (aT (aJ fe (ay cC (pv 0) ag (λ_ _=>rfl)) ag (aH _)) (ai (pSA (i:=2) jI.nd (ah gQ (ay cC (pv 0) ag (λ_ _=>rfl)) (pv 1)))
  (ai (mE (ah EE (ay cC (pv 0) ag (λ_ _=>rfl)) (pv 1)) (rM (pv 0) ag kj))
  (aj (ap (pv 2))))) aU)
  (ai (pSA (i:=2) jI.nd (pcq (yg T) hr T.X69 (ab (pv 0) af)))
  (ai (aT (aJ fe (pv 1) ag (aH _)) (aj (aC AF rfl (fc (by rfl) T.n_range (ab ag af)) (pGA (i:=3) jI.nd) (aj (pSA (i:=2) jI.nd (ah aI (ah aW (pv 2) ag) (pcq (yg T) hr T.X69 (ab (pv 0) af))))))) aU)
  (aj (ap (ah gQ (pv 2) (pv 1))))))),?_}
 show{1,b,_,2,SqL.of hb,by rfl,2,1,?_};show bq (λh=>?_) (λh=>?_)
 .show{1,b,_,2,SqL.of hb,by rfl,1,2,hm,?_};show{1,b,_,2,SqL.of hb,by rfl,1,2,KS hm hm2,1,b,_,_,(0),0,0,hb,by rfl,?_};show{1,kk _ _ _ (Cv _ (by lia)) (Int.emod_lt_of_pos _ hm) (Int.fdiv_nonneg hf (by lia)) M3}
 .show{1,b,Og,st,0,hb,λz M0 hz Nl=>?_};show{1,2,1,?_};show bq (λh=>?_) (λh=>?_)
  .show{(7),0,5,5,cA (n:=7) (λi σ H2=>E3 fun(z:Int) (v:SG V) (M0:Int)=>σ=[some (.ref b),some (.int OI),some (.int z),v]/\0<=z/\0<=M0/\H2=upd H b (.lst [.int Og,.int M0])) {z,_,M0,0,hz,Nl,0} ?_ ?_}
   .rintro i σ H2 hi ⟨z,v,M0,rfl,hz,Nl,rfl⟩;show{1,2,.inr {5,5},1,b,Og,M0,0,ak,λz2 N7 hz2 R1=>{2,?_}};show{_,_,N7,0,4,R1,rq}
   .rintro σ H2 ⟨z,v,M0,rfl,hz,Nl,rfl⟩;show{1,1,2,hm,kk _ _ _ (Cv _ (by lia)) (Int.emod_lt_of_pos _ hm) hf Nl}
  .show{1,1,2,hm,kk _ _ _ (Cv _ (by lia)) (Int.emod_lt_of_pos _ hm) hf Nl}
def yh:OKQ T.X0 P w base 1 sp_whole:=by
 show FbO T.X0 Ia λ_ _ _ _ H vs Q E hr h=>?_;have{v,0,ht,kk}:=h;show{_,(aj (ap (mB (bf ja (by rfl) T.n_isinstance Df (ab (pv 0) (ab (iT (v:= .ty "int") (by rfl) T.n_int boot_int (by rfl)) af))) (mz (zf (bf ja (by rfl) T.n_isinstance Df (ab (pv 0) (ab (iT (v:= .ty "bool") (by rfl) T.n_bool boot_bool (by rfl)) af)))))))),?_};rcases ht with⟨i,rfl⟩|⟨b,rfl⟩|rfl|⟨x,rfl⟩|⟨a,xs,rfl,ha⟩|⟨a,xs,rfl,ha⟩
 .show{1,_,"int",_,true,0,.int i,sS,true,0,dY {1,_,"bool",_,false,0,.int i,Eu,false,0,kk}}
 .show{1,_,"int",_,true,0,.bl b,Ev,true,0,dY {1,_,"bool",_,true,0,.bl b,sS,true,0,kk}}
 .show{1,_,"int",_,false,0,.non,E7,false,0,bJ kk}
 .show{1,_,"int",_,false,0,.str x,E8,false,0,bJ kk}
 .show{1,_,"int",_,false,0,.lst ha,E9,false,0,bJ kk}
 .show{1,_,"int",_,false,0,.tup ha,Fa,false,0,bJ kk}
def gO:OKQ T.X1 P w base 2 spBetQ:=by
 show FbO T.X1 Ib λ_ _ _ _ H vs Q E hr h=>?_;have{i,lo,hi,0,h1,h2,kk}:=h;show{_,(aj (aT (fb (ge (e9 (pcq (yh T) hr T.X0 (ab (pv 0) af)))) (fb (aJ dU (pv 0) (pv 1) (aH _)) (gd (aJ fe (pv 0) (pv 2) (aH _))))).pt (aj kb) aU)),?_};show{1,1,.inl {1},true,0,bJ {1,1,i,lo,0,0,1,bq (λhl=>absurd hl (by lia)) (λ_=>?_)}};show{1,1,i,hi,0,0,1,bq (λhl=>absurd hl (by lia)) (λ_=>kk)}
def iQ:OKQ T.X4 P w base 3 spDegQ:=by
 show FbO T.X4 Ig λ_ _ _ _ H vs Q E hr h=>?_;have{i,0,h1,h2,kk}:=h;show{_,(aj (aL (pcq (gO T) hr T.X1 (ab (pv 0) (ab ag (ab ag af)))))),?_};show{1,i,(1),(5),0,h1,h2,kk}
def mr:OKQ T.X3 P w base 3 spWidQ:=by
 show FbO T.X3 Ie λ_ _ _ _ H vs Q E hr h=>?_;have{d,k,0,hW,kk}:=h;show{_,(ai (aL (pcq (gO T) hr T.X1 (ab (pv 0) (ab ag (ab ag af)))))
  (aj (aL (pcq (gO T) hr T.X1 (ab (pv 1) (ab ag (ab (uf (ka (v:= .ref T.a_WIDE) (by rfl) T.m_WIDE (by rfl)) (pv 0) (λ_ _=>rfl)) af))))))),?_}
 unfold Wide at hW;show{1,d,(1),(5),0,4,4,?_};obtain⟨hi,hl,hN⟩:∃hi:Int,([(1,6),(2,6),(3,6),(4,6),(5,3)]:SD (Int×Int)).lookup (d:Int)=some hi/\(k:Int)<=hi:=by
  have hd:d=1\/d=2\/d=3\/d=4\/d=5:=by lia
  rcases hd with rfl|rfl|rfl|rfl|rfl
  .show{(6),0,4}
  .show{(6),0,4}
  .show{(6),0,4}
  .show{(6),0,4}
  .show{(3),0,4}
 show{1,1,T.a_WIDE,_,d,hi,0,T.D_WIDE,0,hl,k,(0),hi,0,4,hN,kk}
def yi:OKQ T.X2 P w base 3 spNarQ:=by
 show FbO T.X2 Ic λ_ _ _ _ H vs Q E hr h=>?_;have{d,k,0,hW,kk}:=h;show{_,(ai (aL (pcq (gO T) hr T.X1 (ab (pv 0) (ab ag (ab ag af)))))
  (aj (aL (pcq (gO T) hr T.X1 (ab (pv 1) (ab ag (ab (uf (ka (v:= .ref T.a_NARROW) (by rfl) T.m_NARROW (by rfl)) (pv 0) (λ_ _=>rfl)) af))))))),?_}
 unfold dD at hW;show{1,d,(1),(4),0,4,4,?_};obtain⟨hi,hl,hN⟩:∃hi:Int,([(1,6),(2,6),(3,6),(4,2)]:SD (Int×Int)).lookup (d:Int)=some hi/\(k:Int)<=hi:=by
  have hd:d=1\/d=2\/d=3\/d=4:=by lia
  rcases hd with rfl|rfl|rfl|rfl
  .show{(6),0,4}
  .show{(6),0,4}
  .show{(6),0,4}
  .show{(2),0,4}
 show{1,1,T.a_NARROW,_,d,hi,0,T.D_NARROW,0,hl,k,(0),hi,0,4,hN,kk}
def rg:OKQ T.X8 P w base 4 spEndQ:=by
 show FbO T.X8 ju λ_ _ _ _ H vs Q E hr h=>?_;have{n,dv,ps,0,n1',n5',hd,hok,k2}:=h;show{_,(ai (aL (pcq (iQ T) hr T.X4 (ab (pv 0) af)))
  (ai (pSA (i:=2) ju.nd (ah jg (aK (ab ag af)) (pv 0)))
  (ai (aC AF rfl (aP (pv 1)) (cy rfl (aV (pGA (i:=3) ju.nd) (aV (pGA (i:=4) ju.nd) (aV (pGA (i:=5) ju.nd) cg)))) (ai (rO (pv 2) (ah aF (pv 3) ag) tj (pv 5) zt kj)
  (aj (rO (pv 2) (ah aF (pv 4) ag) tj (pv 5) ke kj))))
  (aj (ap (pv 2)))))),?_}
 show{1,n,0,4,4,?_};show{(zB rfl),λl1 H1 n1 s1 h1=>?_};show{1,.i 1,n,aD h1 (am bw ao),0,4,4,Ah (az (by lia)),λl H2 n2 s2 h2=>?_};rw[B1] at h2;have{_,QQ,e2,NB,Oo}:=aA h2;cases e2;rw[<-D1] at Oo;rw[kB Oo] at NB;have Qv:=s1.trans s2;have{da,M5,0,Ob,N4}:=aA hd;have MS:M5.length=ps.length:=by rw[N4.length,A1]
 show{1,da,0,{_,SqL.of (Qv _ _ Ob)},aZ (xs:=M5) (λi σ H3=>(E3 λv3 v4 v5=>σ=[some (.int n),some (.ref da),some (.ref l),v3,v4,v5])/\ae H H3/\H3 l=some (.lst (((ps.take i).foldl dy (List.replicate n 1)).map V.int)))
  {{none,none,none,0},Qv,NB} (λi σ H3 _ h=>SqL.of (h.2.1 _ _ Ob)) ?_ ?_}
 .rintro i y σ H3 hi ⟨⟨v3,v4,v5,rfl⟩,s3,Oz⟩;have{p,Nr,hy}:=aR N4 hi;have{t,0,OX}:=fX hy;have{o1,o2,o3,o4}:=hok p (AH Nr);have el:=(lr (ps.take i) (List.replicate n 1) (by simp) λq hq=>hok q (Cf hq)).1;have en:(ps.take (i+1)).foldl dy (List.replicate n 1)=dy ((ps.take i).foldl dy (List.replicate n 1)) p:=by
   rw[AL,Nr,Bo];rfl
  rw[en];generalize (ps.take i).foldl dy (List.replicate n 1)=e at Oz el⊢;have nl:H l=none:=s1.free n2;show{t,1,SqT.of (s3 _ _ OX),0,?_};show{3,3,2,?_};have j1:(p.1-1).toNat<e.length:=by lia
  have j2:(p.2.1-1).toNat<e.length:=by lia
  have k1:p.1-1=((p.1-1).toNat:Int):=by lia
  have kq:p.2.1-1=((p.2.1-1).toNat:Int):=by lia
  have g1:(e.map V.int)[(p.1-1).toNat]? =some (.int (e.getD (p.1-1).toNat 0)):=by
   show pW j1
  show{1,1,2,?_};show{l,_,(p.1-1).toNat,2,k1,SqL.of Oz,g1,?_};show{1,2,l,_,_,(p.1-1).toNat,0,0,Oz,by rw[k1,A1];show sY j1,?_};rw[<-map_set];have j2':(p.2.1-1).toNat<(e.set (p.1-1).toNat (e.getD (p.1-1).toNat 0-p.2.2)).length:=by rw[C6];show j2
  have g2:((e.set (p.1-1).toNat (e.getD (p.1-1).toNat 0-p.2.2)).map V.int)[(p.2.1-1).toNat]? =some (.int ((e.set (p.1-1).toNat (e.getD (p.1-1).toNat 0-p.2.2)).getD (p.2.1-1).toNat 0)):=by
   show pW j2'
  show{1,1,2,?_};show{l,_,(p.2.1-1).toNat,2,kq,SqL.of ak,g2,?_};show{1,2,l,_,_,(p.2.1-1).toNat,0,0,ak,by rw[kq,A1];show sY j2',?_};rw[<-map_set,rq];show{{_,3},s3.put nl,ak}
 .rintro σ H3 ⟨⟨v3,v4,v5,rfl⟩,s3,Oz⟩;rw[MS,AI] at Oz;show{1,k2 l H3 s3 (s1.free n2) Oz}
def mw:OKQ T.X10 P w base 1 spLost:=by
 show FbO T.X10 Ii λ_ _ _ _ H vs Q E hr h=>?_;have{v,p,0,hv,{p1,p2,p3,p4},kk}:=h;show{_,(aj (ap (ah aF (ah aW (ah aF (ay aQ (pv 0) ag (λ_ _=>rfl)) (ay aQ (pv 0) ag (λ_ _=>rfl))) (ay aQ (pv 0) ag (λ_ _=>rfl))) ag))),?_};show{1,_,(1),_,hv,0,0,λu hu=>?_};rw[aG hu];show{1,_,(0),_,hv,0,0,λu hu=>?_};rw[aG hu];show{2,1,_,(2),_,hv,0,0,λu hu=>?_};rw[aG hu];show{2,.inr {4,4},2,kk}
def LG:OKQ T.X11 P w base 2 spLfr:=by
 show FbO T.X11 kO λ_ _ _ _ H vs Q E hr h=>?_;have{d,f,n,sp,0,fd,d5,n20,kk}:=h;show{_,(ai (pSA (i:=4) kO.nd (aK af))
  (ai (aC AF rfl (dS (by rfl) T.n_range (ab (ah aI (pv 1) ag) (ab (ah aI (pv 0) ag) af))) (pGA (i:=5) kO.nd) (aj (aC AF rfl (dS (by rfl) T.n_range (ab ag (ab (ah aI (pv 2) ag) af))) (pGA (i:=6) kO.nd) (aj (aT (aJ iX (pcq (mw T) hr T.X10 (ab (bh (ab (pv 1) (ab (pv 5) (ab (pv 6) af)))) af)) (pv 3) (aH _)) (aj (aL (bA AU Af Ae b8 (pv 4) (ab (bh (ab (pv 1) (ab (pv 5) (ab (pv 6) af)))) af)))) aU)))))
  (aj (ap (pv 4))))),?_}
 show{AO _,λfo H1 n1 s1 h1=>?_};show{1,2,1,2,3,{4,4,4,4},?_};rw[show((d:Int)+1-((f:Int)+1)).toNat=d-f by lia];show cA (lo:=(f:Int)+1) (n:=d-f) (λi σ H2=>(E2 λv5 v6=>σ=[some (.int d),some (.int f),some (.int n),some (.int sp),some (.ref fo),v5,v6])/\ae H H2/\∃vs,H2 fo=some (.lst vs)/\Iss H2 ((dz f i n sp).map lf) vs) {{none,none,0},s1,[],h1,ao} ?_ ?_
 .rintro i σ H2 hi ⟨⟨v5,v6,rfl⟩,s2,QQ,Nc,R5⟩;show{1,2,3,{5,5,4,4},?_};rw[show((n:Int)+1-1).toNat=n by lia];show cA (lo:=1) (n:=n) (λj σ H3=>(∃v6,σ=[some (.int d),some (.int f),some (.int n),some (.int sp),some (.ref fo),some (.int ((f:Int)+1+(i:Int))),v6])/\ae H H3/\∃vs,H3 fo=some (.lst vs)/\Iss H3 ((dz f i n sp++eR f ((f:Int)+1+(i:Int)) j sp).map lf) vs) {{v6,0},s2,QQ,Nc,by simpa[eR] using R5} ?_ ?_
  .rintro j σ H3 hj ⟨⟨v6,rfl⟩,s3,P7,MW,P8⟩;have vl:P7.length<=200:=by
    rw[P8.length,A1,AA];have a:=pY f n sp i;have b:=vV f ((f:Int)+1+(i:Int)) j sp;have:i*n<=5*20:=Nat.mul_le_mul (by lia) n20;lia
   show{1,1,1,(zB rfl),λt H4 nt s4 ht=>{.ref t,((f:Int),(f:Int)+1+(i:Int),1+(j:Int)),0,jK ht,{?_,?_,?_,?_},1,2,1,bq (λc=>?_) (λc=>?_)}}
   .change 0<=(f:Int)+1+(i:Int)-(f:Int);lia
   .change(f:Int)+1+(i:Int)-(f:Int)<=10;lia
   .change 1<=1+(j:Int);lia
   .change 1+(j:Int)<=20;lia
   .show{1,.inl {0,_,SqL.of (s4 _ _ MW)},1,1,1,(zB rfl),λt2 H5 nt2 s5 R6=>{fo,P7,1,0,s5 _ _ (s4 _ _ MW),az (by lia),{1},(s3.trans (s4.trans s5)).put n1,_,ak,?_}};rw[vT,A6 c,<-BV];show lx (av.upd (s5 _ _ (s4 _ _ MW))) ?_;rw[A7];show(P8.mono (s4.trans s5)).append (am (jK R6) ao)
   .show{{1},s3.trans s4,P7,s4 _ _ MW,?_};rw[vT,A5 c,BE];show P8.mono s4
  .rintro σ H3 ⟨⟨v6,rfl⟩,s3,P7,MW,P8⟩;show{{3},s3,P7,MW,by rw[vU];show P8}
 .rintro σ H2 ⟨⟨v5,v6,rfl⟩,s2,QQ,Nc,R5⟩;show{1,kk fo H2 s2 n1 (aD Nc R5)}
theorem yj:∀n:Nat,FnOk P w K mg base CX0 (n+1) T.f12 T.d12 ["lifts","weight","spare"] (spLeav n K)
 |0=>{λvs H Q E h=>by have{_,_,_,_,_,_,_,h,h',_}:=h;lia,λA outer s H args us vs Q E _ _ _ _ h=>by have{_,_,_,_,_,_,_,h,h',_}:=h;lia}
 |n+1=>by
  have ih:=yj n;show T.X12.F.ok jv (λvs H Q E h=>?_) (λNa A outer s H vs Q E hr h=>?_)
  .have{_,_,_,_,0,_}:=h;rfl
  .have{v,ls,wt,sp,0,hv,hok,w0,w1,hL,hl,hn,kk}:=h;show{_,(ai (pSA (i:=3) jv.nd (aK (ab (aK af) af)))
   (ai (aC AF rfl (mV (by rfl) T.n_enumerate (pv 0)) (cy rfl (aV (pGA (i:=4) jv.nd) (aV (pGA (i:=5) jv.nd) cg))) (aj (aT (rK (aJ iX (ay aQ (pv 5) ag (λ_ _=>rfl)) (pv 1) (aH _)) (rJ (aJ iX (pcq (mw T) hr T.X10 (ab (pv 5) af) (by lia)) (pv 2) (aH _)))).pt (aj (aC AF rfl (aP (fN ih hr (by rfl) T.X12.m T.X12.F.kp T.X12.B .nil fP (ab (eJ fO (pv 0) (dW (pv 4)) ff) (ab (ah aF (pv 1) (ay aQ (pv 5) ag (λ_ _=>rfl))) (ab (ah aF (pv 2) (pcq (mw T) hr T.X10 (ab (pv 5) af) (by lia))) af))))) (pGA (i:=6) jv.nd) (aj (aL (bA AU Af Ae b8 (pv 3) (ab (ah dw (aK (ab (pv 5) af)) (pv 6)) af)))))) aU)))
   (aj (ap (pv 3))))),?_}
   have{da,M5,0,Ob,N4}:=aA hv;have Pl:M5.length=ls.length:=by rw[N4.length,A1]
   show{AO _,λe0 H1 ne s1 he=>{(zB rfl),λfo H2 nf s2 Nj=>?_}};have Pb:H fo=none:=s1.free nf;have e0fo:e0≠fo:=by rintro rfl;rw[he] at nf;cases nf
   have acc0:Acc H H2 fo (([[]]:SD (SD Lf)).map lfs):={[.ref e0],Nj,am (aD (vs:=[]) (by rw[dM e0fo,bZ ne];show s2 _ _ he) ao) ao};have tot:∀i:Nat,i<ls.length->1+((List.range i).flatMap (dA n ls wt sp)).length+(dA n ls wt sp i).length<=1000:=λi hi=>by
    have:=lA (dA n ls wt sp) hi;rw[pX,AA,DJ] at hL;lia
   show{1,da,0,{_,SqL.of (s2 _ _ (s1 _ _ Ob))},sZ (xs:=M5) (λi σ H3=>(E3 λv4 v5 v6=>σ=[some (.ref da),some (.int wt),some (.int sp),some (.ref fo),v4,v5,v6])/\ae H H3/\Acc H H3 fo (([[]]++(List.range i).flatMap (dA n ls wt sp)).map lfs)) {{none,none,none,0},s1.trans s2,by simpa using acc0} (λi σ H3 _ h=>SqL.of (h.2.1 _ _ Ob)) ?_ ?_}
   .rintro i y σ H3 pa hi ⟨⟨v4,v5,v6,rfl⟩,s3,MR⟩ np;have{p,Nr,hy}:=aR N4 hi;have Ri:i<ls.length:=(A8.mp Nr).1;have{p1,p2,p3,p4}:=id (hok p (AH Nr));have tt:=tot i Ri;have s34:ae H3 (upd H3 pa (.tup [.int i,y])):=ae.new np;have Pe:=MR.mono s34;have stay:dA n ls wt sp i=[]->Acc H (upd H3 pa (.tup [.int i,y])) fo (([[]]++(List.range (i+1)).flatMap (dA n ls wt sp)).map lfs):=λe=>by
     rw[gI,e,BE];show Pe
    have Rj:Is (upd H3 pa (.tup [.int i,y])) (lf p) y:=(hy.mono s3).mono s34;show{pa,1,SqT.of ak,0,3,2,?_};generalize upd H3 pa (.tup [.int i,y])=H4 at s34 Pe stay Rj⊢;have s4:ae H H4:=s3.trans s34;show{1,_,(2),_,Rj,0,0,λu hu=>?_};rw[aG hu];show{1,2,1,bq (λc1=>?_) (λc1=>?_)}
    .show{1,y,p,0,Rj,{p1,p2,p3,p4},1,2,1,bq (λc2=>?_) (λc2=>?_)}
     .have eG:dA n ls wt sp i=(cJ n (ls.drop i) (wt-p.2.2) (sp-cj p)).map (p:: ·):=by
       unfold dA;rw[Nr];show A6 {c1,c2}
      rw[eG,A1] at tt;show{1,1,i,0,da,1,SqL.of (s4 _ _ Ob),?_};rw[mj (by lia)];intro l2 n2;have s45:ae H4 (upd H4 l2 (.lst (M5.drop i))):=ae.new n2;have NB:(upd H4 l2 (.lst (M5.drop i))) l2=some (.lst (M5.drop i)):=ak;generalize upd H4 l2 (.lst (M5.drop i))=H5 at s45 NB⊢;have s5:=s4.trans s45;have hdr:Is H5 (lfs (ls.drop i)) (.ref l2):=aD NB (by rw[List.map_drop];show(N4.drop i).mono s5);show{1,1,_,(2),_,Rj.mono s45,0,0,λu hu=>?_};rw[aG hu];show{2,1,1,y,p,0,Rj.mono s45,{p1,p2,p3,p4},2,?_};show{.ref l2,ls.drop i,wt-p.2.2,sp-cj p,0,hdr,λq hq=>hok q (DQ hq),4,4,4,by rw[Bw];lia,4,λrl H6 s6 Oh OO=>?_};have{Py,M7,Pm}:=Pe.mono s45;have OY:H6 fo=some (.lst Py):=s6 _ _ M7;have{_,NE,e,P9,NT}:=aA OO;cases e;have P':H6 rl=some (.lst NE):=bx _ _ P9;have OZ:rl≠fo:=by rintro rfl;rw[M7] at Oh;cases Oh
      have Nd:NE.length=(cJ n (ls.drop i) (wt-p.2.2) (sp-cj p)).length:=by rw[NT.length,A1]
      have Qa:Iss (hid H6 fo) ((cJ n (ls.drop i) (wt-p.2.2) (sp-cj p)).map lfs) NE:=(NT.mono (ix (ae.refl H5) M7)).mono (dh bx);have s56:=s5.trans s6;show{rl,0,{_,SqL.of P'},aZ (xs:=NE) (λj σ H7=>(∃v6,σ=[some (.ref da),some (.int wt),some (.int sp),some (.ref fo),some (.int i),some y,v6])/\ae H H7/\But fo H6 H7/\Acc H H7 fo (([[]]++(List.range i).flatMap (dA n ls wt sp)++((cJ n (ls.drop i) (wt-p.2.2) (sp-cj p)).take j).map (p:: ·)).map lfs)) {{1},s56,λ_ _ e _=>e,by simpa using (Pe.mono s45).mono s6} (λj σ H7 _ h=>SqL.of (h.2.2.1 _ _ P' OZ)) ?_ ?_}
      .rintro j x σ H7 hj ⟨⟨v6,rfl⟩,s7,but7,vs7,O0,hi7⟩;have{r,Nx,hx}:=aR Qa hj;have hjl:j<(cJ n (ls.drop i) (wt-p.2.2) (sp-cj p)).length:=(A8.mp Nx).1;have hx7:Is H7 (lfs r) x:=hx.mono (mi but7);have ritem:=(p6 (λq hq=>(hok q (DQ hq)).2.2.1) (by lia) (AH Nx)).1;have vl:vs7.length<=999:=by
        rw[hi7.length,A1,AA,AA,A1,AV,DJ];lia
       have R7:Is H7 (lf p) y:=hy.mono s7;show{1,.inl {0,_,SqL.of O0},1,(zB rfl),λq1 H8 n8 s8 h8=>{1,[lf p],r.map lf,aD h8 (am (R7.mono s8) ao),hx7.mono s8,Ah (az (by rw[A1];change 1+r.length<=1000;lia)),λq2 H9 n9 s9 h9=>?_}};have s79:=s8.trans s9;show{fo,vs7,1,0,s79 _ _ O0,az (by lia),{1},(s7.trans s79).put Pb,but7.trans ((But.of_same s79).trans But.upd),?_};rw[AL,Nx];have:=Acc.add s7 s79 O0 hi7 (vR (ps:=p::r) s79 (s8.free n9) h9);simpa using this
      .rintro σ H7 ⟨⟨v6,rfl⟩,s7,_,OK⟩;show{{_,3},s7,?_};rw[Nd,AI,<-eG,BV,<-gI] at OK;show OK
     .show{{_,3},s4,stay ?_};unfold dA;rw[Nr];show A5 λz=>c2 z.2
    .show bJ {{_,3},s4,stay ?_};unfold dA;rw[Nr];show A5 λz=>c1 z.1
   .rintro σ H3 ⟨⟨v4,v5,v6,rfl⟩,s3,MR⟩;rw[Pl,<-pX] at MR;show{1,kk fo H3 s3 Pb (MR.is Pb)}
def LH:OKQ T.X13 P w base 10 spWith:=by
 show FbO T.X13 ii λNa A outer s H vs Q E hr h=>?_;have{d,f,v,x,0,fd,d5,hv,M3,kk}:=h;show{_,(ai (pSA (i:=4) ii.nd (ay cC (pcq (rg T) hr T.X8 (ab (pv 0) (ab (pv 2) af))) (ah aF (pv 1) ag) (λ_ _=>rfl)))
  (ai (pSA (i:=5) ii.nd (aK af))
  (ai (aC AF rfl (aP (pcq (yj T 8) hr T.X12 (ab (pcq (LG T) hr T.X11 (ab (pv 0) (ab (pv 1) (ab (pv 4) (ab (pv 3) af))))) (ab (pv 4) (ab (pv 3) af))))) (pGA (i:=6) ii.nd) (ai (pSA (i:=7) ii.nd (ah aF (pv 4) (bf (je rfl) (by rfl) T.n_sum boot_sum (ab (c9 (XN:=["d","floor","drawing","spare","there","found","lifts","ends","left"]) (sc:=al jw) (N:=["lift"]) (own:=1) (js:=[]) rfl (by ac_nf) rfl rfl (aP (pv 6)) (λ_ _ _ _=>(bN (i:=0) (show List.Nodup (["lift"]:SD Str) by ac_nf) rfl (Or.inl rfl) (.inr rfl))) (c8 (by decide)) (λ_ _ _ _=>dG) (λ_ _ _ _=>(ay aQ (pv 0) ag (λ_ _=>rfl)))) af))))
  (ai (pSA (i:=8) ii.nd (ah aF (ah aF (pv 3) (bf (je rfl) (by rfl) T.n_sum boot_sum (ab (c9 (XN:=["d","floor","drawing","spare","there","found","lifts","ends","left"]) (sc:=al jw) (N:=["lift"]) (own:=1) (js:=[]) rfl (by ac_nf) rfl rfl (aP (pv 6)) (λ_ _ _ _=>(bN (i:=0) (show List.Nodup (["lift"]:SD Str) by ac_nf) rfl (Or.inl rfl) (.inr rfl))) (c8 (by decide)) (λ_ _ _ _=>dG) (λ_ _ _ _=>(pcq (mw T) hr T.X10 (ab (pv 0) af)))) af))) (ah aW (pv 7) (ah aF (pv 0) (pv 1)))))
  (aj (aT (aJ kh (pv 8) ag (aH _)) (aj (aL (bA AU Af Ae b8 (pv 5) (ab (bh (ab (ah dw (pv 2) (pv 6)) (ab (pv 8) af))) af)))) aU)))))
  (aj (ap (pv 5)))))),?_}
 have{b1,b2,b3,b4,b5,b6,b7}:=IR M3;have okl:∀p∈x.1,Okl d p:=λp hp=>by
  have{o1,o2,o3,o4,o5}:=p7.mp (b1 p hp);show{o1,4,4,o3}
 have elen:=lu d x.1 okl;show{1,1,d,v,x.1,0,4,d5,hv,okl,λel H1 s1 nel hel=>?_};show{1,2,el,_,_,.int (thF d (f+1) x.1),0,0,SqL.of hel,gu (j:=f) (by lia) (by rw[pW (by lia)];rfl),?_};unfold eu at kk;generalize thF d (f+1) x.1=th at b3 b4 b7 kk⊢;have{n,0}:=BS b3;show{AO _,λfo H2 nf s2 Nj=>?_};have Pb:H fo=none:=s1.free nf;have Od:=s1.trans s2;show{1,1,1,1,d,f+1,n,x.2,0,4,d5,4,λl0 H3 s3 Rk Pn=>?_};show{1,1,.ref l0,dz ((f+1:Nat):Int) (d-(f+1)) n x.2,(n:Int),x.2,0,Pn,λp hp=>?_,4,4,?_,?_,5,λrl H4 s4 Oh OO=>?_}
 .have{e1,e2,e3,e4,e5}:=pZ hp;show{4,4,4,4}
 .show BA b7 (by decide)
 .have:=pY ((f+1:Nat):Int) n x.2 (d-(f+1));have:(d-(f+1))*n<=5*8:=Nat.mul_le_mul (by lia) (by lia);lia
 have eL:cJ 8 (dz ((f+1:Nat):Int) (d-(f+1)) n x.2) (n:Int) x.2=gH d (f+1) n x.2:=by unfold gH;rw[B1]
 have Rl:∀r∈gH d (f+1) n x.2,r.length<=8/\0<=(r.map (·.2.2)).sum/\(r.map (·.2.2)).sum<=(n:Int)/\∀p∈r,Lok p:=λr hr=>by
  rw[<-eL] at hr;have{i1,i2,i3,i4}:=p6 (λq hq=>(pZ hq).2.2.2.1) (by lia) hr;show{i1,i2,i3,λp hp=>by
   have{e1,e2,e3,e4,e5}:=pZ (i4 p hp);show{4,4,4,4}}
 rw[eL] at OO;generalize gH d (f+1) n x.2=L at OO Rl kk b7;have Ni:=Od.trans s3;have MW:H3 fo=some (.lst []):=s3 _ _ Nj;have hfo4:H4 fo=some (.lst []):=s4 _ _ MW;have{_,NE,e,P9,NT}:=aA OO;cases e;have OL:H4 rl=some (.lst NE):=bx _ _ P9;have OZ:rl≠fo:=by rintro rfl;rw[MW] at Oh;cases Oh
 have Nd:NE.length=L.length:=by rw[NT.length,A1]
 have Qa:Iss (hid H4 fo) (L.map lfs) NE:=(NT.mono (ix (ae.refl H3) MW)).mono (dh bx);have O1:=Ni.trans s4;show{rl,0,{_,SqL.of OL},aZ (xs:=NE) (λj σ H5=>(E3 λv6 v7 v8=>σ=[some (.int d),some (.int ((f+1:Nat):Int)),some v,some (.int x.2),some (.int n),some (.ref fo),v6,v7,v8])/\ae H H5/\But fo H4 H5/\Acc H H5 fo ((((L.take j).filter λls=>decide (0<=fC d (f+1) n x.2 ls)).map λls=>(x.1++ls,fC d (f+1) n x.2 ls)).map stD)) {{none,none,none,0},O1,λ_ _ e _=>e,Acc.start hfo4} (λj σ H5 _ h=>SqL.of (h.2.2.1 _ _ OL OZ)) ?_ ?_}
 .rintro j y σ H5 hj ⟨⟨v6,v7,v8,rfl⟩,s5,Ot,Py,M7,Pm⟩;have{r,Nx,hy}:=aR Qa hj;have hy5:Is H5 (lfs r) y:=hy.mono (mi Ot);have{i1,i2,i3,i4}:=Rl r (AH Nx);have{ya,ys,0,Rm,hyi}:=aA hy5;have ylen:ys.length=r.length:=by rw[hyi.length,A1]
  have vl:Py.length<=200:=by
   rw[Pm.length,A1,A1];show BA (Bp _ _) ?_;rw[AV];lia
  show{1,1,ya,0,{_,SqL.of Rm},λacc na=>?_};show dZ (xs:=ys) (own:=1) (js:=[]) (λi H6=>ae H5 H6/\H6 acc=some (.lst (((r.take i).map (·.2.2)).map V.int))) {ae.new na,ak} (λi H6 _ h=>SqL.of (h.1 _ _ Rm)) ?_ ?_ db dJ ?_
  .rintro i z H6 hz ⟨s6,MR⟩;have{p,Nr,hzi}:=aR hyi hz;show fh ?_;show{1,_,(2),_,hzi.mono s6,0,0,λu hu=>?_};rw[aG hu];show{acc,2,MR,az ?_,s6.put na,?_}
   .rw[A1,A1,AV];lia
   .rw[ak,AL,Nr,A7,A7];rfl
  .rintro H6 ⟨s6,MR⟩;rw[ylen,AI] at MR;show{acc,1,SqL.of MR,2,?_};clear MR;show{1,1,ya,0,{_,SqL.of (s6 _ _ Rm)},λR8 Rn=>?_};show dZ (xs:=ys) (own:=1) (js:=[]) (λi H7=>ae H6 H7/\H7 R8=some (.lst (((r.take i).map cj).map V.int))) {ae.new Rn,ak} (λi H7 _ h=>SqL.of (h.1 _ _ (s6 _ _ Rm))) ?_ ?_ db dJ ?_
   .rintro i z H7 hz ⟨s7,MR⟩;have{p,Nr,hzi}:=aR hyi hz;show fh ?_;show{1,z,p,0,(hzi.mono s6).mono s7,i4 p (AH Nr),R8,2,MR,az ?_,s7.put Rn,?_}
    .rw[A1,A1,AV];lia
    .rw[ak,AL,Nr,A7,A7];rfl
   .rintro H7 ⟨s7,MR⟩;rw[ylen,AI] at MR;have OA:=s6.trans s7;show{R8,1,SqL.of MR,2,1,1,1,2,2,.inr {4,4},2,?_};show{1,2,1,bq (λc=>?_) (λc=>?_)}
    .have hv7:Is H7 (lfs x.1) v:=(hv.mono s5).mono OA;show{1,.inl {0,_,SqL.of (OA _ _ M7)},1,1,x.1.map lf,r.map lf,hv7,hy5.mono OA,Ah (az (by rw[A1,A1];lia)),λq1 H8 n8 s8 h8=>{1,(zB rfl),λt H9 nt s9 ht=>?_}};have s59:=OA.trans (s8.trans s9);show{fo,Py,1,0,s59 _ _ M7,az (by lia),{_,3},(s5.trans s59).put Pb,Ot.trans ((But.of_same s59).trans But.upd),?_};rw[AL,Nx,Bi];have ef:(Option.toList (some r)).filter (λls=>decide (0<=fC d (f+1) n x.2 ls))=[r]:=by
      have c':0<=fC d (f+1) n x.2 r:=c;simp[c']
     rw[ef,A7,A7];rw[<-A7] at h8;have isx:Is (nw H5 H9) (stD (x.1++r,fC d (f+1) n x.2 r)) (.ref t):=bi (by rw[bZ ((OA.trans s8).free nt)];show ht) (am (vR s59 (OA.free n8) (Is.mono (s:=s9) h8)) (am bw ao));show Acc.add s5 s59 M7 Pm isx
    .show{{_,3},s5.trans OA,Ot.trans (But.of_same OA),?_};rw[AL,Nx,Bi];have ef:(Option.toList (some r)).filter (λls=>decide (0<=fC d (f+1) n x.2 ls))=[]:=by
      have c':¬0<=fC d (f+1) n x.2 r:=c;simp[c']
     rw[ef,BE];show Acc.mono OA {Py,M7,Pm}
   .rintro σ H R R' k ⟨v1,e1,v2,p,e2,h1,h2,h⟩;show{v1,e1,v2,p,e2,h1,h2,k _ _ h}
  .rintro σ H R R' k ⟨v1,e1,xs,i,d,h1,e2,e3,h⟩;show{v1,e1,xs,i,d,h1,e2,e3,λu hu=>k _ _ (h u hu)}
 .rintro σ H5 ⟨⟨v6,v7,v8,rfl⟩,s5,_,MR⟩;rw[Nd,AI] at MR;show{1,kk fo H5 s5 Pb (MR.is Pb)}
def LI:FnOk P w K mg base (CX0) 11 T.f14 T.d14 ["d","k"] spDrP:=by
 show FbO T.X14 gx λ_ _ _ _ H vs Q E hr h=>?_;have{d,k,0,hW,{g1,g3,g6},kk}:=h;show{_,(ai (aL (pcq (mr T) hr T.X3 (ab (pv 0) (ab (pv 1) af))))
  (ai (pSA (i:=2) gx.nd (aK (ab (bh (ab (aK af) (ab (pv 1) af))) af)))
  (ai (aC AF rfl (dS (by rfl) T.n_range (ab ag (ab (ah aI (pv 0) ag) af))) (pGA (i:=3) gx.nd) (ai (pSA (i:=4) gx.nd (aK af))
  (ai (aC AF rfl (aP (pv 2)) (cy rfl (aV (pGA (i:=5) gx.nd) (aV (pGA (i:=6) gx.nd) cg))) (aj (aL (bA AU CM CL i6 (pv 4) (ab (pcq (LH T) hr T.X13 (ab (pv 0) (ab (pv 3) (ab (pv 5) (ab (pv 6) af))))) af)))))
  (aj (pSA (i:=2) gx.nd (pv 4))))))
  (aj (ap (bf (ux hr) (by rfl) T.n_sorted boot_sorted (ab (c9 (XN:=["d","k","begun","floor","longer","drawing","spare"]) (sc:=al kP) (N:=["drawing","spare"]) (own:=2) (js:=[]) rfl (by ac_nf) rfl rfl (aP (pv 2)) (λ_ _ _ _=>(m6 (K:=K) rfl rfl (aV (bN (i:=0) (show List.Nodup (["drawing","spare"]:SD Str) by ac_nf) rfl (Or.inl rfl) (.inr rfl)) (aV (bN (i:=1) (show List.Nodup (["drawing","spare"]:SD Str) by ac_nf) rfl (Or.inl rfl) (.inr rfl)) cg)))) m4 (λ_ _ _ _=>(jb (aJ cB (pv 1) ag (aH _)))) (λ_ _ _ _=>(pv 0))) af))))))),?_}
 show{1,1,d,k,0,hW,?_};have{gA,gB}:=IS g1;have d15:1<=d/\d<=5:=by unfold Wide at hW;lia
 show{AO _,λe0 H1 ne0 s1 he0=>{1,(zB rfl),λt0 H2 nt0 s2 ht0=>{(zB rfl),λbg H3 nb s3 R9=>?_}}};have Ni:=(s1.trans s2).trans s3;have nbH:H bg=none:=(s1.trans s2).free nb;have is0:Is (nw H H3) (.l ((bR d k 0).map stD)) (.ref bg):=aD (by rw[bZ nbH];show R9) (am (bi (by rw[bZ (s1.free nt0)];show s3 _ _ ht0) (am (aD (vs:=[]) (by rw[bZ ne0];show s3 _ _ (s2 _ _ he0)) ao) (am bw ao))) ao);show{1,2,3,{5,5,4,4},?_};rw[show((d:Int)+1-1).toNat=d by lia];show cA (lo:=1) (n:=d) (λf σ H4=>∃bg,(E4 λv3 v4 v5 v6=>σ=[some (.int d),some (.int k),some (.ref bg),v3,v4,v5,v6])/\ae H H4/\Is (nw H H4) (.l ((bR d k f).map stD)) (.ref bg)) {bg,{none,none,none,none,0},Ni,is0} ?_ ?_
 .clear is0 Ni nbH R9;rintro f σ H4 hf ⟨bg,⟨v3,v4,v5,v6,rfl⟩,s4,R9⟩;have{M3,MS}:=gA f hf;show{AO _,λlo H5 nlo s5 hlo=>?_};have hbg4:=R9.mono bx;have{_,bvs,e,Sa,hbi}:=aA hbg4;cases e;have Sb:bvs.length=(bR d k f).length:=by rw[hbi.length,A1]
  show{1,bg,0,{_,SqL.of (s5 _ _ Sa)},aZ (xs:=bvs) (λj σ H6=>(E2 λv5 v6=>σ=[some (.int d),some (.int k),some (.ref bg),some (.int (1+(f:Int))),some (.ref lo),v5,v6])/\ae H4 H6/\Acc H4 H6 lo ((((bR d k f).take j).flatMap λx=>eu d (f+1) x.1 x.2).map stD)) {{3},s5,Acc.start hlo} (λj σ H6 _ h=>SqL.of (h.2.1 _ _ Sa)) ?_ ?_}
  .rintro j y σ H6 hj ⟨⟨v5,v6,rfl⟩,s6,vs6,O2,hi6⟩;have{x,M6,hy}:=aR hbi hj;have{t,u,0,ht,hu}:=xH (hy.mono s6);have e1:(1+(f:Int))=((f+1:Nat):Int):=by lia
   have tk:(((bR d k f).take (j+1)).flatMap λx=>eu d (f+1) x.1 x.2)=(((bR d k f).take j).flatMap λx=>eu d (f+1) x.1 x.2)++eu d (f+1) x.1 x.2:=by
    rw[AL,M6,Ax];simp
   have vl:vs6.length+(eu d (f+1) x.1 x.2).length<=900:=by
    rw[hi6.length,A1];have hjl:j<(bR d k f).length:=(A8.mp M6).1;have:(((bR d k f).take (j+1)).flatMap λx=>eu d (f+1) x.1 x.2).length<=(bR d k (f+1)).length:=by
     change _<=((bR d k f).flatMap λx=>eu d (f+1) x.1 x.2).length
     conv=>rhs;rw[<-Bb (j+1) (bR d k f)]
     rw[Ax,AA];lia
    rw[tk,AA] at this;lia
   show{t,1,SqT.of ht,0,3,2,?_};show{1,.inl {0,_,SqL.of O2},1,1,1,1,d,f,u,x,by rw[e1];rfl,hf,d15.2,hu,M3 x (AH M6),λwl H7 s7 nwl hwl=>?_};have{_,us,e,hwl',hwi}:=aA hwl;cases e;have ul:us.length=(eu d (f+1) x.1 x.2).length:=by rw[hwi.length,A1]
   show{lo,wl,vs6,us,0,0,s7 _ _ O2,bx _ _ hwl',Ah (az (by lia)),{3},(s6.trans s7).put nlo,?_};rw[tk,A7];show Acc.adds s6 s7 O2 hi6 hwi
  .rintro σ H6 ⟨⟨v5,v6,rfl⟩,s6,MR⟩;rw[Sb,AI] at MR;show{1,lo,{_,_,3},s4.trans s6,(MR.is nlo).mono (iw s4)}
 .clear is0 Ni nbH R9;rintro σ H4 ⟨bg,⟨v3,v4,v5,v6,rfl⟩,s4,R9⟩;have{_,bvs,e,Sa,hbi}:=aA R9;cases e;have hb4':=bx _ _ Sa;have Sb:bvs.length=(bR d k d).length:=by rw[hbi.length,A1]
  show{1,bg,0,{_,SqL.of hb4'},λacc na=>?_};show dZ (xs:=bvs) (own:=2) (js:=[]) (λj H5=>ae H4 H5/\∃vs,H5 acc=some (.lst vs)/\Iss (nw H H4) (((((bR d k d).take j).filter λx=>decide (x.2=0)).map (·.1)).map lfs) vs) {ae.new na,[],ak,ao} (λj H5 _ h=>SqL.of (h.1 _ _ hb4')) ?_ ?_ m5 ?_ ?_
  .rintro j y H5 hj ⟨s5,vs,MR,hi⟩;have{x,M6,hy}:=aR hbi hj;have{t,u,0,ht,hu}:=xH hy;have vl:vs.length<=900:=by
    rw[hi.length,A1,A1];show BA (Bp _ _) ?_;rw[AV];obtain⟨d',rfl⟩:∃d',d=d'+1:={d-1,4};have:=(gA d' (by lia)).2;lia
   show{t,1,SqT.of (s5 _ _ (bx _ _ ht)),0,3,2,?_};show{1,0,1,cD (λc=>?_) (λc=>?_)}
   .show{1,acc,vs,1,0,MR,az (by lia),s5.put na,_,ak,?_};rw[AL,M6,Bi];have ef:(Option.toList (some x)).filter (λx=>decide (x.2=0))=[x]:=by simp[c]
    rw[ef,A7,A7];show hi.append (am hu ao)
   .show{s5,vs,MR,?_};rw[AL,M6,Bi];have ef:(Option.toList (some x)).filter (λx=>decide (x.2=0))=[]:=by simp[c]
    rw[ef,BE];show hi
  .rintro H5 ⟨s5,vs,MR,hi⟩;rw[Sb,AI] at hi;have hi:Iss (nw H H4) ((dk d k).map lfs) vs:=hi;have Qw:=s4.trans s5;have QR:Iss H5 ((dk d k).map lfs) vs:=(hi.mono bx).mono s5;have NH:vs.length=(dk d k).length:=by rw[hi.length,A1]
   show yc MR QR (λx v h=>let ⟨a,ys,e1,e2,_⟩:=aA h;{a,ys,e1,e2}) (λ_ _ _ _ h h'=>IN h h') g3 g6 λp q pp nq=>?_;show kk (p.map λi=>(dk d k).getD i []) q _ (yd pp) (Qw.put (Qw.free nq)) (Qw.free nq) ?_;show aD (by rw[bZ (Qw.free nq)];show ak) ((lT [] hi p λi h=>AY.mp (pp.mem_iff.mp h)).mono (fB (s5.trans (ae.new nq))))
  .rintro σ H R R' k' ⟨v1,e1,e2,b,e3,h⟩;show{v1,e1,e2,b,e3,k' _ _ h}
  .rintro σ H R R' k' ⟨v1,e1,h⟩;show{v1,e1,k' _ _ h}
def LJ:OKQ T.X9 P w base 5 spSou:=by
 show FbO T.X9 Ih λ_ _ _ _ H vs Q E hr h=>?_;have{n,dv,ps,0,n1,n5,hd,hs,kk}:=h;show{_,(aj (ap (iY kh (bf (Ff rfl) (by rfl) T.n_min boot_min (ab (pcq (rg T) hr T.X8 (ab (pv 0) (ab (pv 1) af))) af)) ag (aH _)))),?_};show{1,1,n,dv,ps,0,n1,n5,hd,hs.okl,λl H1 s1 nl hl=>?_};show{l,1,SqL.of hl,by rw[lu n ps hs.okl];lia,2,?_};change Q (.bl (decide (0<=jh (bF n ps)))) H1;rw[B4 (KY hs.ends)];show kk H1 s1
def LK:OKQ T.X19 P w base 6 spNeS:=by
 show FbO T.X19 Il λ_ _ _ _ H vs Q E hr h=>?_;have{n,dv,ps,0,n1,n5,hd,hs,kk}:=h;show{_,(ai (aL (pcq (iQ T) hr T.X4 (ab (pv 0) af)))
  (aj (aT (ge (e9 (pcq (LJ T) hr T.X9 (ab (pv 0) (ab (pv 1) af))))) (aj kb) aU))),?_}
 show{1,n,0,4,4,1,1,n,dv,ps,0,n1,n5,hd,hs,λH1 s1=>{true,0,bJ (kk H1 s1)}}
def LL:OKQ T.X20 P w base 5 spEnM:=by
 show FbO T.X20 kT λ_ _ _ _ H vs Q E hr h=>?_;have{n,dv,ps,0,n1,n5,hd,hs,MS,kk}:=h;show{_,(ai (pSA (i:=2) kT.nd (aK af))
  (ai (aC AF rfl (mV (by rfl) T.n_enumerate (pcq (rg T) hr T.X8 (ab (pv 0) (ab (pv 1) af)))) (cy rfl (aV (pGA (i:=3) kT.nd) (aV (pGA (i:=4) kT.nd) cg))) (aj (aL (bA AU CM CL i6 (pv 2) (ab (ah jg (aK (ab (bh (ab (ah aI (pv 3) ag) (ab (ah aI (pv 0) ag) (ab ag af)))) af)) (pv 4)) af)))))
  (aj (ap (pv 2))))),?_}
 show{AO _,λfo H1 nf s1 Nj=>?_};show{1,1,n,dv,ps,0,n1,n5,hd.mono s1,hs.okl,λe H2 s2 ne he=>?_};have el:=lu n ps hs.okl;have efo:e≠fo:=by rintro rfl;rw[Nj] at ne;cases ne
 show{e,0,{_,SqL.of he},sZ (xs:=(bF n ps).map V.int) (λi σ H3=>(E2 λv3 v4=>σ=[some (.int n),some dv,some (.ref fo),v3,v4])/\ae H H3/\H3 e=some (.lst ((bF n ps).map V.int))/\∃vs,H3 fo=some (.lst vs)/\Iss H3 (((List.range i).flatMap (fZ n (bF n ps))).map lf) vs)
  {{none,none,0},s1.trans s2,he,[],s2 _ _ Nj,ao} (λi σ H3 _ h=>SqL.of h.2.2.1) ?_ ?_}
 .rintro i x σ H3 p hx ⟨⟨v3,v4,rfl⟩,s3,he3,vs,OP,hi3⟩ np;rw[AD] at hx;have{x,M6,0}:=AB.mp hx;have hi:i<n:=by have:=(A8.mp M6).1;lia
  have ex:(bF n ps).getD i 0=x:=by rw[List.getD,M6];rfl
  have x0:0<=x:=by rw[<-ex];show hs.ends i
  have pre:((List.range i).flatMap (fZ n (bF n ps))).length+x.toNat<=20:=by
   have:=lA (fZ n (bF n ps)) hi;have e2:(fZ n (bF n ps) i).length=x.toNat:=by unfold fZ;rw[BJ,ex]
   unfold fD at MS;lia
  show{p,1,SqT.of ak,0,3,2,?_};have s4:ae H3 (upd H3 p (.tup [.int i,.int x])):=ae.new np;generalize upd H3 p (.tup [.int i,.int x])=H4 at s4⊢;show{1,.inl {0,_,SqL.of (s4 _ _ OP)},1,2,1,2,(zB rfl),λt H5 nt s5 ht=>{(zB rfl),λl1 H6 n6 s6 h6=>?_}};have Qb:Is H6 (lf (1+(i:Int),(n:Int)+1,1)) (.ref t):=jK (s6 _ _ (by rw[ht];change some (HO.tup [V.int ((i:Int)+1),_,_])=_;rw[Int.add_comm]));show{1,lf (1+(i:Int),(n:Int)+1,1),x,aD h6 (am Qb ao),0,4,4,Ah (az (by lia)),λl2 H7 n7 s7 h7=>?_};have{_,us,e2,NB,Oo}:=aA h7;cases e2;have s47:ae H3 H7:=((s4.trans s5).trans s6).trans s7;have Ro:=s47 _ _ OP;have ul:us.length=x.toNat:=by rw[Oo.length,BJ]
  have vl:=hi3.length;rw[A1] at vl;show{fo,l2,vs,us,0,0,Ro,NB,Ah (az (by lia)),{3},(s3.trans s47).put nf,by rw[au efo];show s47 _ _ he3,_,ak,?_};rw[gI,A7];show(xI s47 OP hi3).append (xI (ae.refl H7) Ro ?_);have:(fZ n (bF n ps) i).map lf=List.replicate x.toNat (lf (1+(i:Int),(n:Int)+1,1)):=by unfold fZ;rw[ex,D1]
  rw[this];show Oo
 .rintro σ H3 ⟨⟨v3,v4,rfl⟩,s3,he3,vs,OP,hi3⟩;rw[A1,el] at hi3;show{1,kk fo H3 s3 nf (aD OP hi3)}
def rh:OKQ T.X5 P w base 1 spCho:=by
 show FbO T.X5 fV λ_ _ _ _ H vs Q E hr h=>?_;have{n,k,0,h1,h2,kk}:=h;show{_,(ai (aT (fb (aJ dU (pv 1) ag (aH _)) (gd (aJ fe (pv 1) (pv 0) (aH _)))).pt (aj (ap ag)) aU)
  (ai (pSA (i:=2) fV.nd ag)
  (ai (aC AF rfl (fc (by rfl) T.n_range (ab (pv 1) af)) (pGA (i:=3) fV.nd) (aj (pSA (i:=2) fV.nd (ah gg (ah aW (pv 2) (ah aF (pv 0) (pv 3))) (ah aI (pv 3) ag)))))
  (aj (ap (pv 2)))))),?_}
 show{1,2,1,bq (λh=>absurd h (by lia)) (λ_=>?_)};show{1,1,2,1,bq (λh=>absurd h (by lia)) (λ_=>?_)};show{1,(k:Int),0,4,4,cA (lo:=0) (n:=(k:Int).toNat) (λi σ H2=>(∃v3,σ=[some (.int n),some (.int k),some (.int (chF n i)),v3])/\H2=H) {{none,0},0} ?_ ?_}
 .rintro i σ H2 hi ⟨⟨v3,rfl⟩,rfl⟩;show{1,1,1,2,2,.inr {4,4},1,2,2,{4,4},{some (.int (0+(i:Int))),?_},0};rw[show chF n (i+1)=chF n i*(n-(0+(i:Int)))/((0+(i:Int))+1) by rw[DC];rfl];rfl
 .rintro σ H2 ⟨⟨v3,rfl⟩,rfl⟩;rw[B1];show{1,kk}
def j8:OKQ T.X17 P w base 1 spWm:=by
 show FbO T.X17 Ik λ_ _ _ _ H vs Q E hr h=>?_;have{v,t,p,m,0,hv,hp,hl,kk}:=h;show{_,(aj (ap (ah nO (ah nO (eJ ve (pv 0) ff (dW (pv 1))) (bh (ab (ah aI (ay aQ (pv 0) (pv 1) (λ_ _=>rfl)) (pv 2)) af))) (eJ ve (pv 0) (dW (ah aI (pv 1) ag)) ff)))),?_};have MS:∀vs:SD V,vs.length=(t.map D.i).length->vs.length=t.length:=λvs e=>by rw[e,A1]
 show{1,1,(p:Int),0,t.map .i,(t.take p).map .i,hv,K3,λvs e h=>?_,λu1 H1 s1 No=>?_}
 .have e:=MS vs e;rw[HT.sIx_nat] at h;lia
 show{1,1,t.map .i,(p:Int),.i (t.getD p 0),hv.mono s1,0,?_,λu hu=>?_}
 .show gu (j:=p) rfl ?_;rw[AD,A2 hp];simp[List.getD,hp]
 rw[aG hu];show{1,2,(zB rfl),λq2 H2 n2 s2 h2=>?_};have N5:Is H2 (.t [.i (t.getD p 0+m)]) (.ref q2):=bi h2 (am bw ao);show{_,_,No.mono s2,N5,Ah (az (by rw[A1,AV];change _+1<=1000;lia)),λu3 H3 s3 hu3=>?_};show{1,1,2,(p:Int)+1,0,t.map .i,(t.drop (p+1)).map .i,((hv.mono s1).mono s2).mono s3,?_,λvs e h=>?_,λu4 H4 s4 hu4=>?_}
 .rw[show((p:Int)+1)=((p+1:Nat):Int) by lia];show K4 (by lia)
 .have e:=MS vs e;rw[show((p:Int)+1)=((p+1:Nat):Int) by lia,HT.sIx_nat] at h;lia
 show{_,_,hu3.mono s4,hu4,Ah (az (by rw[AA,A1,A1,AV,Bw];change _+1+_<=1000;lia)),λu5 H5 s5 hu5=>?_};show kk u5 H5 ((((s1.trans s2).trans s3).trans s4).trans s5) ?_;have e:(t.take p).map D.i++[D.i (t.getD p 0+m)]++(t.drop (p+1)).map D.i=(wmF t p m).map D.i:=by
  unfold wmF;rw[<-IY hp,A7,A7];rfl
 rw[e] at hu5;show hu5
theorem yk:∀n:Nat,FnOk P w K mg base CX0 (n+2) T.f21 T.d21 ["numbers","first","last","alike"] (spPB n K)
 |0=>{λvs H Q E h=>(by have{_,_,_,_,_,_,_,h,_}:=h;show absurd h (Nat.not_lt_zero _)),λA outer s H args us vs Q E _ _ _ _ h=>(by have{_,_,_,_,_,_,_,h,_}:=h;show absurd h (Nat.not_lt_zero _))}
 |n+1=>by
  have ih:=yk n;show T.X21.F.ok ij (λvs H Q E h=>?_) (λNa A outer s H vs Q E hr h=>?_)
  .have{_,_,_,_,_,0,_}:=h;rfl
  .have{v,t,p,g,a,0,hv,hg,hn,hp,{kl,kn,ks},kk}:=h;show{_,(ai (aT (aJ cB (pv 1) (pv 2) (aH _)) (aj (ap (aK (ab (bh (ab (pcq (j8 T) hr T.X17 (ab (pv 0) (ab (pv 1) (ab (pv 3) af))) (by lia)) (ab (pcq (rh T) hr T.X5 (ab (ah aI (ay aQ (pv 0) (pv 1) (λ_ _=>rfl)) (pv 3)) (ab (pv 3) af)) (by lia)) af))) af)))) aU)
   (ai (pSA (i:=4) ij.nd (aK af))
   (ai (aC AF rfl (fc (by rfl) T.n_range (ab (ah aI (pv 3) ag) af)) (pGA (i:=5) ij.nd) (ai (pSA (i:=6) ij.nd (pcq (rh T) hr T.X5 (ab (ah aI (ay aQ (pv 0) (pv 1) (λ_ _=>rfl)) (pv 5)) (ab (pv 5) af)) (by lia)))
   (aj (aC AF rfl (aP (fN ih hr (by rfl) T.X21.m T.X21.F.kp T.X21.B .nil fP (ab (pcq (j8 T) hr T.X17 (ab (pv 0) (ab (pv 1) (ab (pv 5) af))) (by lia)) (ab (ah aI (pv 1) ag) (ab (pv 2) (ab (ah aF (pv 3) (pv 5)) af)))))) (cy rfl (aV (pGA (i:=7) ij.nd) (aV (pGA (i:=8) ij.nd) cg))) (aj (aL (bA AU Af Ae b8 (pv 4) (ab (bh (ab (pv 7) (ab (ah aW (pv 6) (pv 8)) af))) af))))))))
   (aj (ap (pv 4)))))),?_}
   have kp:=(iy kn).2 p;have kp0:=kn p;have at_p:∀{H':Hp},ae H H'->∀{v':V},Is H' (tI t) v'->atI (t.map D.i) (p:Int)=some (.i (t.getD p 0)):=λ_ _ _=>by
    show gu (j:=p) rfl ?_;rw[AD,A2 (by lia)];simp[List.getD,show p<t.length by lia]
   show{1,1,0,1,cD (λe=>?_) (λe=>?_)}
   .have hg0:g=0:=by lia
    subst hg0;show{1,1,1,v,t,p,a,0,hv,4,kl,λu1 H1 s1 No=>?_};show{1,1,t.map .i,(p:Int),_,hv.mono s1,0,at_p s1 (hv.mono s1),λu hu=>?_};rw[aG hu];show{1,2,1,t.getD p 0+a,a,0,4,4,?_};show{(zB rfl),λq2 H2 n2 s2 h2=>{(zB rfl),λq3 H3 n3 s3 h3=>?_}};have Od:=s1.trans s2;show kk q3 H3 (Od.trans s3) (Od.free n3) (aD h3 (am ((qV (x:=(wmF t p (a:Int),chF (t.getD p 0+(a:Int)) a)) h2 (No.mono s2)).mono s3) ao))
   .obtain⟨g,rfl⟩:∃g',g=g'+1:={g-1,4};show{AO _,λfo H1 nf s1 Nj=>?_};have big:=K5 (g:=g+1) (t:=t) (p:=p) (a:=a) (by lia) (by have:=(iy kn).1;lia);have a15:(a:Int)<=15:=by have:=(iy kn).1;lia
    show{1,2,1,4,4,?_};rw[show((a:Int)+1).toNat=a+1 by lia];show cA (lo:=0) (n:=a+1) (λh σ H2=>(E4 λv5 v6 v7 v8=>σ=[some v,some (.int p),some (.int ((p:Int)+((g+1:Nat):Int))),some (.int a),some (.ref fo),v5,v6,v7,v8])/\ae H H2/\∃vs,H2 fo=some (.lst vs)/\Iss H2 (((List.range h).flatMap λh:Nat=>(pbF g (wmF t p (h:Int)) (p+1) (a-h)).map λx=>(x.1,chF (t.getD p 0+(h:Int)) h*x.2)).map prD) vs) {{none,none,none,none,0},s1,[],Nj,ao} ?_ ?_
    .rintro h σ H2 hh ⟨⟨v5,v6,v7,v8,rfl⟩,s2,QQ,OM,Oo⟩;rw[DC];have hb:∀j,j<=(pbF g (wmF t p (h:Int)) (p+1) (a-h)).length->((List.range h).flatMap λh:Nat=>(pbF g (wmF t p (h:Int)) (p+1) (a-h)).map λx=>(x.1,chF (t.getD p 0+(h:Int)) h*x.2)).length+j<=1048576:=λj hj=>by
      have:=lA (λh:Nat=>(pbF g (wmF t p (h:Int)) (p+1) (a-h)).map λx=>(x.1,chF (t.getD p 0+(h:Int)) h*x.2)) hh;rw[A1] at this;unfold pbF at big;lia
     rw[gI];generalize ((List.range h).flatMap λh:Nat=>(pbF g (wmF t p (h:Int)) (p+1) (a-h)).map λx=>(x.1,chF (t.getD p 0+(h:Int)) h*x.2))=pr at Oo hb⊢;have{c1,c2}:=v0 (n:=t.getD p 0+(h:Int)) (k:=h) (by lia) (by lia);show{1,1,t.map .i,(p:Int),_,hv.mono s2,0,at_p s2 (hv.mono s2),λu hu=>?_};rw[aG hu];show{1,2,1,t.getD p 0+(h:Int),h,0,4,4,?_};show{1,1,1,v,t,p,(h:Int),0,hv.mono s2,4,kl,λu3 H3 s3 hu3=>?_};show{1,2,1,1,1,2,u3,wmF t p (h:Int),p+1,g,a-h,?_,hu3,4,4,by rw[eS];lia,{by rw[eS];show kl,λi=>?_,?_},λrl H4 s4 Oh OO=>?_}
     .have e1:((p:Int)+1)=((p+1:Nat):Int):=by lia
      have e2:(p:Int)+((g+1:Nat):Int)=((p+1:Nat):Int)+(g:Int):=by lia
      have e3:(a:Int)-(h:Int)=((a-h:Nat):Int):=by lia
      change [u3,V.int ((p:Int)+1),V.int ((p:Int)+((g+1:Nat):Int)),V.int ((a:Int)-(h:Int))]=_;rw[e1,e2,e3]
     .rw[lC (by lia)];have:=kn i;split<;>lia
     .rw[lD (by lia)];lia
     have{_,NE,e,OL,NT}:=aA OO;cases e;generalize pbF g (wmF t p (h:Int)) (p+1) (a-h)=O at NT hb⊢;have Nd:NE.length=O.length:=by rw[NT.length,A1]
     have s24:=s3.trans s4;have hf4:=s24 _ _ OM;have OZ:rl≠fo:=by rintro rfl;rw[s3 _ _ OM] at Oh;cases Oh
     show{rl,0,{_,SqL.of OL},aZ (xs:=NE) (λj σ H5=>(E2 λv7 v8=>σ=[some v,some (.int p),some (.int ((p:Int)+((g+1:Nat):Int))),some (.int a),some (.ref fo),some (.int h),some (.int (chF (t.getD p 0+(h:Int)) h)),v7,v8])/\ae H H5/\H5 rl=some (.lst NE)/\av H4 H5/\∃vs,H5 fo=some (.lst vs)/\Iss H5 ((pr++(O.take j).map λx=>(x.1,chF (t.getD p 0+(h:Int)) h*x.2)).map prD) vs) {{3},s2.trans s24,OL,av.of_same (ae.refl H4),QQ,hf4,by simpa using Oo.mono s24} (λj σ H5 _ h=>SqL.of h.2.2.1) ?_ ?_}
     .rintro j y σ H5 hj ⟨⟨v7,v8,rfl⟩,s5,O3,t5,Py,Qx,Pm⟩;have{x,M6,hy}:=aR NT hj;have hjl:j<O.length:=(A8.mp M6).1;have{q,u6,0,hq,hu6}:=qW (mm t5 hy);have vl:=Pm.length;rw[A1,AA,A1,AV] at vl;have hbj:=hb (j+1) (by lia);show{q,1,SqT.of hq,0,3,2,?_};show{1,.inl {0,_,SqL.of Qx},1,1,1,2,.inl {4,4},(zB rfl),λq6 H6 n6 s6 h6=>?_};show{fo,Py,1,0,s6 _ _ Qx,ml (by lia),{3},(s5.trans s6).put nf,by rw[au OZ];show s6 _ _ O3,(t5.trans (av.of_same s6)).trans (av.upd (s6 _ _ Qx)),_,ak,?_};have ez:(pr++(O.take (j+1)).map λx=>(x.1,chF (t.getD p 0+(h:Int)) h*x.2))=(pr++(O.take j).map λx=>(x.1,chF (t.getD p 0+(h:Int)) h*x.2))++[(x.1,chF (t.getD p 0+(h:Int)) h*x.2)]:=by
       rw[AL,M6,Option.toList_some,A7,BV];rfl
      rw[ez,A7];show(xL ((av.of_same s6).trans (av.upd (s6 _ _ Qx))) Pm).append ?_;show am (mm (av.upd (s6 _ _ Qx)) (qV (x:=(x.1,chF (t.getD p 0+(h:Int)) h*x.2)) h6 (hu6.mono s6))) ao
     .rintro σ H5 ⟨⟨v7,v8,rfl⟩,s5,O3,t5,Py,Qx,Pm⟩;rw[Nd,AI] at Pm;show{{_,_,3},s5,Py,Qx,Pm}
    .rintro σ H2 ⟨⟨v5,v6,v7,v8,rfl⟩,s2,QQ,OM,Oo⟩;show{1,kk fo H2 s2 nf (aD OM Oo)}
def LM:OKQ T.X22 P w base 9 spHMO:=by
 show FbO T.X22 fW λ_ _ _ _ H vs Q E hr h=>?_;have{d,v,mk,0,d1,d5,hv,{mok,Qc},RX,kk}:=h;show{_,(ai (pSA (i:=2) fW.nd (GN (bB hr) (i0 tG (by rfl) T.n_tuple boot_tuple (ab (ah jg (aK (ab ag af)) (pv 0)) af)) ag))
  (ai (aC AF rfl (aP (GA (Gv hr) hr.hd (by rfl) T.n_sorted (by rfl) T.n_set (ab (pv 1) af))) (pGA (i:=3) fW.nd) (ai (pSA (i:=4) fW.nd Ep)
  (ai (aC AF rfl (GK (pv 2)) (pGA (i:=5) fW.nd) (aj (aC AF rfl (aP (pcq (yk T 6) hr T.X21 (ab (pv 5) (ab (ah aF (ay aQ (pv 3) ag (λ_ _=>rfl)) ag) (ab (ah aF (ay aQ (pv 3) ag (λ_ _=>rfl)) ag) (ab (bA AU PySem.F.slot_list_count PySem.F.type_list_count (FX hr) (pv 1) (ab (pv 3) af)) af)))))) (cy rfl (aV (pGA (i:=6) fW.nd) (aV (pGA (i:=7) fW.nd) cg))) (aj (gp (bB hr) (pv 4) (pv 6) (ah aI (mO (bB hr) (pv 4) (pv 6) ag {0,0,0,0}) (ah aW (du (bB hr) (pv 2) (pv 5) (λ_ _=>rfl)) (pv 7))) rfl)))))
  (aj (pSA (i:=2) fW.nd (pv 4))))))
  (aj (ap (GP rfl (by rfl) T.n_sum (pv 2)))))),?_}
 have{wa,QP,0,hwa,hwi}:=aA hv;have wlen:QP.length=mk.length:=by rw[hwi.length,A1]
 show λkd nkd=>?_;have s0:ae H (upd H kd (.dT [])):=ae.new nkd;have Sc:upd H kd (.dT []) kd=some (.dT []):=ak;generalize upd H kd (.dT [])=H0 at s0 Sc⊢;show{(zB rfl),λl1 H1 n1 s1 h1=>?_};show{1,.i 0,d,aD h1 (am bw ao),0,4,4,Ah (az (by lia)),λl2 H2 n2 s2 h2=>?_};show{.ref l2,1,h2,λt3 H3 n3 s3 h3=>?_};have Ni:=(s1.trans s2).trans s3;have hkd3:=Ni _ _ Sc;rw[B1] at h3;have Rp:H3 t3=some (.tup ((bG (List.replicate d 0)).map kV)):=by
  rw[<-D1] at h3;have{a,e,ha}:=bP (xs:=List.replicate d 0) h3;cases e;rw[lE];show ha
 show{hkd3,bG (List.replicate d 0),t3,0,Rp,?_};have e0:aX ([]:SD (SD Key×V)) (bG (List.replicate d 0)) (.int 1)=bp [(List.replicate d 0,1)]:=wz [] _ _;rw[e0];have sH:ae H (upd H3 kd (.dT (bp [(List.replicate d 0,1)]))):=(s0.trans Ni).put nkd;have Px:upd H3 kd (.dT (bp [(List.replicate d 0,1)])) kd=some (.dT (bp [(List.replicate d 0,1)])):=ak;generalize upd H3 kd (.dT (bp [(List.replicate d 0,1)]))=H4 at sH Px⊢;clear h1 h2 h3 Rp hkd3 Ni s1 s2 s3 n1 n2 n3 Sc s0 e0 H0 H1 H2 H3;have tab0:TabOk d 0 [(List.replicate d 0,(1:Int))]:=by
  show{7,λx hx=>?_};rw[Ag.mp hx];show{7,7,λi=>?_};rw[A',D4];split<;>simp
 show{1,.ref wa,mk.map bY,(3),0,by rw[<-vO];show hv.mono sH,5,KU,RX,λN2 l0 H5 nd mem so Rk s5 hq=>?_};have ey:=IW nd mem so;subst ey;rw[<-vO] at hq;clear nd mem so;have hhm:bD [(List.replicate d 0,(1:Int))] (TF (λm=>mk.count m) (dB mk))=hmF d mk:=by
  simp[bD,hmF]
 have hS:∀m∈dB mk,m∈mk:=λm hm=>qc.mp hm;have hSn:=K9 mk;generalize hcn:(λm=>mk.count m)=cnt at hhm;generalize hmF d mk=tot at hhm kk;generalize dB mk=S at hq hhm hS hSn;have{_,Ng,e,Pn,Oc}:=aA hq;cases e;have NI:Ng.length=S.length:=by rw[Oc.length,A1]
 show{l0,0,{_,SqL.of Pn},aZ (xs:=Ng) (λi σ H6=>(E3 λkd D n=>(E5 λv3 v4 v5 v6 v7=>σ=[some (.int d),some (.ref wa),some (.ref kd),v3,v4,v5,v6,v7])/\H6 kd=some (.dT (bp D))/\TabOk d n D/\n=((S.take i).map cnt).sum/\bD D (TF cnt (S.drop i))=tot/\H kd=none)/\ae H H6/\H6 l0=some (.lst Ng)/\av H5 H6) {{kd,_,(0),{none,none,none,none,none,0},s5 _ _ Px,tab0,0,hhm,nkd},sH.trans s5,Pn,av.of_same (ae.refl H5)} (λi σ H6 _ h=>SqL.of h.2.2.1) ?_ ?_}
 .rintro i y σ H6 hi ⟨⟨kd,D,n,⟨v3,v4,v5,v6,v7,rfl⟩,Qd,tab,hn,Po,nkd⟩,s6,Rb,t6⟩;have{x,M6,hy}:=aR Oc hi;have Ri:i<S.length:=(A8.mp M6).1;have exi:S[i]=x:=(A8.mp M6).2;have{ya,0,Rm}:=fX hy;have{o1,o2,o3}:=mok x (hS x (AH M6));have Q6:((S.take (i+1)).map cnt).sum=n+cnt x:=by
   rw[AL,M6,A7,C5,<-hn];simp
  have hn15:n+cnt x<=15:=by
   have:=wB mk (S.take (i+1)) (hSn.sublist (List.take_sublist _ _));rw[hcn,Q6] at this;lia
  rw[Al Ri,exi,K'] at Po;obtain⟨p,hp⟩:∃p:Nat,x.1-1=(p:Int):={(x.1-1).toNat,4};obtain⟨g,hg⟩:∃g:Nat,x.2.1-x.1-1=(g:Int):={(x.2.1-x.1-1).toNat,4};rw[hp,hg,B1,B1] at Po;have rok:qg p d n (n+cnt x) (spR g (cnt x)):=λr hr=>by
   have{e1,e2}:=qf hr;show{4,4}
  have{tab',sum'}:=qi rok (TF cnt (S.drop (i+1))) tab.key (acc:=[]) {7,λx hx=>nomatch hx};show λf nf=>?_;have s7:ae H6 (upd H6 f (.dT [])):=ae.new nf;have Ro:upd H6 f (.dT []) f=some (.dT (bp [])):=ak;have Pb:H f=none:=s6.free nf;have fkd:f≠kd:=by rintro rfl;rw[Qd] at nf;cases nf
  generalize upd H6 f (.dT [])=H7 at s7 Ro⊢;show{1,kd,bp D,0,.inl (s7 _ _ Qd),λo H8 hk8 Qe=>?_};have l8:LTS H7 H8:=LTS.rd (.inl (s7 _ _ Qd)) Qe;have s8:ae H H8:=λb u e=>by rw[Qe b (by rintro rfl;rw[nkd] at e;cases e)];show s7 _ _ (s6 _ _ e)
  show GL (λj σ H9=>(E3 λv5 v6 v7=>σ=[some (.int d),some (.ref wa),some (.ref kd),some (.ref ya),some (.ref f),v5,v6,v7])/\ae H H9/\H9 kd=some (.frz o (.dT (bp D)))/\H9 l0=some (.lst Ng)/\av H5 H9/\H9 f=some (.dT (bp (stP p (spR g (cnt x)) (D.take j) [])))) {{_,3},s8,hk8,l8.1 _ _ (s7 _ _ Rb),(t6.trans (av.of_same s7)).trans l8.2,by rw[Qe f fkd];show Ro} (λj σ H9 _ h=>h.2.2.1) ?_ ?_
  .rintro j k c b σ H9 hj ⟨⟨v5,v6,v7,rfl⟩,s9,hk9,hl9,t9,QS⟩ hb;unfold bp at hj;rw[AD] at hj;have{{t,cv},hD,ekc}:=AB.mp hj;simp only[Prod.mk.injEq] at ekc;have{0,0}:=ekc;rw[lE] at hb;have hDm:(t,cv)∈D:=AH hD;obtain⟨k1,k2,k3⟩:t.length=d/\t.sum=(n:Int)/\∀i:Nat,0<=t.getD i 0:=tab.key _ hDm;have hx9:Is H9 (lf x) (.ref ya):=jK (t9 _ _ Rm);have hw9:=hwi.mono s9;rw[La hD];have Rq:=(qi rok (λ_=>0) (xs:=D.take j) (λy hy=>tab.key y (Cf hy)) (acc:=[]) {7,λx hx=>nomatch hx}).1;generalize stP p (spR g (cnt x)) (D.take j) []=ac at QS Rq⊢;show{1,1,_,(0),_,hx9,0,0,λu1 No=>?_};rw[aG No];show{2,1,_,(1),_,hx9,0,0,λu2 N5=>?_};rw[aG N5];show{2,1,.inl {0,_,SqL.of (s9 _ _ hwa)},1,wa,QP,.ref ya,(1),1,0,SqL.of (s9 _ _ hwa),K8 hw9 hx9,?_};rw[wlen,Je];show{.ref b,t,p,g,cnt x,?_,fk hb,4,5,4,{4,k3,4},λrl H10 QT Oh OO=>?_}
   .change [V.ref b,V.int (x.1-1),V.int (x.2.1-2),V.int (mk.count x:Nat)]=_;rw[hp,show x.2.1-2=(p:Int)+(g:Int) by lia,<-hcn]
   rw[wd (by lia),BC] at OO;have{_,NE,e,Rr,NT}:=aA OO;cases e;have RW:∀r∈spR g (cnt x),r.length=g+1/\r.sum=cnt x:=λr hr=>qf hr;generalize spR g (cnt x)=rs at NT rok RW⊢;have Nd:NE.length=rs.length:=by rw[NT.length,A1]
   have hk10:=QT _ _ hk9;have hf10:=QT _ _ QS;have rlf:rl≠f:=by rintro rfl;rw[QS] at Oh;cases Oh
   have l0f:l0≠f:=by rintro rfl;rw[hl9] at QS;cases QS
   show{rl,0,{_,SqL.of Rr},aZ (xs:=NE) (λm σ H11=>(E2 λv6 v7=>σ=[some (.int d),some (.ref wa),some (.ref kd),some (.ref ya),some (.ref f),some (.ref b),v6,v7])/\ae H H11/\H11 kd=some (.frz o (.dT (bp D)))/\H11 l0=some (.lst Ng)/\av H10 H11/\H11 rl=some (.lst NE)/\H11 f=some (.dT (bp (inP t cv p (rs.take m) ac)))) {{3},s9.trans QT,hk10,QT _ _ hl9,av.of_same (ae.refl H10),Rr,hf10} (λm σ H11 _ h=>SqL.of h.2.2.2.2.2.1) ?_ ?_}
   .rintro m z σ H11 hm ⟨⟨v6,v7,rfl⟩,Se,QU,Sf,t11,Rs,O4⟩;have{r,Nx,hz}:=aR NT hm;have{q,u6,0,hq,hu6}:=qW (mm t11 hz);have{ua,0,hua}:=bP hu6;have{r1,r2}:=RW r (AH Nx);have hua':H11 ua=some (.tup ((bG (cu t p r)).map kV)):=by rw[lE];show hua
    have hb11:H11 b=some (.tup ((bG t).map kV)):=by rw[lE];show t11 _ _ (QT _ _ hb)
    have tabm:=(qh (v:=cv) {k1,k2,k3} (λ_=>0) (rs:=rs.take m) (λr hr=>rok r (Cf hr)) Rq).1;show{q,1,SqT.of hq,0,3,2,?_};show{1,f,0,.inr {_,.inl O4},1,_,cU.t O4 hua',?_};rw[Jb];show{1,1,kd,.int cv,0,.inr {bp D,bG t,b,.inr {o,QU},0,hb11,(Jc tab.nd hDm).symm},1,2,.inr (K7 k3 (by lia) (by lia)),2,1,1,f,1,c7.t O4 hua' ?_,?_}
    .rw[wy];show ml (tabm.size d5 hn15)
    .rw[show inP t cv p (rs.take (m+1)) ac=iz (inP t cv p (rs.take m) ac) (cu t p r) (cv*ck t p r) from xM _ _ rs m r Nx];rw[wz];show{{3},Se.put Pb,by rw[au fkd.symm];show QU,by rw[au l0f];show Sf,t11.trans (Lb O4),by rw[au rlf];show Rs,ak}
   .rintro σ H11 ⟨⟨v6,v7,rfl⟩,Se,QU,Sf,t11,Rs,O4⟩;rw[Nd,AI] at O4;show{{_,3},Se,QU,Sf,(t9.trans (av.of_same QT)).trans t11,O4}
  .rintro σ H9 ⟨⟨v5,v6,v7,rfl⟩,s9,hk9,hl9,t9,QS⟩;rw[wy,AI] at QS;show{1,{f,_,n+cnt x,{_,_,_,3},QS,tab',Q6.symm,?_,Pb},s9,hl9,t9};rw[sum',Po];simp[bD]
 .rintro σ H6 ⟨⟨kd,D,n,⟨v3,v4,v5,v6,v7,rfl⟩,Qd,tab,hn,Po,nkd⟩,s6,Rb,t6⟩;show{1,kd,bp D,D.map (·.2),0,.inl Qd,Jd D,?_};rw[NI,List.drop_length] at Po;have:(D.map (·.2)).sum=tot:=by rw[<-Ja,<-Po];rfl
  rw[this];show kk H6 s6
def LN:OKQ T.X23 P w base 10 spHM:=by
 show FbO T.X23 Im λ_ _ _ _ H vs Q E hr h=>?_;have{d,dv,ps,0,d1,d5,hd,hs,RX,kk}:=h;show{_,(ai (aL (pcq (LK T) hr T.X19 (ab (pv 0) (ab (pv 1) af))))
  (aj (ap (pcq (LM T) hr T.X22 (ab (pv 0) (ab (ah dw (pv 1) (pcq (LL T) hr T.X20 (ab (pv 0) (ab (pv 1) af)))) af)))))),?_}
 have{hM,RX}:=K2 RX;have pl:=hM.2;rw[AA] at pl;show{1,1,d,dv,ps,0,d1,d5,hd,hs,λH1 s1=>?_};show{1,1,1,1,d,dv,ps,0,d1,d5,hd.mono s1,hs,4,λl2 H2 s2 n2 h2=>?_};show{_,_,(hd.mono s1).mono s2,h2,Ah (az (by rw[A1,A1];lia)),λl3 H3 n3 s3 h3=>?_};rw[<-A7] at h3;show{d,.ref l3,1,d1,d5,h3,hM,RX,λH4 s4=>kk H4 (((s1.trans s2).trans s3).trans s4)}
def LO:OKQ T.X16 P w base 1 spWorth:=by
 show FbO T.X16 kR λ_ _ _ _ H vs Q E hr h=>?_;have{dv,ps,d,0,hd,hok,kk}:=h;show{_,(ai (pSA (i:=1) kR.nd ag)
  (ai (aC AF rfl (aP (pv 0)) (pGA (i:=2) kR.nd) (aj (gf (i:=1) kR.nd rfl (by trivial) (ah rT (ay aQ (pv 2) ag (λ_ _=>rfl)) ag) kA)))
  (aj (ap (pv 1))))),?_}
 have{da,M5,0,Ob,N4}:=aA hd;have Pl:M5.length=ps.length:=by rw[N4.length,A1]
 show{1,da,0,{_,SqL.of Ob},aZ (xs:=M5) (λi σ H2=>(∃v2,σ=[some (.ref da),some (.int (gb (ps.take i))),v2])/\H2=H) {{none,0},0} (λi σ H2 _ h=>by rw[h.2];show SqL.of Ob) ?_ ?_}
 .rintro i x σ H2 hi ⟨⟨v2,rfl⟩,rfl⟩;have{p,Nr,hy}:=aR N4 hi;have{_,w1,w2}:=hok p (AH Nr);have b1:p.2.2.natAbs<2^64:=by lia
  have b2:p.2.2^(2:Int).toNat<2^64:=by
   change p.2.2^2<2^64;have:p.2.2*p.2.2<=2^20*2^20:=DD w2 w2 (by lia) (by decide);rw[Int.pow_succ,Int.pow_succ,Int.pow_zero,Int.one_mul];lia
  have b3: -(2^64)<p.2.2^(2:Int).toNat:=by
   change _<p.2.2^2;have h0:0<=p.2.2*p.2.2:=Ch (by lia) (by lia);have h1:p.2.2^2=p.2.2*p.2.2:=by rw[Int.pow_succ,Int.pow_succ,Int.pow_zero,Int.one_mul]
   rw[h1];lia
  show{1,1,_,(2),_,hy,0,0,λu hu=>?_};rw[aG hu];show{2,{5,5,b1},2,.inr {b3,b2},{some x,?_},0};rw[AL,Nr];unfold gb;rw[Bo];rfl
 .rintro σ H2 ⟨⟨v2,rfl⟩,rfl⟩;rw[Pl,AI];show{1,kk}
def LP:OKQ T.X6 P w base 1 spGath:=by
 show FbO T.X6 cI λ_ _ _ _ H vs Q E hr h=>?_;have{ta,pw,d,ps,0,OX,hpv,d5,hok,kk}:=h;show{_,(ai (pSA (i:=2) cI.nd kr)
  (ai (aC AF rfl (aP (pv 0)) (pGA (i:=3) cI.nd) (aj (gp (bB hr) (pv 2) (pv 3) (pv 3) rfl)))
  (ai (aC AF rfl (aP (pv 1)) (cy rfl (aV (pGA (i:=4) cI.nd) (aV (pGA (i:=5) cI.nd) cg))) (ai (pSA (i:=6) cI.nd (du (bB hr) (pv 2) (pv 4) (λ_ _=>rfl)))
  (ai (pSA (i:=7) cI.nd (du (bB hr) (pv 2) (pv 5) (λ_ _=>rfl)))
  (aj (aC AF rfl (aP (pv 0)) (pGA (i:=3) cI.nd) (aj (aT (aJ cB (du (bB hr) (pv 2) (pv 3) (λ_ _=>rfl)) (pv 7) (aH _)) (aj (gp (bB hr) (pv 2) (pv 3) (pv 6) rfl)) aU)))))))
  (aj (ap (pv 2)))))),?_}
 have{pa,OB,0,Rt,Ru}:=gW hpv;have plen:OB.length=ps.length:=by rw[Ru.length,A1]
 intro st PB;have tst:ta≠st:=λz=>by rw[z,PB] at OX;cases OX
 have Nd:(bX 1 d).length=d:=by unfold bX;simp
 show{1,ta,0,{_,SqL.of (by rw[au tst];show OX)},aZ (xs:=bX 1 d) (λi σ H2=>(E5 λv3 v4 v5 v6 v7=>σ=[some (.ref ta),some (.ref pa),some (.ref st),v3,v4,v5,v6,v7])/\ae H H2/\H2 st=some (.dK (bU i λt=>1+(t:Int))))
  {{none,none,none,none,none,0},ae.new PB,ak} (λi σ H2 _ h=>SqL.of (h.2.1 _ _ OX)) ?_ ?_}
 .rintro i x σ H2 hi ⟨⟨v3,v4,v5,v6,v7,rfl⟩,s2,M3⟩;have{hid,0}:=rc hi;have dp:=c7.k (k:=Sum.inl (1+(i:Int))) (v:= .int (1+(i:Int))) M3 (az (by rw[xW];lia));rw[Lm (L:=λt=>1+(t:Int)) i] at dp;show{1,1,1,st,1,dp,{_,_,_,3},s2.put PB,ak}
 .rintro σ H2 ⟨⟨v3,v4,v5,v6,v7,rfl⟩,s2,M3⟩;rw[Nd] at M3;show{1,pa,0,{_,SqL.of (s2 _ _ Rt)},aZ (xs:=OB) (λi σ H3=>(E5 λv3 v4 v5 v6 v7=>σ=[some (.ref ta),some (.ref pa),some (.ref st),v3,v4,v5,v6,v7])/\ae H H3/\H3 st=some (.dK (bU d ((ps.take i).foldl gF λt=>1+(t:Int)))))
   {{_,_,_,3},s2,M3} (λi σ H3 _ h=>SqL.of (h.2.1 _ _ Rt)) ?_ ?_}
  .rintro i x σ H3 hi ⟨⟨v3,v4,v5,v6,v7,rfl⟩,s3,O5⟩;have{p,Nr,hy}:=aR Ru hi;have{t,0,hta'}:=fR hy;have{o1,o2,o3,o4}:=hok p (AH Nr);have en:(ps.take (i+1)).foldl gF (λt=>1+(t:Int))=gF ((ps.take i).foldl gF λt=>1+(t:Int)) p:=by
    rw[AL,Nr,Bo];rfl
   rw[en];generalize (ps.take i).foldl gF (λt=>1+(t:Int))=L at O5⊢;have{x,y}:=p;dsimp only at o1 o2 o3 o4 hta';have{m,0,hm,em}:=xX o1 o2;have{n,0,hn,en}:=xX o3 o4;show{t,1,SqT.of (s3 _ _ hta'),0,3,2,?_};show{1,1,st,1,mo O5 hm,1,1,st,1,mo O5 hn,?_};show{1,ta,0,{_,SqL.of (s3 _ _ OX)},aZ (xs:=bX 1 d) (λj σ H4=>(∃v3,σ=[some (.ref ta),some (.ref pa),some (.ref st),v3,some (.int (1+(m:Int))),some (.int (1+(n:Int))),some (.int (L m)),some (.int (L n))])/\ae H H4/\H4 st=some (.dK (bU d λt=>if t<j/\L t=L n then L m else L t)))
    {{1},s3,by rw[O5];show mn λt _=>by rw[A5 (by lia)]} (λi σ H4 _ h=>SqL.of (h.2.1 _ _ OX)) ?_ ?_}
   .rintro j x σ H4 hj ⟨⟨v3,rfl⟩,s4,Pp⟩;have{hjd,0}:=rc hj;show{1,1,st,1,mo Pp hjd,1,0,1,?_};rw[A5 (show¬(j<j/\L j=L n) by lia)];show cD (λe=>?_) (λe=>?_)
    .show{1,1,1,st,1,Ln Pp hjd d5,{1},s4.put PB,?_};rw[ak];show mn λt _=>?_;by_cases c:t=j
     .subst c;rw[A6 rfl,A6 {4,e}]
     .rw[A5 c];by_cases c2:t<j/\L t=L n
      .rw[A6 c2,A6 {4,c2.2}]
      .rw[A5 c2,A5 (λz=>c2 {4,z.2})]
    .show{{1},s4,?_};rw[Pp];show mn λt _=>?_;by_cases c2:t<j/\L t=L n
     .rw[A6 c2,A6 {4,c2.2}]
     .rw[A5 c2,A5 (λz=>c2 {by
       rcases Bs t j with q|q
       .show q
       .show absurd (by rw[show j=t by lia];show z.2) e,z.2})]
   .rintro σ H4 ⟨⟨v3,rfl⟩,s4,Pp⟩;rw[Nd] at Pp;show{{_,_,_,3},s4,?_};rw[Pp];show mn λt ht=>?_;unfold gF;dsimp only;rw[em,en];by_cases c:L t=L n
    .rw[A6 {ht,c},A6 c]
    .rw[A5 (λz=>c z.2),A5 c]
  .rintro σ H3 ⟨⟨v3,v4,v5,v6,v7,rfl⟩,s3,O5⟩;rw[plen,AI] at O5;show{1,kk st H3 s3 PB O5}
def LQ:OKQ T.X7 P w base 2 spMany:=by
 show FbO T.X7 kN λ_ _ _ _ H vs Q E hr h=>?_;have{ta,pw,d,ps,0,OX,hpv,d5,hok,kk}:=h;show{_,(ai (pSA (i:=2) kN.nd (pcq (LP T) hr T.X6 (ab (pv 0) (ab (pv 1) af))))
  (aj (ap (bf i5 (by rfl) T.n_len DX (ab (c9 (XN:=["things","pairs","standing"]) (sc:=al jt) (N:=["thing","standing"]) (own:=1) (js:=[2]) rfl (by ac_nf) rfl rfl (aP (pv 0)) (λ_ _ _ _=>(bN (i:=0) (show List.Nodup (["thing","standing"]:SD Str) by ac_nf) rfl (Or.inl rfl) (.inr rfl))) (c8 (by decide)) (λ_ _ _ _=>(jb (aJ cB (du (bB hr) (pv 1) (pv 0) (λ_ _=>rfl)) (pv 0) (aH _)))) (λ_ _ _ _=>(pv 0))) af))))),?_}
 show{1,1,ta,pw,d,ps,0,OX,hpv,d5,hok,λst H2 s2 PB M3=>?_};have Nd:(bX 1 d).length=d:=by unfold bX;simp
 show{1,ta,0,{_,SqL.of (s2 _ _ OX)},λacc na=>?_};show dZ (xs:=bX 1 d) (own:=1) (js:=[2]) (λi H3=>ae H2 H3/\H3 acc=some (.lst (((List.range i).filter λt=>decide (iu ps t=1+(t:Int))).map λt:Nat=>V.int (1+(t:Int))))) {ae.new na,ak} (λi H3 _ h=>SqL.of (h.1 _ _ (s2 _ _ OX))) ?_ ?_ db ?_ ?_
 .rintro i x H3 hi ⟨s3,MR⟩;have{hid,0}:=rc hi;show{1,1,st,1,mo (s3 _ _ M3) hid,1,0,1,?_};show cD (λe=>?_) (λe=>?_)
  .show{1,acc,2,MR,az ?_,s3.put na,?_}
   .rw[A1];have:=Bp (λt:Nat=>decide (iu ps t=1+(t:Int))) (List.range i);rw[BN] at this;lia
   .rw[ak,B0,Bi,A7];simp[Bz,e]
  .show{s3,?_};rw[MR,B0,Bi,A7];simp[Bz,e]
 .rintro H3 ⟨s3,MR⟩;rw[Nd] at MR;show{acc,1,.inl (SqL.of MR),?_};rw[A1];show kk H3 (s2.trans s3)
 .rintro σ H R R' k ⟨v1,e1,v2,e2,a,v,e3,g,v4,e4,e5,b,e6,h⟩;show{v1,e1,v2,e2,a,v,e3,g,v4,e4,e5,b,e6,k _ _ h}
 .rintro σ H R R' k ⟨v1,e1,h⟩;show{v1,e1,k _ _ h}
def LR:OKQ T.X15 P w base 4 spParts:=by
 show FbO T.X15 Ij λ_ _ _ _ H vs Q E hr h=>?_;have{d,dv,ps,0,hd,d1,d5,hl,hok,kk}:=h;show{_,(ai (aL (pcq (iQ T) hr T.X4 (ab (pv 0) af)))
  (aj (ap (pcq (LQ T) hr T.X7 (ab (Fh rfl (by rfl) T.n_list (by rfl) T.n_range (ab ag (ab (ah aI (pv 0) ag) af))) (ab (c9 (XN:=["d","drawing"]) (sc:=al kQ) (N:=["lift"]) (own:=1) (js:=[]) rfl (by ac_nf) rfl rfl (aP (pv 1)) (λ_ _ _ _=>(bN (i:=0) (show List.Nodup (["lift"]:SD Str) by ac_nf) rfl (Or.inl rfl) (.inr rfl))) (c8 (by decide)) (λ_ _ _ _=>dG) (λ_ _ _ _=>(bh (ab (ay aQ (pv 0) ag (λ_ _=>rfl)) (ab (ay aQ (pv 0) ag (λ_ _=>rfl)) af))))) af)))))),?_}
 show{1,(d:Int),0,4,4,?_};have{da,M5,0,Ob,N4}:=aA hd;have Pl:M5.length=ps.length:=by rw[N4.length,A1]
 show{1,2,(1),1,{4,4,4,4},4,λta nta=>?_};have e1:((d:Int)+1-1).toNat=d:=by lia
 rw[e1];have s1:ae H (upd H ta (.lst (bX 1 d))):=ae.new nta;have OX:upd H ta (.lst (bX 1 d)) ta=some (.lst (bX 1 d)):=ak;generalize upd H ta (.lst (bX 1 d))=H1 at s1 OX⊢;show{1,da,0,{_,SqL.of (s1 _ _ Ob)},λacc na=>?_};show dZ (xs:=M5) (own:=1) (js:=[]) (λi H3=>ae H1 H3/\bW H3 acc (((ps.take i).map λp:Lf=>((p.1,p.2.1):Pt)).map pt)) {ae.new na,bW.start} (λi H3 _ h=>SqL.of (h.1 _ _ (s1 _ _ Ob))) ?_ ?_ db dJ ?_
 .rintro i x H3 hi ⟨s3,vs,MR,Nm⟩;have{p,Nr,hy}:=aR N4 hi;have Ri:i<ps.length:=(A8.mp Nr).1;have Rj:Is H3 (lf p) x:=hy.mono (s1.trans s3);show fh ?_;show{1,_,(0),_,Rj,0,0,λu hu=>{1,_,(1),_,Rj,0,0,λu' QK=>{(zB rfl),λq H4 nq s4 hq=>?_}}};rw[aG hu,aG QK] at hq;show{acc,vs,1,0,s4 _ _ MR,az (by rw[Nm.length];simp;lia),(s3.trans s4).put na,?_};rw[AL,Nr,A7,A7];show gX (Nm.mono (dh s4)) (fj (p:=(p.1,p.2.1)) (by rw[dM (bz MR nq).symm];show hq))
 .rintro H3 ⟨s3,g⟩;rw[Pl,AI] at g;show{ta,_,d,lw ps,0,s3 _ _ OX,g.is,d5,IJ hok,λH4 s4=>kk H4 ((s1.trans s3).trans s4)}
 .rintro σ H R R' k ⟨v1,e1,xs,i,d,h1,e2,e3,h⟩;show{v1,e1,xs,i,d,h1,e2,e3,λu hu=>?_};have{v1,e1,xs,i,d,h1,e2,e3,h}:=h u hu;show{v1,e1,xs,i,d,h1,e2,e3,λu hu=>?_};have{z,h}:=h u hu;show{z,λp H2 np s2 hp=>k _ _ (h p H2 np s2 hp)}
def LS:OKQ T.X24 P w base 12 spWFl:=by
 show FbO T.X24 vG λ_ _ _ _ H vs Q E hr h=>?_;have{d,k,0,hW,kk}:=h;show{_,(ai (aL (pcq (mr T) hr T.X3 (ab (pv 0) (ab (pv 1) af))))
  (ai (mT (i:=2) vG.nd rfl (by trivial) (.inl rfl) (XN:=["d","k","whole"]) (sc:=al jx) (N:=["drawing","d"]) (own:=1) (js:=[0]) rfl (by ac_nf) rfl rfl (aP (pcq (LI T) hr T.X14 (ab (pv 0) (ab (pv 1) af)))) (λ_ _ _ _=>(bN (i:=0) (show List.Nodup (["drawing","d"]:SD Str) by ac_nf) rfl (Or.inl rfl) (.inr rfl))) (c8 (by decide)) (λ_ _ _ _=>(jb (aJ cB (pcq (LR T) hr T.X15 (ab (pv 1) (ab (pv 0) af))) ag (aH _)))) (λ_ _ _ _=>(pv 0)))
  (aj (ap (bf (je rfl) (by rfl) T.n_sum boot_sum (ab (c9 (XN:=["d","k","whole"]) (sc:=al jx) (N:=["drawing","d"]) (own:=1) (js:=[0]) rfl (by ac_nf) rfl rfl (aP (pv 2)) (λ_ _ _ _=>(bN (i:=0) (show List.Nodup (["drawing","d"]:SD Str) by ac_nf) rfl (Or.inl rfl) (.inr rfl))) (c8 (by decide)) (λ_ _ _ _=>dG) (λ_ _ _ _=>(ah aW (pcq (LO T) hr T.X16 (ab (pv 0) af)) (pcq (LN T) hr T.X23 (ab (pv 1) (ab (pv 0) af)))))) af)))))),?_}
 have{g1,g4}:=Kv hW;have d15:1<=d/\d<=5:=by unfold Wide at hW;lia
 show{1,1,d,k,0,hW,?_};show{1,1,d,k,0,hW,g1,λL l H1 pL s1 nl hl=>?_};have g4:∀x∈L,jM d x=true/\mkB d x=true:=λx hx=>g4 x (pL.mem_iff.mp hx);have g5:L.length<=1000:=by have:=pL.length_eq;have:=g1.2.1;lia
 rw[show jY d k=((L.filter (isW d)).map (lH d)).sum from(qQ (lH d) (pL.filter (isW d))).symm] at kk;clear pL;have hl:=hl.mono bx;have{_,Ng,e,Oq,Oc}:=aA hl;cases e;have NI:Ng.length=L.length:=by rw[Oc.length,A1]
 show{l,0,{_,SqL.of Oq},λacc na=>?_};show dZ (xs:=Ng) (own:=1) (js:=[0]) (λi H3=>ae H1 H3/\∃vs,H3 acc=some (.lst vs)/\Iss H1 (((L.take i).filter (isW d)).map lfs) vs) {ae.new na,[],ak,ao} (λi H3 _ h=>SqL.of (h.1 _ _ Oq)) ?_ ?_ db ?_ ?_
 .rintro i y H3 hi ⟨s3,vs,MR,Nm⟩;have{x,hx,hy}:=aR Oc hi;have il:i<L.length:=(A8.mp hx).1;have{o1,o2,o3,_,_}:=wD (g4 x (AH hx)).1;have RR:=hy.mono s3;have nx:(L.take (i+1)).filter (isW d)=(L.take i).filter (isW d)++if isW d x=true then [x] else []:=by
   rw[AL,hx,Bi];simp only[Option.toList_some,Bz,List.filter_nil]
  show{1,1,d,y,x,0,RR,d15.1,d15.2,o3,o1.okl,λH4 s4=>?_};rw[nx];show{0,1,cD (λe=>?_) (λe=>?_)}
  .have e':isW d x=true:=by unfold isW qk;show B4 (by lia)
   have vl:vs.length<=1000:=by
    rw[Nm.length,A1];have:=Bp (isW d) (L.take i);rw[AV] at this;lia
   show{1,acc,vs,1,0,s4 _ _ MR,az vl,(s3.trans s4).put na,_,ak,?_};rw[A6 e',A7];show Nm.append (am hy ao)
  .have e':isW d x=false:=by unfold isW qk;show Ak (by lia)
   show{s3.trans s4,vs,s4 _ _ MR,?_};rw[e',A5 AS,BE];show Nm
 .rintro H3 ⟨s3,vs,MR,Nm⟩;rw[NI,AI] at Nm;have Pj:∀x∈L.filter (isW d),x∈L:=λx hx=>(Ct.mp hx).1;have fl:(L.filter (isW d)).length<=1000:=BA (Bp _ _) g5;generalize L.filter (isW d)=M at Nm Pj fl kk;have NH:vs.length=M.length:=by rw[Nm.length,A1]
  show{1,acc,0,{_,SqL.of MR},λR8 Rn=>?_};show dZ (xs:=vs) (own:=1) (js:=[0]) (λi H4=>ae H3 H4/\H4 R8=some (.lst (((M.take i).map (lH d)).map V.int))) {ae.new Rn,ak} (λi H4 _ h=>SqL.of (h.1 _ _ MR)) ?_ ?_ db dJ ?_
  .rintro i y H4 hi ⟨s4,hac⟩;have{x,hx,hy}:=aR Nm hi;have il:i<M.length:=(A8.mp hx).1;have{g41,g42}:=g4 x (Pj x (AH hx));have{o1,o2,o3,o4,o5}:=wD g41;have hy4:=(hy.mono s3).mono s4;show fh ?_;show{1,y,x,d,0,hy4,(λp hp=>{trivial,(o2 p hp).2}),1,1,d,y,x,0,d15.1,d15.2,hy4,o1,g42,λH5 s5=>?_};show{2,.inl {4,4},R8,2,s5 _ _ hac,az (by rw[A1,A1,AV];lia),(s4.trans s5).put Rn,?_};rw[ak,AL,hx,A7,A7];rfl
  .rintro H4 ⟨s4,hac⟩;rw[NH,AI] at hac;show{R8,1,SqL.of hac,kk H4 ((s1.trans s3).trans s4)}
  .rintro σ H R R' k' ⟨v1,e1,dv,ps,d',e2,i1,o1,v2,e3,v3,e4,n,dv2,ps2,e5,a1,a2,i2,sn,sb,kk2⟩;show{v1,e1,dv,ps,d',e2,i1,o1,v2,e3,v3,e4,n,dv2,ps2,e5,a1,a2,i2,sn,sb,λH' s'=>let ⟨i,j,x1,x2,x3,x4⟩:=kk2 H' s';{i,j,x1,x2,x3,k' _ _ x4}}
 .rintro σ H R R' k' ⟨v1,e1,v2,e2,n,dv,ps,e3,i1,a1,a2,a3,a4,kk2⟩;show{v1,e1,v2,e2,n,dv,ps,e3,i1,a1,a2,a3,a4,λH' s'=>let ⟨x1,b,x2,x3⟩:=kk2 H' s';{x1,b,x2,k' _ _ x3}}
 .rintro σ H R R' k' ⟨v1,e1,h⟩;show{v1,e1,k' _ _ h}
def yl:OKQ T.X46 P w base 2 spIsR:=by
 show FbO T.X46 vL λNa A outer s H vs Q E hr h=>?_;have{v,t,0,hv,{tn,tl,tt},kk}:=h;show{_,(ai (aT (ge (e9 (bf ja (by rfl) T.n_isinstance Df (ab (pv 0) (ab (iT (v:= .ty "list") (by rfl) T.n_list boot_list (by rfl)) af))))) (aj (ap iS)) aU)
  (ai (aC AF rfl (aP (pv 0)) (pGA (i:=1) vL.nd) (aj (aT (fb (ge (e9 (pcq (yh T) hr T.X0 (ab (pv 1) af)))) (gd (aJ dU (pv 1) ag (aH _)))).pt (aj (ap iS)) aU)))
  (aj (ap (ze (HZ (pv 0)) (mz (iY fe (ay cC (pv 0) (fL fM ag) (λ_ _=>rfl)) ag (aH _)))))))),?_}
 have{a,0,ha}:=iL hv;show{1,_,"list",_,true,0,.lst ha,xG,true,0,bJ ?_};show{1,a,0,{_,SqL.of ha},aZ (xs:=t.map V.int) (λi σ H2=>(∃v1,σ=[some (.ref a),v1])/\H2=H) {{none,0},0} (λi σ H2 _ h=>by rw[h.2];show SqL.of ha) ?_ ?_}
 .rintro i y σ H2 hi ⟨⟨v1,rfl⟩,rfl⟩;rw[AD] at hi;have{x,hx,0}:=AB.mp hi;have x0:0<=x:=by
   have:=tn i;rw[A',hx] at this;show this
  show{1,1,.inl {1},true,0,bJ {1,2,1,bq (λh=>absurd h (by lia)) (λ_=>{{1},0})}}
 .rintro σ H2 ⟨⟨v1,rfl⟩,rfl⟩;show{1,a,1,SqL.of ha,1,?_};rcases tt with rfl|⟨s,x,rfl,x0⟩
  .show dY kk
  .have e0:((s++[x]).map V.int).isEmpty=false:=by
    cases s<;>rfl
   rw[e0];show bJ {1,(1),0,a,_,-1,.int x,0,0,SqL.of ha,?_,2,?_}
   .unfold atI ixN;rw[A1,AA,A5 (by decide),A6 (by simp;lia)];change((s++[x]).map V.int)[((-1:Int)+((s.length+1:Nat):Int)).toNat]? =_;rw[show((-1:Int)+((s.length+1:Nat):Int)).toNat=s.length by lia,AD,BR (A9 _),Nat.sub_self];rfl
   .change Q (.bl (decide (0<x))) H2;rw[B4 x0];show kk
def ym{t:SD Int}{x:Int}(h:t[i]? =some x):((List.range (i+1)).map λj:Nat=>((j:Int)+1)*t.getD j 0)=((List.range i).map λj:Nat=>((j:Int)+1)*t.getD j 0)++[((i:Int)+1)*x]:=by
 rw[B0,A7,AG,List.map_nil,A',h];rfl
def yn(t:SD Int):((List.range t.length).map λj:Nat=>((j:Int)+1)*t.getD j 0).sum=wtF t:=by
 have go:∀(t:SD Int) (i:Int),((List.range t.length).map λj:Nat=>((j:Int)+i)*t.getD j 0).sum=wtG i t:=λt=>by
  induction t with
  |nil=>intro i;rfl
  |cons x t ih=>
   intro i;rw[AW,List.range_succ_eq_map,AG,BC,Ay];unfold wtG;rw[<-ih (i+1)];congr 1
   .simp
   .show BZ List.sum (As λj _=>?_);change(((j+1:Nat):Int)+i)*t.getD j 0=_;rw[show((j+1:Nat):Int)+i=(j:Int)+(i+1) by lia]
 show go t 1
def yo:OKQ T.X47 P w base 1 spRwL:=by
 show FbO T.X47 vM λ_ _ _ _ H vs Q E hr h=>?_;have{v,t,0,hv,tl,kk}:=h;show{_,(aj (ap (bf (je rfl) (by rfl) T.n_sum boot_sum (ab (c9 (XN:=["row"]) (sc:=al jC) (N:=["place","number"]) (own:=2) (js:=[]) rfl (by ac_nf) rfl rfl (mV (by rfl) T.n_enumerate (pv 0)) (λ_ _ _ _=>(m6 (K:=K) rfl rfl (aV (bN (i:=0) (show List.Nodup (["place","number"]:SD Str) by ac_nf) rfl (Or.inl rfl) (.inr rfl)) (aV (bN (i:=1) (show List.Nodup (["place","number"]:SD Str) by ac_nf) rfl (Or.inl rfl) (.inr rfl)) cg)))) m4 (λ_ _ _ _=>dG) (λ_ _ _ _=>(ah aW (ah aI (pv 0) ag) (pv 1)))) af)))),?_};have{a,0,ha}:=iL hv;show{1,a,0,{_,SqL.of ha},λacc na=>?_};show HP (xs:=t.map V.int) (own:=2) (js:=[]) (λi H2=>ae H H2/\H2 acc=some (.lst (((List.range i).map λj:Nat=>((j:Int)+1)*t.getD j 0).map V.int))) {ae.new na,ak} (λi H2 _ h=>SqL.of (h.1 _ _ ha)) ?_ ?_ m5 dJ ?_
 .rintro i y H2 p hi ⟨s2,MR⟩ np;rw[AD] at hi;have{x,hx,0}:=AB.mp hi;have il:i<t.length:=(A8.mp hx).1;have s3:ae H2 (upd H2 p (.tup [.int i,.int x])):=ae.new np;show{p,1,SqT.of ak,0,3,2,?_};show{1,2,1,2,.inl {4,4},acc,2,s3 _ _ MR,az (by rw[A1,A1,BN];lia),(s2.trans s3).put na,?_};rw[ak,ym hx,A7];rfl
 .rintro H2 ⟨s2,MR⟩;rw[A1] at MR;show{acc,1,SqL.of MR,?_};rw[yn];show kk H2 s2
 .rintro σ H R R' k ⟨v1,e1,i1,i2,e2,e3,v2,e4,i3,i4,e5,e6,c,h⟩;show{v1,e1,i1,i2,e2,e3,v2,e4,i3,i4,e5,e6,c,k _ _ h}
def yp:OKQ T.X47 P w base 1 spRwT:=by
 show FbO T.X47 vM λ_ _ _ _ H vs Q E hr h=>?_;have{v,t,0,hv,tl,kk}:=h;show{_,(aj (ap (bf (je rfl) (by rfl) T.n_sum boot_sum (ab (c9 (XN:=["row"]) (sc:=al jC) (N:=["place","number"]) (own:=2) (js:=[]) rfl (by ac_nf) rfl rfl (nZ (by rfl) T.n_enumerate (pv 0)) (λ_ _ _ _=>(m6 (K:=K) rfl rfl (aV (bN (i:=0) (show List.Nodup (["place","number"]:SD Str) by ac_nf) rfl (Or.inl rfl) (.inr rfl)) (aV (bN (i:=1) (show List.Nodup (["place","number"]:SD Str) by ac_nf) rfl (Or.inl rfl) (.inr rfl)) cg)))) m4 (λ_ _ _ _=>dG) (λ_ _ _ _=>(ah aW (ah aI (pv 0) ag) (pv 1)))) af)))),?_};have{a,0,ha}:=bP hv;show{1,a,0,{_,SqT.of ha},λacc na=>?_};show HN (xs:=t.map V.int) (own:=2) (js:=[]) (λi H2=>ae H H2/\H2 acc=some (.lst (((List.range i).map λj:Nat=>((j:Int)+1)*t.getD j 0).map V.int))) {ae.new na,ak} (λi H2 _ h=>SqT.of (h.1 _ _ ha)) ?_ ?_ m5 dJ ?_
 .rintro i y H2 p hi ⟨s2,MR⟩ np;rw[AD] at hi;have{x,hx,0}:=AB.mp hi;have il:i<t.length:=(A8.mp hx).1;have s3:ae H2 (upd H2 p (.tup [.int i,.int x])):=ae.new np;show{p,1,SqT.of ak,0,3,2,?_};show{1,2,1,2,.inl {4,4},acc,2,s3 _ _ MR,az (by rw[A1,A1,BN];lia),(s2.trans s3).put na,?_};rw[ak,ym hx,A7];rfl
 .rintro H2 ⟨s2,MR⟩;rw[A1] at MR;show{acc,1,SqL.of MR,?_};rw[yn];show kk H2 s2
 .rintro σ H R R' k ⟨v1,e1,i1,i2,e2,e3,v2,e4,i3,i4,e5,e6,c,h⟩;show{v1,e1,i1,i2,e2,e3,v2,e4,i3,i4,e5,e6,c,k _ _ h}
def LU:OKQ T.X48 P w base 3 spNeR:=by
 show FbO T.X48 Ix λ_ _ _ _ H vs Q E hr h=>?_;have{d,v1,v2,a,b,0,h1,h2,r1,r2,e,kk}:=h;show{_,(ai (aT (fb (ge (e9 (pcq (yl T) hr T.X46 (ab (pv 1) af)))) (gd (ge (e9 (pcq (yl T) hr T.X46 (ab (pv 2) af)))))).pt (aj kb) aU)
  (aj (aT (aJ r6 (ah aI (pcq (yo T) hr T.X47 (ab (pv 1) af)) (pcq (yo T) hr T.X47 (ab (pv 2) af))) (pv 0) (aH _)) (aj kb) aU))),?_}
 show{1,v1,a,0,h1,r1,true,0,bJ {1,v2,b,0,h2,r2,true,0,bJ ?_}};show{1,v1,a,0,h1,r1.2.1,λH1 s1=>{1,v2,b,0,h2.mono s1,r2.2.1,λH2 s2=>?_}};show{2,1,0,1,Ex (λhz=>absurd e hz) λ_=>kk H2 (s1.trans s2)}
def LV:OKQ T.X18 P w base 1 spPrd:=by
 show FbO T.X18 kS λ_ _ _ _ H vs Q E hr h=>?_;have{v,ws,0,hv,hw,kk}:=h;show{_,(ai (pSA (i:=1) kS.nd ag)
  (ai (aC AF rfl (aP (pv 0)) (pGA (i:=2) kS.nd) (aj (gf (i:=1) kS.nd rfl (by trivial) (pv 2) kA)))
  (aj (ap (pv 1))))),?_}
 have{a,0,ha}:=iL hv;show{1,a,0,{_,SqL.of ha},aZ (xs:=ws.map V.int) (λi σ H2=>(∃v2,σ=[some (.ref a),some (.int (cM (ws.take i))),v2])/\H2=H) {{none,0},0} (λi σ H2 _ h=>by rw[h.2];show SqL.of ha) ?_ ?_}
 .rintro i y σ H2 hi ⟨⟨v2,rfl⟩,rfl⟩;rw[AD] at hi;have{x,hx,0}:=AB.mp hi;have{x1,x5}:=hw x (AH hx);show{1,1,2,.inr {4,4},{some (.int x),?_},0};have e:cM (ws.take (i+1))=cM (ws.take i)*x:=by
   rw[AL,hx];unfold cM;rw[Bo];rfl
  rw[e];rfl
 .rintro σ H2 ⟨⟨v2,rfl⟩,rfl⟩;rw[A1,AI];show{1,kk}
def yq:OKQ T.X49 P w base 1 spFil:=by
 show FbO T.X49 Iy λ_ _ _ _ H vs Q E hr h=>?_;have{v,t,n,0,hv,tn,n5,kk}:=h;show{_,(aj (ap (i0 tG (by rfl) T.n_tuple boot_tuple (ab (ah dw (pv 0) (ah jg (aK (ab ag af)) (ah aF (pv 1) (bf i5 (by rfl) T.n_len DX (ab (pv 0) af))))) af)))),?_};have{a,0,ha}:=iL hv;show{1,(zB rfl),λl1 H1 n1 s1 h1=>?_};show{1,1,a,1,.inl (SqL.of (s1 _ _ ha)),2,.i 0,_,aD h1 (am bw ao),0,?_,?_,?_,λl2 H2 n2 s2 h2=>?_}
 .rw[A1];lia
 .rw[A1];lia
 .show Ah (az (by rw[A1];lia))
 show{_,_,hv.mono (s1.trans s2),h2,Ah (az (by rw[A1,BJ,A1];lia)),λl3 H3 n3 s3 h3=>?_};show{3,h3,λl4 H4 n4 s4 h4=>kk _ H4 (((s1.trans s2).trans s3).trans s4) ?_};have e:t.map D.i++List.replicate (((n:Int))-(((t.map V.int).length:Nat):Int)).toNat (D.i 0)=(cb n t).map D.i:=by
  unfold cb;rw[A1,A7,D1,show((n:Int)-(t.length:Int)).toNat=n-t.length by lia]
 rw[e] at h4;show h4
def LW:OKQ T.X50 P w base 1 spRwn:=by
 show FbO T.X50 ip λ_ _ _ _ H vs Q E hr h=>?_;have{v,t,0,hv,tn,ts,tl,kk}:=h;show{_,(ai (pSA (i:=1) ip.nd (aK (ab (bh af) af)))
  (ai (aC AF rfl (rP (pv 0)) (pGA (i:=2) ip.nd) (ai (pSA (i:=3) ip.nd (aK af))
  (ai (aC AF rfl (aP (pv 1)) (pGA (i:=4) ip.nd) (aj (aL (bA AU CM CL i6 (pv 3) (ab (c9 (XN:=["row","found","number","longer","begun"]) (sc:=al k9) (N:=["here","begun"]) (own:=1) (js:=[4]) rfl (by ac_nf) rfl rfl (fc (by rfl) T.n_range (ab (ah aI (pv 2) ag) af)) (λ_ _ _ _=>(bN (i:=0) (show List.Nodup (["here","begun"]:SD Str) by ac_nf) rfl (Or.inl rfl) (.inr rfl))) (c8 (by decide)) (λ_ _ _ _=>dG) (λ_ _ _ _=>(ah nO (pv 1) (bh (ab (pv 0) af))))) af)))))
  (aj (pSA (i:=1) ip.nd (pv 3))))))
  (aj (ap (pv 1))))),?_}
 have{a,0,ha}:=bP hv;show{AO _,λe0 H1 ne0 s1 he0=>{(zB rfl),λf0 H2 nf0 s2 hf0=>?_}};have Od:=s1.trans s2;show{1,a,0,{_,SqT.of (Od _ _ ha)},rR (xs:=t.map V.int) (λi σ H3=>(E4 λfo v2 v3 v4=>σ=[some (.ref a),some (.ref fo),v2,v3,v4]/\H fo=none/\Is H3 (.l ((rwF (t.take i)).map tI)) (.ref fo))/\ae H H3) {{f0,none,none,none,0,s1.free nf0,aD hf0 (am (fk (xs:=[]) (s2 _ _ he0)) ao)},Od} (λi σ H3 _ h=>SqT.of (h.2 _ _ ha)) ?_ ?_}
 .rintro i y σ H3 hi ⟨⟨fo,v2,v3,v4,rfl,NJ,Nj⟩,s3⟩;rw[AD] at hi;have{x,hx,0}:=AB.mp hi;have il:i<t.length:=(A8.mp hx).1;have x0:0<=x:=by
   have:=tn i;rw[A',hx] at this;show this
  have nx:rwF (t.take (i+1))=rwS (rwF (t.take i)) x:=by
   rw[AL,hx];unfold rwF;rw[Bo];rfl
  have big:(rwS (rwF (t.take i)) x).length<=32:=by rw[<-nx];show qm tn ts (i+1)
  have hFl:∀b∈rwF (t.take i),b.length<=5:=λb hb=>by
   have:=(ql (Ji tn i) hb).len;rw[AV] at this;lia
  rw[nx];generalize rwF (t.take i)=F at Nj big hFl;have{_,NU,e,MW,hfi}:=aA Nj;cases e;have flen:NU.length=F.length:=by rw[hfi.length,A1]
  show{AO _,λlo H4 nlo s4 hlo=>?_};have nloH:H lo=none:=s3.free nlo;have fl:fo≠lo:=by rintro rfl;rw[MW] at nlo;cases nlo
  have part:∀j,(rwS (F.take j) x).length<=32:=λj=>by
   rw[wE] at big⊢;show BA (Nat.mul_le_mul_right _ ?_) big;rw[AV];lia
  show{1,fo,0,{_,SqL.of (s4 _ _ MW)},aZ (xs:=NU) (λj σ H5=>(∃v4,σ=[some (.ref a),some (.ref fo),some (.int x),some (.ref lo),v4])/\ae H H5/\H5 fo=some (.lst NU)/\av H4 H5/\∃Ng,H5 lo=some (.lst Ng)/\Iss H5 ((rwS (F.take j) x).map tI) Ng) {{1},s3.trans s4,s4 _ _ MW,av.of_same (ae.refl _),[],hlo,ao} (λj σ H5 _ h=>SqL.of h.2.2.1) ?_ ?_}
  .rintro j b σ H5 hj ⟨⟨v4,rfl⟩,s5,M7,t5,Ng,QV,hl5⟩;have{bb,hbb,hb}:=aR hfi hj;have hb5:Is H5 (tI bb) b:=fJ t5 (hb.mono s4);have nx2:rwS (F.take (j+1)) x=rwS (F.take j) x++(List.range (x+1).toNat).map λh:Nat=>bb++[(h:Int)]:=by
    unfold rwS;rw[AL,hbb,Ax];simp
   have pj:=part (j+1);rw[nx2] at pj⊢;rw[AA,A1,BN] at pj;have ll:Ng.length=(rwS (F.take j) x).length:=by rw[hl5.length,A1]
   generalize rwS (F.take j) x=R at hl5 pj ll;show{1,.inl {0,_,SqL.of QV},1,2,1,4,4,λacc na=>?_};have naH:H acc=none:=s5.free na;show kw (lo:=0) (n:=(x+1).toNat) (own:=1) (js:=[4]) (λm H6=>ae H5 H6/\∃zs,H6 acc=some (.lst zs)/\Iss H6 (((List.range m).map λh:Nat=>bb++[(h:Int)]).map tI) zs) {ae.new na,[],ak,ao} ?_ ?_ db dJ ?_
   .rintro m H6 hm ⟨s6,zs,MR,hz⟩;rw[DC];show{1,1,(zB rfl),λq H7 nq s7 hq=>?_};have OA:=s6.trans s7;show{bb.map .i,[.i (m:Int)],hb5.mono OA,bi hq (am bw ao),Ah (az (by have:=hFl bb (AH hbb);rw[A1];change _+1<=1000;lia)),λu H8 s8 hu=>?_};have Rv:=s8 _ _ (s7 _ _ MR);have zl:zs.length=m:=by rw[hz.length,A1,A1,BN]
    show{acc,zs,1,0,Rv,az (by lia),(OA.trans s8).put na,_,ak,?_};have tu:av H8 (upd H8 acc (.lst (zs++[u]))):=av.upd Rv;rw[B0,A7,A7];show(gN tu ((hz.mono s7).mono s8)).append (am (fJ tu ?_) ao);change Is H8 (.t ((bb++[(m:Int)]).map .i)) u;rw[A7];show hu
   .rintro H6 ⟨s6,zs,MR,hz⟩;have zl:zs.length=(x+1).toNat:=by rw[hz.length,A1,A1,BN]
    have O2:=s6 _ _ QV;show{lo,acc,Ng,zs,0,0,O2,MR,Ah (az (by lia)),{1},(s5.trans s6).put nloH,by rw[au fl];show s6 _ _ M7,(t5.trans (av.of_same s6)).trans (av.upd O2),_,ak,?_};have tu:av H6 (upd H6 lo (.lst (Ng++zs))):=av.upd O2;rw[A7];show(gN tu (hl5.mono s6)).append (gN tu hz)
   .rintro σ H R R' k ⟨v1,e1,v2,e2,e3,h⟩;show{v1,e1,v2,e2,e3,λq H7 nq s7 hq=>?_};have{xs,ys,a1,a2,a3,a4}:=h q H7 nq s7 hq;show{xs,ys,a1,a2,a3,λu H8 s8 hu=>k _ _ (a4 u H8 s8 hu)}
  .rintro σ H5 ⟨⟨v4,rfl⟩,s5,M7,t5,Ng,QV,hl5⟩;rw[flen,AI] at hl5;show{1,{lo,_,3,nloH,aD QV hl5},s5}
 .rintro σ H3 ⟨⟨fo,v2,v3,v4,rfl,NJ,Nj⟩,s3⟩;rw[A1,AI] at Nj;show{1,kk fo H3 s3 NJ Nj}
def LX{t:SD Int}{p:Nat}(h:p<t.length):atI (t.map D.i) (p:Int)=some (.i (t.getD p 0)):=by
 show gu (j:=p) rfl ?_;rw[AD,A2 h,A',A2 h];rfl
def LY{L:Nat}{D M:Int}(hM:(if D<(L:Int) then D else(L:Int))=M)(hl:L<=5)(hD: -2000<=D):M<=5/\-2000<=M/\(M-(fi:Int)).toNat=min L D.toNat-fi:=by
 subst hM;split<;>lia
def LZ{L:Nat}{D:Int}(hi:i<min L D.toNat-fi)(hl:L<=5)(hm:D.toNat+1<=n+1):fi+i<L/\(D-(1+((fi+i:Nat):Int))).toNat+1<=n/\fi+i<=5/\1+((fi+i:Nat):Int)<=D:=by lia
theorem yr:∀n:Nat,FnOk P w K mg base CX0 (n+2) T.f51 T.d51 ["row","weight","first"] (spRby n K)
 |0=>{λvs H Q E h=>(by have{_,_,_,_,_,_,_,_,h,_}:=h;lia),λA outer s H args us vs Q E _ _ _ _ h=>(by have{_,_,_,_,_,_,_,_,h,_}:=h;lia)}
 |n+1=>by
  have ih:=yr n;show T.X51.F.ok lg (λvs H Q E h=>?_) (λNa A outer s H vs Q E hr h=>?_)
  .have{_,_,_,_,0,_}:=h;rfl
  .have{v,t,wt,fi,0,hv,tn,tl,hm,n8,b1,b2,b3,b4,f5,kk}:=h;show{_,(ai (pSA (i:=3) lg.nd (ah aF (pv 1) (pcq (yp T) hr T.X47 (ab (pv 0) af) (by lia))))
   (ai (aT (aJ cB (pv 3) ag (aH _)) (aj (ap (aK (ab (pv 0) af)))) aU)
   (ai (pSA (i:=4) lg.nd (aK af))
   (ai (aC AF rfl (dS (by rfl) T.n_range (ab (pv 2) (ab (bf (zO rfl) (by rfl) T.n_min boot_min (ab (bf gY (by rfl) T.n_len DX (ab (pv 0) af)) (ab (pv 3) af))) af))) (pGA (i:=5) lg.nd) (aj (aL (bA AU CM CL i6 (pv 4) (ab (fN ih hr (by rfl) T.X51.m T.X51.F.kp T.X51.B .nil fP (ab (pcq (j8 T) hr T.X17 (ab (pv 0) (ab (pv 5) (ab ag af))) (by lia)) (ab (pv 1) (ab (pv 5) af)))) af)))))
   (aj (ap (pv 4))))))),?_}
   show{1,1,v,t,0,hv,tl,λH1 s1=>{2,?_}};unfold rbF at kk;show{1,0,1,cD (λe=>?_) (λe=>?_)}
   .rw[A6 (show wt-wtF t=0 by lia)] at kk;show{1,(zB rfl),λl H2 nl s2 hl=>?_};show kk l H2 (s1.trans s2) (s1.free nl) (aD hl (am (hv.mono (s1.trans s2)) ao))
   .have e:¬wt-wtF t=0:=by lia
    rw[A5 e] at kk;show{AO _,λfo H2 NJ s2 Nj=>?_};have Od:=s1.trans s2;have nfoH:H fo=none:=s1.free NJ;show{1,1,3,.inr (hv.mono Od),1,3,?_};generalize hM:(if wt-wtF t<(((t.map D.i).length:Nat):Int) then wt-wtF t else(((t.map D.i).length:Nat):Int))=M;rw[A1] at hM;have eM:=LY (fi:=fi) hM tl (by lia);show{3,{4,4,4,4},?_};rw[eM.2.2];have len5:∀i,i<=5->((List.range i).flatMap λj=>rbF n (wmF t (fi+j) 1) wt (fi+j)).length<=i*5^n:=by
     intro i;induction i with
     |zero=>intro _;show AO _
     |succ i ih2=>
      intro hi;rw[B0,Ax,AA,Ck,Bc,List.flatMap_nil,BE];have:=ih2 (by lia);have:=qo (n:=n) (wt:=wt) (row:=wmF t (fi+i) 1) (first:=fi+i) (by rw[eS];show tl);lia
    have p5:5^n<=5^7:=CK (by decide) (by lia);show cA (lo:=(fi:Int)) (n:=min t.length (wt-wtF t).toNat-fi) (λi σ H3=>(∃v5,σ=[some v,some (.int wt),some (.int fi),some (.int (wt-wtF t)),some (.ref fo),v5])/\ae H H3/\∃zs,H3 fo=some (.lst zs)/\Iss H3 (((List.range i).flatMap λj=>rbF n (wmF t (fi+j) 1) wt (fi+j)).map tI) zs) {{none,0},Od,[],Nj,ao} ?_ ?_
    .rintro i σ H3 hi ⟨⟨v5,rfl⟩,s3,zs,MW,hz⟩;have{hp,q1,q2,q3}:=LZ hi tl hm;have ew:wtF (wmF t (fi+i) 1)=wtF t+(1+((fi+i:Nat):Int)):=by rw[<-Int.mul_one (1+((fi+i:Nat):Int))];show lI hp
     have ed:wt-(wtF t+(1+((fi+i:Nat):Int)))=wt-wtF t-(1+((fi+i:Nat):Int)):=by rw[Int.sub_sub]
     rw[show(fi:Int)+(i:Int)=((fi+i:Nat):Int) by lia];show{1,.inl {0,_,SqL.of MW},1,1,v,t,fi+i,(1),0,hv.mono s3,hp,tl,λu H4 s4 hu=>?_};show{1,1,u,wmF t (fi+i) 1,wt,fi+i,0,hu,lJ hp tn (by have:=tn (fi+i);lia),by rw[eS];show tl,by rw[ew,ed];show q1,4,b1,b2,by rw[ew];clear ew ed;lia,by rw[ew];clear ew ed;lia,q2,λrl H5 s5 Oh OO=>?_};have{_,NE,e,O3,NT}:=aA OO;cases e;have Qy:=s4.trans s5;have M7:=Qy _ _ MW;have l1:=len5 (i+1) (by lia);have nx:((List.range (i+1)).flatMap λj=>rbF n (wmF t (fi+j) 1) wt (fi+j))=((List.range i).flatMap λj=>rbF n (wmF t (fi+j) 1) wt (fi+j))++rbF n (wmF t (fi+i) 1) wt (fi+i):=by
      rw[B0,Ax,Bc,List.flatMap_nil,BE]
     rw[nx] at l1⊢;rw[AA] at l1;have l5:(i+1)*5^n<=5*5^7:=Nat.mul_le_mul (by lia) p5;have d5:5*5^7=390625:=by decide
     have zl:=hz.length;have rl':=NT.length;rw[A1] at zl rl';generalize ((List.range i).flatMap λj=>rbF n (wmF t (fi+j) 1) wt (fi+j))=R at hz l1 zl;generalize rbF n (wmF t (fi+i) 1) wt (fi+i)=R2 at NT l1 rl';show{fo,rl,zs,NE,0,0,M7,O3,Ah (ml (by clear ew ed q1 q3 hp hi eM hm b1 b2 b3 b4;lia)),{1},(s3.trans Qy).put nfoH,_,ak,?_};have tu:av H5 (upd H5 fo (.lst (zs++NE))):=av.upd M7;rw[A7];show(gN tu (hz.mono Qy)).append (gN tu NT)
    .rintro σ H3 ⟨⟨v5,rfl⟩,s3,zs,MW,hz⟩;show{1,kk fo H3 s3 nfoH (aD MW hz)}
def L0{a b:SD Int}(h:Le a b):∀{i:Nat}{x y:Int},b[i]? =some x->a[i]? =some y->cK (b.take (i+1)) (a.take (i+1))=cK (b.take i) (a.take i)*chF x y.toNat:=by
 induction a generalizing b with
 |nil=>intro i x y _ hy;simp at hy
 |cons z a ih=>
  cases b with
  |nil=>show h.elim
  |cons u b=>
   intro i x y hx hy;cases i with
   |zero=>
    have e1:u=x:=by simpa using hx
    have e2:z=y:=by simpa using hy
    subst e1 e2;simp[cK]
   |succ i=>
    rw[BL,BL,BL,BL];change chF u z.toNat*cK (b.take (i+1)) (a.take (i+1))=chF u z.toNat*cK (b.take i) (a.take i)*_;rw[ih h.2.2 (by simpa using hx) (by simpa using hy),Int.mul_assoc]
def yt{a b:SD Int}(h:Le a b):∀{i:Nat}{x y:Int},b[i]? =some x->a[i]? =some y->0<=y/\y<=x:=by
 induction a generalizing b with
 |nil=>intro i x y _ hy;simp at hy
 |cons z a ih=>
  cases b with
  |nil=>show h.elim
  |cons u b=>
   intro i x y hx hy;cases i with
   |zero=>
    have e1:u=x:=by simpa using hx
    have e2:z=y:=by simpa using hy
    subst e1 e2;show{h.1,h.2.1}
   |succ i=>show ih h.2.2 (by simpa using hx) (by simpa using hy)
def yu{b:SD Int}{x:Int}(h:Nn b)(hx:b[i]? =some x):x<=b.sum:=by
 induction b generalizing i with
 |nil=>simp at hx
 |cons y b ih=>
  have{p,q}:=Nn.cons.mp h;have s0:=(dP (i:=1) (by decide) q).1;rw[Ay];cases i with
  |zero=>
   have e1:y=x:=by simpa using hx
   lia
  |succ i=>
   have:=ih q (by simpa using hx);lia
def yw:OKQ T.X52 P w base 2 spChs:=by
 show FbO T.X52 jD λ_ _ _ _ H vs Q E hr h=>?_;have{v1,v2,b,a,0,Qt,OC,le,bs,kk}:=h;show{_,(ai (pSA (i:=2) jD.nd ag)
  (ai (aC AF rfl (HW (by rfl) T.n_zip (ab (pv 0) (ab (pv 1) af))) (cy rfl (aV (pGA (i:=3) jD.nd) (aV (pGA (i:=4) jD.nd) cg))) (aj (gf (i:=2) jD.nd rfl (by trivial) (pcq (rh T) hr T.X5 (ab (pv 3) (ab (pv 4) af))) kA)))
  (aj (ap (pv 2))))),?_}
 have{ba,0,hb}:=bP Qt;have{aa,0,ha}:=bP OC;have ll:=le.len;show{1,1,ba,aa,0,{_,SqT.of hb},{_,SqT.of ha},HX (xs:=b.map V.int) (ys:=a.map V.int) (by rw[A1,A1,ll]) (λi σ H2=>(E2 λv3 v4=>σ=[some (.ref ba),some (.ref aa),some (.int (cK (b.take i) (a.take i))),v3,v4])/\ae H H2) {{none,none,0},ae.refl _} (λi σ H2 _ h=>{SqT.of (h.2 _ _ hb),SqT.of (h.2 _ _ ha)}) ?_ ?_}
 .rintro i x y σ H2 p hx hy ⟨⟨v3,v4,rfl⟩,s2⟩ np;rw[AD] at hx hy;have{x,hx1,0}:=AB.mp hx;have{y,hy1,0}:=AB.mp hy;have hx:=hx1;have hy:=hy1;have{y0,yx}:=yt le hx hy;have x5:=yu (Le.nn le).2 hx;have s3:ae H2 (upd H2 p (.tup [.int x,.int y])):=ae.new np;show{p,1,SqT.of ak,0,3,2,?_};have{c0,c1}:=wH y0 yx (by lia);have c2:(2:Int)^x.toNat<=2^5:=by
   have:x.toNat=0\/x.toNat=1\/x.toNat=2\/x.toNat=3\/x.toNat=4\/x.toNat=5:=by lia
   rcases this with e|e|e|e|e|e<;>rw[e]<;>decide
  have d5:(2:Int)^5=32:=by decide
  show{1,1,1,x,y.toNat,?_,4,4,?_}
  .change [V.int x,V.int y]=[V.int x,V.int ((y.toNat:Nat):Int)];rw[show((y.toNat:Nat):Int)=y by lia]
  show{2,.inr {4,4},{some (.int x),some (.int y),?_},s2.trans s3};rw[L0 le hx hy];rfl
 .rintro σ H2 ⟨⟨v3,v4,rfl⟩,s2⟩;rw[A1,AI,<-ll,AI];show{1,kk H2 s2}
theorem yy:∀{a b:SD Int},Le a b->∀{k:Int}{i:Nat}{x y:Int},a[i]? =some x->b[i]? =some y->wgG k (a.take (i+1)) (b.take (i+1))=wgG k (a.take i) (b.take i)++List.replicate (y-x).toNat (k+i)
 |[],_,_,k,i,x,y,hx,_=>by simp at hx
 |z::a,[],h,_,_,_,_,_,_=>h.elim
 |z::a,u::b,h,k,i,x,y,hx,hy=>by
  cases i with
  |zero=>
   have e1:z=x:=by simpa using hx
   have e2:u=y:=by simpa using hy
   subst e1 e2;simp[wgG]
  |succ i=>
   rw[BL,BL,BL,BL];change _++wgG (k+1) (a.take (i+1)) (b.take (i+1))=_++wgG (k+1) (a.take i) (b.take i)++_;rw[yy h.2.2 (by simpa using hx) (by simpa using hy),BV,show k+1+(i:Int)=k+((i+1:Nat):Int) by lia]
theorem rj:∀{a b:SD Int} (i:Nat),Le a b->Le (a.take i) (b.take i)
 |[],[],i,_=>by rw[List.take_nil];show trivial
 |x::a,y::b,0,_=>trivial
 |x::a,y::b,i+1,h=>{h.1,h.2.1,rj i h.2.2}
def L4:OKQ T.X53 P w base 1 spWgn:=by
 show FbO T.X53 lm λ_ _ _ _ H vs Q E hr h=>?_;have{v1,v2,f,fr,0,Qt,OC,le,fl5,fs5,kk}:=h;show{_,(ai (pSA (i:=2) lm.nd (aK af))
  (ai (aC AF rfl (nZ (by rfl) T.n_enumerate (pv 0)) (cy rfl (aV (pGA (i:=3) lm.nd) (aV (pGA (i:=4) lm.nd) cg))) (aj (aL (bA AU CM CL i6 (pv 2) (ab (ah jg (aK (ab (ah aI (pv 3) ag) af)) (ah aF (ay aQ (pv 1) (pv 3) (λ_ _=>rfl)) (pv 4))) af)))))
  (aj (ap (pv 2))))),?_}
 have{fa,0,hf}:=bP Qt;have ll:=le.len;show{AO _,λfo H1 NJ s1 Nj=>?_};show{1,fa,0,{_,SqT.of (s1 _ _ hf)},vD (xs:=f.map V.int) (λi σ H2=>(E2 λv3 v4=>σ=[some (.ref fa),some v2,some (.ref fo),v3,v4])/\ae H H2/\H2 fo=some (.lst ((wgG 1 (f.take i) (fr.take i)).map V.int))) {{none,none,0},s1,Nj} (λi σ H2 _ h=>SqT.of (h.2.1 _ _ hf)) ?_ ?_}
 .rintro i y σ H2 p hi ⟨⟨v3,v4,rfl⟩,s2,Nc⟩ np;rw[AD] at hi;have{x,hx,0}:=AB.mp hi;have il:i<f.length:=(A8.mp hx).1;have s3:ae H2 (upd H2 p (.tup [.int i,.int x])):=ae.new np;have hy:fr[i]? =some (fr.getD i 0):=by
   rw[A',A2 (by lia)];rfl
  have{x0,xy}:=yt le hy hx;have y5:=yu (Le.nn le).2 hy;have lb:(wgG 1 (f.take i) (fr.take i)).length<=1000:=by
   have l1:=qY (k:=1) (rj i le);have l2:=(dP (i:=1) (by decide) (Le.nn (rj i le)).1).1;have l3:(fr.take i).sum<=fr.sum:=by
    have e:(fr.take i).sum+(fr.drop i).sum=fr.sum:=by rw[<-C5,Bb]
    have nd:Nn (fr.drop i):=λj=>by
     rw[A',List.getElem?_drop];have:=(Le.nn le).2 (i+j);rwa [A'] at this
    have:=(dP (i:=1) (by decide) nd).1;lia
   lia
  show{p,1,SqT.of ak,0,3,2,?_};have MW:=s3 _ _ Nc;have Ni:=s2.trans s3;generalize upd H2 p (.tup [.int i,.int x])=H3 at s3 MW Ni;show{1,.inl {0,_,SqL.of MW},1,2,(zB rfl),λl1 H4 n1 s4 h1=>?_};show{1,1,fr.map .i,(i:Int),_,(OC.mono Ni).mono s4,0,LX (by lia),λu hu=>?_};rw[aG hu];show{1,2,.i ((i:Int)+1),_,aD h1 (am bw ao),0,4,4,Ah (az (by lia)),λl2 H5 n2 s5 h2=>?_};rw[<-D1] at h2;have{_,e,NB}:=iL h2;cases e;have M7:=s5 _ _ (s4 _ _ MW);show{fo,l2,2,M7,NB,Ah (ml (by rw[A1,A1,BJ];lia)),{3},((Ni.trans s4).trans s5).put NJ,?_};rw[ak,yy le hx hy,A7,Int.add_comm 1 (i:Int)]
 .rintro σ H2 ⟨⟨v3,v4,rfl⟩,s2,Nc⟩;rw[A1,AI,ll,AI] at Nc;show{1,kk fo H2 s2 NJ (j4 Nc)}
def L6:OKQ T.X54 P w base 2 (spOne iB):=by
 show FbO T.X54 jE λ_ _ _ _ H vs Q E hr h=>?_;have{v1,v2,q,L,0,Qt,OC,aq,d2,kk}:=h;show{_,(ai (pSA (i:=4) jE.nd (aK af))
  (ai (aC AF rfl (nZ (by rfl) T.n_enumerate (pv 3)) (cy rfl (aV (pGA (i:=5) jE.nd) (aV (pGA (i:=6) jE.nd) cg))) (aj (aT (aJ fe (pv 6) ag (aH _)) (ai (pSA (i:=7) jE.nd (bh (ab (pv 0) (ab (pv 1) (ab (pcq (j8 T) hr T.X17 (ab (pv 2) (ab (pv 5) (ab ag af)))) (ab (pcq (j8 T) hr T.X17 (ab (pv 3) (ab (pv 5) (ab (fL fM ag) af)))) af))))))
  (aj (aL (bA AU Af Ae b8 (pv 4) (ab (bh (ab ag (ab (aK (ab (ah aI (pv 5) ag) af)) (ab (pv 7) af)))) af))))) aU)))
  (aj (ap (pv 4))))),?_}
 have{fa,0,hf}:=bP OC;have hl:=aq.hl;have fl:=aq.fl;have L5:=aq.L5;show{AO _,λfo H1 NJ s1 Nj=>?_};show{1,fa,0,{_,SqT.of (s1 _ _ hf)},vD (xs:=q.f.map V.int) (λi σ H2=>(E3 λv5 v6 v7=>σ=[some (.int q.d),some (.int q.k),some v1,some (.ref fa),some (.ref fo),v5,v6,v7])/\ae H H2/\Acc H H2 fo (((List.range i).flatMap (eA q)).map smD)/\((List.range i).flatMap (eA q)).length<=i) {{none,none,none,0},s1,Acc.start Nj,A9 _} (λi σ H2 _ h=>SqT.of (h.2.1 _ _ hf)) ?_ ?_}
 .rintro i y σ H2 p hi ⟨⟨v5,v6,v7,rfl⟩,s2,⟨zs,Nc,hz⟩,pl⟩ np;rw[AD] at hi;have{x,hx,0}:=AB.mp hi;have il:i<q.f.length:=(A8.mp hx).1;have ex:q.f.getD i 0=x:=by rw[A',hx];rfl
  have s3:ae H2 (upd H2 p (.tup [.int i,.int x])):=ae.new np;have nx:(List.range (i+1)).flatMap (eA q)=(List.range i).flatMap (eA q)++eA q i:=by
   rw[B0,Ax,Bc,List.flatMap_nil,BE]
  rw[nx];have zl:=hz.length;rw[A1] at zl;generalize (List.range i).flatMap (eA q)=R at hz pl zl;show{p,1,SqT.of ak,0,3,2,?_};generalize upd H2 p (.tup [.int i,.int x])=H3 at s3;have Ni:=s2.trans s3;show{1,2,1,bq (λhg=>?_) (λhg=>?_)}
  .have hg:x>0:=hg;unfold eA;rw[ex,A6 hg];show{1,1,1,1,v1,q.h,i,(1),0,Qt.mono Ni,4,4,λu1 H4 s4 No=>?_};show{1,1,(1),0,.ref fa,q.f,i,-1,0,(OC.mono Ni).mono s4,il,4,λu2 H5 s5 N5=>{(zB rfl),λt6 H6 n6 s6 h6=>?_}};have hq6:Is H6 (qD ⟨q.d,q.k,wmF q.h i 1,wmF q.f i (-1)⟩) (.ref t6):=bi h6 (am bw (am bw (am ((No.mono s5).mono s6) (am (N5.mono s6) ao))));have s26:=((s3.trans s4).trans s5).trans s6;show{1,.inl {0,_,SqL.of (s26 _ _ Nc)},1,2,(zB rfl),λl7 H7 n7 s7 h7=>{1,(zB rfl),λt8 H8 n8 s8 h8=>?_}};have s28:=(s26.trans s7).trans s8;show{fo,zs,1,0,s28 _ _ Nc,az (by lia),{_,3},(s2.trans s28).put NJ,?_,by rw[AA];change _+1<=_;lia};rw[A7];show Acc.add s2 s28 Nc hz ?_;show bi (lz s28 h8) (am bw (am (xP (s26.free n7) (j4 (t:=[(i:Int)+1]) (s8 _ _ h7))) (am (xQ (iJ s28) ((hq6.mono s7).mono s8)) ao)))
  .have hg:¬x>0:=hg;unfold eA;rw[ex,A5 hg,BE];show{{_,3},Ni,Acc.mono s3 {zs,Nc,hz},4}
 .rintro σ H2 ⟨⟨v5,v6,v7,rfl⟩,s2,MR,_⟩;rw[A1] at MR;show{1,kk fo H2 s2 NJ (MR.is NJ)}
def yz(h:n<=12600000):n<sizeLine:=by rw[At];lia
theorem rk{q:Ask4}(hl:q.f.length<=5):∀(F:SD (SD Int)),(F.flatMap (eB q)).length<=F.length*390625
 |[]=>AO _
 |x::F=>by
  rw[Bc,AA,AW,Ck];have h1:=rk hl F;have h2:=qo (n:=8) (wt:=q.d-1-wtF x) (row:=q.f) (first:=0) hl;have:(eB q x).length<=390625:=by unfold eB;rw[A1];show h2
  lia
def L7:OKQ T.X55 P w base 11 (spOne iD):=by
 show FbO T.X55 jF λ_ _ _ _ H vs Q E hr h=>?_;have{v1,v2,q,L,0,Qt,OC,aq,d2,kk}:=h;show{_,(ai (pSA (i:=4) jF.nd (aK af))
  (ai (aC AF rfl (aP (pcq (LW T) hr T.X50 (ab (pv 2) af))) (pGA (i:=5) jF.nd) (aj (aC AF rfl (aP (pcq (yr T 8) hr T.X51 (ab (pv 3) (ab (ah aF (ah aF (pv 0) ag) (pcq (yp T) hr T.X47 (ab (pv 5) af))) (ab ag af))))) (pGA (i:=6) jF.nd) (ai (pSA (i:=7) jF.nd (bh (ab (ah aF (pv 0) ag) (ab (ah aI (ah aF (ah aF (ah aI (pv 1) (bf (vE rfl) (by rfl) T.n_sum boot_sum (ab (pv 6) af))) (bf (vE rfl) (by rfl) T.n_sum boot_sum (ab (pv 3) af))) (pv 0)) ag) (ab (pv 5) (ab (pv 6) af))))))
  (aj (aL (bA AU Af Ae b8 (pv 4) (ab (bh (ab (ah aW (pcq (yw T) hr T.X52 (ab (pv 2) (ab (pv 5) af))) (pcq (yw T) hr T.X52 (ab (pv 6) (ab (pv 3) af)))) (ab (pcq (L4 T) hr T.X53 (ab (pv 3) (ab (pv 6) af))) (ab (pv 7) af)))) af))))))))
  (aj (ap (pv 4))))),?_}
 have{fa,0,hf}:=bP OC;have hl:=aq.hl;have fl:=aq.fl;have L5:=aq.L5;have sm:=aq.sums;have dL:=aq.dL;have wq:=aq.wt;have wh:=eC (i:=1) (by decide) aq.hn;have wf:=eC (i:=1) (by decide) aq.fn;show{AO _,λfo H1 NJ s1 Nj=>?_};show{1,v1,q.h,0,Qt.mono s1,aq.hn,4,4,λkl H2 s2 nkl hkl=>?_};have Od:=s1.trans s2;have{_,kvs,e,hkl2,hki}:=aA hkl;cases e;have klen:kvs.length=(rwF q.h).length:=by rw[hki.length,A1]
 have k32:(rwF q.h).length<=32:=by have:=qm aq.hn (by lia) q.h.length;rwa [AI] at this
 have kfo:kl≠fo:=by rintro rfl;rw[Nj] at nkl;cases nkl
 unfold iD at kk;show{kl,0,{_,SqL.of hkl2},aZ (xs:=kvs) (λi σ H3=>(E3 λv5 v6 v7=>σ=[some (.int q.d),some (.int q.k),some v1,some (.ref fa),some (.ref fo),v5,v6,v7])/\ae H H3/\H3 kl=some (.lst kvs)/\av H2 H3/\Acc H H3 fo ((((rwF q.h).take i).flatMap (eB q)).map smD)) {{none,none,none,0},Od,hkl2,av.of_same (ae.refl _),(Acc.start Nj).mono s2} (λi σ H3 _ h=>SqL.of h.2.2.1) ?_ ?_}
 .rintro i y σ H3 hi ⟨⟨v5,v6,v7,rfl⟩,s3,Sg,t3,⟨zs,MW,hz⟩⟩;have{kp,hkp,hy}:=aR hki hi;have il:i<(rwF q.h).length:=(A8.mp hkp).1;have QN:=AH hkp;have lk:=ql aq.hn QN;have wk0:=eC (i:=1) (by decide) (Le.nn lk).1;have wk1:=lk.wt (i:=1) (by decide);have nx:((rwF q.h).take (i+1)).flatMap (eB q)=((rwF q.h).take i).flatMap (eB q)++eB q kp:=by
   rw[AL,hkp,Ax];simp
  have bnd:=rk (q:=q) (by lia) ((rwF q.h).take (i+1));rw[nx] at bnd⊢;rw[AA,AV] at bnd;have zl:=hz.length;rw[A1] at zl;generalize ((rwF q.h).take i).flatMap (eB q)=R at hz bnd zl;have RR:Is H3 (tI kp) y:=fJ t3 hy;show{1,1,2,1,y,kp,0,RR,by have:=lk.len;lia,λH4 s4=>{2,?_}};have O1:=s3.trans s4;unfold eB at bnd⊢;rw[A1] at bnd;have few:∀fr∈rbF 8 q.f (q.d-1-wtF kp) 0,AskOk L ⟨q.d-1,q.k+fr.sum-q.f.sum-q.d+1,kp,fr⟩/\6*(q.d-1)+fr.sum+1<=muF q/\Le kp q.h/\Le q.f fr/\fr.sum<=5:=λfr hfr=>aq.few d2 QN hfr;show{.ref fa,q.f,q.d-1-wtF kp,(0),0,OC.mono O1,aq.fn,4,by unfold wtF at*;lia,5,by unfold wtF at*;lia,by unfold wtF at*;lia,by unfold wtF at*;lia,by unfold wtF at*;lia,5,λrl H5 s5 Oh OO=>?_};have{_,NE,e,O3,NT}:=aA OO;cases e;have Nd:NE.length=(rbF 8 q.f (q.d-1-wtF kp) 0).length:=by rw[NT.length,A1]
  have Qy:=s4.trans s5;have M7:=Qy _ _ MW;have rfo:rl≠fo:=by rintro rfl;rw[s4 _ _ MW] at Oh;cases Oh
  have rkl:kl≠rl:=by rintro rfl;rw[s4 _ _ Sg] at Oh;cases Oh
  generalize rbF 8 q.f (q.d-1-wtF kp) 0=O at NT few Nd bnd;show{rl,0,{_,SqL.of O3},aZ (xs:=NE) (λj σ H6=>(E2 λv6 v7=>σ=[some (.int q.d),some (.int q.k),some v1,some (.ref fa),some (.ref fo),some y,v6,v7])/\ae H H6/\H6 kl=some (.lst kvs)/\H6 rl=some (.lst NE)/\av H5 H6/\Acc H H6 fo ((R++(O.take j).map (iC q kp)).map smD)) {{3},s3.trans Qy,Qy _ _ Sg,O3,av.of_same (ae.refl _),by simpa using Acc.mono Qy {zs,MW,hz}} (λj σ H6 _ h=>SqL.of h.2.2.2.1) ?_ ?_}
  .rintro j b σ H6 hj ⟨⟨v6,v7,rfl⟩,s6,Sh,P',t6,⟨ws,OY,hw⟩⟩;have{fr,hfr,hb}:=aR NT hj;have jl:j<O.length:=(A8.mp hfr).1;have{f1,f2,f3,f4,f5}:=few fr (AH hfr);have Si:Is H6 (tI fr) b:=fJ t6 hb;have hy6:Is H6 (tI kp) y:=fJ t6 (RR.mono Qy);have wl:=hw.length;rw[A1,AA,A1,AV] at wl;have nx2:(O.take (j+1)).map (iC q kp)=(O.take j).map (iC q kp)++[iC q kp fr]:=by
    rw[AL,hfr,A7];rfl
   rw[nx2,<-BV];have{ba,0,hba}:=bP Si;show{1,2,1,1,ba,fr,0,SqT.of hba,2,1,fa,q.f,0,SqT.of (s6 _ _ hf),2,1,2,2,1,1,(zB rfl),λt7 H7 n7 s7 h7=>?_};have hq7:Is H7 (qD ⟨q.d-1,q.k+fr.sum-q.f.sum-q.d+1,kp,fr⟩) (.ref t7):=bi h7 (am bw (am bw (am (hy6.mono s7) (am (Si.mono s7) ao))));have Sj:=s6.trans s7;show{1,.inl {0,_,SqL.of (s7 _ _ OY)},1,1,v1,y,q.h,kp,0,Qt.mono Sj,hy6.mono s7,f3,4,λH8 s8=>?_};show{1,1,.ref ba,.ref fa,fr,q.f,0,(Si.mono s7).mono s8,(OC.mono Sj).mono s8,f4,f5,λH9 s9=>?_};have c1:=lK f3 (by lia);have c2:=lK f4 f5;show{2,.inl {4,4},1,1,.ref fa,.ref ba,q.f,fr,0,((OC.mono Sj).mono s8).mono s9,((Si.mono s7).mono s8).mono s9,f4,by have:=f4.len;lia,f5,λl10 H10 QT n10 h10=>?_};show{1,(zB rfl),λt11 H11 n11 Se h11=>?_};have s610:=((s7.trans s8).trans s9).trans QT;have Ou:=s610.trans Se;have n10':H6 l10=none:=((s7.trans s8).trans s9).free n10;show{fo,ws,1,0,Ou _ _ OY,yz (by lia),{3},(s6.trans Ou).put NJ,by rw[au kfo];show Ou _ _ Sh,by rw[au rfo];show Ou _ _ P',(t6.trans (av.of_same Ou)).trans (av.upd (Ou _ _ OY)),?_};rw[A7];show Acc.add s6 Ou OY hw ?_;show bi (lz Ou h11) (am bw (am (xP n10' (h10.mono Se)) (am (xQ (iJ Ou) ((((hq7.mono s8).mono s9).mono QT).mono Se)) ao)))
  .rintro σ H6 ⟨⟨v6,v7,rfl⟩,s6,Sh,P',t6,MR⟩;rw[Nd,AI] at MR;show{{_,3},s6,Sh,(t3.trans (av.of_same Qy)).trans t6,MR}
 .rintro σ H3 ⟨⟨v5,v6,v7,rfl⟩,s3,Sg,t3,MR⟩;rw[klen,AI] at MR;show{1,kk fo H3 s3 NJ (MR.is NJ)}
def L8{L:Nat}(a:AskOk L q):(iB q).length<=5/\(iD q).length<=12500000:=by
 have h5:=a.L5;have fl:=a.fl;have k32:(rwF q.h).length<=32:=by have:=qm a.hn a.sums.2.1 q.h.length;rwa [AI] at this
 show{?_,BA (rk (by lia) _) (by lia)};unfold iB;show BA (j5 (m:=1) λp _=>?_) (by rw[BN];lia);unfold eA;split<;>simp
def L9:OKQ T.X56 P w base 12 spSms:=by
 show FbO T.X56 jG λ_ _ _ _ H vs Q E hr h=>?_;have{v,q,L,0,hv,aq,d2,kk}:=h;show{_,(ai (pSA (i:=1) jG.nd (ay aQ (pv 0) ag (λ_ _=>rfl)))
  (ai (pSA (i:=2) jG.nd (ay aQ (pv 0) ag (λ_ _=>rfl)))
  (ai (pSA (i:=3) jG.nd (ay aQ (pv 0) ag (λ_ _=>rfl)))
  (ai (pSA (i:=4) jG.nd (ay aQ (pv 0) ag (λ_ _=>rfl)))
  (aj (ap (ah km (pcq (L6 T) hr T.X54 (ab (pv 1) (ab (pv 2) (ab (pv 3) (ab (pv 4) af))))) (pcq (L7 T) hr T.X55 (ab (pv 1) (ab (pv 2) (ab (pv 3) (ab (pv 4) af)))))))))))),?_}
 show{1,_,(0),_,hv,0,0,λu1 k1=>?_};rw[aG k1];show{1,_,(1),_,hv,0,0,λu2 k2=>?_};rw[aG k2];show{1,_,(2),_,hv,0,0,λu3 k3=>?_};show{1,_,(3),_,hv,0,0,λu4 k4=>?_};show{1,1,1,1,u3,u4,q,L,0,k3,k4,aq,d2,λl1 H1 s1 n1 h1=>?_};show{1,1,1,1,u3,u4,q,L,0,k3.mono s1,k4.mono s1,aq,d2,λl2 H2 s2 n2 h2=>?_};have{_,xs,e,g1,i1}:=aA h1;cases e;have{_,zs,e,g2,i2}:=aA h2;cases e;have Oq:H2 l1=some (.lst xs):=s2 _ _ (bx _ _ g1);have NB:H2 l2=some (.lst zs):=bx _ _ g2;have sl:=L8 aq;have xl:=i1.length;have zl:=i2.length;rw[A1] at xl zl;show{l1,l2,xs,zs,0,0,Oq,NB,Ah (yz (by lia)),λp np=>?_};have s3:ae H2 (upd H2 p (.lst (xs++zs))):=ae.new np;have hp:upd H2 p (.lst (xs++zs)) p=some (.lst (xs++zs)):=ak;generalize upd H2 p (.lst (xs++zs))=H3 at s3 hp;have npH:H p=none:=(s1.trans s2).free np;show kk p H3 ((s1.trans s2).trans s3) npH (aD (by rw[bZ npH];show hp) ?_);unfold eU;rw[A7];show(i1.mono (fB (s2.trans s3))).append ((i2.mono (iw s1)).mono (fB s3))
theorem yA:∀n:Nat,FnOk P w K mg base CX0 (n+13) T.f57 T.d57 ["asked","known"] (spCnt P w n)
 |0=>{λvs H Q E h=>(by have{_,_,_,_,_,_,_,a,h,_}:=h;have:=a.mu;lia),λA outer s H args us vs Q E _ _ _ _ h=>(by have{_,_,_,_,_,_,_,a,h,_}:=h;have:=a.mu;lia)}
 |n+1=>by
  have ih:=yA n;show T.X57.F.ok iq (λvs H Q E h=>?_) (λNa A outer s H vs Q E hr h=>?_)
  .have{_,_,_,_,_,0,_}:=h;rfl
  .have{v,kn,q,L,R,0,hv,aq,hn,hD,hK,kk}:=h;show{_,(ai (aT (aJ dU (ay aQ (pv 0) ag (λ_ _=>rfl)) ag (aH _)) (aj (ap ag)) aU)
   (ai (aT (aJ cB (ay aQ (pv 0) ag (λ_ _=>rfl)) ag (aH _)) (aj (ap (rL (aJ cB (ay aQ (pv 0) ag (λ_ _=>rfl)) ag (aH _)) ag ag))) aU)
   (ai (aT (rH (HH (dj hr) (pv 0) (pv 1)) rfl) (ai (pSA (i:=2) iq.nd ag)
   (ai (aC AF rfl (aP (pcq (L9 T) hr T.X56 (ab (pv 0) af) (by lia))) (cy rfl (aV (pGA (i:=3) iq.nd) (aV (pGA (i:=4) iq.nd) (aV (pGA (i:=5) iq.nd) cg)))) (aj (gf (i:=2) iq.nd rfl (by trivial) (ah aW (ah aW (pv 3) (pcq (LV T) hr T.X18 (ab (pv 4) af) (by lia))) (fN ih hr (by rfl) T.X57.m T.X57.F.kp T.X57.B .nil fP (ab (pv 5) (ab (pv 1) af)))) ke)))
   (aj (HI (dj hr) (pv 1) (pv 0) (pv 2) rfl)))) aU)
   (aj (ap (HG (dj hr) (pv 1) (pv 0) (λ_ _=>rfl))))))),?_}
   show{1,_,(1),_,hv,0,0,λu1 k1=>?_};rw[aG k1];show{2,1,bq (λhz=>?_) (λhz=>?_)}
   .have hz:q.k<0:=hz;rw[Jk hz] at kk;show kk R H (But.of_same (ae.refl _)) hD hK
   have hz:¬q.k<0:=hz;show{1,_,(0),_,hv,0,0,λu2 k2=>?_};rw[aG k2];show{0,1,cD (λh1=>?_) (λh1=>?_)}
   .rw[Jl hz h1] at kk;show{1,_,(1),_,hv,0,0,λu3 k3=>?_};rw[aG k3];show{0,1,cD (λh2=>?_) (λh2=>?_)}
    .rw[A6 h2] at kk;show kk R H (But.of_same (ae.refl _)) hD hK
    .rw[A5 h2] at kk;show kk R H (But.of_same (ae.refl _)) hD hK
   have d2:2<=q.d:=by have:=aq.d1;lia
   have hk:=qX hv;show{1,1,kn,tK R,kq q,0,hD,hk,1,?_};rw[mh];by_cases Pj:kq q∈R.map (·.1)
   .rw[A6 Pj];show bJ {1,1,kn,tK R,kq q,.int (cF q),0,hD,hk,by rw[mh,A6 Pj,hK.get Pj],kk R H (But.of_same (ae.refl _)) hD hK}
   .rw[A5 Pj];show dY ?_;show{1,v,q,L,0,hv,aq,d2,λl0 H2 s2 Rk Pn=>?_};have hS:∀x∈eU q,AskOk L x.2.2/\muF x.2.2+1<=muF q/\(0<=x.1/\x.1<=1024)/\(∀w∈x.2.1,1<=w/\w<=5)/\x.2.1.length<=5:=λx hx=>{(aq.less d2 hx).1,(aq.less d2 hx).2,Li aq d2 hx};have hW:=Jm aq hz h1;generalize eU q=S at hS hW Pn;have{_,Ng,e,Sk,hli'}:=aA Pn;cases e;have NB:H2 l0=some (.lst Ng):=bx _ _ Sk;have Oc:Iss H2 (S.map smD) Ng:=hli'.mono bx;have NI:Ng.length=S.length:=by rw[Oc.length,A1]
    have Ov:=hD.mono s2;have l0kn:l0≠kn:=by
     have{_,_,xs,_,e}:=hD;rintro rfl;rw[e] at Rk;cases Rk
    show{l0,0,{_,SqL.of NB},aZ (xs:=Ng) (λi σ H3=>(E3 λv3 v4 v5=>σ=[some v,some (.ref kn),some (.int (((S.take i).map λx=>x.1*cM x.2.1*cF x.2.2).sum)),v3,v4,v5])/\But kn H2 H3/\∃R',DM P w H3 kn (tK R')/\KnQ L R') {{none,none,none,0},But.of_same (ae.refl _),R,Ov,hK} (λi σ H3 _ h=>SqL.of (h.2.1 _ _ NB l0kn)) ?_ ?_}
    .rintro i y σ H3 hi ⟨⟨v3,v4,v5,rfl⟩,Oe,R3,PD,hK3⟩;have{x,M6,hy}:=aR Oc hi;have{x1,x2,x3,x4,x5}:=hS x (AH M6);have hx3:Is H3 (smD x) y:=hy.lts (qZ Ov Oe);have{t,Rw,0,ht,Oi}:=br hx3;have{u1,us,0,No,Oi}:=aN Oi;have{u2,us,0,N5,Oi}:=aN Oi;have{u3,us,0,hu3,Oi}:=aN Oi;rw[bn Oi,aG No] at ht;have{p0,p1}:=xS x4;have p2:(5:Int)^x.2.1.length<=3125:=by
      have:x.2.1.length=0\/x.2.1.length=1\/x.2.1.length=2\/x.2.1.length=3\/x.2.1.length=4\/x.2.1.length=5:=by lia
      rcases this with e|e|e|e|e|e<;>rw[e]<;>decide
     have m0:=Ch x3.1 p0;have m1:=DD x3.2 (Int.le_trans p1 p2) p0 (by decide);show{t,1,SqT.of ht,0,3,3,2,?_};show{1,1,1,u2,x.2.1,0,N5,x4,2,.inl {4,4},1,1,u3,kn,x.2.2,L,R3,0,hu3,x1,4,PD,hK3,λR4 H4 Pq OQ hK4=>?_};show{2,.inl {4,4},2,{some (.int x.1),some u2,some u3,?_},Oe.trans Pq,R4,OQ,hK4};rw[AL,M6,A7,C5];simp
    .rintro σ H3 ⟨⟨v3,v4,v5,rfl⟩,Oe,R3,PD,hK3⟩;rw[NI,AI,<-hW];have but03:But kn H H3:=(But.of_same s2).trans Oe;have hv3:Is H3 (qD q) v:=(hv.mono s2).lts (qZ Ov Oe);have Oz:=hK3.len aq.L5;show{1,1,1,kn,tK R3,kq q,0,PD,qX hv3,by rw[KP,At];lia,λH4 OQ k4=>?_};rw[xF hK3.1] at OQ;have Pq:But kn H3 H4:=λc o e n=>by rw[k4 c n];show e
     have Sl:=hv3.lts (qZ PD Pq);have{g1,g2}:=xO (k:=kq q) (v:=cF q) (R:=R3);show{1,1,kn,_,kq q,.int (cF q),0,OQ,qX Sl,by rw[mh,A6 g2,g1],kk _ H4 (but03.trans Pq) OQ (hK3.put aq (by lia))}
def yB{a:SD Int}(h:Nn a)(hl:a.length<=n):(cb n a).length=n/\Nn (cb n a)/\wtF (cb n a)=wtF a:=by
 have nr:∀(m:Nat) {t:SD Int},Nn t->Nn (t++List.replicate m 0):=λm=>by
  induction m with
  |zero=>intro t h;simpa using h
  |succ m ih=>intro t h;rw[List.replicate_succ',<-BV];show Jg (ih h) (by decide)
 show{?_,nr _ h,Jn};unfold cb;rw[AA,BJ];lia
def Ma{k:Nat}{a b:SD Int}(hw:Wide d k)(ra:eY a)(rb:eY b)(e:wtF a+wtF b=d)(la:a.length<=d)(lb:b.length<=d):AskOk d {d,k,cb d a,cb d b}:=by
 have{a1,a2,a3}:=yB ra.1 la;have{b1,b2,b3}:=yB rb.1 lb;unfold Wide at hw;show{a1,b1,a2,b2,by rw[a3,b3];show e,by change(1:Int)<=(d:Int);lia,DR _,4,by change(k:Int)<=6;lia}
def Mb:OKQ T.X58 P w base 4 spAsk:=by
 show FbO T.X58 Iz λ_ _ _ _ H vs Q E hr h=>?_;have{d,k,v1,v2,a,b,0,hw,h1,h2,ra,rb,e,la,lb,kk}:=h;show{_,(ai (aL (pcq (mr T) hr T.X3 (ab (pv 0) (ab (pv 1) af))))
  (ai (aL (pcq (LU T) hr T.X48 (ab (pv 0) (ab (pv 2) (ab (pv 3) af)))))
  (aj (ap (bh (ab (pv 0) (ab (pv 1) (ab (pcq (yq T) hr T.X49 (ab (pv 2) (ab (pv 0) af))) (ab (pcq (yq T) hr T.X49 (ab (pv 3) (ab (pv 0) af))) af))))))))),?_}
 have d5:d<=5:=by unfold Wide at hw;lia
 show{1,1,d,k,0,hw,?_};show{1,1,1,d,v1,v2,a,b,0,h1,h2,ra,rb,e,λH1 s1=>?_};show{1,1,1,1,v1,a,d,0,h1.mono s1,la,d5,λu1 H2 s2 No=>?_};show{1,1,v2,b,d,0,(h2.mono s1).mono s2,lb,d5,λu2 H3 s3 N5=>?_};show{(zB rfl),λt H4 nt s4 ht=>kk _ H4 (((s1.trans s2).trans s3).trans s4) ?_};show bi ht (am bw (am bw (am ((No.mono s3).mono s4) (am (N5.mono s4) ao))))
def Mc:OKQ T.X59 P w base 54 spByE:=by
 show FbO T.X59 IA λ_ _ _ _ H vs Q E hr h=>?_;have{d,k,v1,v2,a,b,0,hw,h1,h2,ra,rb,e,la,lb,kk}:=h;show{_,(aj (ap (pcq (yA T 40) hr T.X57 (ab (pcq (Mb T) hr T.X58 (ab (pv 0) (ab (pv 1) (ab (pv 2) (ab (pv 3) af))))) (ab HJ af))))),?_};have aq:=Ma hw ra rb e la lb;show{1,1,1,1,d,k,v1,v2,a,b,0,hw,h1,h2,ra,rb,e,la,lb,λu H1 s1 hu=>?_};intro kn H2 nkn hD k2;have s2:ae H1 H2:=λb o e=>by rw[k2 b (by rintro rfl;rw[nkn] at e;cases e)];show e
 have nknH:H kn=none:=s1.free nkn;show{u,kn,_,d,[],0,hu.mono s2,aq,by have:=aq.mu;lia,hD,{7,λx hx=>nomatch hx},λR' H3 Oe PD hK3=>kk H3 ?_};show But.same (s1.trans s2) nknH Oe
def j9{xs:SD (SD Int)}{x:SD Int}(h:xs[j]? =some x):r∈xs.take (j+1)↔r∈xs.take j\/r=x:=by
 rw[AL,h,BP];simp
def Md:OKQ T.X63 P w base 1 spBy:=by
 show FbO T.X63 ir λNa A outer s H vs Q E hr h=>?_;have{v,q,n,g,F,L,0,hv,Rh,RV,hq,hgn,kk}:=h;show{_,(ai (pSA (i:=2) ir.nd kr)
  (ai (aC AF rfl (dS (by rfl) T.n_range (ab ag (ab (ah aI (pv 1) ag) af))) (pGA (i:=3) ir.nd) (aj (gp (bB hr) (pv 2) (pv 3) kr rfl)))
  (ai (aC AF rfl (aP (pv 0)) (cy rfl (aV (pGA (i:=3) ir.nd) (aV (pGA (i:=4) ir.nd) (aV (pGA (i:=5) ir.nd) cg)))) (aj (aT (aJ iX (pv 3) (pv 1) (aH _)) (aj (gp (bB hr) (du (bB hr) (pv 2) (pv 3) (λ_ _=>rfl)) (pv 4) (pv 5) rfl)) aU)))
  (aj (ap (pv 2)))))),?_}
 have{la,Ng,0,hla,Oc}:=aA hv;have NI:Ng.length=L.length:=by rw[Oc.length,A1]
 have hn4:=hq.2.2;show λf nf=>{1,2,(1),1,{5,5,4,4},?_};rw[show((g:Int)+1-1).toNat=g by lia];show cA (lo:=1) (n:=g) (λi σ H2=>(E3 λv3 v4 v5=>σ=[some (.ref la),some (.int g),some (.ref f),v3,v4,v5])/\ae H H2/\∃b:Nat->Sx,H2 f=some (.dK (aY b i))/\(∀d,1<=d->d<=i->H2 (b d)=some (.dK (dI []))/\H (b d)=none/\b d≠f)/\∀d e,1<=d->d<=i->1<=e->e<=i->b d=b e->d=e) {{none,none,none,0},ae.new nf,λ_=>f,ak,λd h1 h2=>absurd h1 (by lia),λd e h1 h2=>absurd h1 (by lia)} ?_ ?_
 .rintro i σ H2 hi ⟨⟨v3,v4,v5,rfl⟩,s2,b,hf,hb,inj⟩;rw[show(1:Int)+(i:Int)=((i+1:Nat):Int) by lia];show λp np=>?_;have pf:f≠p:=by rintro rfl;rw[hf] at np;cases np
  have pb:∀d,1<=d->d<=i->b d≠p:=λd h1 h2 e=>by rw[<-e,(hb d h1 h2).1] at np;cases np
  show{1,1,f,1,c7.k (H:=upd H2 p (.dK [])) (kvs:=aY b i) (k:= .inl ((i+1:Nat):Int)) (by rw[au pf];show hf) ?_,?_}
  .rw[lN];show az (by lia)
  rw[wW];show{{_,3},(s2.trans (ae.new np)).put nf,_,ak,λd h1 h2=>?_,λd e h1 h2 h3 h4 h5=>?_}
  .by_cases e:d=i+1
   .rw[A6 e,au (BG pf),ak];show{0,s2.free np,BG pf}
   .have{b1,b2,b3}:=hb d h1 (by lia);rw[A5 e,au b3,au (pb d h1 (by lia))];show{b1,b2,b3}
  .by_cases e1:d=i+1
   .by_cases e2:e=i+1
    .lia
    .rw[A6 e1,A5 e2] at h5;show absurd h5.symm (pb e h3 (by lia))
   .by_cases e2:e=i+1
    .rw[A5 e1,A6 e2] at h5;show absurd h5 (pb d h1 (by lia))
    .rw[A5 e1,A5 e2] at h5;show inj d e h1 (by lia) h3 (by lia) h5
 .rintro σ H2 ⟨⟨v3,v4,v5,rfl⟩,s2,b,hf,hb,inj⟩;show{1,la,0,{_,SqL.of (s2 _ _ hla)},aZ (xs:=Ng) (λj σ H3=>(E3 λv3 v4 v5=>σ=[some (.ref la),some (.int g),some (.ref f),v3,v4,v5])/\ae H H3/\H3 f=some (.dK (aY b g))/\∃X:Nat->SD (Nat×Int),∀d,1<=d->d<=g->H3 (b d)=some (.dK (dI (X d)))/\bL (q*d) (X d)/\∀s,vF (X d) s=if bH d s (F d s)∈L.take j then F d s else 0) {{_,3},s2,hf,λ_=>[],λd h1 h2=>{(hb d h1 h2).1,bL.nil _,λs=>by simp[vF]}} (λj σ H3 _ h=>SqL.of (h.2.1 _ _ hla)) ?_ ?_}
  .rintro j y σ H3 hj ⟨⟨v3,v4,v5,rfl⟩,s3,OP,X,hX⟩;have{r,Nx,hy}:=aR Oc hj;have{d,s,0,d1,dg,s1,sq}:=Rh _ (AH Nx);have dn:d<=n:=by lia
   have{ya,0,Rm}:=bP hy;have{x1,x2,x3}:=hX d d1 dg;show{ya,1,SqT.of (s3 _ _ Rm),0,3,3,2,?_};show{1,1,2,1,bq (λ_=>?_) (λc=>absurd c (by lia))};show{1,1,1,f,.ref (b d),0,iF (.inl OP) d1 dg,1,b d,1,c7.k (k:= .inl (s:Int)) x1 ?_,?_}
   .rw[lP];have:=x2.len;have:=hq.le dn;show az (by lia)
   rw[wQ];show{{_,3},s3.put (hb d d1 dg).2.1,by rw[au (BG (hb d d1 dg).2.2)];show OP,λe=>if e=d then eV (X d) s (F d s) else X e,λe e1 eg=>?_};by_cases ed:e=d
   .subst ed;dsimp only;rw[A6 rfl];show{ak,x2.put s1 sq,λs'=>?_};rw[wU];by_cases es:s'=s
    .subst es;rw[A6 rfl,A6 ((j9 Nx).mpr (.inr rfl))]
    .rw[A5 es,x3];by_cases hm:bH e s' (F e s')∈L.take j
     .rw[A6 hm,A6 ((j9 Nx).mpr (.inl hm))]
     .rw[A5 hm,A5 λz=>((j9 Nx).mp z).elim hm λz=>es (qv z).2.1]
   .have{y1,y2,y3}:=hX e e1 eg;dsimp only;rw[A5 ed,au λz=>ed (inj e d e1 eg d1 dg z)];show{y1,y2,λs'=>?_};rw[y3];by_cases hm:bH e s' (F e s')∈L.take j
    .rw[A6 hm,A6 ((j9 Nx).mpr (.inl hm))]
    .rw[A5 hm,A5 λz=>((j9 Nx).mp z).elim hm λz=>ed (qv z).1]
  .rintro σ H3 ⟨⟨v3,v4,v5,rfl⟩,s3,OP,X,hX⟩;show{1,kk f b X H3 s3 {.inl OP,λd h1 h2=>{.inl (hX d h1 h2).1,(hX d h1 h2).2.1}} ?_}
   funext d s
   unfold cn;by_cases hd:1<=d/\d<=g
   .rw[A6 hd,(hX d hd.1 hd.2).2.2 s,NI,AI];by_cases e:F d s=0
    .rw[e];split<;>rfl
    .rw[A6 (RV d s e)]
   .rw[A5 hd];show Classical.byContradiction λe=>?_;have{d',s',er,d1,dg,_}:=Rh _ (RV d s (BG e));have{0,_}:=qv er;show hd {d1,dg}
def yC:OKQ T.X60 P w base 1 spPt:=by
 show FbO T.X60 IB λ_ _ _ _ H vs Q E hr h=>?_;have{d,k,0,d1,d5,kk}:=h;show{_,(aj (ap (ah aF (ah gg (ah aW (pv 0) (ah aI (pv 0) ag)) ag) (pv 1)))),?_};rw[<-Ls d5] at kk;show{1,1,2,2,.inr {4,4},2,{5,5},1,2,kk}
def yD:OKQ T.X61 P w base 55 spCR:=by
 show FbO T.X61 IC λ_ _ _ _ H vs Q E hr h=>?_;have{d,k,0,hW,kk}:=h;show{_,(aj (ap (bh (ab (pv 0) (ab (pcq (yC T) hr T.X60 (ab (pv 0) (ab (pv 1) af))) (ab (pcq (Mc T) hr T.X59 (ab (pv 0) (ab (pv 1) (ab (aK af) (ab (aK (ab (pv 0) af)) af))))) af)))))),?_};have d1:1<=d:=hW.1;have d5:d<=5:=by unfold Wide at hW;lia
 show{1,1,1,d,k,0,d1,4,1,1,AO _,λl1 H1 n1 s1 h1=>{1,(zB rfl),λl2 H2 n2 s2 h2=>?_}};have r1:Is H2 (rwL []) (.ref l1):=j4 (s2 _ _ h1);have r2:Is H2 (rwL [(d:Int)]) (.ref l2):=j4 h2;have ro:eY [(d:Int)]:={λi=>by cases i<;>simp,7,.inr {[],d,0,4}}
 show{d,k,_,_,[],[(d:Int)],0,hW,r1,r2,{λi=>by simp,7,.inl rfl},ro,by simp[wtF,wtG],7,by simpa using d1,λH3 s3=>?_};rw[JD hW];show{(zB rfl),λt H4 n4 s4 h4=>kk _ H4 (((s1.trans s2).trans s3).trans s4) (fk h4)}
def Me:OKQ T.X62 P w base 56 spRU:=by
 show FbO T.X62 lp λ_ _ _ _ H vs Q E hr h=>?_;have{d,0,d4,kk}:=h;show{_,(ai (pSA (i:=1) lp.nd (aK af))
  (ai (aC AF rfl (dS (by rfl) T.n_range (ab ag (ab (ah aI (pv 0) ag) af))) (pGA (i:=2) lp.nd) (aj (aC AF rfl (fc (by rfl) T.n_range (ab (ah aI (ah gg (ah aW (pv 2) (ah aF (pv 2) ag)) ag) ag) af)) (pGA (i:=3) lp.nd) (aj (aL (bA AU Af Ae b8 (pv 1) (ab (pcq (yD T) hr T.X61 (ab (pv 2) (ab (pv 3) af))) af)))))))
  (aj (ap (pv 1))))),?_}
 show{AO _,λf H1 nf s1 hf=>?_};show{1,2,(1),1,{5,5,4,4},?_};rw[show((d:Int)+1-1).toNat=d by lia];show cA (lo:=1) (n:=d) (λi σ H2=>(E2 λv2 v3=>σ=[some (.int d),some (.ref f),v2,v3])/\ae H H2/\∃vs,H2 f=some (.lst vs)/\Iss H2 ((dm i).map tI) vs) {{none,none,0},s1,[],hf,ao} ?_ ?_
 .rintro i σ H2 hi ⟨⟨v2,v3,rfl⟩,s2,QQ,OM,Oo⟩;rw[show(1:Int)+(i:Int)=((i+1:Nat):Int) by lia];have hh:=KW (d:=i+1) (by lia) (by lia);have tl:=Lv (d:=i+1) (by lia);have ul:=x8 (i:=i) (by lia);have pl:=Lu (d:=i+1) (by lia);show{1,1,2,2,.inr {4,4},2,{5,5},2,1,by rw[hh];lia,by rw[hh];lia,?_};rw[hh,show(((i+1)*(i+1-1)/2:Nat):Int)+1=(((i+1)*i/2+1:Nat):Int) by rw[Nat.add_sub_cancel];lia,B1];rw[Nat.add_sub_cancel] at tl pl;show cA (lo:=0) (n:=(i+1)*i/2+1) (λj σ H3=>(∃v3,σ=[some (.int d),some (.ref f),some (.int ((i+1:Nat):Int)),v3])/\ae H H3/\∃vs,H3 f=some (.lst vs)/\Iss H3 ((dm i++(List.range j).map λk=>bH (i+1) (ptF (i+1)-k) (cT (i+1) k)).map tI) vs) {{1},s2,QQ,OM,by simpa using Oo} ?_ ?_
  .rintro j σ H3 hj ⟨⟨v3,rfl⟩,s3,P7,OP,hi3⟩;rw[DC];have vl:=hi3.length;rw[A1,AA,A1,BN] at vl;show{1,.inl {0,_,SqL.of OP},1,1,i+1,j,0,{4,.inl {4,4}},λv H4 s4 hv=>?_};show{f,P7,1,0,s4 _ _ OP,az (by lia),{1},(s3.trans s4).put nf,_,ak,?_};have er:(dm i++(List.range (j+1)).map λk=>bH (i+1) (ptF (i+1)-k) (cT (i+1) k))=(dm i++(List.range j).map λk=>bH (i+1) (ptF (i+1)-k) (cT (i+1) k))++[bH (i+1) (ptF (i+1)-j) (cT (i+1) j)]:=by
    rw[B0,A7,<-BV];rfl
   rw[er,A7];have t5:=av.upd (s4 _ _ OP) (ys:=P7++[v]);show(gN ((av.of_same s4).trans t5) hi3).append (am (fJ t5 ?_) ao);rw[show bH (i+1) (ptF (i+1)-j) (cT (i+1) j)=[((i+1:Nat):Int),((ptF (i+1):Nat):Int)-(j:Int),cT (i+1) j] by unfold bH;rw[Int.natCast_sub (by lia)]];show hv
  .rintro σ H3 ⟨⟨v3,rfl⟩,s3,P7,OP,hi3⟩;show{{3},s3,P7,OP,?_};unfold dm;rw[gI];show hi3
 .rintro σ H2 ⟨⟨v2,v3,rfl⟩,s2,QQ,OM,Oo⟩;show{1,kk f H2 s2 nf (aD OM Oo)}
def rm:OKQ T.X5 P w base 1 spCh:=by
 show FbO T.X5 fV λ_ _ _ _ H vs Q E hr h=>?_;have{n,k,0,n0,n1,kk}:=h;show{_,(ai (aT (fb (aJ dU (pv 1) ag (aH _)) (gd (aJ fe (pv 1) (pv 0) (aH _)))).pt (aj (ap ag)) aU)
  (ai (pSA (i:=2) fV.nd ag)
  (ai (aC AF rfl (fc (by rfl) T.n_range (ab (pv 1) af)) (pGA (i:=3) fV.nd) (aj (pSA (i:=2) fV.nd (ah gg (ah aW (pv 2) (ah aF (pv 0) (pv 3))) (ah aI (pv 3) ag)))))
  (aj (ap (pv 2)))))),?_}
 show{1,2,1,bq (λh=>dY ?_) (λh=>?_)}
 .rw[show cho n k=0 from A6 (.inl h)] at kk;show kk
 .show{1,1,2,1,bq (λh2=>?_) (λh2=>?_)}
  .rw[show cho n k=0 from A6 (.inr h2)] at kk;show kk
  .rw[show cho n k=chG n k.toNat from A5 (by lia)] at kk;show{1,1,4,4,cA (n:=k.toNat) (λi σ H2=>(∃v3,σ=[some (.int n),some (.int k),some (.int (chG n i)),v3])/\H2=H) {{none,0},0} ?_ ?_}
   .rintro i σ H2 hi ⟨⟨v3,rfl⟩,rfl⟩;show{1,1,1,2,2,.inr {4,4},1,2,2,{4,4},{1},0}
   .rintro σ H2 ⟨⟨v3,rfl⟩,rfl⟩;show{1,kk}
def Mf:OKQ T.X64 P w base 2 spAdd:=by
 show FbO T.X64 jH λNa A outer s H vs Q E hr h=>?_;have{t,wa,c,ts,ws,cs,m,k,sg,0,hsg,ht,ots,hw,ows,hc,ocs,hmk,tw,tc,wc,hb,kk}:=h;show{_,(aj (aC AF rfl (nP (pv 1)) (pGA (i:=4) jH.nd) (aj (aC AF rfl (nP (pv 2)) (pGA (i:=5) jH.nd) (ai (pSA (i:=6) jH.nd (ah aI (pv 4) (pv 5)))
  (ai (pSA (i:=7) jH.nd (ah aW (ah aW (du (bB hr) (pv 1) (pv 4) (λ_ _=>rfl)) (du (bB hr) (pv 2) (pv 5) (λ_ _=>rfl))) (pcq (rm T) hr T.X5 (ab (ah aF (pv 6) ag) (ab (ah aF (pv 4) ag) af)))))
  (aj (gp (bB hr) (pv 0) (pv 6) (ah aI (mO (bB hr) (pv 0) (pv 6) ag {0,0,0,0}) (ah aW (pv 3) (pv 7))) rfl)))))))),?_}
 show{1,wa,dI ws,0,hw,λo H1 hw1 k1=>?_};show nQ (λj σ H2=>(E4 λv4 v5 v6 v7=>σ=[some (.ref t),some (.ref wa),some (.ref c),some (.int sg),v4,v5,v6,v7])/\H2 wa=some (.frz o (.dK (dI ws)))/\Pz (H c) (H2 c)/\(∃ts',H2 t=some (.dK (dI ts'))/\bL (m+k) ts'/\∀s,vF ts' s=vF ts s+sg*gJ (ws.take j) cs s)/\∀b,b≠t->b≠wa->b≠c->H2 b=H b) {{none,none,none,none,0},hw1,Pz.of_eq (k1 c (BG wc)),{ts,by rw[k1 t tw];show ht,ots,λs=>by simp[gJ]},λb _ h2 _=>k1 b h2} (λj σ H2 _ h=>h.2.1) ?_ ?_
 .rintro j ky vv σ H2 hj ⟨⟨v4,v5,v6,v7,rfl⟩,hw2,NS,⟨tsj,R6,ot2,OC⟩,Pf⟩;have{x,hx,0}:=wY hj;have{x1,x2}:=ows.2 x (AH hx);have vx:vF ws x.1=x.2:=qx ows.1 (AH hx);show{1,c,dI cs,0,Pz.rd NS hc,λo2 H3 hc3 k3=>?_};show nQ (λi σ H4=>(E3 λv5 v6 v7=>σ=[some (.ref t),some (.ref wa),some (.ref c),some (.int sg),some (.int (x.1:Int)),v5,v6,v7])/\H4 wa=some (.frz o (.dK (dI ws)))/\H4 c=some (.frz o2 (.dK (dI cs)))/\(∃ts',H4 t=some (.dK (dI ts'))/\bL (m+k) ts'/\∀s,vF ts' s=vF tsj s+sg*prd x (cs.take i) s)/\∀b,b≠t->b≠wa->b≠c->H4 b=H b) {{_,3},by rw[k3 wa wc];show hw2,hc3,{tsj,by rw[k3 t tc];show R6,ot2,λs=>by simp[prd]},λb b1 b2 b3=>by rw[k3 b b3];show Pf b b1 b2 b3} (λi σ H4 _ h=>h.2.2.1) ?_ ?_
  .rintro i ky2 vv2 σ H4 hi ⟨⟨v5,v6,v7,rfl⟩,hw4,hc4,⟨tsi,PF,ot4,Sl⟩,Qf⟩;have{y,hy,0}:=wY hi;have{y1,y2}:=ocs.2 y (AH hy);have vy:vF cs y.1=y.2:=qx ocs.1 (AH hy);have es:(x.1:Int)+(y.1:Int)=((x.1+y.1:Nat):Int):=by lia
   have{c0,c1}:=Jt (s:=x.1+y.1) (r:=x.1) (by lia) (by lia) (by lia) (by lia);show{1,1,2,?_};show{1,1,wa,.int (vF ws x.1),0,wX (.inr {o,hw4}) (xZ hx),1,1,c,.int (vF cs y.1),0,wX (.inr {o2,hc4}) (xZ hy),2,hb _ _,1,2,1,2,?_};show{(x.1:Int)+(y.1:Int)-1,(x.1:Int)-1,0,4,4,2,.inr ?_,?_}
   .rw[es];show{Int.lt_of_lt_of_le (by decide) c0,Int.lt_trans c1 (by decide)}
   show{1,t,0,.inl {_,.inl PF},1,aM (dI tsi) (.inl ((x.1+y.1:Nat):Int)),cU.k (k:= .inl ((x.1+y.1:Nat):Int)) PF,?_};rw[xY];show{1,1,2,.inl (by rcases hsg with e|e<;>rw[e]<;>decide),2,1,1,t,1,c7.k (k:= .inl ((x.1+y.1:Nat):Int)) PF ?_,?_}
   .rw[lP];have:=ot4.len;show az (by lia)
   rw[wQ];show{{_,3},by rw[au (BG tw)];show hw4,by rw[au (BG tc)];show hc4,{_,ak,ot4.put (by lia) (by lia),λs=>?_},λb b1 b2 b3=>by rw[au b1];show Qf b b1 b2 b3};rw[wU,Jv hy];by_cases e:s=x.1+y.1
   .subst e;rw[A6 rfl,A6 rfl,Sl,vx,vy,Int.mul_add,Int.add_assoc];unfold chS;rw[es]
   .rw[A5 e,A5 (BG e),Sl];simp
  .rintro σ H4 ⟨⟨v5,v6,v7,rfl⟩,hw4,hc4,⟨tsi,PF,ot4,Sl⟩,Qf⟩;rw[lP,AI] at Sl;show{{_,_,3},hw4,Pz.frz hc hc4,{tsi,PF,ot4,λs=>?_},Qf};rw[Sl,OC,Jw hx,Int.mul_add,Int.add_assoc]
 .rintro σ H2 ⟨⟨v4,v5,v6,v7,rfl⟩,hw2,NS,⟨ts2,R6,ot2,OC⟩,Pf⟩;show kk H2 ts2 R6 ot2 (λs=>?_) (λb bt=>?_) Pf
  .rw[OC,lP,AI,Ju ows ocs (by lia) (by lia)]
  .by_cases e1:b=wa
   .rw[e1];show Pz.frz hw hw2
   .by_cases e2:b=c
    .rw[e2];show NS
    .show Pz.of_eq (Pf b bt e1 e2)
def Mg:OKQ T.X65 P w base 3 spWBy:=by
 show FbO T.X65 lq λNa A outer s H vs Q E hr h=>?_;have{a,q,n,g,b,X,0,hT,hq,hgn,hbd,kk}:=h;show{_,(ai (pSA (i:=1) lq.nd kr)
  (ai (aC AF rfl (nP (pv 0)) (pGA (i:=2) lq.nd) (ai (gp (bB hr) (pv 1) (pv 2) (i0 GV (by rfl) T.n_dict PyProof.Rows.Boot.«dict» (ab (du (bB hr) (pv 0) (pv 2) (λ_ _=>rfl)) af)) rfl)
  (aj (aC AF rfl (dS (by rfl) T.n_range (ab ag (ab (pv 2) af))) (pGA (i:=3) lq.nd) (aj (aL (pcq (Mf T) hr T.X64 (ab (du (bB hr) (pv 1) (pv 2) (λ_ _=>rfl)) (ab (du (bB hr) (pv 1) (pv 3) (λ_ _=>rfl)) (ab (du (bB hr) (pv 0) (ah aF (pv 2) (pv 3)) (λ_ _=>rfl)) (ab (fL fM ag) af)))))))))))
  (aj (ap (pv 1))))),?_}
 show λp np=>?_;have s1:ae H (upd H p (.dK [])):=ae.new np;have hp1:upd H p (.dK []) p=some (.dK []):=ak;generalize upd H p (.dK [])=H1 at s1 hp1⊢;have T1:=hT.fz (Fz.of_same s1);have pa:p≠a:=by rintro rfl;show iM hT.1 np
 show{1,a,aY b g,0,T1.1,λo H2 ha2 k2=>?_};have z2:=(Fz.of_same s1).trans (Fz.walk T1.1 ha2 k2);show nQ (λi σ H3=>(E2 λv2 v3=>σ=[some (.ref a),some (.ref p),v2,v3])/\H3 a=some (.frz o (.dK (aY b g)))/\Fz H H3/\E2 λb' X'=>H3 p=some (.dK (aY b' i))/\(∀d,1<=d->d<=i->Rd H3 (b' d) (.dK (dI (X' d)))/\bL (q*d) (X' d)/\H (b' d)=none/\b' d≠p)/\Wh i (cn g X) (cn i X')) {{none,none,0},ha2,z2,λ_=>p,λ_=>[],by rw[k2 p pa];show hp1,λd h1 h2=>absurd h1 (by lia),λd s=>by rw[A5 (by lia)];unfold cn;rw[A5 (by lia)]} (λi σ H3 _ h=>h.2.1) ?_ ?_
 .rintro i ky vv σ H3 hi ⟨⟨v2,v3,rfl⟩,ha3,z3,b',X',hp3,QW,hW⟩;have hig:i<g:=by
   have:=(A8.mp hi).1
   rwa [lN] at this
  rw[wV hig] at hi;cases hi;have T3:=hT.fz z3;have{tb,te}:=T3.2 (i+1) (by lia) (by lia);show{1,1,a,.ref (b (i+1)),0,iF (.inr {o,ha3}) (by lia) (by lia),b (i+1),1,tb,λt nt=>?_};have tp:t≠p:=by rintro rfl;rw[hp3] at nt;cases nt
  have ta:t≠a:=by rintro rfl;rw[ha3] at nt;cases nt
  have ntH:H t=none:=z3.free nt;show{1,1,p,1,c7.k (H:=upd H3 t (.dK (dI (X (i+1))))) (kvs:=aY b' i) (k:= .inl ((i+1:Nat):Int)) (by rw[au (BG tp)];show hp3) ?_,?_}
  .rw[lN];have:=hq.2.2;show az (by lia)
  rw[wW];have nb:∀d,1<=d->d<=i->b' d≠t:=λd h1 h2 e=>iM (QW d h1 h2).1 (e▸nt);have nc:∀d,1<=d->d<=g->b d≠t:=λd h1 h2 e=>iM (T3.2 d h1 h2).1 (e▸nt);have npb:∀d,1<=d->d<=g->b d≠p:=λd h1 h2 e=>iM (hT.2 d h1 h2).1 (e▸np);have z4:Fz H (upd (upd H3 t (.dK (dI (X (i+1))))) p (.dK (aY (λd=>if d=i+1 then t else b' d) (i+1)))):=(z3.put ntH).put np;have PF:upd (upd H3 t (.dK (dI (X (i+1))))) p (.dK (aY (λd=>if d=i+1 then t else b' d) (i+1))) t=some (.dK (dI (X (i+1)))):=by rw[au tp,ak]
  have hp4:upd (upd H3 t (.dK (dI (X (i+1))))) p (.dK (aY (λd=>if d=i+1 then t else b' d) (i+1))) p=some (.dK (aY (λd=>if d=i+1 then t else b' d) (i+1))):=ak;have ha4:upd (upd H3 t (.dK (dI (X (i+1))))) p (.dK (aY (λd=>if d=i+1 then t else b' d) (i+1))) a=some (.frz o (.dK (aY b g))):=by rw[au (BG pa),au (BG ta)];show ha3
  have Sa:∀d,1<=d->d<=i->Rd (upd (upd H3 t (.dK (dI (X (i+1))))) p (.dK (aY (λd=>if d=i+1 then t else b' d) (i+1)))) (b' d) (.dK (dI (X' d))):=λd h1 h2=>Lr (QW d h1 h2).1 (by rw[au (QW d h1 h2).2.2.2,au (nb d h1 h2)]);generalize upd (upd H3 t (.dK (dI (X (i+1))))) p (.dK (aY (λd=>if d=i+1 then t else b' d) (i+1)))=H4 at z4 PF hp4 ha4 Sa⊢;show{1,(1),1,{5,5,by have:=hq.2.2;lia,by have:=hq.2.2;lia},?_};rw[show(((i+1:Nat):Int)-1).toNat=i by lia];show cA (lo:=1) (n:=i) (λm σ H5=>(∃v3,σ=[some (.ref a),some (.ref p),some (.int ((i+1:Nat):Int)),v3])/\H5 a=some (.frz o (.dK (aY b g)))/\Fz H H5/\H5 p=some (.dK (aY (λd=>if d=i+1 then t else b' d) (i+1)))/\(∀d,1<=d->d<=i->Rd H5 (b' d) (.dK (dI (X' d))))/\∃ts,H5 t=some (.dK (dI ts))/\bL (q*(i+1)) ts/\∀s,vF ts s=cn g X (i+1) s-bS (λe=>cv (cn i X' (e+1)) (cn g X (i+1-(e+1))) s) m) {{1},ha4,z4,hp4,Sa,_,PF,te,λs=>by rw[iN (g:=g) (by lia) (by lia)];simp[bS]} ?_ ?_
  .rintro m σ H5 hm ⟨⟨v3,rfl⟩,ha5,z5,Qg,hb5,ts,ht5,ot5,QR⟩;have T5:=hT.fz z5;have em:(1:Int)+(m:Int)=((m+1:Nat):Int):=by lia
   rw[em];have ed:((i+1:Nat):Int)-((m+1:Nat):Int)=((i+1-(m+1):Nat):Int):=by lia
   have{tc,oc}:=T5.2 (i+1-(m+1)) (by lia) (by lia);have hg1:=iF (H:=H5) (a:=p) (d:=i+1) (.inl Qg) (by lia) (by lia);have hg2:=iF (H:=H5) (a:=p) (d:=m+1) (.inl Qg) (by lia) (by lia);have hg3:=iF (H:=H5) (a:=a) (d:=i+1-(m+1)) (.inr {o,ha5}) (by lia) (by lia);rw[A6 rfl] at hg1;rw[A5 (by lia)] at hg2;rw[<-ed] at hg3;have hbm:=hb5 (m+1) (by lia) (by lia);have{_,obm,nbH,nbp}:=QW (m+1) (by lia) (by lia);have eqd:q*(i+1)=q*(m+1)+q*(i+1-(m+1)):=by rw[<-Nat.mul_add];congr 1;lia
   show{1,1,p,1,hg1,1,1,p,1,hg2,1,1,1,2,a,1,hg3,(1),0,?_};show{t,b' (m+1),b (i+1-(m+1)),ts,X' (m+1),X (i+1-(m+1)),q*(m+1),q*(i+1-(m+1)),-1,0,.inr rfl,ht5,by rw[<-eqd];show ot5,hbm,obm,tc,oc,by rw[<-eqd];show hq.le (by lia),BG (nb _ (by lia) (by lia)),BG (nc _ (by lia) (by lia)),?_,?_,?_}
   .intro e;show iM (hT.2 (i+1-(m+1)) (by lia) (by lia)).1 (e▸nbH)
   .intro r s;rw[iN (g:=i) (X:=X') (by lia) (by lia),iN (g:=g) (X:=X) (by lia) (by lia)];show hbd i _ (by lia) hW _ _ _ _
   intro H6 ts6 ht6 ot6 hv6 pz6 Rx;have z6:Fz H H6:=λc=>by
    by_cases e:c=t
    .intro u hu;rw[e,ntH] at hu;cases hu
    .show Pz.trans (z5 c) (pz6 c e)
   rw[<-eqd] at ot6;show{{1},?_,z6,?_,λd h1 h2=>Pz.rd (pz6 _ (nb d h1 h2)) (hb5 d h1 h2),ts6,ht6,ot6,λs=>?_}
   .rw[Rx a (BG ta) (λe=>iM hT.1 (e▸nbH)) (BG (Lq hT.1 (hT.2 _ (by lia) (by lia)).1 (by lia)))];show ha5
   .rw[Rx p (BG tp) (BG nbp) (BG (npb _ (by lia) (by lia)))];show Qg
   .rw[hv6,QR,iN (g:=i) (X:=X') (by lia) (by lia),iN (g:=g) (X:=X) (by lia) (by lia)];change _=_-(bS _ m+cv (cn i X' (m+1)) (cn g X (i+1-(m+1))) s);lia
  .rintro σ H5 ⟨⟨v3,rfl⟩,ha5,z5,Qg,hb5,ts,ht5,ot5,QR⟩;show{{3},ha5,z5,_,λd=>if d=i+1 then ts else X' d,Qg,λd h1 h2=>?_,hW.next (λd s hd=>by rw[x6,A5 hd]) (λs=>by rw[x6,A6 rfl];show QR s)};by_cases e:d=i+1
   .dsimp only;rw[A6 e,A6 e,e];show{.inl ht5,ot5,ntH,tp}
   .dsimp only;rw[A5 e,A5 e];show{hb5 d h1 (by lia),(QW d h1 (by lia)).2}
 .rintro σ H3 ⟨⟨v2,v3,rfl⟩,ha3,z3,b',X',hp3,QW,hW⟩;rw[lN] at hp3 QW hW;show{1,kk p b' X' H3 z3 {.inl hp3,λd h1 h2=>{(QW d h1 h2).1,(QW d h1 h2).2.1}} hW}
def Mh:FnOk P w K mg base (CX0) 57 T.f66 T.d66 ["d","k"] spRWQ:=by
 show FbO T.X66 pK λNa A outer s H vs Q E hr h=>?_;have{d,k,0,hW,kk}:=h;show{_,(ai (aL (pcq (mr T) hr T.X3 (ab (pv 0) (ab (pv 1) af))))
  (ai (pSA (i:=2) pK.nd (pcq (yC T) hr T.X60 (ab (pv 0) (ab (pv 1) af))))
  (ai (aT (aJ dU (pv 2) ag (aH _)) (aj (ap ag)) aU)
  (ai (pSA (i:=3) pK.nd (ah dw (pcq (Me T) hr T.X62 (ab (ah aF (pv 0) ag) af)) (aK (ab (pcq (yD T) hr T.X61 (ab (pv 0) (ab (pv 1) af))) af))))
  (aj (ap (mO (bB hr) (du (bB hr) (pcq (Mg T) hr T.X65 (ab (pcq (Md T) hr T.X63 (ab (pv 3) (ab (pv 0) af))) af)) (pv 0) (λ_ _=>rfl)) (pv 2) ag {0,0,0,0}))))))),?_}
 show{1,1,d,k,0,hW,?_};have d1:1<=d:=hW.1;have d5:d<=5:=by unfold Wide at hW;lia
 show{1,1,d,(k:Int),0,d1,d5,?_};show{1,2,1,bq (λc=>?_) (λc=>?_)}
 .rw[show cN d k=0 from A6 (by lia)] at kk;show kk H (Fz.refl _)
 .have hk:k+1<=ptF d:=by lia
  rw[show cN d k=lQ d k from A5 (by lia)] at kk;have es:((ptF d:Nat):Int)-(k:Int)=((ptF d-k:Nat):Int):=by lia
  rw[es];have q5:Sz 4 d:={4,d1,d5};show{1,2,d-1,by change [V.int ((d:Int)-1)]=_;rw[show((d-1:Nat):Int)=(d:Int)-1 by lia],4,λl1 H1 s1 n1 h1=>?_};show{1,1,d,k,0,hW,λv2 H2 s2 OC=>{(zB rfl),λl3 H3 n3 s3 h3=>?_}};rw[es] at OC;have ul:=x8 (i:=d-1) (by lia);show{(dm (d-1)).map tI,[tI (bH d (ptF d-k) (cT d k))],(h1.mono s2).mono s3,aD h3 (am (OC.mono s3) ao),Ah (az (by rw[A1];simp only[AW,CG];lia)),λl4 H4 n4 s4 h4=>?_};have h4:Is H4 (.l ((jP d k).map tI)) (.ref l4):=by unfold jP;rw[A7];show h4
  show{1,1,.ref l4,(4),d,d,Nf d k,jP d k,0,h4,λr Nx=>JE {d1,4} hk Nx,λe s he=>(w4 {d1,4} hk he).2.2.2.2,q5,A9 _,λa b X H5 s5 hT hX=>?_};show{a,(4),d,d,b,X,0,hT,q5,A9 _,?_,λp b' X' H6 z6 hT6 hW6=>?_}
  .rw[hX];show λi Wq _ _ e f s t=>.inr (JH {d1,4} hk)
  rw[hX] at hW6;show{1,p,.ref (b' d),0,iF hT6.1 d1 (A9 _),?_};show{b' d,0,.inl {_,(hT6.2 d d1 (A9 _)).1},1,aM (dI (X' d)) (.inl ((ptF d-k:Nat):Int)),.inl {dI (X' d),.inl ((ptF d-k:Nat):Int),(hT6.2 d d1 (A9 _)).1,0,0},?_};rw[xY,iN (g:=d) (X:=X') d1 (A9 _),JK {d1,4} hk hW6];show kk H6 ((Fz.of_same ((((s1.trans s2).trans s3).trans s4).trans s5)).trans z6)
def Mi:FnOk P w K mg base (CX0) 4 T.f28 T.d28 ["d"] (spEdQ upE):=by
 show FbO T.X28 Iq λ_ _ _ _ H vs Q E hr h=>?_;have{d,0,i1,i2,kk}:=h;show{_,(ai (aL (pcq (iQ T) hr T.X4 (ab (pv 0) af)))
  (aj (ap (c9 (XN:=["d"]) (sc:=al kW) (N:=["x","d"]) (own:=1) (js:=[0]) rfl (by ac_nf) rfl rfl (fc (by rfl) T.n_range (ab (ah aI (pv 0) ag) af)) (λ_ _ _ _=>(bN (i:=0) (show List.Nodup (["x","d"]:SD Str) by ac_nf) rfl (Or.inl rfl) (.inr rfl))) (c8 (by decide)) (λ_ _ _ _=>dG) (λ_ _ _ _=>(bh (ab (pv 0) (ab (ah aF (pv 1) (pv 0)) af)))))))),?_}
 show{1,(d:Int),0,4,4,?_};show{1,2,1,4,4,λacc na=>?_};have en:((d:Int)+1).toNat=d+1:=by lia
 rw[en];show kw (lo:=0) (n:=d+1) (own:=1) (js:=[0]) (λi H2=>ae H H2/\bW H2 acc (((List.range i).map λi:Nat=>((i:Int),(d:Int)-(i:Int))).map pt)) {ae.new na,bW.start} ?_ ?_ db dJ ?_
 .rintro i H2 hi ⟨s2,vs,MR,Nm⟩;show fh ?_;show{1,1,1,2,(zB rfl),λt H3 nt s3 Rp=>?_};show{acc,vs,1,0,s3 _ _ MR,az (by rw[Nm.length];simp;lia),(s2.trans s3).put na,?_};rw[B0,A7,A7,DC] at*
  show gX (Nm.mono (dh s3)) (fj (p:=((i:Int),(d:Int)-i)) (by rw[dM (bz MR nt).symm];show Rp))
 .rintro H2 ⟨s2,g⟩;show kk acc H2 s2 na g.is
 .rintro σ H R R' k ⟨v1,e1,v2,e2,v3,e3,i2,j2,e4,e5,e6,h⟩;show{v1,e1,v2,e2,v3,e3,i2,j2,e4,e5,e6,λp H2 np s2 hp=>k _ _ (h p H2 np s2 hp)}
def Mj:FnOk P w K mg base (CX0) 4 T.f29 T.d29 ["d"] (spEdQ loE):=by
 show FbO T.X29 vH λ_ _ _ _ H vs Q E hr h=>?_;have{d,0,i1,i2,kk}:=h;show{_,(ai (aL (pcq (iQ T) hr T.X4 (ab (pv 0) af)))
  (ai (mT (i:=1) vH.nd rfl (by trivial) (.inl rfl) (XN:=["d","down"]) (sc:=al jy) (N:=["step","d"]) (own:=1) (js:=[0]) rfl (by ac_nf) rfl rfl (fc (by rfl) T.n_range (ab (ah aI (pv 0) ag) af)) (λ_ _ _ _=>(bN (i:=0) (show List.Nodup (["step","d"]:SD Str) by ac_nf) rfl (Or.inl rfl) (.inr rfl))) (c8 (by decide)) (λ_ _ _ _=>dG) (λ_ _ _ _=>(bh (ab ag (ab (ah aF (pv 1) (pv 0)) af)))))
  (aj (ap (ah dw (pv 1) (c9 (XN:=["d","down"]) (sc:=al jy) (N:=["x"]) (own:=1) (js:=[]) rfl (by ac_nf) rfl rfl (dS (by rfl) T.n_range (ab ag (ab (ah aI (pv 0) ag) af))) (λ_ _ _ _=>(bN (i:=0) (show List.Nodup (["x"]:SD Str) by ac_nf) rfl (Or.inl rfl) (.inr rfl))) (c8 (by decide)) (λ_ _ _ _=>dG) (λ_ _ _ _=>(bh (ab (pv 0) (ab ag af)))))))))),?_}
 show{1,(d:Int),0,4,4,?_};show{1,2,1,4,4,λacc na=>?_};have en:((d:Int)+1).toNat=d+1:=by lia
 rw[en];show kw (lo:=0) (n:=d+1) (own:=1) (js:=[0]) (λi H2=>ae H H2/\bW H2 acc (((List.range i).map λi:Nat=>((0:Int),(d:Int)-(i:Int))).map pt)) {ae.new na,bW.start} ?_ ?_ db dJ ?_
 .rintro i H2 hi ⟨s2,vs,MR,Nm⟩;show fh ?_;show{1,1,2,(zB rfl),λt H3 nt s3 Rp=>?_};show{acc,vs,1,0,s3 _ _ MR,az (by rw[Nm.length];simp;lia),(s2.trans s3).put na,?_};rw[B0,A7,A7,DC] at*
  show gX (Nm.mono (dh s3)) (fj (p:=((0:Int),(d:Int)-i)) (by rw[dM (bz MR nt).symm];show Rp))
 .rintro H2 ⟨s2,g2⟩;show{1,1,2,(1),1,{4,4,4,4},λacc2 Rn=>?_};have en2:((d:Int)+1-1).toNat=d:=by lia
  rw[en2];show kw (lo:=1) (n:=d) (own:=1) (js:=[]) (λi H3=>ae H2 H3/\bW H3 acc2 (((List.range i).map λi:Nat=>((1:Int)+(i:Int),(0:Int))).map pt)) {ae.new Rn,bW.start} ?_ ?_ db dJ ?_
  .rintro i H3 hi ⟨s3,vs,MR,Nm⟩;show fh ?_;show{1,(zB rfl),λt H4 nt s4 PF=>?_};show{acc2,vs,1,0,s4 _ _ MR,az (by rw[Nm.length];simp;lia),(s3.trans s4).put Rn,?_};rw[B0,A7,A7] at*
   show gX (Nm.mono (dh s4)) (fj (p:=((1:Int)+(i:Int),(0:Int))) (by rw[dM (bz MR nt).symm];show PF))
  .rintro H3 ⟨s3,g3⟩;show{_,_,(g2.mono s3).is,g3.is,Ah (az (by simp;lia)),λp H4 np s4 hp4=>?_};rw[<-A7] at hp4;show kk p H4 ((s2.trans s3).trans s4) ((s2.trans s3).free np) hp4
  .rintro σ H R R' k ⟨v1,e1,e6,h⟩;show{v1,e1,e6,λp H2 np s2 hp=>k _ _ (h p H2 np s2 hp)}
 .rintro σ H R R' k ⟨v1,e1,v2,e2,i2,j2,e4,e5,e6,h⟩;show{v1,e1,v2,e2,i2,j2,e4,e5,e6,λp H2 np s2 hp=>k _ _ (h p H2 np s2 hp)}
def Mk:FnOk P w K mg base (CX0) 4 T.f25 T.d25 ["d"] (spEdQ cp):=by
 show FbO T.X25 kU λ_ _ _ _ H vs Q E hr h=>?_;have{d,0,i1,i2,kk}:=h;show{_,(ai (aL (pcq (iQ T) hr T.X4 (ab (pv 0) af)))
  (ai (pSA (i:=1) kU.nd (aK af))
  (ai (aC AF rfl (fc (by rfl) T.n_range (ab (ah aI (pv 0) ag) af)) (pGA (i:=2) kU.nd) (aj (aC AF rfl (EZ (by rfl) T.n_range (ab (ah aF (pv 0) (pv 2)) (ab (fL fM ag) (ab (fL fM ag) af)))) (pGA (i:=3) kU.nd) (aj (aL (bA AU Af Ae b8 (pv 1) (ab (bh (ab (pv 2) (ab (pv 3) af))) af)))))))
  (aj (ap (pv 1)))))),?_}
 show{1,(d:Int),0,4,4,?_};show{(zB rfl),λl H1 nl s1 Oq=>?_};have en:((d:Int)+1).toNat=d+1:=by lia
 show{1,2,1,4,4,?_};rw[en];show cA (n:=d+1) (λi σ H2=>(E2 λv2 v3=>σ=[some (.int d),some (.ref l),v2,v3])/\ae H H2/\bW H2 l ((fF d i).map pt)) {{none,none,0},s1,[],Oq,ao} ?_ ?_
 .rintro i σ H2 hi ⟨⟨v2,v3,rfl⟩,s2,g2⟩;show{1,1,2,(1),0,(1),0,3,{4,4,5,5},?_};have en2:((d:Int)-(0+(i:Int))- -1).toNat=d+1-i:=by lia
  rw[en2];show E1 (n:=d+1-i) (λj σ H3=>(∃v3,σ=[some (.int d),some (.ref l),some (.int (0+i)),v3])/\ae H H3/\bW H3 l ((fF d i++fE d i j).map pt)) {{v3,0},s2,by simpa[fE] using g2} ?_ ?_
  .rintro j σ H3 hj ⟨⟨v3,rfl⟩,s3,vs,Oz,Nm⟩;show{1,.inl {0,_,SqL.of Oz},1,1,(zB rfl),λt H4 nt s4 PF=>?_};have hln:=JR d i (by lia) (by lia);show{l,vs,1,0,s4 _ _ Oz,az (by rw[Nm.length,A1,AA,w9];lia),{1},(s3.trans s4).put nl,?_};rw[JQ,<-BV,A7];show gX (Nm.mono (dh s4)) (fj (p:=((i:Int),(d:Int)-(i:Int)-(j:Int))) ?_);rw[dM (bz Oz nt).symm,PF,DC]
  .rintro σ H3 ⟨⟨v3,rfl⟩,s3,g3⟩;rw[<-w8] at g3;show{{3},s3,g3}
 .rintro σ H2 ⟨⟨v2,v3,rfl⟩,s2,g2⟩;show{1,kk l H2 s2 nl g2.is}
def yE:OKQ T.X27 P w base 1 spCrn:=by
 show FbO T.X27 Ip λ_ _ _ _ H vs Q E hr h=>?_;have{a,b,c,p,q,r,0,ha,hb,hc,i1,i2,i3,kk}:=h;show{_,(aj (ap (ah aF (ah aW (ah aF (ay aQ (pv 1) ag (λ_ _=>rfl)) (ay aQ (pv 0) ag (λ_ _=>rfl))) (ah aF (ay aQ (pv 2) ag (λ_ _=>rfl)) (ay aQ (pv 1) ag (λ_ _=>rfl)))) (ah aW (ah aF (ay aQ (pv 1) ag (λ_ _=>rfl)) (ay aQ (pv 0) ag (λ_ _=>rfl))) (ah aF (ay aQ (pv 2) ag (λ_ _=>rfl)) (ay aQ (pv 1) ag (λ_ _=>rfl))))))),?_};unfold inB at i1 i2 i3;simp only[AM,Ar] at i1 i2 i3;show{1,_,(0),_,hb,0,0,λu hu=>?_};rw[aG hu];show{1,_,(0),_,ha,0,0,λu hu=>?_};rw[aG hu];show{2,1,_,(1),_,hc,0,0,λu hu=>?_};rw[aG hu];show{1,_,(1),_,hb,0,0,λu hu=>?_};rw[aG hu];show{2,2,.inr {4,4},1,_,(1),_,hb,0,0,λu hu=>?_};rw[aG hu];show{1,_,(1),_,ha,0,0,λu hu=>?_};rw[aG hu];show{2,1,_,(0),_,hc,0,0,λu hu=>?_};rw[aG hu];show{1,_,(0),_,hb,0,0,λu hu=>?_};rw[aG hu];show{2,2,.inr {4,4},2,kk}
def Ml:OKQ T.X26 P w base 1 spIsP:=by
 show FbO T.X26 Io λ_ _ _ _ H vs Q E hr h=>?_;have{d,v,p,0,hv,kk}:=h;show{_,(aj (ap (mB (iY kh (ay aQ (pv 1) ag (λ_ _=>rfl)) ag (aH _)) (mB (iY kh (ay aQ (pv 1) ag (λ_ _=>rfl)) ag (aH _)) (mz (iY iX (ah aI (ay aQ (pv 1) ag (λ_ _=>rfl)) (ay aQ (pv 1) ag (λ_ _=>rfl))) (pv 0) (aH _))))))),?_};unfold jR at kk;show{1,_,(0),_,hv,0,0,λu hu=>?_};rw[aG hu];show{2,1,bq (λc1=>?_) (λc1=>?_)}
 .rw[B4 (show p.1>=0 from c1),Bool.true_and] at kk;show{1,_,(1),_,hv,0,0,λu hu=>?_};rw[aG hu];show{2,1,bq (λc2=>?_) (λc2=>?_)}
  .rw[B4 (show p.2>=0 from c2),Bool.true_and] at kk;show{1,_,(0),_,hv,0,0,λu hu=>?_};rw[aG hu];show{1,_,(1),_,hv,0,0,λu hu=>?_};rw[aG hu];show{2,1,2,kk}
  .rw[Ak (show¬p.2>=0 from c2),DF] at kk;show kk
 .rw[Ak (show¬p.1>=0 from c1),DF] at kk;show kk
def Mm:OKQ T.X30 P w base 2 spTurn:=by
 show FbO T.X30 vI λ_ _ _ _ H vs Q E hr h=>?_;have{v,ps,sd,0,hv,hB,hs,kk}:=h;show{_,(ai (aC AF rfl (dS (by rfl) T.n_range (ab ag (ab (ah aF (bf gY (by rfl) T.n_len DX (ab (pv 0) af)) ag) af))) (pGA (i:=2) vI.nd) (aj (aT (aJ fe (ah aW (pcq (yE T) hr T.X27 (ab (ay dN (pv 0) (ah aF (pv 2) ag) (λ_ _=>rfl)) (ab (ay dN (pv 0) (pv 2) (λ_ _=>rfl)) (ab (ay dN (pv 0) (ah aI (pv 2) ag) (λ_ _=>rfl)) af)))) (pv 1)) ag (aH _)) (aj (ap (pv 2))) aU)))
  (aj (ap rE))),?_}
 have{p1,p2}:=xh hB;have hb:∀j,j<ps.length->inB (ps.getD j zP)=true:=λj hj=>by
  unfold psB at hB;simp only[AM,AX] at hB;show hB.1 _ (jS hj)
 have sb: -1<=sd/\sd<=1:=by unfold Sd at hs;lia
 show{1,3,.inl hv,2,(1),1,{5,5,by rw[A1];lia,by rw[A1];lia},?_};rw[show((((ps.map pt).length:Nat):Int)-1-1).toNat=ps.length-2 by rw[A1];lia];show cA (lo:=1) (n:=ps.length-2) (λi σ H2=>(∃v2,σ=[some v,some (.int sd),v2])/\H2=H/\∀j,j<i->decide (crn (ps.getD j zP) (ps.getD (j+1) zP) (ps.getD (j+2) zP)*sd>0)=false) {{none,0},0,λj hj=>absurd hj (by lia)} ?_ ?_
 .rintro i σ H2 hi ⟨⟨v2,rfl⟩,rfl,hn⟩;have a0:=fH (ps:=ps) (j:=i) (by lia);have a1:=fH (ps:=ps) (j:=i+1) (by lia);have a2:=fH (ps:=ps) (j:=i+2) (by lia);show{1,1,2,_,_,_,hv,0,by rw[show(1+(i:Int))-1=((i:Nat):Int) by lia];show a0,λu0 h0=>?_};show{1,1,_,_,_,hv,0,by rw[show(1+(i:Int))=((i+1:Nat):Int) by lia];show a1,λu1 h1=>?_};show{1,1,2,_,_,_,hv,0,by rw[show(1+(i:Int))+1=((i+2:Nat):Int) by lia];show a2,λu2 h2=>?_};show{u0,u1,u2,_,3,h0,h1,h2,hb _ (by lia),hb _ (by lia),hb _ (by lia),1,2,.inr {4,4},2,1,bq (λc=>?_) (λc=>?_)}
  .show{1,?_};have e:fG ps sd=some (i+1):=by
    unfold fG;rw[xk hi hn (B4 c)];rfl
   rw[e] at kk;have:x9 (some (i+1))=.int (1+(i:Int)):=by change V.int (((i+1:Nat):Int))=_;congr 1;lia
   rw[this] at kk;show kk
  .show{{1},0,λj hj=>?_};by_cases e:j=i
   .rw[e];show Ak c
   .show hn j (by lia)
 .rintro σ H2 ⟨⟨v2,rfl⟩,rfl,hn⟩;have e:fG ps sd=none:=by
   unfold fG;rw[JX hn];rfl
  rw[e] at kk;show kk
def Mn:OKQ T.X31 P w base 3 spSteps:=by
 show FbO T.X31 gy λNa A outer s H vs Q E hr h=>?_;have{d,v,ps,sd,0,hv,hB,hs,kk}:=h;show{_,(ai (pSA (i:=3) gy.nd (pcq (Mm T) hr T.X30 (ab (pv 1) (ab (pv 2) af))))
  (ai (aT (aJ zJ (pv 3) rE (aH _)) (aj (ap (aK af))) aU)
  (ai (pSA (i:=4) gy.nd (ay dN (pv 1) (ah aF (pv 3) ag) (λ_ _=>rfl)))
  (ai (pSA (i:=5) gy.nd (ay dN (pv 1) (pv 3) (λ_ _=>rfl)))
  (ai (pSA (i:=6) gy.nd (ay dN (pv 1) (ah aI (pv 3) ag) (λ_ _=>rfl)))
  (ai (pSA (i:=7) gy.nd (aK (ab (bh (ab (bh (ab (pv 4) (ab (pv 5) (ab (pv 6) af)))) (ab (ah dw (eJ fO (pv 1) ff (dW (pv 3))) (eJ fO (pv 1) (dW (ah aI (pv 3) ag)) ff)) af))) af)))
  (ai (pSA (i:=8) gy.nd (bh (ab (ah aF (ah aI (ay aQ (pv 4) ag (λ_ _=>rfl)) (ay aQ (pv 6) ag (λ_ _=>rfl))) (ay aQ (pv 5) ag (λ_ _=>rfl))) (ab (ah aF (ah aI (ay aQ (pv 4) ag (λ_ _=>rfl)) (ay aQ (pv 6) ag (λ_ _=>rfl))) (ay aQ (pv 5) ag (λ_ _=>rfl))) af))))
  (ai (aT (e9 (pcq (Ml T) hr T.X26 (ab (pv 0) (ab (pv 8) af)))) (aj (aL (bA AU Af Ae b8 (pv 7) (ab (bh (ab (bh (ab (pv 4) (ab (pv 5) (ab (pv 6) (ab (pv 8) af))))) (ab (ah dw (ah dw (eJ fO (pv 1) ff (dW (pv 3))) (aK (ab (pv 8) af))) (eJ fO (pv 1) (dW (ah aI (pv 3) ag)) ff)) af))) af)))) aU)
  (aj (ap (pv 7))))))))))),?_}
 have{p1,p2}:=xh hB;show{1,1,v,ps,sd,0,hv,hB,hs,?_};unfold iH at kk;cases hT:fG ps sd with
 |none=>
  rw[hT] at kk;show{1,0,1,dY {AO _,λl H1 n1 s1 h1=>kk l H1 s1 n1 (aD (by rw[bZ n1];show h1) ao)}}
 |some p=>
  rw[hT] at kk;dsimp only at kk;have{t1,t2}:=JY hT;show{1,0,1,bJ ?_};change _;have a0:=fH (ps:=ps) (j:=p-1) (by lia);have a1:=fH (ps:=ps) (j:=p) (by lia);have a2:=fH (ps:=ps) (j:=p+1) (by lia);show{1,1,2,_,_,_,hv,0,by rw[show((p:Int)-1)=((p-1:Nat):Int) by lia];show a0,λua ha=>?_};show{1,1,_,_,_,hv,0,a1,λub hb=>?_};show{1,1,2,_,_,_,hv,0,by rw[show((p:Int)+1)=((p+1:Nat):Int) by lia];show a2,λuc hc=>?_};generalize ps.getD (p-1) zP=pa at kk ha;generalize ps.getD p zP=pb at kk hb;generalize ps.getD (p+1) zP=pc at kk hc;have{da,M5,0,Ob,N4}:=aA hv;have Pl:M5.length=ps.length:=by rw[N4.length,A1]
  show{1,1,1,(zB rfl),λt1' H1 n1 s1 h1=>?_};show{1,1,(p:Int),0,da,1,SqL.of (s1 _ _ Ob),?_};rw[qT];intro l2 n2;have s2:ae H1 (upd H1 l2 (.lst (M5.take p))):=ae.new n2;have h2:(upd H1 l2 (.lst (M5.take p))) l2=some (.lst (M5.take p)):=ak;generalize upd H1 l2 (.lst (M5.take p))=H2 at s2 h2⊢;show{1,1,2,(p:Int)+1,0,da,1,SqL.of (s2 _ _ (s1 _ _ Ob)),?_};rw[show((p:Int)+1)=((p+1:Nat):Int) by lia,mj (by lia)];intro l3 n3;have s3:ae H2 (upd H2 l3 (.lst (M5.drop (p+1)))):=ae.new n3;have h3:(upd H2 l3 (.lst (M5.drop (p+1)))) l3=some (.lst (M5.drop (p+1))):=ak;generalize upd H2 l3 (.lst (M5.drop (p+1)))=H3 at s3 h3⊢;have Ni:ae H H3:=(s1.trans s2).trans s3;have i2:Is H3 (pts (ps.take p)) (.ref l2):=aD (s3 _ _ h2) (by rw[List.map_take];show(N4.take p).mono Ni);have i3:Is H3 (pts (ps.drop (p+1))) (.ref l3):=aD h3 (by rw[List.map_drop];show(N4.drop (p+1)).mono Ni);show{_,_,i2,i3,Ah (az (by rw[A1,A1,AV,Bw];lia)),λq4 H4 n4 s4 h4=>{(zB rfl),λt5 H5 n5 s5 h5=>{(zB rfl),λfo H6 n6 s6 h6=>?_}}};rw[<-A7] at h4;have PH:ae H H6:=((Ni.trans s4).trans s5).trans s6;have NJ:H fo=none:=((Ni.trans s4).trans s5).free n6;have Qw:ae H H5:=(Ni.trans s4).trans s5;have is1:Is (nw H H5) (iO ([pa,pb,pc],ps.take p++ps.drop (p+1))) (.ref t5):=by
   show bi (by rw[bZ ((Ni.trans s4).free n5)];show h5) (am ?_ (am (xc Qw (Ni.free n4) (Is.mono (s:=s5) h4)) ao));show cw (iJ Qw) (bi (s5 _ _ (s4 _ _ (s3 _ _ (s2 _ _ h1)))) (am (ha.mono Qw) (am (hb.mono Qw) (am (hc.mono Qw) ao))))
  show{1,_,(0),_,ha.mono PH,0,0,λu hu=>?_};rw[aG hu];show{1,_,(0),_,hc.mono PH,0,0,λu hu=>?_};rw[aG hu];show{2,1,_,(0),_,hb.mono PH,0,0,λu hu=>?_};rw[aG hu];show{2,1,_,(1),_,ha.mono PH,0,0,λu hu=>?_};rw[aG hu];show{1,_,(1),_,hc.mono PH,0,0,λu hu=>?_};rw[aG hu];show{2,1,_,(1),_,hb.mono PH,0,0,λu hu=>?_};rw[aG hu];show{2,(zB rfl),λt7 H7 n7 s7 h7=>?_};have hf:Is H7 (pt (eD pa pb pc)) (.ref t7):=fj h7;have Sj:=PH.trans s7;show{1,1,d,3,hf,jR d (eD pa pb pc),0,?_};cases hP:jR d (eD pa pb pc) with
  |false=>
   rw[hP] at kk;show bJ {1,kk fo H7 Sj NJ ?_};show aD (by rw[bZ NJ];show s7 _ _ h6) (am (is1.mono (fB (s6.trans s7))) ao)
  |true=>
   rw[hP] at kk;show dY {1,.inl {0,_,SqL.of (s7 _ _ h6)},1,1,1,1,(zB rfl),λt8 H8 n8 s8 h8=>?_};have s08:=Sj.trans s8;show{1,1,(p:Int),0,da,1,SqL.of (s08 _ _ Ob),?_};rw[qT];intro l9 n9;have s9:ae H8 (upd H8 l9 (.lst (M5.take p))):=ae.new n9;have h9:(upd H8 l9 (.lst (M5.take p))) l9=some (.lst (M5.take p)):=ak;generalize upd H8 l9 (.lst (M5.take p))=H9 at s9 h9⊢;have s09:=s08.trans s9;show{1,(zB rfl),λla Ha na sa hla=>?_};have s0a:=s09.trans sa;show{_,[pt (eD pa pb pc)],aD (sa _ _ h9) (by rw[List.map_take];show(N4.take p).mono s0a:Iss Ha ((ps.take p).map pt) (M5.take p)),aD hla (am (((hf.mono s8).mono s9).mono sa) ao),Ah (az (by rw[A1,AV];change _+1<=1000;lia)),λlb Hb nb sb hlb=>?_};have s0b:=s0a.trans sb;show{1,1,2,(p:Int)+1,0,da,1,SqL.of (s0b _ _ Ob),?_};rw[show((p:Int)+1)=((p+1:Nat):Int) by lia,mj (by lia)];intro lc nc;have sc:ae Hb (upd Hb lc (.lst (M5.drop (p+1)))):=ae.new nc;have hlc:(upd Hb lc (.lst (M5.drop (p+1)))) lc=some (.lst (M5.drop (p+1))):=ak;generalize upd Hb lc (.lst (M5.drop (p+1)))=Hc at sc hlc⊢;have s0c:=s0b.trans sc;show{_,_,hlb.mono sc,aD hlc (by rw[List.map_drop];show(N4.drop (p+1)).mono s0c:Iss Hc ((ps.drop (p+1)).map pt) (M5.drop (p+1))),Ah (az (by rw[AA,A1,A1,AV,Bw];change _+1+_<=1000;lia)),λld Hd nd sd' hld=>{(zB rfl),λte He ne se he=>?_}};have s0d:=s0c.trans sd';have s0e:=s0d.trans se;have s8e:ae H8 He:=((((s9.trans sa).trans sb).trans sc).trans sd').trans se;have s7e:=s8.trans s8e;show{fo,2,s7e _ _ (s7 _ _ h6),az (by change 1<=1000;decide),?_};have hld':Is Hd (pts (ps.take p++[eD pa pb pc]++ps.drop (p+1))) (.ref ld):=by
    have:=hld;change Is Hd (.l ((ps.take p++[eD pa pb pc]++ps.drop (p+1)).map pt)) (.ref ld);rw[A7,A7];show this
   have is2:Is (nw H7 He) (iO ([pa,pb,pc,eD pa pb pc],ps.take p++[eD pa pb pc]++ps.drop (p+1))) (.ref te):=by
    have s7d:ae H7 Hd:=((((s8.trans s9).trans sa).trans sb).trans sc).trans sd';have s7c:ae H7 Hc:=(((s8.trans s9).trans sa).trans sb).trans sc;show bi (by rw[bZ (s7d.free ne)];show he) (am ?_ (am (xc s7e (s7c.free nd) (hld'.mono se)) ao));show cw (iJ s7e) (bi (s8e _ _ h8) (am (ha.mono s0e) (am (hb.mono s0e) (am (hc.mono s0e) (am (hf.mono s7e) ao)))))
   have acc:=Acc.add (xs:=[iO ([pa,pb,pc],ps.take p++ps.drop (p+1))]) Sj s7e (s7 _ _ h6) (am (is1.mono (JW n6 (s6.trans s7))) ao) is2;show{1,kk fo _ (s0e.put NJ) NJ (acc.is NJ)}
def Mo:OKQ T.X32 P w base 2 spPw:=by
 show FbO T.X32 Ir λ_ _ _ _ H vs Q E hr h=>?_;have{v,c,0,hv,hB,hl,kk}:=h;show{_,(ai (aT (aJ cB (bf gY (by rfl) T.n_len DX (ab (pv 0) af)) ag (aH _)) (aj (ap (bf si (by rfl) T.n_abs boot_abs (ab (pcq (yE T) hr T.X27 (ab (ay aQ (pv 0) ag (λ_ _=>rfl)) (ab (ay aQ (pv 0) ag (λ_ _=>rfl)) (ab (ay aQ (pv 0) ag (λ_ _=>rfl)) af)))) af)))) aU)
  (aj (ap ag))),?_}
 unfold pwF at kk;show{1,3,.inr hv,0,1,cD (λe=>?_) (λe=>?_)}
 .rw[A1] at e;have e3:c.length=3:=by lia
  rw[A6 e3] at kk;have a0:=fH (ps:=c) (j:=0) (by lia);have a1:=fH (ps:=c) (j:=1) (by lia);have a2:=fH (ps:=c) (j:=2) (by lia);show{1,_,(0),_,hv,0,a0,λu0 h0=>{1,_,(1),_,hv,0,a1,λu1 h1=>{1,_,(2),_,hv,0,a2,λu2 h2=>?_}}};show{u0,u1,u2,_,3,h0,h1,h2,hB _ (jS (by lia)),hB _ (jS (by lia)),hB _ (jS (by lia)),1,kk}
 .rw[A1] at e;rw[A5 (by lia)] at kk;show kk
theorem rn:∀n:Nat,FnOk P w K mg base CX0 (n+3) T.f35 T.d35 ["d","way","side","edge"] (spMan n K)
 |0=>{λvs H Q E h=>(by have{_,_,_,_,_,_,_,_,_,h,_}:=h;cases h),λA outer s H args us vs Q E _ _ _ _ h=>(by have{_,_,_,_,_,_,_,_,_,h,_}:=h;cases h)}
 |n+1=>by
  have ih:=rn n;show T.X35.F.ok jz (λvs H Q E h=>?_) (λNa A outer s H vs Q E hr h=>?_)
  .have{_,_,_,_,_,_,0,_}:=h;rfl
  .have{d,v,ev,ps,es,sd,0,hv,hev,hO,hs,kk}:=h;show{_,(ai (aT (aJ (mU hr) (pv 1) (pv 3) (aH _)) (aj (ap (aK (ab (aK af) af)))) aU)
   (ai (pSA (i:=4) jz.nd (aK af))
   (ai (aC AF rfl (aP (pcq (Mn T) hr T.X31 (ab (pv 0) (ab (pv 1) (ab (pv 2) af))) (by lia))) (cy rfl (aV (pGA (i:=5) jz.nd) (aV (pGA (i:=6) jz.nd) cg))) (aj (aC AF rfl (aP (fN ih hr (by rfl) T.X35.m T.X35.F.kp T.X35.B .nil fP (ab (pv 0) (ab (pv 6) (ab (pv 2) (ab (pv 3) af)))))) (pGA (i:=7) jz.nd) (aj (aL (bA AU Af Ae b8 (pv 4) (ab (ah dw (aK (ab (pv 5) af)) (pv 7)) af)))))))
   (aj (ap (pv 4)))))),?_}
   unfold okM at hO;simp only[AM,Ar,C7,AX] at hO;have{{{hB,M3},MS},MU}:=hO;rw[bm] at MS MU kk;show{1,1,(2),_,EQ hv hev,5,1,bq (λhz=>?_) (λhz=>?_)}
   .rw[A6 hz] at kk;show{AO _,λe0 H1 ne s1 he=>{(zB rfl),λfo H2 nf s2 Nj=>?_}};show kk fo H2 (s1.trans s2) (s1.free nf) (aD (by rw[bZ (s1.free nf)];show Nj) (am (aD (vs:=[]) (by rw[bZ ne];show s2 _ _ he) ao) ao))
   rw[A5 hz] at MS MU kk;have M3:∀x∈iH d ps sd,okM n d x.2 sd es=true:=M3.resolve_left hz;show{AO _,λfo H1 Pb s1 Nj=>?_};show{1,1,1,d,v,ps,sd,0,hv.mono s1,hB,hs,λl0 H2 s2 Rk Pn=>?_};generalize iH d ps sd=S at MS MU kk M3 Pn;have Od:=s1.trans s2;have{_,Ng,e,Sk,Oc}:=aA Pn;cases e;have NB:H2 l0=some (.lst Ng):=bx _ _ Sk;have l0fo:l0≠fo:=by rintro rfl;rw[Nj] at Rk;cases Rk
   have NI:Ng.length=S.length:=by rw[Oc.length,A1]
   have hliH:Iss (hid H2 fo) (S.map iO) Ng:=(Oc.mono (ix (ae.refl H1) Nj)).mono (dh bx);show{l0,0,{_,SqL.of NB},aZ (xs:=Ng) (λi σ H3=>(E3 λv5 v6 v7=>σ=[some (.int d),some v,some (.int sd),some ev,some (.ref fo),v5,v6,v7])/\ae H H3/\But fo H2 H3/\Acc H H3 fo (((S.take i).flatMap λx=>(bm n d x.2 sd es).map (x.1:: ·)).map bT)) {{none,none,none,0},Od,λ_ _ e _=>e,Acc.start (s2 _ _ Nj)} (λi σ H3 _ h=>SqL.of (h.2.2.1 _ _ NB l0fo)) ?_ ?_}
   .rintro i y σ H3 hi ⟨⟨v5,v6,v7,rfl⟩,s3,Oe,Ry⟩;have{x,M6,hy}:=aR hliH hi;have hx3:Is H3 (iO x) y:=hy.mono (mi Oe);have{t,Rw,0,ht,Oi}:=br hx3;have{u1,us,0,No,Oi}:=aN Oi;have{u2,us,0,N5,Oi}:=aN Oi;rw[bn Oi] at ht;have tk:((S.take (i+1)).flatMap λx=>(bm n d x.2 sd es).map (x.1:: ·))=((S.take i).flatMap λx=>(bm n d x.2 sd es).map (x.1:: ·))++(bm n d x.2 sd es).map (x.1:: ·):=by
     rw[AL,M6,Ax];simp
    have pre:((S.take i).flatMap λx=>(bm n d x.2 sd es).map (x.1:: ·)).length+(bm n d x.2 sd es).length<=100:=by
     have:((S.take (i+1)).flatMap λx=>(bm n d x.2 sd es).map (x.1:: ·)).length<=(S.flatMap λx=>(bm n d x.2 sd es).map (x.1:: ·)).length:=by
      conv=>rhs;rw[<-Bb (i+1) S]
      rw[Ax,AA];lia
     rw[tk,AA,A1] at this;lia
    have items:∀r∈bm n d x.2 sd es,r.length<=100:=λr hr=>by
     have:=MU (x.1::r) (BB.mpr {x,AH M6,Ai.mpr {r,hr,0}});rw[AW] at this;lia
    show{t,1,SqT.of ht,0,3,2,?_};show{1,1,1,1,d,u2,ev,x.2,es,sd,0,N5,hev.mono s3,M3 x (AH M6),hs,λrl H4 s4 Oh OO=>?_};have{P7,MW,hi3}:=id Ry;have hfo4:=s4 _ _ MW;have{_,NE,e,P9,NT}:=aA OO;cases e;have OL:H4 rl=some (.lst NE):=bx _ _ P9;have OZ:rl≠fo:=by rintro rfl;rw[MW] at Oh;cases Oh
    have Nd:NE.length=(bm n d x.2 sd es).length:=by rw[NT.length,A1]
    have Qa:Iss (hid H4 fo) ((bm n d x.2 sd es).map bT) NE:=(NT.mono (ix (ae.refl H3) MW)).mono (dh bx);have O1:=s3.trans s4;have Pq:But fo H2 H4:=Oe.trans (But.of_same s4);show{rl,0,{_,SqL.of OL},aZ (xs:=NE) (λj σ H5=>(∃v7,σ=[some (.int d),some v,some (.int sd),some ev,some (.ref fo),some u1,some u2,v7])/\ae H H5/\But fo H4 H5/\Acc H H5 fo ((((S.take i).flatMap λx=>(bm n d x.2 sd es).map (x.1:: ·))++((bm n d x.2 sd es).take j).map (x.1:: ·)).map bT)) {{1},O1,λ_ _ e _=>e,by simpa using Ry.mono s4} (λj σ H5 _ h=>SqL.of (h.2.2.1 _ _ OL OZ)) ?_ ?_}
    .rintro j z σ H5 hj ⟨⟨v7,rfl⟩,s5,Ot,Py,M7,Pm⟩;have{r,Nx,hz}:=aR Qa hj;have hjl:j<(bm n d x.2 sd es).length:=(A8.mp Nx).1;have hz5:Is H5 (bT r) z:=hz.mono (mi Ot);have hu5:Is H5 (pcD x.1) u1:=cw (λa xs e=>Ot _ _ (s4 _ _ e) (by rintro rfl;rw[MW] at e;cases e)) No;have rl1:=items r (AH Nx);have vl:Py.length<=100:=by
      rw[Pm.length,A1,AA,A1,AV];lia
     show{1,.inl {0,_,SqL.of M7},1,(zB rfl),λq1 H6 n6 s6 h6=>{1,[pcD x.1],r.map pcD,aD h6 (am (hu5.mono s6) ao),hz5.mono s6,Ah (az (by rw[A1];change 1+r.length<=1000;lia)),λq2 H7 n7 s7 h7=>?_}};have OA:=s6.trans s7;show{fo,Py,1,0,OA _ _ M7,az (by lia),{1},(s5.trans OA).put Pb,Ot.trans ((But.of_same OA).trans But.upd),?_};rw[AL,Nx];have:=Acc.add s5 OA M7 Pm (xf (cs:=x.1::r) OA (s6.free n7) h7);simpa using this
    .rintro σ H5 ⟨⟨v7,rfl⟩,s5,Ot,Rz⟩;show{{_,3},s5,Pq.trans Ot,?_};rw[Nd,AI,<-tk] at Rz;show Rz
   .rintro σ H3 ⟨⟨v5,v6,v7,rfl⟩,s3,_,MR⟩;rw[NI,AI] at MR;show{1,kk fo H3 s3 Pb (MR.is Pb)}
def Mp:FnOk P w K mg base (CX0) 34 T.f36 T.d36 ["d","way"] spCutQ:=by
 show FbO T.X36 ik λ_ _ _ _ H vs Q E hr h=>?_;have{n,wv,ps,0,i1,i2,hw,hO,k2}:=h;show{_,(ai (aL (pcq (gO T) hr T.X1 (ab (pv 0) (ab ag (ab ag af)))))
  (ai (pSA (i:=2) ik.nd (pcq (rn T 30) hr T.X35 (ab (pv 0) (ab (pv 1) (ab (ka (v:= .int (-1)) (by rfl) T.m_RIGHT {1}) (ab (pcq (Mj T) hr T.X29 (ab (pv 0) af)) af))))))
  (ai (pSA (i:=3) ik.nd (rL (zN (pv 2) (λ_=>rfl)) (pcq (rn T 30) hr T.X35 (ab (pv 0) (ab (pv 1) (ab (ka (v:= .int (1)) (by rfl) T.m_LEFT {1}) (ab (pcq (Mi T) hr T.X28 (ab (pv 0) af)) af))))) (aK af)))
  (ai (pSA (i:=4) ik.nd (aK af))
  (ai (aC AF rfl (aP (pv 3)) (pGA (i:=5) ik.nd) (aj (aC AF rfl (aP (pv 2)) (pGA (i:=6) ik.nd) (aj (aL (bA AU Af Ae b8 (pv 4) (ab (ah dw (pv 5) (pv 6)) af)))))))
  (aj (ap (bf (Fu hr) (by rfl) T.n_sorted boot_sorted (ab (pv 4) af))))))))),?_}
 show{1,(n:Int),(1),(4),0,4,4,?_};unfold okP at hO;simp only[AM,Ar] at hO;have{{o1,o2},o4}:=hO;show{1,1,1,n,0,i1,4,λle H1 s1 nle hle=>?_};obtain⟨m,rfl⟩:∃m,m=n:={n,0};show{m,wv,.ref le,ps,loE m,-1,0,hw.mono s1,hle,o1,.inr rfl,λul H2 s2 nul hul=>?_};have Od:=s1.trans s2;have nulH:H ul=none:=s1.free nul;have hul:=hul.mono (iw s1);have Qc:=xg o1;have Qh:=xg o2;have{_,uvs,e,hul',hui}:=aA hul;cases e;have Sm:H2 ul=some (.lst uvs):=bx _ _ hul';have O6:uvs.length=(bm 30 m ps (-1) (loE m)).length:=by rw[hui.length,A1]
 by_cases hu0:bm 30 m ps (-1) (loE m)=[]
 .have u0:uvs=[]:=Bv.mp (by rw[O6,hu0];rfl);have r0:cq m ps=[]:=by unfold cq ovF;rw[A6 hu0];rfl
  rw[r0] at k2;show{1,false,.inl {_,SqL.of Sm,by rw[u0];rfl},bJ {AO _,λol H3 nol s3 QL=>?_}};show{AO _,λfo H4 NJ s4 Nj=>?_};have O1:=(Od.trans s3).trans s4;show{1,ol,0,{_,SqL.of (s4 _ _ QL)},aZ (xs:=[]) (λi σ H5=>σ=[some (.int m),some wv,some (.ref ul),some (.ref ol),some (.ref fo),none,none]/\H5=H4) {0,0} (λi σ H5 _ h=>by rw[h.2];show SqL.of (s4 _ _ QL)) (λi x σ H5 hx=>by simp at hx) ?_};rintro σ H5 ⟨rfl,rfl⟩;show{1,fo,[],0,SqL.of Nj,5,λ_ h=>(nomatch h),λ_ h=>(nomatch h),λp q pp nq=>?_};obtain rfl:p=[]:=List.Perm.eq_nil pp;show k2 [] q _ (Da _) (O1.put (O1.free nq)) (O1.free nq) (aD (by rw[bZ (O1.free nq)];show ak) ao)
 .have une:uvs≠[]:=λz=>hu0 (Bv.mp (by rw[<-O6,z];rfl));show{1,true,.inl {_,SqL.of Sm,by simp[une]},dY ?_};show{1,1,1,m,0,i1,4,λue H3 s3 nue hue=>?_};obtain⟨m',rfl⟩:∃m',m'=m:={m,0};show{m',wv,.ref ue,ps,upE m',(1),0,(hw.mono Od).mono s3,hue,o2,.inl rfl,λol H4 s4 nol QL=>?_};have Ni:=Od.trans s3;have O1:=Ni.trans s4;have QL:=QL.mono (iw Ni);have{_,ovs,e,RU,P1}:=aA QL;cases e;have hol4:H4 ol=some (.lst ovs):=bx _ _ RU;have eov:ovF m' ps=bm 30 m' ps 1 (upE m'):=by unfold ovF;rw[A5 hu0]
  rw[<-eov] at P1 Qh;have olen:ovs.length=(ovF m' ps).length:=by rw[P1.length,A1]
  have hoi4:Iss H4 ((ovF m' ps).map bT) ovs:=P1.mono bx;have s24:=s3.trans s4;have hui4:Iss H4 ((bm 30 m' ps (-1) (loE m')).map bT) uvs:=(hui.mono bx).mono s24;have hul4:=s24 _ _ Sm;have QX:cq m' ps=(ovF m' ps).flatMap λx=>(bm 30 m' ps (-1) (loE m')).map λy=>x++y:=rfl;generalize bm 30 m' ps (-1) (loE m')=U at hui4 O6 QX Qc;generalize ovF m' ps=O at P1 hoi4 olen QX Qh;show{AO _,λfo H5 NJ s5 Nj=>?_};show{1,ol,0,{_,SqL.of (s5 _ _ hol4)},aZ (xs:=ovs) (λi σ H6=>(E2 λv5 v6=>σ=[some (.int m'),some wv,some (.ref ul),some (.ref ol),some (.ref fo),v5,v6])/\ae H4 H6/\Acc H4 H6 fo (((O.take i).flatMap λx=>U.map λy=>x++y).map bT)) {{none,none,0},s5,Acc.start Nj} (λi σ H6 _ h=>SqL.of (h.2.1 _ _ hol4)) ?_ ?_}
  .rintro i y σ H6 hi ⟨⟨v5,v6,rfl⟩,s6,Pg⟩;have{x,M6,hy}:=aR hoi4 hi;have tk:((O.take (i+1)).flatMap λx=>U.map λy=>x++y)=((O.take i).flatMap λx=>U.map λy=>x++y)++U.map λy=>x++y:=by
    rw[AL,M6,Ax];simp
   have pre:((O.take i).flatMap λx=>U.map λy=>x++y).length+U.length<=100:=by
    have:((O.take (i+1)).flatMap λx=>U.map λy=>x++y).length<=(cq m' ps).length:=by
     rw[QX]
     conv=>rhs;rw[<-Bb (i+1) O]
     rw[Ax,AA];lia
    rw[tk,AA,A1] at this;lia
   show{1,ul,0,{_,SqL.of (s6 _ _ hul4)},aZ (xs:=uvs) (λj σ H7=>(∃v6,σ=[some (.int m'),some wv,some (.ref ul),some (.ref ol),some (.ref fo),some y,v6])/\ae H4 H7/\Acc H4 H7 fo ((((O.take i).flatMap λx=>U.map λy=>x++y)++(U.take j).map λy=>x++y).map bT)) {{1},s6,by simpa using Pg} (λj σ H7 _ h=>SqL.of (h.2.1 _ _ hul4)) ?_ ?_}
   .rintro j z σ H7 hj ⟨⟨v6,rfl⟩,s7,vs7,O0,hi7⟩;have{r,Nx,hz}:=aR hui4 hj;have hjl:j<U.length:=(A8.mp Nx).1;have x1:=Qh.2 x (AH M6);have r1:=Qc.2 r (AH Nx);have vl:vs7.length<=100:=by
     rw[hi7.length,A1,AA,A1,AV];lia
    show{1,.inl {0,_,SqL.of O0},1,1,x.map pcD,r.map pcD,hy.mono s7,hz.mono s7,Ah (az (by rw[A1,A1];lia)),λq H8 nq s8 hq=>?_};show{fo,vs7,1,0,s8 _ _ O0,az (by lia),{1},(s7.trans s8).put NJ,?_};rw[AL,Nx];rw[<-A7] at hq;have:=Acc.add s7 s8 O0 hi7 (xf (cs:=x++r) s8 nq hq);simpa using this
   .rintro σ H7 ⟨⟨v6,rfl⟩,s7,OK⟩;show{{3},s7,?_};rw[O6,AI,<-tk] at OK;show OK
  .rintro σ H6 ⟨⟨v5,v6,rfl⟩,s6,MR⟩;rw[olen,AI,<-QX] at MR;have PH:=O1.trans s6;have{vs,OY,hi6}:=MR;have hi:Iss (nw H H6) ((cq m' ps).map bT) vs:=(hi6.mono m3).mono (iw O1);have QR:Iss H6 ((cq m' ps).map bT) vs:=hi.mono bx;have NH:vs.length=(cq m' ps).length:=by rw[hi.length,A1]
   show{1,?_};show{fo,vs,0,SqL.of OY,4,λr Nx=>?_,λx hx y hy=>?_,λp q pp nq=>?_}
   .have{i,hi,0}:=Bh.mp Nx;have{w,_,hy}:=aR QR (A2 hi);have{a,ys,e1,e2,_}:=aA hy;show{a,ys,e1,SqL.of e2}
   .have{i,hi,0}:=Bh.mp hx;have{j,hj,0}:=Bh.mp hy;have{w1,_,M6}:=aR QR (A2 hi);have{w2,_,OH}:=aR QR (A2 hj);show{_,JV M6 OH}
   .have OS:∀i∈p,i<(cq m' ps).length:=λi hi=>by
     have:=AY.mp (pp.mem_iff.mp hi);lia
    show k2 (p.map λi=>(cq m' ps).getD i []) q _ ?_ (PH.put (PH.free nq)) (PH.free nq) ?_
    .have:=pp.map λi=>(cq m' ps).getD i [];have er:(List.range vs.length).map (λi=>(cq m' ps).getD i [])=cq m' ps:=by
      rw[NH];show Cm (by simp) λi h1 h2=>?_;simp[List.getD,h2]
     rw[er] at this;show this
    .show aD (by rw[bZ (PH.free nq)];show ak) ((lT [] hi p OS).mono (fB (ae.new nq)))
def Mq:OKQ T.X37 P w base 3 spCW:=by
 show FbO T.X37 kZ λ_ _ _ _ H vs Q E hr h=>?_;have{v,cs,0,hv,hB,kk}:=h;show{_,(ai (pSA (i:=1) kZ.nd ag)
  (ai (aC AF rfl (aP (pv 0)) (pGA (i:=2) kZ.nd) (aj (gf (i:=1) kZ.nd rfl (by trivial) (pcq (Mo T) hr T.X32 (ab (pv 2) af)) kA)))
  (aj (ap (pv 1))))),?_}
 have{a,vs,0,ha,hi}:=aA hv;have NH:vs.length=cs.length:=by rw[hi.length,A1]
 show{1,a,0,{_,SqL.of ha},aZ (xs:=vs) (λj σ H2=>(∃v2,σ=[some (.ref a),some (.int (cO (cs.take j))),v2])/\H2=H) {{none,0},0} (λj σ H6 _ h=>by rw[h.2];show SqL.of ha) ?_ ?_}
 .rintro j y σ H2 hj ⟨⟨v2,rfl⟩,rfl⟩;have{c,hc,hy}:=aR hi hj;have{b1,b2}:=hB c (AH hc);show{1,1,y,c,0,hy,b1,b2,2,.inr (Lw b1 b2),{some y,?_},0};rw[J0 hc];rfl
 .rintro σ H2 ⟨⟨v2,rfl⟩,rfl⟩;rw[NH,AI];show{1,kk}
def Mr{a:Pt}:∀{c:SD Pt}{i:Nat}{p:Pt},c[i]? =some p->eW a (c.take (i+1))=eW a (c.take i)++[[lW ((a::c).getD i zP) p,lX ((a::c).getD i zP) p]]:=by
 intro c;induction c generalizing a with
 |nil=>intro i p h;simp at h
 |cons q c ih=>
  intro i p h;cases i with
  |zero=>
   have:q=p:=by simpa using h
   subst this;simp[eW]
  |succ i=>
   have h':c[i]? =some p:=by simpa using h
   rw[BL,BL];change _::eW q (c.take (i+1))=_::eW q (c.take i)++_;rw[ih h',DL];rfl
def yF:OKQ T.X38 P w base 2 spSid:=by
 show FbO T.X38 jA λ_ _ _ _ H vs Q E hr h=>?_;have{v,c,0,hv,hB,kk}:=h;show{_,(ai (pSA (i:=1) jA.nd (aK af))
  (ai (pSA (i:=2) jA.nd (ay aQ (pv 0) (fL fM ag) (λ_ _=>rfl)))
  (ai (aC AF rfl (rP (pv 0)) (pGA (i:=3) jA.nd) (ai (aL (bA AU Af Ae b8 (pv 1) (ab (bh (ab (bf (Hy rfl hr) (by rfl) T.n_min boot_min (ab (pv 2) (ab (pv 3) af))) (ab (bf (Hz rfl hr) (by rfl) T.n_max boot_max (ab (pv 2) (ab (pv 3) af))) af))) af)))
  (aj (pSA (i:=2) jA.nd (pv 3)))))
  (aj (ap (pv 1)))))),?_}
 have{a,vs,0,ha,hi}:=br hv;have NH:vs.length=c.length:=by rw[hi.length,A1]
 have cl:=hB.2;have cne:c≠[]:=by rintro rfl;simp at cl
 show{AO _,λfo H1 NJ s1 Nj=>?_};have hlast:atI (c.map pt) (-1)=some (pt (c.getLastD zP)):=by
  unfold atI ixN;rw[A1,A5 (by lia),A6 (by lia)];change(c.map pt)[((-1:Int)+(c.length:Int)).toNat]? =_;rw[show((-1:Int)+(c.length:Int)).toNat=c.length-1 by lia];show LC cne
 show{1,(1),0,c.map pt,-1,pt (c.getLastD zP),hv.mono s1,0,hlast,λu hu=>?_};have hu0:Is (hid H1 fo) (pt (c.getLastD zP)) u:=by
  have{b,0,hb}:=fR hu;show fj (by rw[dM (by rintro rfl;rw[Nj] at hb;cases hb)];show hb)
 show{1,a,0,{_,SqT.of (s1 _ _ ha)},rR (xs:=vs) (λi σ H2=>(E2 λu v3=>σ=[some (.ref a),some (.ref fo),some u,v3]/\Is H2 (pt ((c.getLastD zP::c).getD i zP)) u)/\ae H H2/\∃zs,H2 fo=some (.lst zs)/\Iss H2 ((eW (c.getLastD zP) (c.take i)).map pcD) zs) {{u,none,0,hu},s1,[],Nj,ao} (λi σ H2 _ h=>SqT.of (h.2.1 _ _ ha)) ?_ ?_}
 .rintro i y σ H2 hy ⟨⟨u,v3,rfl,hu⟩,s2,zs,Nc,hz⟩;have{p,Nr,hp}:=aR hi hy;have il:i<c.length:=(A8.mp Nr).1;have QG:=hp.mono s2;generalize hq:(c.getLastD zP::c).getD i zP=q at hu;have{b1,0,hb1}:=fR hu;have{b2,0,hb2}:=fR QG;have zl:zs.length=i:=by rw[hz.length,A1,qN,AV];lia
  show{1,.inl {0,_,SqL.of Nc},1,1,_,_,(1),1,ug QG hu,5,1,1,b1,b2,q,p,0,SqT.of hb1,SqT.of hb2,(zB rfl),λt H3 nt s3 Rp=>?_};show{fo,zs,1,0,s3 _ _ Nc,az (by lia),?_};have tu:av H3 (upd H3 fo (.lst (zs++[.ref t]))):=av.upd (s3 _ _ Nc);have hmin:Is H2 (pt (lW q p)) (if ft p q=true then V.ref b2 else V.ref b1):=by
   unfold lW;cases ft p q
   .show hu
   .show QG
  have hmax:Is H2 (pt (lX q p)) (if gtI p q=true then V.ref b2 else V.ref b1):=by
   unfold lX;cases gtI p q
   .show hu
   .show QG
  show{1,{3,?_},(s2.trans s3).put NJ,_,ak,?_}
  .have e:(c.getLastD zP::c).getD (i+1) zP=p:=by
    rw[List.getD_cons_succ,A',Nr];rfl
   rw[e];show xb tu (QG.mono s3)
  .rw[Mr Nr,A7,hq];show(eE tu (hz.mono s3)).append (am (cw tu (bi Rp (am (hmin.mono s3) (am (hmax.mono s3) ao)))) ao)
 .rintro σ H2 ⟨⟨u,v3,rfl,hu⟩,s2,zs,Nc,hz⟩;rw[NH,AI] at hz;show{1,kk fo H2 s2 NJ (aD Nc hz)}
def yG:OKQ T.X6 P w base 1 (spGat P w):=by
 show FbO T.X6 cI λ_ _ _ _ H vs Q E hr h=>?_;have{v1,v2,xs,ps,0,h1,h2,nd,xl,Pj,kk}:=h;show{_,(ai (pSA (i:=2) cI.nd nW)
  (ai (aC AF rfl (aP (pv 0)) (pGA (i:=3) cI.nd) (aj (kM (dj hr) (pv 2) (pv 3) (pv 3) rfl)))
  (ai (aC AF rfl (aP (pv 1)) (cy rfl (aV (pGA (i:=4) cI.nd) (aV (pGA (i:=5) cI.nd) cg))) (ai (pSA (i:=6) cI.nd (ig (dj hr) (pv 2) (pv 4) (λ_ _=>rfl)))
  (ai (pSA (i:=7) cI.nd (ig (dj hr) (pv 2) (pv 5) (λ_ _=>rfl)))
  (aj (aC AF rfl (aP (pv 0)) (pGA (i:=3) cI.nd) (aj (aT (aJ (mU hr) (ig (dj hr) (pv 2) (pv 3) (λ_ _=>rfl)) (pv 7) (aH _)) (aj (kM (dj hr) (pv 2) (pv 3) (pv 6) rfl)) aU)))))))
  (aj (ap (pv 2)))))),?_}
 intro st H0 PB hD0 k0;have{t,Rw,0,ht,Oi}:=aA h1;have{q,qvs,0,hq,hqi}:=aA h2;have QY:Rw.length=xs.length:=by rw[Oi.length,A1]
 have qlen:qvs.length=ps.length:=by rw[hqi.length,A1]
 have b0:ae H H0:=λb o e=>by rw[k0 b (by rintro rfl;rw[PB] at e;cases e)];show e
 show{1,t,0,{_,SqL.of (b0 _ _ ht)},aZ (xs:=Rw) (λi σ H1=>(∃v3,σ=[some (.ref t),some (.ref q),some (.ref st),v3,none,none,none,none])/\ae H H1/\∃kvs,DN P w H1 st kvs/\GR H1 (bM (xs.take i)) kvs) {{none,0},b0,[],hD0,.nil} (λi σ H1 _ h=>SqL.of (h.2.1 _ _ ht)) ?_ ?_}
 .rintro i y σ H1 hi ⟨⟨v3,rfl⟩,s1,kvs,hD1,g1⟩;have{x,hx,hy}:=aR Oi hi;have il:i<xs.length:=(A8.mp hx).1;have hy1:=hy.mono s1;have hk:Is H1 (nK (wk x)) y:=eZ hy1;have hn:dE (bM (xs.take i)) x=false:=by
   cases e:dE (bM (xs.take i)) x with
   |false=>rfl
   |true=>
    have:=jW.mp e;rw[l'] at this;show absurd this (LB nd hx)
  have gl:=g1.len;have tl:(bM (xs.take i)).length=i:=by unfold bM;rw[A1,AV];lia
  show{1,1,1,st,kvs,wk x,0,hD1,hk,az (by lia),λH2 Ov k2=>?_};have but:But st H1 H2:=λc o e n=>by rw[k2 c n];show e
  have tu:av H1 H2:=(j6 hD1 but).2;show{{1},But.same s1 PB but,_,Ov,?_};have e:bM (xs.take (i+1))=bM (xs.take i)++[(x,x)]:=by
   rw[AL,hx];unfold bM;rw[A7];rfl
  rw[e];show(g1.ts tu).new hn (cw tu hy1)
 .rintro σ H1 ⟨⟨v3,rfl⟩,s1,kvs,hD1,g1⟩;rw[QY,AI] at g1;show{1,q,0,{_,SqL.of (s1 _ _ hq)},aZ (xs:=qvs) (λi σ H2=>(E5 λv3 v4 v5 v6 v7=>σ=[some (.ref t),some (.ref q),some (.ref st),v3,v4,v5,v6,v7])/\ae H H2/\∃kvs,DN P w H2 st kvs/\GR H2 (ce (bM xs) (ps.take i)) kvs) {{_,none,none,none,none,0},s1,kvs,hD1,g1} (λi σ H2 _ h=>SqL.of (h.2.1 _ _ hq)) ?_ ?_}
  .rintro i y σ H2 hi ⟨⟨v3,v4,v5,v6,v7,rfl⟩,s2,kvs,Ov,g2⟩;have{x,hx,hy}:=aR hqi hi;have{in1,in2}:=Pj x (AH hx);have{pa,OB,0,Rt,Ru}:=br (hy.mono s2);have{u1,us,0,No,Ru}:=aN Ru;have{u2,us,0,N5,Ru}:=aN Ru;rw[bn Ru] at Rt;have keys:(ce (bM xs) (ps.take i)).map (·.1)=xs:=by rw[l6,l']
   have snoc:ce (bM xs) (ps.take (i+1))=dF (ce (bM xs) (ps.take i)) (bv (ce (bM xs) (ps.take i)) x.1) (bv (ce (bM xs) (ps.take i)) x.2):=by
    rw[AL,hx];show J2
   rw[snoc];generalize ce (bM xs) (ps.take i)=S at g2 keys⊢;have{kv,ev1,hkv}:=g2.get (k:=x.1) (by rw[keys];show in1);have{lv,ev2,hlv}:=g2.get (k:=x.2) (by rw[keys];show in2);generalize bv S x.1=kept at hkv⊢;generalize bv S x.2=left at hlv⊢;show{pa,1,SqT.of Rt,0,3,2,?_};show{1,1,st,kvs,wk x.1,kv,0,Ov,eZ No,ev1,?_};show{1,1,st,kvs,wk x.2,lv,0,Ov,eZ N5,ev2,?_};have sl:S.length=xs.length:=by rw[<-keys,A1]
   show{1,t,0,{_,SqL.of (s2 _ _ ht)},aZ (xs:=Rw) (λj σ H3=>(∃v3,σ=[some (.ref t),some (.ref q),some (.ref st),v3,some u1,some u2,some kv,some lv])/\ae H H3/\∃kvs,DN P w H3 st kvs/\GR H3 (dF (S.take j) kept left++S.drop j) kvs/\Is H3 (pcD kept) kv/\Is H3 (pcD left) lv) {{1},s2,kvs,Ov,g2,hkv,hlv} (λi σ H3 _ h=>SqL.of (h.2.1 _ _ ht)) ?_ ?_}
   .rintro j z σ H3 hj ⟨⟨v3,rfl⟩,s3,kvs,PD,g3,hkv,hlv⟩;have{x',M6,hz}:=aR Oi hj;have jl:j<xs.length:=(A8.mp M6).1;obtain⟨s',Oy⟩:∃s',S[j]? =some s':={_,A2 (by lia)};have e1:s'.1=x':=by
     have:(S.map (·.1))[j]? =some x':=by rw[keys];show M6
     rw[AD,Oy] at this;simpa using this
    have{n1,n2}:=yf (S:=S) (by rw[keys];show nd) Oy;rw[<-xp (S.take j) kept left] at n1;rw[J' Oy];rw[qL Oy] at g3;have{sa,sb}:=s';have e1:sa=x':=e1;subst e1;have Qu:=hz.mono s3;have RN:Is H3 (nK (wk sa)) z:=eZ Qu;have{v,ev,hv}:=g3.get (k:=sa) (by simp);rw[qK n1] at hv;show{1,1,st,kvs,wk sa,v,0,PD,RN,ev,1,(2),cE sb left,by rw[qF];show qC hv hlv,5,1,?_};cases hb:cE sb left with
    |false=>
     show bJ {{1},s3,kvs,PD,g3,hkv,hlv}
    |true=>
     have gl:=g3.len;have ll:(dF (S.take j) kept left++(sa,sb)::S.drop (j+1)).length=xs.length:=by
      have:(dF (S.take j) kept left).length=j:=by unfold dF;rw[A1,AV];lia
      rw[AA,this,AW,Bw];lia
     show dY {1,1,1,st,kvs,wk sa,0,PD,RN,az (by lia),λH4 OQ k4=>?_};have but:But st H3 H4:=λc o e n=>by rw[k4 c n];show e
     have tu:av H3 H4:=(j6 PD but).2;show{{1},But.same s3 PB but,_,OQ,(g3.ts tu).mid n1 n2 (cw tu hkv),cw tu hkv,cw tu hlv}
   .rintro σ H3 ⟨⟨v3,rfl⟩,s3,kvs,PD,g3,_,_⟩;rw[QY,<-sl,AI,List.drop_length,BE] at g3;show{{_,_,_,3},s3,kvs,PD,g3}
  .rintro σ H2 ⟨⟨v3,v4,v5,v6,v7,rfl⟩,s2,kvs,Ov,g2⟩;rw[qlen,AI] at g2;show{1,kk st H2 kvs s2 PB Ov g2}
def Ms:OKQ T.X7 P w base 2 (spSets P w):=by
 show FbO T.X7 kN λ_ _ _ _ H vs Q E hr h=>?_;have{v1,v2,xs,ps,0,h1,h2,nd,xl,Pj,kk}:=h;show{_,(ai (pSA (i:=2) kN.nd (pcq (yG T) hr T.X6 (ab (pv 0) (ab (pv 1) af))))
  (aj (ap (bf gY (by rfl) T.n_len DX (ab (c9 (XN:=["things","pairs","standing"]) (sc:=al jt) (N:=["thing","standing"]) (own:=1) (js:=[2]) rfl (by ac_nf) rfl rfl (aP (pv 0)) (λ_ _ _ _=>(bN (i:=0) (show List.Nodup (["thing","standing"]:SD Str) by ac_nf) rfl (Or.inl rfl) (.inr rfl))) (c8 (by decide)) (λ_ _ _ _=>(jb (aJ (FV (K:=K) rfl hr) (LA (P:=P) (w:=w) rfl rfl (dj hr) (pv 1) (pv 0) (λ_ _=>rfl)) (pv 0) (aH _)))) (λ_ _ _ _=>(pv 0))) af))))),?_}
 show{1,1,v1,v2,xs,ps,0,h1,h2,nd,xl,Pj,λst H1 kvs s1 PB hD g=>?_};have{t,Rw,0,ht,Oi}:=aA h1;have QY:Rw.length=xs.length:=by rw[Oi.length,A1]
 have keys:(ce (bM xs) ps).map (·.1)=xs:=by rw[l6,l']
 unfold qG at kk;generalize ce (bM xs) ps=S at g keys kk;have sl:S.length=xs.length:=by rw[<-keys,A1]
 show{1,t,0,{_,SqL.of (s1 _ _ ht)},λacc na=>?_};show dZ (xs:=Rw) (own:=1) (js:=[2]) (λi H3=>ae H1 H3/\∃vs,H3 acc=some (.lst vs)/\Iss H3 ((((S.take i).filter λy=>cE y.2 y.1).map (·.1)).map pcD) vs) {ae.new na,[],ak,ao} (λi H3 _ h=>SqL.of (h.1 _ _ (s1 _ _ ht))) ?_ ?_ db ?_ ?_
 .rintro i x H3 hi ⟨s3,vs,MR,vl⟩;have{x',M6,hz}:=aR Oi hi;have jl:i<xs.length:=(A8.mp M6).1;obtain⟨⟨sa,sb⟩,Oy⟩:∃s',S[i]? =some s':={_,A2 (by lia)};have e1:sa=x':=by
   have:(S.map (·.1))[i]? =some x':=by rw[keys];show M6
   rw[AD,Oy] at this;simpa using this
  subst e1;have{n1,_}:=yf (S:=S) (by rw[keys];show nd) Oy;have g3:GR H3 S kvs:=g.ts (av.of_same s3);have Qu:=(hz.mono s1).mono s3;have Qq:S=S.take i++(sa,sb)::S.drop (i+1):=by rw[<-qL Oy,Bb]
  have{v,ev,hv}:=g3.get (k:=sa) (by rw[Qq];simp);have eg:bv S sa=sb:=by
   rw[Qq];show qK n1
  rw[eg] at hv;have nx:((S.take (i+1)).filter λy=>cE y.2 y.1)=((S.take i).filter λy=>cE y.2 y.1)++if cE sb sa=true then [(sa,sb)] else []:=by
   rw[AL,Oy,Bi];simp only[Option.toList_some,Bz,List.filter_nil]
  show{1,1,st,kvs,wk sa,v,0,hD.mono s3,eZ Qu,ev,1,(2),cE sb sa,by rw[qF];show qC hv Qu,5,1,?_};rw[nx];cases hb:cE sb sa with
  |false=>show bJ {s3,vs,MR,by simpa using vl}
  |true=>
   have hl:((S.take i).filter λy=>cE y.2 y.1).length<=1000:=by
    have:=Bp (λy:Pc×Pc=>cE y.2 y.1) (S.take i);rw[AV] at this;lia
   show dY {1,acc,vs,1,0,MR,az (by rw[vl.length,A1,A1];show hl),s3.put na,_,ak,?_};have tu:av H3 (upd H3 acc (.lst (vs++[x]))):=av.upd MR;rw[A6 rfl,A7,A7];show(eE tu vl).append (am (cw tu Qu) ao)
 .rintro H3 ⟨s3,vs,MR,vl⟩;rw[QY,<-sl,AI] at vl;show{3,.inl (aD MR vl),?_};rw[A1,A1];show kk H3 (s1.trans s3)
 .rintro σ H R R' k ⟨v1,e1,v2,e2,a,kvs,ks,v,e3,dn,is,ev,v4,e4,d,e,r,hd,b,e6,h⟩;show{v1,e1,v2,e2,a,kvs,ks,v,e3,dn,is,ev,v4,e4,d,e,r,hd,b,e6,k _ _ h}
 .rintro σ H R R' k ⟨v1,e1,h⟩;show{v1,e1,k _ _ h}
def Mt:OKQ T.X39 P w base 3 (spThr P w):=by
 show FbO T.X39 im λ_ _ _ _ H vs Q E hr h=>?_;have{v,cs,0,hv,{hB,hL,hN},kk}:=h;show{_,(ai (pSA (i:=1) im.nd nW)
  (ai (pSA (i:=2) im.nd (aK af))
  (ai (aC AF rfl (aP (pv 0)) (pGA (i:=3) im.nd) (ai (pSA (i:=4) im.nd (pcq (yF T) hr T.X38 (ab (pv 3) af)))
  (ai (aC AF rfl (aP (pv 4)) (pGA (i:=5) im.nd) (aj (kM (dj hr) (pv 1) (pv 5) iS rfl)))
  (aj (aT (aJ cB (bf gY (by rfl) T.n_len DX (ab (pv 3) af)) ag (aH _)) (ai (aL (bA AU Af Ae b8 (pv 2) (ab (bh (ab (ay dN (pv 4) ag (λ_ _=>rfl)) (ab (ay dN (pv 4) ag (λ_ _=>rfl)) af))) af)))
  (aj (aL (bA AU Af Ae b8 (pv 2) (ab (bh (ab (ay dN (pv 4) ag (λ_ _=>rfl)) (ab (ay dN (pv 4) ag (λ_ _=>rfl)) af))) af))))) aU)))))
  (aj (ap (pcq (yG T) hr T.X6 (ab (i0 (Hs rfl) (by rfl) T.n_list boot_list (ab (pv 1) af)) (ab (pv 2) af)))))))),?_}
 intro kn H0 nkn hD0 k0;have b0:ae H H0:=λb o e=>by rw[k0 b (by rintro rfl;rw[nkn] at e;cases e)];show e
 show{AO _,λfa H1 nfa s1 hfa=>?_};have s01:=b0.trans s1;have{ca,O7,0,hca,Qi}:=aA hv;have O8:O7.length=cs.length:=by rw[Qi.length,A1]
 show{1,ca,0,{_,SqL.of (s01 _ _ hca)},aZ (xs:=O7) (λi σ H2=>(E3 λv3 v4 v5=>σ=[some (.ref ca),some (.ref kn),some (.ref fa),v3,v4,v5])/\ae H H2/\DN P w H2 kn (trK (bI [] ((cs.take i).flatMap aO)))/\∃NU,H2 fa=some (.lst NU)/\Iss H2 (((cs.take i).flatMap cQ).map ppD) NU) {{none,none,none,0},s01,hD0.mono s1,[],hfa,ao} (λi σ H1 _ h=>SqL.of (h.2.1 _ _ hca)) ?_ ?_}
 .rintro i y σ H2 hi ⟨⟨v3,v4,v5,rfl⟩,s2,Ov,NU,Qj,OM⟩;have{c,hc,hy}:=aR Qi hi;have il:i<cs.length:=(A8.mp hc).1;have cok:=hB c (AH hc);have nfaH:H fa=none:=b0.free nfa;show{1,y,c,0,hy.mono s2,cok,λl H3 s3 nl hl=>?_};have Ni:=s2.trans s3;have{_,Ng,e,Oz,Oc}:=aA hl;cases e;have NI:Ng.length=(aO c).length:=by rw[Oc.length,A1]
  have sl4:=jX c;have tk:(cs.take (i+1)).flatMap aO=(cs.take i).flatMap aO++aO c:=by
   rw[AL,hc,Ax];simp
  have tkf:(cs.take (i+1)).flatMap cQ=(cs.take i).flatMap cQ++cQ c:=by
   rw[AL,hc,Ax];simp
  have dl:(bI [] ((cs.take i).flatMap aO)).length<=400:=by
   have h1:=md ((cs.take i).flatMap aO) [];have h2:=xr (cs:=cs.take i) λc hc=>hB c (Cf hc);rw[AV] at h2;simp only[CG] at h1;lia
  have fl:NU.length<=200:=by
   have h2:=Ke (cs:=cs.take i);rw[AV] at h2;rw[OM.length,A1];lia
  have lfa:l≠fa:=by rintro rfl;rw[Qj] at nl;cases nl
  have lkn:l≠kn:=λz=>by
   have{_,_,_,_,e}:=Ov.mono s3;rw[<-z,Oz] at e;cases e
  rw[tk,tkf,qM];generalize bI [] ((cs.take i).flatMap aO)=D at Ov dl⊢;generalize (cs.take i).flatMap cQ=F at OM⊢;have fkn:fa≠kn:=λz=>by
   have{_,_,_,_,e}:=Ov;rw[<-z,Qj] at e;cases e
  show{1,l,0,{_,SqL.of Oz},aZ (xs:=Ng) (λj σ H4=>(∃v5,σ=[some (.ref ca),some (.ref kn),some (.ref fa),some y,some (.ref l),v5])/\ae H H4/\DN P w H4 kn (trK (bI D ((aO c).take j)))/\H4 l=some (.lst Ng)/\Iss H4 ((aO c).map pcD) Ng/\H4 fa=some (.lst NU)/\Iss H4 (F.map ppD) NU) {{1},Ni,Ov.mono s3,Oz,Oc,s3 _ _ Qj,OM.mono s3} (λj σ H4 _ h=>SqL.of h.2.2.2.1) ?_ ?_}
  .rintro j z σ H4 hj ⟨⟨v5,rfl⟩,s4,OQ,hl4,Qk,Pr,hf4⟩;have{sd,hsd,hz}:=aR Qk hj;have ll:(bI D ((aO c).take j)).length<=404:=by
    have h1:=md ((aO c).take j) D;rw[AV] at h1;have:=cok.2;lia
   show{1,1,kn,_,wk sd,0,OQ,eZ hz,az (by rw[ye];lia),λH5 hD5 k5=>?_};have but:But kn H4 H5:=λc o e n=>by rw[k5 c n];show e
   have tu:av H4 H5:=(j6 OQ but).2;rw[Ly] at hD5;rw[AL,hsd];show{{1},But.same s4 nkn but,?_,(k5 l lkn).trans hl4,eE tu Qk,(k5 fa fkn).trans Pr,iP tu hf4};change DN P w H5 kn (trK (bI D ((aO c).take j++[sd])));rw[Ka];show hD5
  .rintro σ H4 ⟨⟨v5,rfl⟩,s4,OQ,hl4,Qk,Pr,hf4⟩;rw[NI,AI] at OQ;have hy4:=hy.mono s4;show{1,3,.inr hy4,0,1,cD (λe=>?_) (λe=>?_)}
   .rw[A1] at e;have e4:c.length=4:=by lia
    obtain⟨a0,a1,a2,a3,es⟩:E4 λa0 a1 a2 a3=>aO c=[a0,a1,a2,a3]:=by
     have:(aO c).length=4:=by lia
     match aO c,this with
     |[a0,a1,a2,a3],_=>show{a0,a1,a2,a3,0}
    have ef:cQ c=[(a0,a2),(a1,a3)]:=by
     unfold cQ;rw[A6 e4,es];rfl
    have il4:Is H4 (.l ([a0,a1,a2,a3].map pcD)) (.ref l):=by rw[<-es];show aD hl4 Qk
    show{1,.inl {0,_,SqL.of Pr},1,_,(0),_,il4,0,0,λw0 k0=>{1,_,(2),_,il4,0,0,λw2 k2=>{(zB rfl),λt H5 nt s5 ht=>?_}}};show{fa,NU,1,0,s5 _ _ Pr,az (by lia),?_};have tu:av H5 (upd H5 fa (.lst (NU++[.ref t]))):=av.upd (s5 _ _ Pr);have sm6:ae H (upd H5 fa (.lst (NU++[.ref t]))):=(s4.trans s5).put nfaH;have hD6:DN P w (upd H5 fa (.lst (NU++[.ref t]))) kn (trK (bI D (aO c))):=(OQ.mono s5).keeps (by rw[au fkn.symm]) tu;have hf6:Iss (upd H5 fa (.lst (NU++[.ref t]))) ((F++[(a0,a2)]).map ppD) (NU++[.ref t]):=by
     rw[A7];show(iP tu (hf4.mono s5)).append (am (mq tu (bi ht (am (k0.mono s5) (am (k2.mono s5) ao)))) ao)
    have Rb:Is (upd H5 fa (.lst (NU++[.ref t]))) (.l ([a0,a1,a2,a3].map pcD)) (.ref l):=by
     rw[<-es];show aD (by rw[au lfa];show s5 _ _ hl4) (eE tu (Qk.mono s5))
    have Ql:(upd H5 fa (.lst (NU++[.ref t]))) fa=some (.lst (NU++[.ref t])):=ak;generalize upd H5 fa (.lst (NU++[.ref t]))=H6 at sm6 hD6 hf6 Rb Ql⊢;have fl6:(NU++[V.ref t]).length<=201:=by rw[AA];simp;lia
    generalize NU++[V.ref t]=gvs at hf6 Ql fl6;show{1,.inl {0,_,SqL.of Ql},1,_,(1),_,Rb,0,0,λw1 k1=>{1,_,(3),_,Rb,0,0,λw3 k3=>{(zB rfl),λt2 H7 nt2 s7 R6=>?_}}};show{fa,gvs,1,0,s7 _ _ Ql,az (by lia),{_,3},(sm6.trans s7).put nfaH,?_};have tu:av H7 (upd H7 fa (.lst (gvs++[.ref t2]))):=av.upd (s7 _ _ Ql);show{(hD6.mono s7).keeps (by rw[au fkn.symm]) tu,_,ak,?_};rw[ef,show F++[(a0,a2),(a1,a3)]=(F++[(a0,a2)])++[(a1,a3)] by simp,A7];show(iP tu (hf6.mono s7)).append (am (mq tu (bi R6 (am (k1.mono s7) (am (k3.mono s7) ao)))) ao)
   .rw[A1] at e;have ef:cQ c=[]:=by
     unfold cQ;rw[A5 (by lia)]
    rw[ef,BE];show{{_,3},s4,OQ,NU,Pr,hf4}
 .rintro σ H2 ⟨⟨v3,v4,v5,rfl⟩,s2,Ov,NU,Qj,OM⟩;rw[O8,AI] at Ov OM;have dl:(bI [] (cs.flatMap aO)).length<=400:=by
   have h1:=md (cs.flatMap aO) [];have h2:=xr (cs:=cs) hB;simp only[CG] at h1;lia
  show{1,kn,1,Ov,by rw[ye];lia,λl H3 nl s3 hl=>?_};rw[Lz] at hl;show{1,_,_,bI [] (cs.flatMap aO),cs.flatMap cQ,0,hl,aD (s3 _ _ Qj) (OM.mono s3),xq DZ,4,λx hx=>?_,λa H4 kvs s4 na OQ g4=>kk a H4 kvs ((s2.trans s3).trans s4) ((s2.trans s3).free na) OQ g4};have{c,hc,hx}:=BB.mp hx;have{m1,m2}:=Kf hx;show{ma.mpr (.inr (BB.mpr {c,hc,m1})),ma.mpr (.inr (BB.mpr {c,hc,m2}))}
def yH:OKQ T.X40 P w base 1 spCor:=by
 show FbO T.X40 Iu λ_ _ _ _ H vs Q E hr h=>?_;have{v,cs,0,hv,{hB,hL,hN},kk}:=h;show{_,(aj (ap (c9 (XN:=["cutting"]) (sc:=al k7) (N:=["piece"]) (own:=1) (js:=[]) rfl (by ac_nf) rfl rfl (aP (pv 0)) (λ_ _ _ _=>(bN (i:=0) (show List.Nodup (["piece"]:SD Str) by ac_nf) rfl (Or.inl rfl) (.inr rfl))) (c8 (by decide)) (λ_ _ _ _=>(jb (aJ cB (bf gY (by rfl) T.n_len DX (ab (pv 0) af)) ag (aH _)))) (λ_ _ _ _=>(pv 0))))),?_};have{ca,O7,0,hca,Qi}:=aA hv;have O8:O7.length=cs.length:=by rw[Qi.length,A1]
 show{1,ca,0,{_,SqL.of hca},λacc na=>?_};show dZ (xs:=O7) (own:=1) (js:=[]) (λi H3=>ae H H3/\∃vs,H3 acc=some (.lst vs)/\Iss H3 ((bu (cs.take i)).map pcD) vs) {ae.new na,[],ak,ao} (λi H3 _ h=>SqL.of (h.1 _ _ hca)) ?_ ?_ db ?_ ?_
 .rintro i x H3 hi ⟨s3,vs,MR,vl⟩;have{c,hc,hz}:=aR Qi hi;have il:i<cs.length:=(A8.mp hc).1;have Qu:=hz.mono s3;show{1,3,.inr Qu,0,1,cD (λe=>?_) (λe=>?_)}
  .rw[A1] at e;have cl:=qP (cs.take i);rw[AV] at cl;show{1,acc,vs,1,0,MR,az (by rw[vl.length,A1];lia),s3.put na,_,ak,?_};have tu:av H3 (upd H3 acc (.lst (vs++[x]))):=av.upd MR;rw[xx hc,A6 (by lia),A7];show(eE tu vl).append (am (cw tu Qu) ao)
  .rw[A1] at e;show{s3,vs,MR,?_};rw[xx hc,A5 (by lia),BE];show vl
 .rintro H3 ⟨s3,vs,MR,vl⟩;rw[O8,AI] at vl;show kk acc H3 s3 na (aD MR vl)
 .rintro σ H R R' k ⟨v1,e1,v2,e2,e3,h3,e4,b,e6,h⟩;show{v1,e1,v2,e2,e3,h3,e4,b,e6,k _ _ h}
 .rintro σ H R R' k ⟨v1,e1,h⟩;show{v1,e1,k _ _ h}
def Mu:OKQ T.X41 P w base 4 spJoi:=by
 show FbO T.X41 gz λ_ _ _ _ H vs Q E hr h=>?_;have{v,cs,0,hv,hC,kk}:=h;have{hB,hL,hN}:=id hC;show{_,(ai (pSA (i:=1) gz.nd (pcq (Mt T) hr T.X39 (ab (pv 0) af)))
  (ai (pSA (i:=2) gz.nd nW)
  (ai (pSA (i:=3) gz.nd (aK af))
  (ai (aC AF rfl (aP (pcq (yH T) hr T.X40 (ab (pv 0) af))) (pGA (i:=4) gz.nd) (aj (aC AF rfl (aP (pcq (yF T) hr T.X38 (ab (pv 4) af))) (pGA (i:=5) gz.nd) (ai (pSA (i:=6) gz.nd (ig (dj hr) (pv 1) (pv 5) (λ_ _=>rfl)))
  (aj (aT (rH (Hl (dj hr) (pv 6) (pv 2)) rfl) (aj (aL (bA AU Af Ae b8 (pv 3) (ab (bh (ab (ig (dj hr) (pv 2) (pv 6) (λ_ _=>rfl)) (ab (pv 4) af))) af)))) (aj (kM (dj hr) (pv 2) (pv 6) (pv 4) rfl))))))))
  (aj (ap (pv 3))))))),?_}
 show{1,v,cs,0,hv,hC,λth H1 tkv s1 nth hDt gt=>?_};intro fi H2 nfi hDf k2;have b2:ae H1 H2:=λb o e=>by rw[k2 b (by rintro rfl;rw[nfi] at e;cases e)];show e
 have Od:=s1.trans b2;have nfiH:H fi=none:=s1.free nfi;have tf:th≠fi:=by
  rintro rfl;have{_,_,_,_,e}:=hDt;rw[nfi] at e;cases e
 show{AO _,λpa H3 npa s3 Rt=>?_};have Ni:=Od.trans s3;have npaH:H pa=none:=Od.free npa;have pf:pa≠fi:=by
  rintro rfl;have{_,_,_,_,e}:=hDf;rw[npa] at e;cases e
 have pt':pa≠th:=by
  rintro rfl;have{_,_,_,_,e}:=hDt.mono b2;rw[npa] at e;cases e
 show{1,v,cs,0,hv.mono Ni,hC,λcl H4 s4 ncl RG=>?_};have O1:=Ni.trans s4;have{_,O7,e,hcl4,Qi}:=aA RG;cases e;have O8:O7.length=(bu cs).length:=by rw[Qi.length,A1]
 have ncf:cl≠fi:=by
  rintro rfl;have{_,_,_,_,e}:=hDf.mono s3;rw[ncl] at e;cases e
 have ncp:cl≠pa:=by rintro rfl;rw[Rt] at ncl;cases ncl
 have corl:=qP cs;unfold jU joG at kk;generalize hT:gK cs=T' at gt kk;show{cl,0,{_,SqL.of hcl4},aZ (xs:=O7) (λi σ H5=>(E3 λv4 v5 v6=>σ=[some v,some (.ref th),some (.ref fi),some (.ref pa),v4,v5,v6])/\ae H H5/\DN P w H5 th tkv/\GR H5 T' tkv/\H5 cl=some (.lst O7)/\Iss H5 ((bu cs).map pcD) O7/\(∃PJ,DN P w H5 fi PJ/\GR H5 (((bu cs).take i).foldl (jo2 T') ([],[])).1 PJ)/\∃OB,H5 pa=some (.lst OB)/\Iss H5 ((((bu cs).take i).foldl (jo2 T') ([],[])).2.map ppD) OB) {{none,none,none,0},O1,((hDt.mono b2).mono s3).mono s4,((gt.ts (av.of_same b2)).ts (av.of_same s3)).ts (av.of_same s4),hcl4,Qi,{[],(hDf.mono s3).mono s4,.nil},[],s4 _ _ Rt,ao} (λi σ H5 _ h=>SqL.of h.2.2.2.2.1) ?_ ?_}
 .rintro i y σ H5 hi ⟨⟨v4,v5,v6,rfl⟩,s5,hDt5,gt5,hcl5,Sn,⟨PJ,hDf5,gf5⟩,OB,QZ,Qg⟩;have{c,hc,hy}:=aR Sn hi;have il:i<(bu cs).length:=(A8.mp hc).1;have{cm,c3}:=xw (AH hc);have nx:((bu cs).take (i+1)).foldl (jo2 T') ([],[])=jo2 T' (((bu cs).take i).foldl (jo2 T') ([],[])) c:=by
   rw[AL,hc,Bo];rfl
  have fjl:=xv T' ((bu cs).take i) ([],[]) λx hx=>by have:=(xw (Cf hx)).2;lia
  rw[AV] at fjl;simp only[CG] at fjl;rw[nx];generalize ((bu cs).take i).foldl (jo2 T') ([],[])=FJ at gf5 Qg fjl⊢;show{1,y,c,0,hy,hB c cm,λsl H6 s6 nsl hsl=>?_};have{_,svs,e,hsl6,hsi}:=aA hsl;cases e;have slen:svs.length=(aO c).length:=by rw[hsi.length,A1]
  have sl3:=jX c;have nsf:sl≠fi:=by
   rintro rfl;have{_,_,_,_,e}:=hDf5;rw[nsl] at e;cases e
  have nsp:sl≠pa:=by rintro rfl;rw[QZ] at nsl;cases nsl
  show{sl,0,{_,SqL.of hsl6},aZ (xs:=svs) (λj σ H7=>(E2 λv5 v6=>σ=[some v,some (.ref th),some (.ref fi),some (.ref pa),some y,v5,v6])/\ae H H7/\DN P w H7 th tkv/\GR H7 T' tkv/\H7 cl=some (.lst O7)/\Iss H7 ((bu cs).map pcD) O7/\H7 sl=some (.lst svs)/\Iss H7 ((aO c).map pcD) svs/\Is H7 (pcD c) y/\(∃PJ,DN P w H7 fi PJ/\GR H7 (((aO c).take j).foldl (jo1 T' c) FJ).1 PJ)/\∃OB,H7 pa=some (.lst OB)/\Iss H7 ((((aO c).take j).foldl (jo1 T' c) FJ).2.map ppD) OB) {{3},s5.trans s6,hDt5.mono s6,gt5.ts (av.of_same s6),s6 _ _ hcl5,Sn.mono s6,hsl6,hsi,hy.mono s6,{PJ,hDf5.mono s6,gf5.ts (av.of_same s6)},OB,s6 _ _ QZ,Qg.mono s6} (λj σ H7 _ h=>SqL.of h.2.2.2.2.2.2.1) ?_ ?_}
  .rintro j z σ H7 hj ⟨⟨v5,v6,rfl⟩,s7,Qm,gt7,Q0,Q1,So,Q2,R7,⟨PJ,Ps,gf7⟩,OB,Q3,Sq⟩;have{sd,hsd,hz}:=aR Q2 hj;have jl:j<(aO c).length:=(A8.mp hsd).1;have nx:((aO c).take (j+1)).foldl (jo1 T' c) FJ=jo1 T' c (((aO c).take j).foldl (jo1 T' c) FJ) sd:=by
    rw[AL,hsd,Bo];rfl
   have fl:=qO T' c ((aO c).take j) FJ;rw[AV] at fl;rw[nx];generalize ((aO c).take j).foldl (jo1 T' c) FJ=GJ at gf7 Sq fl⊢;have{tv,etv,htv}:=gt7.get (k:=sd) (by rw[<-hT];show Kh cm (AH hsd));have OF:=gf7.has (k:=bv T' sd);have fkl:=gf7.len;have pvl:OB.length=GJ.2.length:=by rw[Sq.length,A1]
   show{1,1,th,tkv,wk sd,tv,0,Qm,eZ hz,etv,?_};unfold jo1;generalize bv T' sd=tt at htv OF⊢;show{1,1,fi,PJ,wk tt,0,Ps,eZ htv,1,?_};rw[OF];cases hb:dE GJ.1 tt with
   |true=>
    have{fv,efv,hfv}:=gf7.get (k:=tt) (jW.mp hb);show dY {1,.inl {0,_,SqL.of Q3},1,1,fi,PJ,wk tt,fv,0,Ps,eZ htv,efv,1,(zB rfl),λt H8 nt s8 ht=>?_};show{pa,OB,1,0,s8 _ _ Q3,az (by lia),?_};have tu:av H8 (upd H8 pa (.lst (OB++[.ref t]))):=av.upd (s8 _ _ Q3);have t78:av H7 (upd H8 pa (.lst (OB++[.ref t]))):=(av.of_same s8).trans tu;show{{3},(s7.trans s8).put npaH,(Qm.mono s8).keeps (by rw[au pt'.symm]) tu,gt7.ts t78,by rw[au ncp];show s8 _ _ Q0,eE t78 Q1,by rw[au nsp];show s8 _ _ So,eE t78 Q2,cw t78 R7,{PJ,(Ps.mono s8).keeps (by rw[au pf.symm]) tu,gf7.ts t78},_,ak,?_};rw[A7];show(iP t78 Sq).append (am (mq tu (bi ht (am (hfv.mono s8) (am (R7.mono s8) ao)))) ao)
   |false=>
    show bJ {1,1,1,fi,PJ,wk tt,0,Ps,eZ htv,az (by lia),λH8 hD8 k8=>?_};have but:But fi H7 H8:=λc o e n=>by rw[k8 c n];show e
    have tu:av H7 H8:=(j6 Ps but).2;show{{3},But.same s7 nfiH but,DN.but Qm Ps but tf,gt7.ts tu,(k8 cl ncf).trans Q0,eE tu Q1,(k8 sl nsf).trans So,eE tu Q2,cw tu R7,{_,hD8,(gf7.ts tu).new hb (cw tu R7)},OB,(k8 pa pf).trans Q3,iP tu Sq}
  .rintro σ H7 ⟨⟨v5,v6,rfl⟩,s7,Qm,gt7,Q0,Q1,So,Q2,R7,Ro,Sq⟩;rw[slen,AI] at Ro Sq;show{{_,3},s7,Qm,gt7,Q0,Q1,Ro,Sq}
 .rintro σ H5 ⟨⟨v4,v5,v6,rfl⟩,s5,hDt5,gt5,hcl5,Sn,Qx,OB,QZ,Qg⟩;rw[O8,AI] at Qg;show{1,kk pa H5 s5 npaH (aD QZ Qg)}
def Mv:OKQ T.X42 P w base 5 (spInt λcs=>(lY cs:Int)):=by
 show FbO T.X42 Iw λ_ _ _ _ H vs Q E hr h=>?_;have{v,cs,0,hv,hC,kk}:=h;show{_,(aj (ap (pcq (Ms T) hr T.X7 (ab (pcq (yH T) hr T.X40 (ab (pv 0) af)) (ab (pcq (Mu T) hr T.X41 (ab (pv 0) af)) af))))),?_};show{1,v,cs,0,hv,hC,λl H1 s1 nl hl=>?_};show{1,v,cs,0,hv.mono s1,hC,λj H2 s2 nj hj=>?_};have cl:=qP cs;have h100:=hC.2.1;show{_,_,bu cs,jU cs,0,hl.mono s2,hj,hC.2.2,4,Kl cs,λH3 s3=>kk H3 ((s1.trans s2).trans s3)}
def yI(h:1<=rs.length):ci rs (some 1) none=rs.drop 1:=by
 unfold ci;rw[show(1:Int)=((1:Nat):Int) from rfl,HT.sIx_nat,HT.sIx_none,Nat.min_eq_left h,D' (by simp)]
theorem yJ:∀n:Nat,OKQ T.X33 P w base n (spLv n K)
 |0=>{λvs H Q E h=>by have{_,_,_,_,_,h,_}:=h;lia,λA outer s H args us vs Q E _ _ _ _ h=>by have{_,_,_,_,_,h,_}:=h;lia}
 |n+1=>by
  have ih:=yJ n;show T.X33.F.ok vJ (λvs H Q E h=>?_) (λNa A outer s H vs Q E hr h=>?_)
  .have{_,_,_,0,_}:=h;rfl
  .have{a,rs,k,0,hS,hn,hL,kk}:=h;show{_,(ai (aT (aJ fe (pv 1) (bf i5 (by rfl) T.n_len DX (ab (pv 0) af)) (aH _)) (aj (ap (iZ af))) aU)
   (ai (aT (aJ cB (pv 1) ag (aH _)) (aj (ap (iZ (ab (i0 Dt (by rfl) T.n_list boot_list (ab (pv 0) af)) af)))) aU)
   (ai (mT (i:=2) vJ.nd rfl (by trivial) (.inl rfl) (XN:=["row","k","with_first"]) (sc:=al kX) (N:=["rest","row"]) (own:=1) (js:=[0]) rfl (by ac_nf) rfl rfl (aP (fN ih hr (by rfl) T.X33.m T.X33.F.kp T.X33.B .nil fP (ab (eJ fO (pv 0) (dW ag) ff) (ab (pv 1) af)))) (λ_ _ _ _=>(bN (i:=0) (show List.Nodup (["rest","row"]:SD Str) by ac_nf) rfl (Or.inl rfl) (.inr rfl))) (c8 (by decide)) (λ_ _ _ _=>dG) (λ_ _ _ _=>(ah km (iZ (ab (ay (ED (K:=K) rfl) (pv 1) ag (λ_ _=>rfl)) af)) (pv 0))))
   (aj (ap (ah km (pv 2) (fN ih hr (by rfl) T.X33.m T.X33.F.kp T.X33.B .nil fP (ab (eJ fO (pv 0) (dW ag) ff) (ab (ah aF (pv 1) ag) af))))))))),?_}
   show{1,1,a,1,.inl hS,2,1,bq (λhk=>?_) (λhk=>?_)}
   .show{AO _,λl nl=>?_};show kk l [] _ (ae.new nl) nl ak (by rw[qB rs k (by lia)];show cc.nil)
   show{1,0,1,cD (λhz=>?_) (λhz=>?_)}
   .show{1,a,1,.inl hS,λb nb=>?_};have sb:ae H (upd H b (.lst rs)):=ae.new nb;show{(zB rfl),λl nl=>?_};show kk l [.ref b] _ (sb.put (sb.free nl)) (sb.free nl) ak ?_;have ez:k=0:=by lia
    have e0:lvA rs k=[rs]:=by rw[ez];cases rs<;>rfl
    rw[e0];show cc.one nb (by rw[au (bz ak nl)];show ak)
   obtain⟨x,rs,rfl⟩:E2 λx rs'=>rs=x::rs':=by
    cases rs with
    |nil=>simp at hk;lia
    |cons x rs=>show{x,rs,0}
   obtain⟨k,rfl⟩:∃k',k=k'+1:={k-1,4};simp only[AW] at hn hL;show{1,(1),0,a,1,hS,?_};rw[yI (by simp)];intro b nb;have sb:ae H (upd H b (.lst ((x::rs).drop 1))):=ae.new nb;show{1,b,rs,k+1,0,SqL.of ak,4,4,λl1 us H1 s1 nl1 Oq L1=>?_};have sA:=sb.trans s1;have nl1H:H l1=none:=sb.free nl1;have L1:=L1.mono sb (ae.refl _);clear s1 nl1;show{l1,0,{_,SqL.of Oq},λacc na=>?_};show dZ (xs:=us) (own:=1) (js:=[0]) (λi H2=>ae H1 H2/\∃vs,H2 acc=some (.lst vs)/\cc (upd H acc (.lst [])) H2 (((lvA rs (k+1)).take i).map (x:: ·)) vs) {ae.new na,[],ak,by simpa using cc.nil} (λi H2 _ h=>h.1.seq (SqL.of Oq)) ?_ ?_ db dJ ?_
   .rintro i v H2 hi ⟨s2,vs,MR,L2⟩;have hiu:i<us.length:=(A8.mp hi).1;have hiw:i<(lvA rs (k+1)).length:=by rw[<-L1.1];show hiu
    have{a1,e1,_,e3}:=L1.2 i _ (A2 hiw);rw[hi] at e1;cases e1;have hw:=lS rs (k+1) _ (CT hiw);have hl:=jQ rs (k+1);have hp:2^rs.length<=2^20:=CK (by decide) (by lia);have Ng:vs.length<=i:=by rw[L2.1,A1,AV];lia
    show fh ?_;show{1,a,_,_,x,0,0,(sA.trans s2).seq hS,ki (j:=0) rfl,(zB rfl),λc nc=>?_};have sc:ae H2 (upd H2 c (.lst [x])):=ae.new nc;show{1,c,a1,2,ak,sc _ _ (s2 _ _ e3),by rw[At];simp;lia,λd nd=>?_};have sd:ae (upd H2 c (.lst [x])) (upd (upd H2 c (.lst [x])) d (.lst ([x]++(lvA rs (k+1))[i]))):=ae.new nd;have hacc2:=sd _ _ (sc _ _ MR);have ndH:H d=none:=(sA.trans s2).free (sc.free nd);have had:d≠acc:=(bz (sc _ _ MR) nd).symm;show{acc,2,hacc2,by rw[At];lia,((s2.trans sc).trans sd).put na,_,ak,?_};rw[AL,A2 hiw,A7];show cc.append ?_ (cc.one (by rw[au had];show ndH) (by rw[au had,ak];rfl));show{L2.1,λj ws e=>?_};have{a3,f1,f2,f3}:=L2.2 j ws e;show{a3,f1,f2,?_};have:a3≠acc:=λz=>by
     rw[z,ak] at f2;cases f2
    rw[au this];show sd _ _ (sc _ _ f3)
   .rintro H2 ⟨s2,vs,MR,L2⟩;rw[L1.1,AI] at L2;have sB:=sA.trans s2;show{1,1,(1),0,a,1,sB.seq hS,?_};rw[yI (by simp)];intro b2 nb2;have Rg:ae H2 (upd H2 b2 (.lst ((x::rs).drop 1))):=ae.new nb2;show{1,2,?_};show{b2,rs,k,by change [V.ref b2,V.int (((k+1:Nat):Int)-1)]=_;rw[show(((k+1:Nat):Int))-1=(k:Int) by lia],SqL.of ak,4,4,λl2 us2 H3 s3 nl2 NB L3=>?_};have sC:=Rg.trans s3;have hl1':=jQ rs (k+1);have hl2':=jQ rs k;have hp:2^rs.length<=2^20:=CK (by decide) (by lia);show{acc,l2,vs,us2,0,0,sC _ _ MR,NB,by rw[At,L2.1,L3.1,A1];lia,λq nq=>?_};have sq:ae H3 (upd H3 q (.lst (vs++us2))):=ae.new nq;show kk q _ _ ((sB.trans sC).trans sq) ((sB.trans sC).free nq) ak ?_;rw[lvA];show cc.append (L2.mono (ae.new (sA.free na)) (sC.trans sq)) (L3.mono (sB.trans Rg) sq)
   .rintro σ H R R' k' ⟨v1,e1,p1,x1,i1,y1,e2,e3,e4,e5,z,hq⟩;show{v1,e1,p1,x1,i1,y1,e2,e3,e4,e5,z,λc nc=>?_};have{v2,f1,l,b,xs,zs,f2,f3,f4,f5,f6,hq}:=hq c nc;show{v2,f1,l,b,xs,zs,f2,f3,f4,f5,f6,λd nd=>k' _ _ (hq d nd)}
def Mw(h:2<=rs.length):ci rs (some 1) (some (-1))=(rs.drop 1).dropLast:=by
 have e1:HT.sIx rs.length 0 (some 1)=1:=by
  change(if(1:Int)<0 then((1:Int)+(rs.length:Int)).toNat else min (1:Int).toNat rs.length)=1;rw[A5 (by decide)];change min 1 rs.length=1;lia
 have e2:HT.sIx rs.length rs.length (some (-1))=rs.length-1:=by
  change(if(-1:Int)<0 then((-1:Int)+(rs.length:Int)).toNat else min (-1:Int).toNat rs.length)=rs.length-1;rw[A6 (by decide)];lia
 unfold ci;rw[e1,e2,List.dropLast_eq_take,Bw]
theorem yK{H:Hp}{acc:Sx}{zs:SD V}(ha:H acc=some (.lst zs)):∀{ps:SD Pt}{vs:SD V},Iss H (ps.map pt) vs->Iss (hid H acc) (ps.map pt) vs
 |[],_,h=>by rw[bn h];show ao
 |p::ps,_,h=>by
  have{u,us,0,h1,h2}:=aN h;have{a,0,hp}:=fR h1;show am (fj (by rw[dM (by rintro rfl;rw[ha] at hp;cases hp)];show hp)) (yK ha h2)
def My{c:Sx}{zs:SD V}{ps:SD Pt}(ha:H acc=some (.lst zs))(ne:c≠acc)(h:Is H (pts ps) (.ref c)):Is (hid H acc) (pts ps) (.ref c):=by
 have{_,ws,e,hc,r}:=gW h;cases e;show aD (by rw[dM ne];show hc) (yK ha r)
def iR(H:Hp)(Wq:SD (SD Pt))(Z:SD (SD V)):Prop:=Wq.length=Z.length/\∀(i:Nat) w,Wq[i]? =some w->∃z,Z[i]? =some z/\Iss H (w.map pt) z
def iR.app{Wq W':SD (SD Pt)}{Z Z':SD (SD V)}(h:iR H Wq Z)(k:iR H W' Z'):iR H (Wq++W') (Z++Z'):=by
 show{by rw[AA,AA,h.1,k.1],λi w e=>?_};rcases Bs i Wq.length with q|q
 .rw[Bm q] at e;rw[Bm (by rw[<-h.1];show q)];show h.2 i w e
 .rw[BR q] at e;rw[BR (by rw[<-h.1];show q),<-h.1];show k.2 _ w e
theorem mx{H:Hp}:∀(row:SD Pt) (rs:SD V) (k:Nat),Iss H (row.map pt) rs->iR H (lvA row k) (lvA rs k)
 |row,rs,0,h=>by
  have e1:∀{α:Type} (l:SD α),lvA l 0=[l]:=λl=>by cases l<;>rfl
  rw[e1,e1];show{0,λi w e=>?_}
  match i,e with
  |0,e=>cases e;show{rs,0,h}
  |i+1,e=>simp at e
 |[],rs,k+1,h=>by
  rw[bn h];show{0,λi w e=>by simp[lvA] at e}
 |p::row,rs,k+1,h=>by
  have{u,us,0,h1,h2}:=aN h;rw[lvA,lvA];show iR.app ?_ (mx row us k h2);have{l,g}:=mx row us (k+1) h2;show{by rw[A1,A1,l],λi w e=>?_};rw[AD] at e;have{w',hw',0}:=AB.mp e;have{z,hz,hi}:=g i w' hw';show{u::z,by rw[AD,hz];rfl,am h1 hi}
def Mz{k:Nat}{row:SD Pt}(h:Iss H (row.map pt) rs)(i:Nat)(w:SD Pt)(e:(lvA row k)[i]? =some w):∃ws,(lvA rs k)[i]? =some ws/\Iss H (w.map pt) ws:=(mx row rs k h).2 i w e
def MA{k:Nat}{row:SD Pt}(h:Iss H (row.map pt) rs):(lvA rs k).length=(lvA row k).length:=(mx row rs k h).1.symm
def MB(h1:1<=d)(h4:d<=4):(cp d)[0]? =some (p0 d):=by
 have:d=1\/d=2\/d=3\/d=4:=by lia
 rcases this with rfl|rfl|rfl|rfl<;>ac_nf
def MC(h1:1<=d)(h4:d<=4):atI ((cp d).map pt) (-1)=some (pt (pl d)):=by
 have e:(cp d)[(cp d).length-1]? =some (pl d)/\1<=(cp d).length:=by
  have:d=1\/d=2\/d=3\/d=4:=by lia
  rcases this with rfl|rfl|rfl|rfl<;>ac_nf
 unfold atI ixN;rw[A1,A5 (by decide),A6 (by lia)];change((cp d).map pt)[((-1:Int)+((cp d).length:Int)).toNat]? =some (pt (pl d));rw[show((-1:Int)+((cp d).length:Int)).toNat=(cp d).length-1 by lia,AD,e.1];rfl
def MD:OKQ T.X34 P w base 22 spWayP:=by
 show FbO T.X34 vK λ_ _ _ _ H vs Q E hr h=>?_;have{n,k,0,hN,{h64,hsw},k2}:=h;show{_,(ai (aL (pcq (yi T) hr T.X2 (ab (pv 0) (ab (pv 1) af))))
  (ai (pSA (i:=2) vK.nd (pcq (Mk T) hr T.X25 (ab (pv 0) af)))
  (aj (ap (bf (ux hr) (by rfl) T.n_sorted boot_sorted (ab (c9 (XN:=["d","k","row"]) (sc:=al kY) (N:=["between","row"]) (own:=1) (js:=[2]) rfl (by ac_nf) rfl rfl (aP (pcq (yJ T 20) hr T.X33 (ab (eJ fO (pv 2) (dW ag) (dW (fL fM ag))) (ab (pv 1) af)))) (λ_ _ _ _=>(bN (i:=0) (show List.Nodup (["between","row"]:SD Str) by ac_nf) rfl (Or.inl rfl) (.inr rfl))) (c8 (by decide)) (λ_ _ _ _=>dG) (λ_ _ _ _=>(ah dw (ah dw (aK (ab (ay dN (pv 1) ag (λ_ _=>rfl)) af)) (pv 0)) (aK (ab (ay dN (pv 1) (fL fM ag) (λ_ _=>rfl)) af))))) af)))))),?_}
 have d1:1<=n:=hN.1;have d4:n<=4:=by unfold dD at hN;lia
 show{1,1,n,k,0,hN,?_};show{1,n,0,d1,4,λl0 H1 s1 Rk Pn=>?_};have{_,rs,e,RW,his}:=gW Pn;cases e;have Nd:rs.length=(cp n).length:=by rw[his.length,A1]
 have plen:3<=(cp n).length/\(cp n).length<=15:=by
  have:n=1\/n=2\/n=3\/n=4:=by lia
  rcases this with rfl|rfl|rfl|rfl<;>ac_nf
 show{1,(1),0,(1),0,1,l0,rs,0,SqL.of RW,?_};rw[Mw (by lia)];intro b nb;have sb:ae H1 (upd H1 b (.lst ((rs.drop 1).dropLast))):=ae.new nb;have Qc:((rs.drop 1).dropLast).length=rs.length-2:=by simp;lia
 show{1,b,_,k,0,SqL.of ak,4,4,λl1 us H2 s2 nl1 Oq L1=>?_};have mis:Iss H1 ((dC n).map pt) ((rs.drop 1).dropLast):=by
  unfold dC;have:=(his.drop 1);rw[<-List.map_drop] at this;have t2:=this.take ((rs.drop 1).length-1);rw[<-List.map_take] at t2;rw[List.dropLast_eq_take,List.dropLast_eq_take];rw[Bw] at t2⊢;rw[Bw,<-Nd];show t2
 generalize (rs.drop 1).dropLast=ms at mis Qc sb s2 L1 nl1⊢;have Qv:ae H1 H2:=sb.trans s2;have Lis:∀(i:Nat) (w:SD Pt),(lvA (dC n) k)[i]? =some w->E2 λa ws=>us[i]? =some (.ref a)/\H2 a=some (.lst ws)/\Iss H2 (w.map pt) ws:=λi w hw=>by
  have{ws,e1,e2}:=Mz (k:=k) mis i w hw;have{a,f1,_,f3}:=L1.2 i ws e1;show{a,ws,f1,f3,e2.mono Qv}
 have O6:us.length=(lvA (dC n) k).length:=by rw[L1.1,MA mis]
 have Sr:(bj n k).length=(lvA (dC n) k).length:=by unfold bj;rw[A1]
 show{l1,0,{_,SqL.of Oq},λacc na=>?_};show dZ (xs:=us) (own:=1) (js:=[2]) (λi H3=>ae H2 H3/\bW H3 acc (((bj n k).take i).map pts)) {ae.new na,bW.start} (λi H3 _ h=>SqL.of (h.1 _ _ Oq)) ?_ ?_ db dJ ?_
 .rintro i x H3 hi ⟨s3,vs,MR,Nm⟩;have Ri:i<(lvA (dC n) k).length:=by rw[<-O6];show(A8.mp hi).1
  have{a1,ws,f1,f2,f3}:=Lis i _ (A2 Ri);rw[hi] at f1;cases f1;have wl:((lvA (dC n) k)[i]).length<=15:=by
   have:=lS (dC n) k _ (CT Ri);have:(dC n).length<=(cp n).length:=by unfold dC;simp;lia
   lia
  have hrow:Is H3 (pts (cp n)) (.ref l0):=(Pn.mono Qv).mono s3;have g0:atI ((cp n).map pt) 0=some (pt (p0 n)):=Fc (j:=0) rfl (MB d1 d4);have gl:atI ((cp n).map pt) (-1)=some (pt (pl n)):=MC d1 d4;show fh ?_;show{1,_,(0),_,hrow,0,g0,λu hu=>{(zB rfl),λc1 H4 n4 s4 h4=>?_}};show{1,_,_,aD h4 (am (hu.mono s4) ao),aD (s4 _ _ (s3 _ _ f2)) ((f3.mono s3).mono s4),Ah (az (by simp;lia)),λc2 H5 n5 s5 h5=>?_};show{1,(1),0,_,_,_,(hrow.mono s4).mono s5,0,gl,λu2 N5=>{(zB rfl),λc3 H6 n6 s6 h6=>?_}};show{_,_,h5.mono s6,aD h6 (am (N5.mono s6) ao),Ah (az (by simp;lia)),λc4 H7 n7 s7 h7=>?_};have s37:ae H3 H7:=((s4.trans s5).trans s6).trans s7;show{acc,vs,1,0,s37 _ _ MR,az (by rw[Nm.length];simp;lia),(s3.trans s37).put na,?_};rw[AL,show(bj n k)[i]? =some ([p0 n]++(lvA (dC n) k)[i]++[pl n]) by unfold bj;rw[AD,A2 Ri];rfl,A7];have Pg:=s6 _ _ (s5 _ _ (s4 _ _ MR));show gX (Nm.mono (dh s37)) (My (s7 _ _ Pg) (bz Pg n7).symm ?_);change Is H7 (.l (([p0 n]++(lvA (dC n) k)[i]++[pl n]).map pt)) _;rw[A7,A7];show h7
 .rintro H3 ⟨s3,g⟩;rw[O6,<-Sr,AI] at g;have Ni:ae H H3:=(s1.trans Qv).trans s3;have{_,vs,e,MR,Nm}:=aA g.is;cases e;have NH:vs.length=(bj n k).length:=by rw[Nm.length,A1]
  show yc MR Nm (λx v h=>let ⟨a,ys,e1,e2,_⟩:=gW h;{a,ys,e1,e2}) (λ_ _ _ _ h h'=>Fv h h') h64 hsw λp q pp nq=>?_;show k2 (p.map λi=>(bj n k).getD i []) q _ (yd pp) (Ni.put (Ni.free nq)) (Ni.free nq) ?_;show aD ak ((lT [] Nm p λi h=>AY.mp (pp.mem_iff.mp h)).mono (ae.new nq))
 .rintro σ H R R' k ⟨v1,e1,xs,i,d,h1,e2,e3,h⟩;show{v1,e1,xs,i,d,h1,e2,e3,λu hu=>?_};have{z,h}:=h u hu;show{z,λp H2 np s2 hp=>?_};have{v2,f1,a1,a2,f2,f3,f4,h}:=h p H2 np s2 hp;show{v2,f1,a1,a2,f2,f3,f4,λp H3 np s3 hp=>?_};have{v3,g1,i3,g2,xs3,j3,d3,g3,g4,g5,h}:=h p H3 np s3 hp;show{v3,g1,i3,g2,xs3,j3,d3,g3,g4,g5,λu hu=>?_};have{z,h}:=h u hu;show{z,λp H4 np s4 hp=>?_};have{a1,a2,f2,f3,f4,h}:=h p H4 np s4 hp;show{a1,a2,f2,f3,f4,λp H5 np s5 hp=>k _ _ (h p H5 np s5 hp)}
def ME:FnOk P w K mg base (CX0) 46 T.f43 T.d43 ["d","k"] spWhoQ:=by
 show FbO T.X43 jB λ_ _ _ _ H vs Q E hr h=>?_;have{d,k,0,hN,kk}:=h;show{_,(ai (aL (pcq (yi T) hr T.X2 (ab (pv 0) (ab (pv 1) af))))
  (ai (pSA (i:=2) jB.nd ag)
  (ai (aC AF rfl (aP (pcq (MD T) hr T.X34 (ab (pv 0) (ab (pv 1) af)))) (pGA (i:=3) jB.nd) (aj (aC AF rfl (aP (pcq (Mp T) hr T.X36 (ab (pv 0) (ab (pv 3) af)))) (pGA (i:=4) jB.nd) (aj (aT (aJ cB (pcq (Mv T) hr T.X42 (ab (pv 4) af)) ag (aH _)) (aj (gf (i:=2) jB.nd rfl (by trivial) (pcq (Mq T) hr T.X37 (ab (pv 4) af)) ke)) aU)))))
  (aj (ap (pv 2)))))),?_}
 show{1,1,d,k,0,hN,?_};have d1:1<=d:=hN.1;have d4:d<=4:=by unfold dD at hN;lia
 show{1,1,d,k,0,hN,{(j0 hN).1,(j0 hN).2.2.1},λS l H3 pS s3 nl hl=>?_};have hg:∀w∈S,okP d w=true/\∀cs∈cq d w,Cut cs:=λw hw=>KO hN w (pS.mem_iff.mp hw);rw[show cf d (bj d k)=cf d S from(qQ (me d) pS).symm] at kk;clear pS;have{_,Ng,e,Oz,Oc}:=aA hl;cases e;have NI:Ng.length=S.length:=by rw[Oc.length,A1]
 show{l,0,{_,SqL.of Oz},aZ (xs:=Ng) (λj σ H4=>(E2 λv3 v4=>σ=[some (.int d),some (.int k),some (.int (cf d (S.take j))),v3,v4])/\ae H3 H4) {{none,none,0},ae.refl _} (λj σ H4 _ h=>SqL.of (h.2 _ _ Oz)) ?_ ?_}
 .rintro j y σ H4 hj ⟨⟨v3,v4,rfl⟩,s4⟩;have{ps,M6,hy}:=aR Oc hj;have{ok,Q9}:=hg ps (AH M6);have hs:cf d (S.take (j+1))=cf d (S.take j)+me d ps:=xA (me d) M6;obtain⟨n,rfl⟩:∃n,n=d:={d,0};show{1,1,n,y,ps,0,d1,d4,hy.mono s4,ok,λL lc H5 pL s5 nlc hL=>?_};have hL:=hL.mono bx;have Q9:∀cs∈L,Cut cs:=λcs hc=>Q9 cs (pL.mem_iff.mp hc);have hs:cf n (S.take (j+1))=cf n (S.take j)+(L.map gL).sum:=by
   rw[hs,qQ gL pL];rfl
  rw[hs];have{_,O7,e,hc5,Qi}:=aA hL;cases e;have O8:O7.length=L.length:=by rw[Qi.length,A1]
  show{lc,0,{_,SqL.of hc5},aZ (xs:=O7) (λi σ H6=>(∃v4,σ=[some (.int n),some (.int k),some (.int (cf n (S.take j)+((L.take i).map gL).sum)),some y,v4])/\ae H5 H6) {{v4,7},ae.refl _} (λi σ H6 _ h=>SqL.of (h.2 _ _ hc5)) ?_ ?_}
  .rintro i z σ H6 hi ⟨⟨v4,rfl⟩,s6⟩;have{cs,hcx,hz}:=aR Qi hi;have hC:=Q9 cs (AH hcx);rw[xA gL hcx];show{1,z,cs,0,hz.mono s6,hC,λH7 s7=>{0,1,cD (λe=>?_) (λe=>?_)}}
   .rw[show gL cs=cO cs from A6 (by have e:(lY cs:Int)=1:=e;lia)];show{1,1,z,cs,0,(hz.mono s6).mono s7,hC.1,2,{some z,?_},s6.trans s7};rw[<-Int.add_assoc];rfl
   .rw[show gL cs=0 from A5 (by have e:¬(lY cs:Int)=1:=e;lia),Int.add_zero];show{{some z,0},s6.trans s7}
  .rintro σ H6 ⟨⟨v4,rfl⟩,s6⟩;rw[O8,AI];show{{3},(s4.trans s5).trans s6}
 .rintro σ H4 ⟨⟨v3,v4,rfl⟩,s4⟩;rw[NI,AI];show{1,kk H4 (s3.trans s4)}
def MF:OKQ T.X44 P w base 2 (spSpl K):=by
 show FbO T.X44 io λ_ _ _ _ H vs Q E hr h=>?_;have{a,d,ws,0,hS,d2,d8,hl,hw,kk}:=h;show{_,(ai (pSA (i:=2) io.nd ag)
  (ai (aC AF rfl (dS (by rfl) T.n_range (ab ag (ab (pv 0) af))) (pGA (i:=3) io.nd) (ai (pSA (i:=4) io.nd (ah aF (pv 0) (pv 3)))
  (ai (pSA (i:=5) io.nd (ah aF (ah aW (pv 4) (pcq (rm T) hr T.X5 (ab (ah aF (ah aW ag (pv 0)) ag) (ab (ah aF (ah aW ag (pv 3)) ag) af)))) (ah aW (pv 3) (pcq (rm T) hr T.X5 (ab (ah aF (ah aW ag (pv 0)) ag) (ab (ah aF (ah aW ag (pv 3)) ag) af))))))
  (aj (gf (i:=2) io.nd rfl (by trivial) (ah aW (ah aW (ah aW (ah aW (ah aW (ay cC (pv 1) (pv 3) (λ_ _=>rfl)) (ay cC (pv 1) (pv 4) (λ_ _=>rfl))) (pv 3)) (pv 3)) (pv 4)) (pv 5)) ke)))))
  (aj (ap (pv 2))))),?_}
 show{1,(1),1,{5,5,4,4},?_};have en:((d:Int)-1).toNat=d-1:=by lia
 rw[en];show cA (lo:=1) (n:=d-1) (λi σ H2=>(E3 λv3 v4 v5=>σ=[some (.int d),some (.ref a),some (.int (lR d i)),v3,v4,v5])/\H2=H) {{none,none,none,0},0} ?_ ?_
 .rintro i σ H2 hi ⟨⟨v3,v4,v5,rfl⟩,rfl⟩;show{1,1,2,?_};show{1,1,2,.inl {5,5},2,1,2,.inl {5,5},2,3,4,4,2,.inl {4,4},?_};show{1,1,2,.inl {5,5},2,1,2,.inl {5,5},2,3,4,4,2,.inl {4,4},2,?_};have oc:=JO (n:=d) (m:=i) d8 (by lia);unfold iG at oc;show{1,1,1,a,_,2,hS,qU hw (by lia) (by lia),1,1,a,_,2,hS,qU hw (by lia) (by lia),2,.inl (JP _),1,2,.inr {4,4},1,2,.inr {4,4},1,2,.inr {4,4},1,2,.inr oc,2,{_,3},0}
 .rintro σ H2 ⟨⟨v3,v4,v5,rfl⟩,rfl⟩;rw[<-JM d2 d8] at kk;show{1,kk}
def MG:FnOk P w K mg base (CX0) 4 T.f45 T.d45 ["d"] spWhQ:=by
 show FbO T.X45 oZ λ_ _ _ _ H vs Q E hr h=>?_;have{d,0,i1,i2,kk}:=h;show{_,(ai (aL (pcq (gO T) hr T.X1 (ab (pv 0) (ab ag (ab ag af)))))
  (ai (pSA (i:=1) oZ.nd (iZ (ab ag (ab ag af))))
  (ai (aC AF rfl (dS (by rfl) T.n_range (ab ag (ab (ah aI (pv 0) ag) af))) (pGA (i:=2) oZ.nd) (aj (aL (bA AU Af Ae b8 (pv 1) (ab (pcq (MF T) hr T.X44 (ab (pv 2) (ab (pv 1) af))) af)))))
  (aj (ap (ay cC (pv 1) (pv 0) (λ_ _=>rfl))))))),?_}
 show{1,(d:Int),(1),(8),0,4,4,?_};show{(zB rfl),λl nl=>?_};show{1,2,(2),1,{5,5,4,4},?_};have en:((d:Int)+1-2).toNat=d-1:=by lia
 rw[en];show cA (lo:=2) (n:=d-1) (λi σ H2=>(∃v2,σ=[some (.int d),some (.ref l),v2])/\ae H H2/\∃ws:SD Int,H2 l=some (.lst (ws.map V.int))/\ws.length=i+2/\∀j:Nat,j<i+2->ws[j]? =some (wh j)) {{none,0},ae.new nl,[0,1],ak,0,λj hj=>?_} ?_ ?_
 .have:j=0\/j=1:=by lia
  rcases this with rfl|rfl<;>rfl
 .rintro i σ H2 hi ⟨⟨v2,rfl⟩,s2,ws,NB,MS,hw⟩;show{1,.inl {0,_,SqL.of NB},1,1,l,i+2,ws,?_,SqL.of NB,4,4,MS,hw,?_}
  .change [V.int (2+(i:Int)),V.ref l]=[V.int ((i+2:Nat):Int),V.ref l];rw[show(2+(i:Int))=((i+2:Nat):Int) by lia]
  .show{l,ws.map V.int,1,0,NB,az (by rw[A1];lia),{1},s2.put nl,ws++[wh ((i+2:Nat):Int)],by rw[ak,A7];rfl,by rw[AA,MS];rfl,λj hj=>?_};by_cases hj2:j<i+2
   .rw[Bm (by lia)];show hw j hj2
   .obtain rfl:j=i+2:=by lia
    rw[BR (by lia),MS,Nat.sub_self];rfl
 .rintro σ H2 ⟨⟨v2,rfl⟩,s2,ws,NB,MS,hw⟩;show{1,1,l,_,2,SqL.of NB,qU (d:=d-1+2) hw (by lia) (by lia),kk H2 s2}
def MH:OKQ T.X71 P w base 4 (spAskD K):=by
 show FbO T.X71 fA λ_ _ _ _ H vs Q E hr h=>?_;have{a,ns,0,hS,kk}:=h;show{_,(ai (pSA (i:=1) fA.nd (pcq (LF T) hr T.X68 (ab (pcq (LD T) hr T.X67 (ab (pv 0) (ab ag af))) (ab ag af))))
  (ai (pSA (i:=2) fA.nd (ah aI ag (pcq (j7 T) hr T.X70 (ab (pv 1) (ab ag af)))))
  (ai (pSA (i:=3) fA.nd (pcq (j7 T) hr T.X70 (ab (pv 1) (ab (ay cC (aK (ab ag (ab ag af))) (ah gg (pv 2) ag) (λ_ _=>rfl)) af))))
  (ai (pSA (i:=4) fA.nd (pcq (j7 T) hr T.X70 (ab (pv 1) (ab ag af))))
  (ai (kx (aT (aJ dU (pv 4) ag (aH _)) (ai (pSA (i:=2) fA.nd (ah aI ag (pv 4)))
  (aj (pSA (i:=3) fA.nd (pcq (j7 T) hr T.X70 (ab (pv 1) (ab (ay cC (aK (ab ag (ab ag af))) (pv 4) (λ_ _=>rfl)) af)))))) aU))
  (ai (kx (aT (aJ cB (pv 4) ag (aH _)) (ai (pSA (i:=2) fA.nd (ah aI ag (pcq (j7 T) hr T.X70 (ab (pv 1) (ab ag af)))))
  (aj (pSA (i:=3) fA.nd (ah gg (ah aW (ah aF (pv 2) ag) (ah aF (pv 2) ag)) ag)))) aU))
  (aj (ap (bh (ab (pv 2) (ab (pv 3) af))))))))))),?_}
 show{1,a,ns,(0),0,hS,5,λz=>{z,(1),0,5,5,λb Og st H1 s1 nb hb hf M3=>?_}};show{1,b,(5),Og,st,0,hb,hf,M3,5,5,λy Qn N7 y0 y1 OM R1=>{2,?_}};have{m,0}:=BS y0;have s2:ae H (upd H1 b (.lst [.int Qn,.int N7])):=s1.put nb;have hb2:upd H1 b (.lst [.int Qn,.int N7]) b=some (.lst [.int Qn,.int N7]):=ak;generalize upd H1 b (.lst [.int Qn,.int N7])=H2 at s2 hb2⊢;rw[show V.int (1+(m:Int))=V.int ((m+1:Nat):Int) by rw[show(1:Int)+(m:Int)=((m+1:Nat):Int) by lia]];show{1,(zB rfl),λq H5 nq s5 hq=>{1,2,{5,5},q,_,_,.int (if m+1=5 then 4 else 7),0,0,SqL.of hq,?_,?_}}
 .have:m=0\/m=1\/m=2\/m=3\/m=4:=by lia
  rcases this with e|e|e|e|e<;>subst e<;>rfl
 show{b,_,Qn,N7,0,s5 _ _ hb2,OM,R1,by split<;>decide,by split<;>decide,λx Qo QC x0 x1 Qx hst5=>?_}
 have{n,0}:=BS x0;have hW:Wide (m+1) n:=by unfold Wide;split at x1<;>lia
 have s6:ae H (upd H5 b (.lst [.int Qo,.int QC])):=(s2.trans s5).put nb;have Si:upd H5 b (.lst [.int Qo,.int QC]) b=some (.lst [.int Qo,.int QC]):=ak;generalize upd H5 b (.lst [.int Qo,.int QC])=H6 at s6 Si⊢;show{1,b,(8),Qo,QC,0,Si,Qx,hst5,5,5,λu Pu st6 u0 u1 hf6 hst6=>?_};have s7:ae H (upd H6 b (.lst [.int Pu,.int st6])):=s6.put nb;have hb7:upd H6 b (.lst [.int Pu,.int st6]) b=some (.lst [.int Pu,.int st6]):=ak;generalize upd H6 b (.lst [.int Pu,.int st6])=H7 at s7 hb7⊢;show{λσ H8=>E4 fun(d k:Nat) (Og st:Int)=>σ=[some (.ref a),some (.ref b),some (.int d),some (.int k),some (.int u)]/\ae H H8/\H8 b=some (.lst [.int Og,.int st])/\0<=Og/\0<=st/\Wide d k,?_,?_}
 .show{1,2,1,bq (λc=>?_) (λc=>?_)}
  .have{e,0}:=BS u0;show{1,2,?_};show{1,(zB rfl),λq2 H9 nq2 s9 hq2=>{1,q2,_,_,.int (if e=1 then 3 else 7),0,0,SqL.of hq2,?_,?_}}
   .have:e=0\/e=1:=by lia
    rcases this with e|e<;>subst e<;>rfl
   show{b,_,Pu,st6,0,s9 _ _ hb7,hf6,hst6,by split<;>decide,by split<;>decide,λx2 Ss st8 x20 x21 hf8 Su=>?_}
   have{n2,0}:=BS x20;show{e+3,n2,Ss,st8,?_,(s7.trans s9).put nb,ak,hf8,Su,by unfold Wide;split at x21<;>lia}
   rw[show((e+3:Nat):Int)=3+(e:Int) by lia];rfl
  .show{m+1,n,Pu,st6,0,s7,hb7,hf6,hst6,hW}
 rintro σ H8 ⟨d,k,Ss,st8,rfl,s8,hb8,hf8,Su,hW⟩;show{λσ H9=>E2 fun(d k:Nat)=>σ=[some (.ref a),some (.ref b),some (.int d),some (.int k),some (.int u)]/\ae H H9/\Wide d k,?_,?_}
 .show{1,0,1,cD (λc=>?_) (λc=>?_)}
  .show{1,b,(4),Ss,st8,0,hb8,hf8,Su,5,5,λy2 far9 st9 y20 y21 QS hst9=>{2,?_}};obtain⟨e,k2,ee,ek,hW2⟩:∃e k:Nat,1+y2=(e:Int)/\((e:Int)-1)*((e:Int)-2)/2=(k:Int)/\Wide e k:=by
    unfold Wide;rcases(show y2=0\/y2=1\/y2=2\/y2=3 by lia) with rfl|rfl|rfl|rfl
    .show{(1),(0),0,0,5}
    .show{(2),(0),0,0,5}
    .show{(3),(1),0,0,5}
    .show{(4),(3),0,0,5}
   rw[show V.int (1+y2)=V.int (e:Int) by rw[ee]];have e14:e<=5:=by unfold Wide at hW2;lia
   show{1,2,1,2,2,.inr {4,4},2,{5,5},e,k2,?_,s8.put nb,hW2};rw[<-ek];rfl
  .show{d,k,0,s8,hW}
 rintro σ H9 ⟨d,k,rfl,s9,hW⟩;show{1,1,(zB rfl),λt H3 nt s3 ht=>kk d k t H3 (s9.trans s3) hW ht}
def MI{k:Nat}(hW:Wide d k)(h:2*(k:Int)=((d:Int)-1)*((d:Int)-2)):wh d=cN d k:=by
 unfold Wide at hW;have:(d=1/\k=0)\/(d=2/\k=0)\/(d=3/\k=1)\/(d=4/\k=3):=by
  have hd:d=1\/d=2\/d=3\/d=4\/d=5:=by lia
  rcases hd with rfl|rfl|rfl|rfl|rfl<;>lia
 rcases this with⟨rfl,rfl⟩|⟨rfl,rfl⟩|⟨rfl,rfl⟩|⟨rfl,rfl⟩<;>ac_nf
def rp :List.replicate n v++[v]=List.replicate (n+1) v:=by
 rw[List.replicate_succ']
def MJ:OKQ T.X72 P w base 59 (sp_law K):=by
 show FbO T.X72 jJ λ_ _ _ _ H vs Q E hr h=>?_;have{a,ns,0,hS,hl,kk}:=h;show{_,(ai (mE (pcq (MH T) hr T.X71 (ab (pv 0) af)) (cy rfl (aV (pGA (i:=1) jJ.nd) (aV (pGA (i:=2) jJ.nd) cg))))
  (ai (pSA (i:=3) jJ.nd (aK (ab (pcq (LS T) hr T.X24 (ab (pv 1) (ab (pv 2) af))) (ab (pcq (Mh T) hr T.X66 (ab (pv 1) (ab (pv 2) af))) af))))
  (ai (kx (aT (fb (aJ dU (pv 1) ag (aH _)) (gd (rK (aJ cB (pv 1) ag (aH _)) (rJ (aJ dU (pv 2) ag (aH _)))).pt)).pt (aj (aL (bA AU Af Ae b8 (pv 3) (ab (pcq (ME T) hr T.X43 (ab (pv 1) (ab (pv 2) af))) af)))) aU))
  (ai (kx (aT (aJ cB (ah aW ag (pv 2)) (ah aW (ah aF (pv 1) ag) (ah aF (pv 1) ag)) (aH _)) (aj (aL (bA AU Af Ae b8 (pv 3) (ab (pcq (MG T) hr T.X45 (ab (pv 1) af)) af)))) aU))
  (ai (aC AF rfl (aP (pv 3)) (pGA (i:=4) jJ.nd) (aj (aT (fb (ge (e9 (bf ja (by rfl) T.n_isinstance Df (ab (pv 4) (ab (iT (v:= .ty "int") (by rfl) T.n_int boot_int (by rfl)) af))))) (fb (e9 (bf ja (by rfl) T.n_isinstance Df (ab (pv 4) (ab (iT (v:= .ty "bool") (by rfl) T.n_bool boot_bool (by rfl)) af)))) (gd (aJ r6 (pv 4) (ay cC (pv 3) ag (λ_ _=>rfl)) (aH _))))).pt (aj (ap iS)) aU)))
  (aj (ap iS))))))),?_}
 show{1,a,ns,0,hS,λd k t H1 s1 hW ht=>?_};have d15:1<=d/\d<=5:=by unfold Wide at hW;lia
 have k6:k<=6:=by unfold Wide at hW;lia
 show{t,1,SqT.of ht,0,3,2,?_};show{1,1,d,k,0,hW,λH2 s2=>{1,1,d,k,0,hW,λH3 s3=>{(zB rfl),λtl H6 ntl s4 Qb=>?_}}};rw[(xB hW).2.2] at Qb;have Qb:H6 tl=some (.lst (List.replicate (1+1) (V.int (cN d k)))):=Qb;show{λσ H7=>∃n:Nat,n<=3/\σ=[some (.ref a),some (.int d),some (.int k),some (.ref tl),none]/\H7 tl=some (.lst (List.replicate (n+1) (V.int (cN d k)))),?_,?_}
 .show{1,2,1,bq (λc=>?_) (λc=>?_)}
  .have hN:dD d k:=by unfold dD;lia
   show{1,.inl {0,_,SqL.of Qb},1,1,d,k,0,hN,λH7 s7=>?_};rw[(j0 hN).2.2.2];show{tl,2,s7 _ _ Qb,az (by rw[BJ];lia),(2),4,0,by rw[ak,rp]}
  .show{1,0,1,cD (λc4=>?_) (λc4=>?_)}
   .show{1,2,1,bq (λc3=>?_) (λc3=>?_)}
    .have hN:dD d k:=by unfold dD;lia
     show{1,.inl {0,_,SqL.of Qb},1,1,d,k,0,hN,λH7 s7=>?_};rw[(j0 hN).2.2.2];show{tl,2,s7 _ _ Qb,az (by rw[BJ];lia),(2),4,0,by rw[ak,rp]}
    .show{(1),4,0,Qb}
   .show{(1),4,0,Qb}
 rintro σ H7 ⟨n,n3,rfl,h7⟩;show{λσ H8=>∃n:Nat,n<=4/\σ=[some (.ref a),some (.int d),some (.int k),some (.ref tl),none]/\H8 tl=some (.lst (List.replicate (n+1) (V.int (cN d k)))),?_,?_}
 .show{1,2,.inl {5,5},1,2,1,2,2,.inr {4,4},0,1,cD (λc=>?_) (λc=>?_)}
  .show{1,.inl {0,_,SqL.of h7},1,d,0,d15.1,4,λH8 s8=>?_};rw[MI hW c];show{tl,2,s8 _ _ h7,az (by rw[BJ];lia),n+1,4,0,by rw[ak,rp]}
  .show{n,4,0,h7}
 clear h7;rintro σ H8 ⟨n,n4,rfl,h8⟩;have at0:atI (List.replicate (n+1) (V.int (cN d k))) 0=some (.int (cN d k)):=ki (j:=0) (by rw[Ba];rfl);show{1,tl,0,{_,SqL.of h8},aZ (xs:=List.replicate (n+1) (V.int (cN d k))) (λi σ H9=>(∃v4,σ=[some (.ref a),some (.int d),some (.int k),some (.ref tl),v4])/\H9=H8) {{none,0},0} (λi σ H9 _ h=>by rw[h.2];show SqL.of h8) ?_ ?_}
 .rintro i y σ H9 hi ⟨⟨v4,rfl⟩,rfl⟩;have ey:y=.int (cN d k):=by
   rw[D4] at hi;split at hi
   .show(Ad hi).symm
   .cases hi
  subst ey;show{1,_,"int",_,true,0,.int _,xG,true,0,bJ {1,_,"bool",_,false,0,.int _,0,false,0,bJ ?_}};show{1,1,tl,_,(0),1,0,SqL.of h8,at0,0,1,Ef rfl {{1},0}}
 .rintro σ H9 ⟨⟨v4,rfl⟩,rfl⟩;show kk _
end
def fb1{n:Str}{ps:SD Str}{d:SA}(F:Fun K n n st f d)(e:mg n=some (.ref f))(hp:ps.length=1:=by show rfl)(h:∀(kV dc pm:Sv) (an:SG Sx) (cd ct x0:Sv),bindArgs (W.fnOf n n (fg st) (dX st) (al st) .none kV dc pm an cd ct) {[x0],[]}=pure (ps.zip [x0]):=by intros;show rfl):Fb K mg n st ps f d:=by
 show{F,F.binds λkV dc pm an cd ct us hl=>?_,e};rw[hp] at hl;rcases us with _|⟨x0,us⟩
 .simp at hl
 rcases us with _|⟨y,us⟩
 .show h kV dc pm an cd ct x0
 .simp at hl
def fb2{n:Str}{ps:SD Str}{d:SA}(F:Fun K n n st f d)(e:mg n=some (.ref f))(hp:ps.length=2:=by show rfl)(h:∀(kV dc pm:Sv) (an:SG Sx) (cd ct x0 x1:Sv),bindArgs (W.fnOf n n (fg st) (dX st) (al st) .none kV dc pm an cd ct) {[x0,x1],[]}=pure (ps.zip [x0,x1]):=by intros;show rfl):Fb K mg n st ps f d:=by
 show{F,F.binds λkV dc pm an cd ct us hl=>?_,e};rw[hp] at hl;rcases us with _|⟨x0,us⟩
 .simp at hl
 rcases us with _|⟨x1,us⟩
 .simp at hl
 rcases us with _|⟨y,us⟩
 .show h kV dc pm an cd ct x0 x1
 .simp at hl
def fb3{n:Str}{ps:SD Str}{d:SA}(F:Fun K n n st f d)(e:mg n=some (.ref f))(hp:ps.length=3:=by show rfl)(h:∀(kV dc pm:Sv) (an:SG Sx) (cd ct x0 x1 x2:Sv),bindArgs (W.fnOf n n (fg st) (dX st) (al st) .none kV dc pm an cd ct) {[x0,x1,x2],[]}=pure (ps.zip [x0,x1,x2]):=by intros;show rfl):Fb K mg n st ps f d:=by
 show{F,F.binds λkV dc pm an cd ct us hl=>?_,e};rw[hp] at hl;rcases us with _|⟨x0,us⟩
 .simp at hl
 rcases us with _|⟨x1,us⟩
 .simp at hl
 rcases us with _|⟨x2,us⟩
 .simp at hl
 rcases us with _|⟨y,us⟩
 .show h kV dc pm an cd ct x0 x1 x2
 .simp at hl
def fb4{n:Str}{ps:SD Str}{d:SA}(F:Fun K n n st f d)(e:mg n=some (.ref f))(hp:ps.length=4:=by show rfl)(h:∀(kV dc pm:Sv) (an:SG Sx) (cd ct x0 x1 x2 x3:Sv),bindArgs (W.fnOf n n (fg st) (dX st) (al st) .none kV dc pm an cd ct) {[x0,x1,x2,x3],[]}=pure (ps.zip [x0,x1,x2,x3]):=by intros;show rfl):Fb K mg n st ps f d:=by
 show{F,F.binds λkV dc pm an cd ct us hl=>?_,e};rw[hp] at hl;rcases us with _|⟨x0,us⟩
 .simp at hl
 rcases us with _|⟨x1,us⟩
 .simp at hl
 rcases us with _|⟨x2,us⟩
 .simp at hl
 rcases us with _|⟨x3,us⟩
 .simp at hl
 rcases us with _|⟨y,us⟩
 .show h kV dc pm an cd ct x0 x1 x2 x3
 .simp at hl
def Hf(K:W.Frag)(n:Str)(st:SH)(f:Sx):Prop:=W.nsIn K mainGlobals n=some (some (.ref f))/\∃d,Fun K n n st f d
def MK{n:Str}{od an:SG Sx}{sl:Array (SG Sv)}{oc kV dc pm cd ct:Sv}(a:W.nsIn K mainGlobals n=some (some (.ref f)))(l:K.lookup f=some {oc,od,.func (W.fnOf n n (fg st) (dX st) (al st) .none kV dc pm an cd ct),sl})(c:W.codeIn K cd n=true)(k:W.keepIn K (.ref f)=true):Hf K n st f:={a,_,Ee l c k}
def ML{h:SF}{fa:Sx}(X:K.In h)(G:h.Ns mainGlobals mg)(hfa:mg "law"=some (.ref fa))
  {f0 f1 f2 f3 f4 f5 f6 f7 f8 f9 f10 f11 f12 f13 f14 f15 f16 f17 f18 f19 f20 f21 f22 f23 f24 f25 f26 f27 f28 f29 f30 f31 f32 f33 f34 f35 f36 f37 f38 f39 f40 f41 f42 f43 f44 f45 f46 f47 f48 f49 f50 f51 f52 f53 f54 f55 f56 f57 f58 f59 f60 f61 f62 f63 f64 f65 f66 f67 f68 f69 f70 f71 f72:Sx}
  (h0:Hf K "is_whole" og f0)
  (h1:Hf K "need_between" oh f1)
  (h2:Hf K "need_narrow" oj f2)
  (h3:Hf K "need_wide" om f3)
  (h4:Hf K "need_degree" on f4)
  (h5:Hf K "choose" oq f5)
  (h6:Hf K "gathered" ot f6)
  (h7:Hf K "how_many_sets" jt f7)
  (h8:Hf K "ends_at" ou f8)
  (h9:Hf K "sound" ow f9)
  (h10:Hf K "lost" ox f10)
  (h11:Hf K "lifts_from" oy f11)
  (h12:Hf K "leaving" oz f12)
  (h13:Hf K "with_floor" jw f13)
  (h14:Hf K "drawings" kP f14)
  (h15:Hf K "parts" kQ f15)
  (h16:Hf K "worth" oA f16)
  (h17:Hf K "with_more" oB f17)
  (h18:Hf K "product_of" oC f18)
  (h19:Hf K "need_sound" oD f19)
  (h20:Hf K "end_marks" oE f20)
  (h21:Hf K "put_between" oF f21)
  (h22:Hf K "how_many_orders" oG f22)
  (h23:Hf K "how_many" oH f23)
  (h24:Hf K "whole_by_floors" jx f24)
  (h25:Hf K "points" oI f25)
  (h26:Hf K "is_point" oJ f26)
  (h27:Hf K "corner" oK f27)
  (h28:Hf K "upper_edge" kW f28)
  (h29:Hf K "lower_edge" jy f29)
  (h30:Hf K "first_turn" oM f30)
  (h31:Hf K "steps" oN f31)
  (h32:Hf K "piece_worth" oO f32)
  (h33:Hf K "leaving_out" kX f33)
  (h34:Hf K "ways" kY f34)
  (h35:Hf K "manners" oP f35)
  (h36:Hf K "cuttings" oQ f36)
  (h37:Hf K "cut_worth" oR f37)
  (h38:Hf K "sides" oS f38)
  (h39:Hf K "threads" oT f39)
  (h40:Hf K "corner_pieces" k7 f40)
  (h41:Hf K "joined" oU f41)
  (h42:Hf K "cut_parts" oV f42)
  (h43:Hf K "whole_by_ways" oW f43)
  (h44:Hf K "split_in_two" oX f44)
  (h45:Hf K "without_holes" oY f45)
  (h46:Hf K "is_row" o0 f46)
  (h47:Hf K "row_weight" jC f47)
  (h48:Hf K "need_rows" o6 f48)
  (h49:Hf K "filled_up" o7 f49)
  (h50:Hf K "rows_within" k9 f50)
  (h51:Hf K "rows_beyond" o8 f51)
  (h52:Hf K "choices" o9 f52)
  (h53:Hf K "weights_gained" pe f53)
  (h54:Hf K "with_one_held" ph f54)
  (h55:Hf K "with_one_degree_fewer" pi f55)
  (h56:Hf K "summands" pq f56)
  (h57:Hf K "counted" pz f57)
  (h58:Hf K "asked_of" pA f58)
  (h59:Hf K "by_ends" pB f59)
  (h60:Hf K "points_through" pC f60)
  (h61:Hf K "count_row" pD f61)
  (h62:Hf K "rows_up_to" pF f62)
  (h63:Hf K "by_degree" pG f63)
  (h64:Hf K "add_products" pH f64)
  (h65:Hf K "wholes_by_degree" pI f65)
  (h66:Hf K "reckoned_whole" pJ f66)
  (h67:Hf K "_law_cell_at" pM f67)
  (h68:Hf K "_law_bag" pN f68)
  (h69:Hf K "_law_mixed" pP f69)
  (h70:Hf K "_law_digit" pQ f70)
  (h71:Hf K "_law_asked" pR f71)
  (h72:Hf K "law" pT f72)
  (zz:∀n∈["isinstance","int","bool","range","len","min","enumerate","sum","sorted","list","tuple","set","abs","max","zip","dict"],W.nsIn K mainGlobals n=some none)
  {K_LEFT:Tok} (mi_LEFT:W.nsIn K mainGlobals "LEFT"=some (some (.int (1) K_LEFT)))
  {K_RIGHT:Tok} (mi_RIGHT:W.nsIn K mainGlobals "RIGHT"=some (some (.int (-1) K_RIGHT)))
  {A_NARROW:Sx} (da_NARROW:W.nsIn K mainGlobals "NARROW"=some (some (.ref A_NARROW))) (dt_NARROW:gZ K A_NARROW [(1,6),(2,6),(3,6),(4,2)]=true)
  {A_WIDE:Sx} (da_WIDE:W.nsIn K mainGlobals "WIDE"=some (some (.ref A_WIDE))) (dt_WIDE:gZ K A_WIDE [(1,6),(2,6),(3,6),(4,6),(5,3)]=true)
  {C_NoBound:Sx} (ca_NoBound:W.nsIn K mainGlobals "NoBound"=some (some (.ref C_NoBound)))
  {C_NoDrawing:Sx} (ca_NoDrawing:W.nsIn K mainGlobals "NoDrawing"=some (some (.ref C_NoDrawing)))
  {C_NoEnds:Sx} (ca_NoEnds:W.nsIn K mainGlobals "NoEnds"=some (some (.ref C_NoEnds)))
  (cx_NoBound:W.excIn K C_NoBound bmV "ValueError.__new__"=true) (xc_NoBound:XC K C_NoBound)
  (cx_NoDrawing:W.excIn K C_NoDrawing bmV "ValueError.__new__"=true) (xc_NoDrawing:XC K C_NoDrawing)
  (cx_NoEnds:W.excIn K C_NoEnds bmV "ValueError.__new__"=true) (xc_NoEnds:XC K C_NoEnds)
  :∃fd:SA,(∀(s:Sw) (v:Sv),BindsTo s fd {[v],[]} [("_law_script",v)])/\∀base:SF,K.In base->base.Ns mainGlobals mg->FnOk l.prog w K mg base CX0 59 fa fd ["_law_script"] (sp_law K):=by
 have{a0,d0,F0}:=h0;have{a1,d1,F1}:=h1;have{a2,d2,F2}:=h2;have{a3,d3,F3}:=h3;have{a4,d4,F4}:=h4;have{a5,d5,F5}:=h5;have{a6,d6,F6}:=h6;have{a7,d7,F7}:=h7;have{a8,d8,F8}:=h8;have{a9,d9,F9}:=h9;have{a10,d10,F10}:=h10;have{a11,d11,F11}:=h11;have{a12,d12,F12}:=h12;have{a13,d13,F13}:=h13;have{a14,d14,F14}:=h14;have{a15,d15,F15}:=h15;have{a16,d16,F16}:=h16;have{a17,d17,F17}:=h17;have{a18,d18,F18}:=h18;have{a19,d19,F19}:=h19;have{a20,d20,F20}:=h20;have{a21,d21,F21}:=h21;have{a22,d22,F22}:=h22;have{a23,d23,F23}:=h23;have{a24,d24,F24}:=h24;have{a25,d25,F25}:=h25;have{a26,d26,F26}:=h26;have{a27,d27,F27}:=h27;have{a28,d28,F28}:=h28;have{a29,d29,F29}:=h29;have{a30,d30,F30}:=h30;have{a31,d31,F31}:=h31;have{a32,d32,F32}:=h32;have{a33,d33,F33}:=h33;have{a34,d34,F34}:=h34;have{a35,d35,F35}:=h35;have{a36,d36,F36}:=h36;have{a37,d37,F37}:=h37;have{a38,d38,F38}:=h38;have{a39,d39,F39}:=h39;have{a40,d40,F40}:=h40;have{a41,d41,F41}:=h41;have{a42,d42,F42}:=h42;have{a43,d43,F43}:=h43;have{a44,d44,F44}:=h44;have{a45,d45,F45}:=h45;have{a46,d46,F46}:=h46;have{a47,d47,F47}:=h47;have{a48,d48,F48}:=h48;have{a49,d49,F49}:=h49;have{a50,d50,F50}:=h50;have{a51,d51,F51}:=h51;have{a52,d52,F52}:=h52;have{a53,d53,F53}:=h53;have{a54,d54,F54}:=h54;have{a55,d55,F55}:=h55;have{a56,d56,F56}:=h56;have{a57,d57,F57}:=h57;have{a58,d58,F58}:=h58;have{a59,d59,F59}:=h59;have{a60,d60,F60}:=h60;have{a61,d61,F61}:=h61;have{a62,d62,F62}:=h62;have{a63,d63,F63}:=h63;have{a64,d64,F64}:=h64;have{a65,d65,F65}:=h65;have{a66,d66,F66}:=h66;have{a67,d67,F67}:=h67;have{a68,d68,F68}:=h68;have{a69,d69,F69}:=h69;have{a70,d70,F70}:=h70;have{a71,d71,F71}:=h71;have{a72,d72,F72}:=h72;cases hfa.symm.trans (W.mg_of X G a72);have Wq:=F72;have{_,_,_,_,_,_,_,_,_,0,_}:=F72.ex;have g {n:Str}{v:Sv} (e:W.nsIn K mainGlobals n=some (some v)):mg n=some v:=W.mg_of X G e;show{_,λs v=>.of_eq rfl,λbase _ _=>MJ ({f0,_,f1,_,f2,_,f3,_,f4,_,f5,_,f6,_,f7,_,f8,_,f9,_,f10,_,f11,_,f12,_,f13,_,f14,_,f15,_,f16,_,f17,_,f18,_,f19,_,f20,_,f21,_,f22,_,f23,_,f24,_,f25,_,f26,_,f27,_,f28,_,f29,_,f30,_,f31,_,f32,_,f33,_,f34,_,f35,_,f36,_,f37,_,f38,_,f39,_,f40,_,f41,_,f42,_,f43,_,f44,_,f45,_,f46,_,f47,_,f48,_,f49,_,f50,_,f51,_,f52,_,f53,_,f54,_,f55,_,f56,_,f57,_,f58,_,f59,_,f60,_,f61,_,f62,_,f63,_,f64,_,f65,_,f66,_,f67,_,f68,_,f69,_,f70,_,f71,_,fa,_,fb1 F0 (g a0),fb3 F1 (g a1),fb2 F2 (g a2),fb2 F3 (g a3),fb1 F4 (g a4),fb2 F5 (g a5),fb2 F6 (g a6),fb2 F7 (g a7),fb2 F8 (g a8),fb2 F9 (g a9),fb1 F10 (g a10),fb4 F11 (g a11),fb3 F12 (g a12),fb4 F13 (g a13),fb2 F14 (g a14),fb2 F15 (g a15),fb1 F16 (g a16),fb3 F17 (g a17),fb1 F18 (g a18),fb2 F19 (g a19),fb2 F20 (g a20),fb4 F21 (g a21),fb2 F22 (g a22),fb2 F23 (g a23),fb2 F24 (g a24),fb1 F25 (g a25),fb2 F26 (g a26),fb3 F27 (g a27),fb1 F28 (g a28),fb1 F29 (g a29),fb2 F30 (g a30),fb3 F31 (g a31),fb1 F32 (g a32),fb2 F33 (g a33),fb2 F34 (g a34),fb4 F35 (g a35),fb2 F36 (g a36),fb1 F37 (g a37),fb1 F38 (g a38),fb1 F39 (g a39),fb1 F40 (g a40),fb1 F41 (g a41),fb1 F42 (g a42),fb2 F43 (g a43),fb2 F44 (g a44),fb1 F45 (g a45),fb1 F46 (g a46),fb1 F47 (g a47),fb3 F48 (g a48),fb2 F49 (g a49),fb1 F50 (g a50),fb3 F51 (g a51),fb2 F52 (g a52),fb2 F53 (g a53),fb4 F54 (g a54),fb4 F55 (g a55),fb1 F56 (g a56),fb2 F57 (g a57),fb4 F58 (g a58),fb4 F59 (g a59),fb2 F60 (g a60),fb2 F61 (g a61),fb1 F62 (g a62),fb2 F63 (g a63),fb4 F64 (g a64),fb1 F65 (g a65),fb2 F66 (g a66),fb2 F67 (g a67),fb2 F68 (g a68),fb1 F69 (g a69),fb2 F70 (g a70),fb1 F71 (g a71),fb1 Wq (g a72),B5 X G (zz _ (by decide)),B5 X G (zz _ (by decide)),B5 X G (zz _ (by decide)),B5 X G (zz _ (by decide)),B5 X G (zz _ (by decide)),B5 X G (zz _ (by decide)),B5 X G (zz _ (by decide)),B5 X G (zz _ (by decide)),B5 X G (zz _ (by decide)),B5 X G (zz _ (by decide)),B5 X G (zz _ (by decide)),B5 X G (zz _ (by decide)),B5 X G (zz _ (by decide)),B5 X G (zz _ (by decide)),B5 X G (zz _ (by decide)),B5 X G (zz _ (by decide)),K_LEFT,g mi_LEFT,K_RIGHT,g mi_RIGHT,A_NARROW,g da_NARROW,dt_NARROW,A_WIDE,g da_WIDE,dt_WIDE,C_NoBound,g ca_NoBound,C_NoDrawing,g ca_NoDrawing,C_NoEnds,g ca_NoEnds,cx_NoBound,xc_NoBound,cx_NoDrawing,xc_NoDrawing,cx_NoEnds,xc_NoEnds}:Fns K mg)}
theorem walk{q:Sy}{Of:SD Str}{XP:(Str->SG Sv)->SF->Prop}{YP:SB->SF->Prop}{d:DefRec}{K:Params->W.Frag}(hn:l.most=some 63)(hdf:d.params.defaults=[])
  (hY:∀(w:SB) (h:SF),YP w h->(K w.params).In h)
  (F:∀(w:SB) (mg:Str->SG Sv) (fa:Sx) (h:SF),(K w.params).In h->h.Ns mainGlobals mg->mg d.name=some (.ref fa)->
   ∃fd:SA,(∀(s:Sw) (u:Sv),BindsTo s fd {[u],[]} [("_law_script",u)])/\∀base:SF,(K w.params).In base->base.Ns mainGlobals mg->FnOk l.prog w (K w.params) mg base CX0 59 fa fd ["_law_script"] (sp_law (K w.params))):
  W.WalkO q Of XP YP l.row.toRowW d [] (λf vs=>PySem.call f vs):=
 L2.Ed (n:=63) (k:=59) (x:="_law_script") (CX:=λ_=>CX0) (sp:=λw=>sp_law (K w.params)) hn (by decide) hdf {0,5,5} hY F (λ_ _ a ns hl _ hS=>{a,ns,0,hS,hl,λ_=>rfl}) λ_ _ _ _ _ z=>z
end Mine
open PySem PySem.W PyProof.Rows
namespace PySem.W.Fast
theorem tw1542690379848538:0=0:=rfl
theorem tw10070750208118698619:0=0:=rfl
theorem tw5685285555833404395:0=0:=rfl
theorem tw17996994459752802845:0=0:=rfl
theorem tw17928550874798699251:0=0:=rfl
theorem tw6319954320509968854:0=0:=rfl
theorem tw2168393457492396251:0=0:=rfl
theorem tw3664623826784040479:0=0:=rfl
theorem tw13288387449320973201:0=0:=rfl
theorem tw14028130092634334436:0=0:=rfl
theorem tw3372630133372542628:0=0:=rfl
theorem tw3389205575876416155:0=0:=rfl
theorem tw997678794989127126:0=0:=rfl
theorem tw16353758895203138258:0=0:=rfl
theorem tw10526763737104701902:0=0:=rfl
theorem tw967141374356405579:0=0:=rfl
theorem tw5029215851482170896:0=0:=rfl
theorem tw9770521026224247518:0=0:=rfl
theorem tw10658045418222419218:0=0:=rfl
theorem tw17528671640286338706:0=0:=rfl
theorem tw1610327417660929079:0=0:=rfl
theorem tw739040317391561862:0=0:=rfl
theorem tw4596438310936085386:0=0:=rfl
theorem tw14405936159764123555:0=0:=rfl
theorem tw10251275175009541109:0=0:=rfl
theorem tw17838269918712135070:0=0:=rfl
theorem tw2949546705847879328:0=0:=rfl
theorem tw16769792950693709460:0=0:=rfl
theorem tw7023411139486342079:0=0:=rfl
theorem tw6367720695983268344:0=0:=rfl
theorem tw12790728922499701294:0=0:=rfl
theorem tw11603095334243432453:0=0:=rfl
theorem tw12343169892323791887:0=0:=rfl
theorem tw10869976596332817167:0=0:=rfl
theorem tw3796031539248830423:0=0:=rfl
theorem tw10474367415854995901:0=0:=rfl
theorem tw8509350079827996612:0=0:=rfl
theorem tw393822442940066241:0=0:=rfl
theorem tw9806310507708156537:0=0:=rfl
theorem tw2136086295654462818:0=0:=rfl
theorem tw16781409794643148980:0=0:=rfl
theorem tw3630925907287503205:0=0:=rfl
theorem tw12820469032248583843:0=0:=rfl
theorem tw12198475923282609368:0=0:=rfl
theorem tw13177711199599778232:0=0:=rfl
theorem tw9569155426217026397:0=0:=rfl
theorem tw7674518032167652459:0=0:=rfl
theorem tw8448392925046279917:0=0:=rfl
theorem tw3071622440878039760:0=0:=rfl
theorem tw3050653108040519431:0=0:=rfl
theorem tw14461519013313154570:0=0:=rfl
theorem tw15544027823502369786:0=0:=rfl
theorem tw331172146754669899:0=0:=rfl
theorem tw14555902269883716124:0=0:=rfl
theorem tw15381045717560843272:0=0:=rfl
theorem tw18375150868643825120:0=0:=rfl
theorem tw17918784822612863013:0=0:=rfl
theorem tw3632941441372204909:0=0:=rfl
theorem tw1084270839323460186:0=0:=rfl
theorem tw11636325671907149844:0=0:=rfl
theorem tw4363591616877159280:0=0:=rfl
theorem tw4250694686418077706:0=0:=rfl
theorem tw6679846984427171164:0=0:=rfl
theorem tw3232502822972700754:0=0:=rfl
theorem tw4469955213695518430:0=0:=rfl
theorem tw2053813127351525503:0=0:=rfl
theorem tw18029632704392846926:0=0:=rfl
theorem tw3333849701112335899:0=0:=rfl
theorem tw8622243894323949989:0=0:=rfl
theorem tw9664060963572965174:0=0:=rfl
theorem tw337925164241593461:0=0:=rfl
theorem tw3896045688028306399:0=0:=rfl
theorem tw15073308489644437185:0=0:=rfl
theorem tw7530543846441816585:0=0:=rfl
theorem tw10438380050406638149:0=0:=rfl
theorem tw15998529372064470541:0=0:=rfl
theorem tw8858711560468426942:0=0:=rfl
theorem tw13169368577325697933:0=0:=rfl
theorem tw1828833526157200752:0=0:=rfl
theorem tw7997300152584730171:0=0:=rfl
theorem tw13650581427320425458:0=0:=rfl
theorem tw6563366286847439908:0=0:=rfl
theorem tw974392486801871942:0=0:=rfl
theorem tw11258478376911181124:0=0:=rfl
theorem tw16518305564750397956:0=0:=rfl
theorem tw14003972547068621190:0=0:=rfl
theorem tw9547855492051203742:0=0:=rfl
theorem tw3122317016616972863:0=0:=rfl
theorem tw7165191822132293311:0=0:=rfl
theorem tw10562785103615612681:0=0:=rfl
theorem tw12963125179767231510:0=0:=rfl
theorem tw499769683334361914:0=0:=rfl
theorem tw7164938290090664540:0=0:=rfl
theorem tw10672043480398207208:0=0:=rfl
theorem tw9401463688560041979:0=0:=rfl
theorem tw17686372049125727440:0=0:=rfl
theorem tw6516253597645872289:0=0:=rfl
theorem tw973903410401292141:0=0:=rfl
theorem tw3885561783804327762:0=0:=rfl
theorem tw15222880831565788046:0=0:=rfl
theorem tw8838997864599767927:0=0:=rfl
theorem tw2038957447935474493:0=0:=rfl
theorem tw3958830578660800935:0=0:=rfl
theorem tw4075620910278358204:0=0:=rfl
theorem tw7731148612539102360:0=0:=rfl
theorem tw7210807930950128665:0=0:=rfl
theorem tw10664869499602545786:0=0:=rfl
theorem tw6430208131176651652:0=0:=rfl
theorem tw4219158185319496982:0=0:=rfl
theorem tw820035769326036856:0=0:=rfl
theorem tw6828282742869245003:0=0:=rfl
theorem tw3745835833741787512:0=0:=rfl
theorem tw950067114683861734:0=0:=rfl
theorem tw4496753480349796391:0=0:=rfl
theorem tw12331974274023057480:0=0:=rfl
theorem tw10533224526996111373:0=0:=rfl
theorem tw3820324012366413526:0=0:=rfl
theorem tw3567729968490317982:0=0:=rfl
theorem tw3570002910831104046:0=0:=rfl
theorem tw1631695353347501075:0=0:=rfl
theorem tw6669239505728920175:0=0:=rfl
theorem tw4960801521958697827:0=0:=rfl
theorem tw7174498875438160888:0=0:=rfl
theorem tw702172749277978993:0=0:=rfl
theorem tw6338187027270727654:0=0:=rfl
theorem tw14518534371657805840:0=0:=rfl
theorem tw17756265658125481446:0=0:=rfl
theorem tw12228020728316853118:0=0:=rfl
theorem tw14355965863479681897:0=0:=rfl
theorem tw7641929380340123872:0=0:=rfl
theorem tw11826879912083849719:0=0:=rfl
theorem tw2915014193864625524:0=0:=rfl
theorem tw1907745848481532521:0=0:=rfl
theorem tw13318087764444602836:0=0:=rfl
theorem tw8988944561228908661:0=0:=rfl
theorem tw11071559493806512210:0=0:=rfl
theorem tw16494925529202077423:0=0:=rfl
theorem tw4253832979209703775:0=0:=rfl
theorem tw6536743192367440067:0=0:=rfl
theorem tw14451684763625410382:0=0:=rfl
theorem tw11038179017680160858:0=0:=rfl
theorem tw9357779508007968853:0=0:=rfl
theorem tw8296073962239739573:0=0:=rfl
theorem tw14462205845068601707:0=0:=rfl
theorem tw16591773614180766582:0=0:=rfl
theorem tw15564410791755982547:0=0:=rfl
theorem tw11163983211042232228:0=0:=rfl
theorem tw16513273843824029405:0=0:=rfl
theorem tw4907788041407840821:0=0:=rfl
theorem tw17108051980509186233:0=0:=rfl
theorem tw15364050836029183973:0=0:=rfl
theorem tw5477797321024653113:0=0:=rfl
theorem tw10776412392843344903:0=0:=rfl
theorem tw15420731532336410326:0=0:=rfl
theorem tw3966162557784424856:0=0:=rfl
theorem tw17101740275807390937:0=0:=rfl
theorem tw3870543742224824396:0=0:=rfl
theorem tw15359726345690543531:0=0:=rfl
theorem tw1086168498330862067:0=0:=rfl
theorem tw14324998090202047479:0=0:=rfl
theorem tw11005189551843969263:0=0:=rfl
theorem tw2437768840319957769:0=0:=rfl
theorem tw910386653633515861:0=0:=rfl
theorem tw8222803609348736508:0=0:=rfl
theorem tw17032786139699117342:0=0:=rfl
theorem tw10122744715496770408:0=0:=rfl
theorem tw18142208883685507051:0=0:=rfl
theorem tw12843045091096208983:0=0:=rfl
theorem tw14335634148409141465:0=0:=rfl
theorem tw5795890923490659482:0=0:=rfl
theorem tw2933346904967107602:0=0:=rfl
theorem tw15002285835333338854:0=0:=rfl
theorem tw15685439581227588465:0=0:=rfl
theorem tw3325734519260042296:0=0:=rfl
theorem tw16231666308337257059:0=0:=rfl
theorem tw4614942077256887878:0=0:=rfl
theorem tw9802998785375601022:0=0:=rfl
theorem tw13703775518186776851:0=0:=rfl
theorem tw16419587044410033831:0=0:=rfl
theorem tw4419569323124439944:0=0:=rfl
theorem tw17551136624032667238:0=0:=rfl
theorem tw9767858041367209829:0=0:=rfl
theorem tw12516249893272259627:0=0:=rfl
theorem tw676521538665875310:0=0:=rfl
theorem tw8895267958754102519:0=0:=rfl
theorem tw2083963693109905479:0=0:=rfl
theorem tw6353965854155075132:0=0:=rfl
theorem tw5818328623331344749:0=0:=rfl
theorem tw17437489786935760800:0=0:=rfl
theorem tw17744220749493748984:0=0:=rfl
theorem tw5771622264379586958:0=0:=rfl
theorem tw727223035554153272:0=0:=rfl
theorem tw705289140192777983:0=0:=rfl
theorem tw4353502295314885240:0=0:=rfl
theorem tw11189473813896497471:0=0:=rfl
theorem tw7084447448252125796:0=0:=rfl
theorem tw9647193932494816061:0=0:=rfl
theorem tw6040171910888740279:0=0:=rfl
theorem tw11669834602664771434:0=0:=rfl
theorem tw9998775663797734847:0=0:=rfl
theorem tw12704337024761268986:0=0:=rfl
theorem tw13735464879301243446:0=0:=rfl
theorem tw4775885780613503202:0=0:=rfl
theorem tw16466934164741281576:0=0:=rfl
theorem tw16182809459659752822:0=0:=rfl
theorem tw623214877548186398:0=0:=rfl
theorem tw1441768854197844043:0=0:=rfl
theorem tw6052257827928899009:0=0:=rfl
theorem tw12557696338776758117:0=0:=rfl
theorem tw2389638733413707075:0=0:=rfl
theorem tw1911994475765195389:0=0:=rfl
theorem tw7385092204083004802:0=0:=rfl
theorem tw8109875983381475476:0=0:=rfl
theorem tw15113854132907809000:0=0:=rfl
theorem tw12571579294160986514:0=0:=rfl
theorem tw13500172102177417800:0=0:=rfl
theorem tw9106881986529617135:0=0:=rfl
theorem tw10560777274421038435:0=0:=rfl
theorem tw6312504400889734738:0=0:=rfl
theorem tw3980365079390620094:0=0:=rfl
theorem tw15805083340354534158:0=0:=rfl
theorem tw4457057132960435761:0=0:=rfl
theorem tw5356442571387971873:0=0:=rfl
theorem tw16979331947613520929:0=0:=rfl
theorem tw15235364054961005838:0=0:=rfl
theorem tw6004100919836783:0=0:=rfl
theorem tw7497129248059732321:0=0:=rfl
theorem tw18089702983342129627:0=0:=rfl
theorem tw6326384754547574738:0=0:=rfl
theorem tw11712030823596473307:0=0:=rfl
theorem tw9612045126707879585:0=0:=rfl
theorem tw177218711618037072:0=0:=rfl
theorem tw12170241422640164030:0=0:=rfl
theorem tw3791796620493343846:0=0:=rfl
theorem tw7127533584369198333:0=0:=rfl
theorem tw1873298245775695475:0=0:=rfl
theorem tw15323332917030482574:0=0:=rfl
theorem tw12566476273061745275:0=0:=rfl
theorem tw5765303526210047695:0=0:=rfl
theorem tw12668083435941107898:0=0:=rfl
theorem tw10154177556882534093:0=0:=rfl
theorem tw10379583890928019161:0=0:=rfl
theorem tw12061019433153233499:0=0:=rfl
theorem tw16781016558367576034:0=0:=rfl
theorem tw14707502945275790846:0=0:=rfl
theorem tw3216366542691121414:0=0:=rfl
theorem tw17586400887328667181:0=0:=rfl
theorem tw16800750247844582985:0=0:=rfl
theorem tw14147909923030303047:0=0:=rfl
theorem tw9008817884818456985:0=0:=rfl
theorem tw5752260441816791620:0=0:=rfl
theorem tw5547557316025483820:0=0:=rfl
theorem tw18062309392281345664:0=0:=rfl
theorem tw1562727942379305666:0=0:=rfl
theorem tw4116792776950982621:0=0:=rfl
theorem tw7038674343184213150:0=0:=rfl
theorem tw5217243290846923788:0=0:=rfl
theorem tw17040794519019051126:0=0:=rfl
theorem tw10043341581664048243:0=0:=rfl
theorem tw10389876660011939000:0=0:=rfl
theorem tw6602765186440682912:0=0:=rfl
theorem tw409690379886064465:0=0:=rfl
theorem tw17982660173401599888:0=0:=rfl
theorem tw2106153158346550860:0=0:=rfl
theorem tw11233809430463183971:0=0:=rfl
theorem tw4036951452373065375:0=0:=rfl
theorem tw10562496807174338984:0=0:=rfl
theorem tw1373319521497523324:0=0:=rfl
theorem tw1586641897839547387:0=0:=rfl
theorem tw17392669979679596108:0=0:=rfl
theorem tw2474874617380411144:0=0:=rfl
theorem tw2837265252801744688:0=0:=rfl
theorem tw1001232210834495739:0=0:=rfl
theorem tw9406883779832099713:0=0:=rfl
theorem tw422724784499097847:0=0:=rfl
theorem tw16704599149465039577:0=0:=rfl
theorem tw14000735930776223532:0=0:=rfl
theorem tw11704804316805657596:0=0:=rfl
theorem tw16560605956410241820:0=0:=rfl
theorem tw6252913087195411259:0=0:=rfl
theorem tw9437114671518904008:0=0:=rfl
theorem tw6776241765046693886:0=0:=rfl
theorem tw12921555065865708151:0=0:=rfl
theorem tw7661853137788325445:0=0:=rfl
theorem tw3770997979548871189:0=0:=rfl
theorem tw10277634144833401426:0=0:=rfl
theorem tw8103312644100256125:0=0:=rfl
theorem tw8600882243062159707:0=0:=rfl
theorem tw16067054287034220820:0=0:=rfl
theorem tw5688041599701687719:0=0:=rfl
theorem tw16988044357074017618:0=0:=rfl
theorem tw2514555757285768223:0=0:=rfl
theorem tw17533756603764405423:0=0:=rfl
theorem tw9209888454503417518:0=0:=rfl
theorem tw7696369934615636612:0=0:=rfl
theorem tw916607571391666073:0=0:=rfl
theorem tw10030686606589693031:0=0:=rfl
theorem tw7827411184440266216:0=0:=rfl
theorem tw9173567784247912351:0=0:=rfl
theorem tw11034977471745343108:0=0:=rfl
theorem tw1502014774911482808:0=0:=rfl
theorem tw12017328552349212148:0=0:=rfl
theorem tw4422721083732937039:0=0:=rfl
theorem tw8582876008430848488:0=0:=rfl
theorem tw8114210183028649735:0=0:=rfl
theorem tw8795312496219445268:0=0:=rfl
theorem tw17392281838590565540:0=0:=rfl
theorem tw18139940554306818287:0=0:=rfl
theorem tw17501173897917737633:0=0:=rfl
theorem tw14249770616060993732:0=0:=rfl
theorem tw7170248834696556002:0=0:=rfl
theorem tw14939370954082368435:0=0:=rfl
theorem tw8793304749189729259:0=0:=rfl
theorem tw1925238161537071758:0=0:=rfl
theorem tw1838680801157064667:0=0:=rfl
theorem tw2011640470461645499:0=0:=rfl
theorem tw7033517150824080128:0=0:=rfl
theorem tw17619363406536442851:0=0:=rfl
theorem tw11985839785510710699:0=0:=rfl
theorem tw1684097531255871078:0=0:=rfl
theorem tw4661324956363786181:0=0:=rfl
theorem tw923777401034314369:0=0:=rfl
theorem tw18276407634215138342:0=0:=rfl
theorem tw14261880008992563305:0=0:=rfl
theorem tw1671660977130255526:0=0:=rfl
theorem tw4997154236432686542:0=0:=rfl
theorem tw9882974329022513680:0=0:=rfl
theorem tw10461427449831532099:0=0:=rfl
theorem tw16701216337914306135:0=0:=rfl
theorem tw12693666168665713083:0=0:=rfl
theorem tw14139437205127925296:0=0:=rfl
theorem tw10421872049560222993:0=0:=rfl
theorem tw5419295946451401799:0=0:=rfl
theorem tw1790499670247180671:0=0:=rfl
theorem tw764027216618941721:0=0:=rfl
theorem tw16037327625268088692:0=0:=rfl
theorem tw5739902365231698920:0=0:=rfl
theorem tw3725400303520862681:0=0:=rfl
theorem tw2719670919845083892:0=0:=rfl
theorem tw2910064607620136059:0=0:=rfl
theorem tw9312882051557604913:0=0:=rfl
theorem tw9679687064615522447:0=0:=rfl
theorem tw9952012164670244792:0=0:=rfl
theorem tw7525077210271682404:0=0:=rfl
theorem tw6191338169121355303:0=0:=rfl
theorem tw2843315566258551378:0=0:=rfl
theorem tw2854654404704823663:0=0:=rfl
theorem tw12203658262992195563:0=0:=rfl
theorem tw11347866706708145709:0=0:=rfl
theorem tw18192140923502515847:0=0:=rfl
theorem tw17007422654266308534:0=0:=rfl
theorem tw16939623793133700565:0=0:=rfl
theorem tw5527432159698501621:0=0:=rfl
theorem tw7924711825115584391:0=0:=rfl
theorem tw3445235238678223585:0=0:=rfl
theorem tw5951090163772591611:0=0:=rfl
theorem tw11729857442742691590:0=0:=rfl
theorem tw11918373917623926387:0=0:=rfl
theorem tw9339422793495918158:0=0:=rfl
theorem tw6212412044835625736:0=0:=rfl
theorem tw10625608612834748935:0=0:=rfl
theorem tw2860955766937115869:0=0:=rfl
theorem tw13248581897686066927:0=0:=rfl
theorem tw979483635469262857:0=0:=rfl
theorem tw17454298701441366829:0=0:=rfl
theorem tw13513738534560643971:0=0:=rfl
theorem tw13275742620421728307:0=0:=rfl
theorem tw5064168314860106706:0=0:=rfl
theorem tw13131552006391714267:0=0:=rfl
theorem tw9011091893449494636:0=0:=rfl
theorem tw8895312967642650777:0=0:=rfl
theorem tw9878641895858555672:0=0:=rfl
theorem tw17020728540928711416:0=0:=rfl
theorem tw415752310680284990:0=0:=rfl
theorem tw7834680996729072731:0=0:=rfl
theorem tw4597609650084937070:0=0:=rfl
theorem tw16987238760578249086:0=0:=rfl
theorem tw16989917926023011322:0=0:=rfl
theorem tw11328483334821154615:0=0:=rfl
theorem tw7143459727131808327:0=0:=rfl
theorem tw10594789194288329762:0=0:=rfl
theorem tw11578584414145019974:0=0:=rfl
theorem tw13104146747324957705:0=0:=rfl
theorem tw5589792471184818931:0=0:=rfl
theorem tw9678289638287743378:0=0:=rfl
theorem tw8605465308930370761:0=0:=rfl
theorem tw3860758721084570032:0=0:=rfl
theorem tw7841483654212985719:0=0:=rfl
theorem tw13614511024501908975:0=0:=rfl
theorem tw1197288021195623539:0=0:=rfl
theorem tw14455958265522240145:0=0:=rfl
theorem tw14004350033267300885:0=0:=rfl
theorem tw9463843837551240616:0=0:=rfl
theorem tw8861203632091914399:0=0:=rfl
theorem tw15348175512636493520:0=0:=rfl
theorem tw9929792116691099657:0=0:=rfl
theorem tw8930351687115004897:0=0:=rfl
theorem tw17261028992754693317:0=0:=rfl
theorem tw10612375963708104987:0=0:=rfl
theorem tw17331557016862210852:0=0:=rfl
theorem tw12297410428440550537:0=0:=rfl
theorem tw7955054277375137227:0=0:=rfl
theorem tw10399918116192313382:0=0:=rfl
theorem tw11727971391650811718:0=0:=rfl
theorem tw12694821579345294346:0=0:=rfl
theorem tw3814180195110710415:0=0:=rfl
theorem tw4541923166355296029:0=0:=rfl
theorem tw229860307162731031:0=0:=rfl
theorem tw13212406153296017642:0=0:=rfl
theorem tw11840239502184235325:0=0:=rfl
theorem tw8444544543351139817:0=0:=rfl
theorem tw6909052407900296230:0=0:=rfl
theorem tw3069513598804171320:0=0:=rfl
theorem tw14400112703780800366:0=0:=rfl
theorem tw13034517152667853504:0=0:=rfl
theorem tw3474933514231787259:0=0:=rfl
theorem tw4269336550879463270:0=0:=rfl
theorem tw8070771177150784095:0=0:=rfl
theorem tw7169109140121642783:0=0:=rfl
theorem tw11211739793487618153:0=0:=rfl
theorem tw17878918497411214086:0=0:=rfl
theorem tw16309603060288789925:0=0:=rfl
theorem tw14281207032642056940:0=0:=rfl
theorem tw671633106337172377:0=0:=rfl
theorem tw1240946991533572710:0=0:=rfl
theorem tw17934757844217106084:0=0:=rfl
theorem tw2214166465086906355:0=0:=rfl
theorem tw10490040695458074973:0=0:=rfl
theorem tw8998520446409580150:0=0:=rfl
theorem tw11654307634483991026:0=0:=rfl
theorem tw10113842071496035201:0=0:=rfl
theorem tw4450390795080672760:0=0:=rfl
theorem tw14548807296578618346:0=0:=rfl
theorem tw16055127468574174757:0=0:=rfl
theorem tw12891836956885391218:0=0:=rfl
theorem tw15402217250195487282:0=0:=rfl
theorem tw4741017161417693763:0=0:=rfl
theorem tw2715322811316149405:0=0:=rfl
theorem tw13568508108707304942:0=0:=rfl
theorem tw8701310192012691520:0=0:=rfl
theorem tw10893382635660516615:0=0:=rfl
theorem tw4529342796382159922:0=0:=rfl
theorem tw13462252453705664917:0=0:=rfl
theorem tw11438823789099973652:0=0:=rfl
theorem tw16578583493996796071:0=0:=rfl
theorem tw503427160035916342:0=0:=rfl
theorem tw12031437245029857391:0=0:=rfl
theorem tw1591374145256459234:0=0:=rfl
theorem tw2814104327902438364:0=0:=rfl
theorem tw17417012100973889606:0=0:=rfl
theorem tw18244352467066614136:0=0:=rfl
theorem tw13188352474125385746:0=0:=rfl
theorem tw2162177304358982364:0=0:=rfl
theorem tw9701818830857088940:0=0:=rfl
theorem tw11121232371990029837:0=0:=rfl
theorem tw5542530942862164042:0=0:=rfl
theorem tw8816294640580233291:0=0:=rfl
theorem tw16717133113579971186:0=0:=rfl
theorem tw12269119191118849905:0=0:=rfl
theorem tw132448894277541632:0=0:=rfl
theorem tw14273745397475669381:0=0:=rfl
theorem tw4532995613386016682:0=0:=rfl
theorem tw949808230117381528:0=0:=rfl
theorem tw8598995919830475812:0=0:=rfl
theorem tw13841605122323913105:0=0:=rfl
theorem tw6594307469300909045:0=0:=rfl
theorem tw12324468244364631970:0=0:=rfl
theorem tw6230173118174124524:0=0:=rfl
theorem tw10600408011753082305:0=0:=rfl
theorem tw1156079933233447370:0=0:=rfl
theorem tw8764019220462538889:0=0:=rfl
theorem tw4737108662318204107:0=0:=rfl
theorem tw9422300155262866270:0=0:=rfl
theorem tw17569443614048413154:0=0:=rfl
theorem tw4785451709986511228:0=0:=rfl
theorem tw8447985416074545392:0=0:=rfl
theorem tw2579125638840178984:0=0:=rfl
theorem tw11009385691930331699:0=0:=rfl
theorem tw8323459797270111495:0=0:=rfl
theorem tw15634817848687022159:0=0:=rfl
theorem tw9082655328238228035:0=0:=rfl
theorem tw135562416083433602:0=0:=rfl
theorem tw11531002554193510145:0=0:=rfl
theorem tw13994084643719809877:0=0:=rfl
theorem tw2381290747196518122:0=0:=rfl
theorem tw7663534293587515727:0=0:=rfl
theorem tw17999527051782963072:0=0:=rfl
theorem tw14410864466196150694:0=0:=rfl
theorem tw7367612764611271281:0=0:=rfl
theorem tw2413241157989571060:0=0:=rfl
theorem tw6625380504553955173:0=0:=rfl
theorem tw15759920047978353433:0=0:=rfl
theorem tw16372696908727037356:0=0:=rfl
theorem tw4320038160941419964:0=0:=rfl
theorem tw16854978201924711016:0=0:=rfl
theorem tw10738232395351794490:0=0:=rfl
theorem tw4424815354315520890:0=0:=rfl
theorem tw3186123043390877738:0=0:=rfl
theorem tw649733459324999027:0=0:=rfl
theorem tw3404423056612011283:0=0:=rfl
end PySem.W.Fast
set_option maxRecDepth 100000 in
set_option maxHeartbeats 0 in
theorem PySem.Challenge.cw_floorcurves_k92_whole_that_hang_together_holds : PySem.Challenge.rw_floorcurves_k92_whole_that_hang_together.Holds := by
 w_on; o_law; k_head; (case hw => w_witness2)
 k_fill
 show Mine.walk (l := PySem.Challenge.rw_floorcurves_k92_whole_that_hang_together) rfl rfl (λw h Y => PySem.W.kIn_of Y) ?F
 case F =>
  intro w mg fa h KX G hmg
  refine' Mine.ML KX G hmg ?h0 ?h1 ?h2 ?h3 ?h4 ?h5 ?h6 ?h7 ?h8 ?h9 ?h10 ?h11 ?h12 ?h13 ?h14 ?h15 ?h16 ?h17 ?h18 ?h19 ?h20 ?h21 ?h22 ?h23 ?h24 ?h25 ?h26 ?h27 ?h28 ?h29 ?h30 ?h31 ?h32 ?h33 ?h34 ?h35 ?h36 ?h37 ?h38 ?h39 ?h40 ?h41 ?h42 ?h43 ?h44 ?h45 ?h46 ?h47 ?h48 ?h49 ?h50 ?h51 ?h52 ?h53 ?h54 ?h55 ?h56 ?h57 ?h58 ?h59 ?h60 ?h61 ?h62 ?h63 ?h64 ?h65 ?h66 ?h67 ?h68 ?h69 ?h70 ?h71 ?h72 ?zz ?mi_LEFT ?mi_RIGHT ?da_NARROW ?dt_NARROW ?da_WIDE ?dt_WIDE ?ca_NoBound ?ca_NoDrawing ?ca_NoEnds ?cx_NoBound ?xc_NoBound ?cx_NoDrawing ?xc_NoDrawing ?cx_NoEnds ?xc_NoEnds
  (case h0 |h1 |h2 |h3 |h4 |h5 |h6 |h7 |h8 |h9 |h10 |h11 |h12 |h13 |h14 |h15 |h16 |h17 |h18 |h19 |h20 |h21 |h22 |h23 |h24 |h25 |h26 |h27 |h28 |h29 |h30 |h31 |h32 |h33 |h34 |h35 |h36 |h37 |h38 |h39 |h40 |h41 |h42 |h43 |h44 |h45 |h46 |h47 |h48 |h49 |h50 |h51 |h52 |h53 |h54 |h55 |h56 |h57 |h58 |h59 |h60 |h61 |h62 |h63 |h64 |h65 |h66 |h67 |h68 |h69 |h70 |h71 |h72 => refine' Mine.MK ?a ?l ?c ?k; (case a => k_is); (case l => k_is); (case c => k_is); (case k => k_is))
  (case zz => intro n hn; simp only [List.mem_cons, List.not_mem_nil, or_false] at hn; rcases hn with rfl |rfl |rfl |rfl |rfl |rfl |rfl |rfl |rfl |rfl |rfl |rfl |rfl |rfl |rfl |rfl <;> k_is)
  (case mi_LEFT |mi_RIGHT |da_NARROW |da_WIDE => k_is)
  (case dt_NARROW |dt_WIDE => first |k_is |kit_is |kts_exm |kernel_rfl)
  (case ca_NoBound |ca_NoDrawing |ca_NoEnds |cx_NoBound |cx_NoDrawing |cx_NoEnds => first |k_is |kit_is |kts_exm |kernel_rfl)
  (case xc_NoBound |xc_NoDrawing |xc_NoEnds => constructor <;> first |k_is |kit_is |kts_exm |kernel_rfl)
