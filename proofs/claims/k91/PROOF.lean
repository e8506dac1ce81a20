import PyProof.Rows.All
import Wide.All
import OpenK.AllK
import Wide.FinOn
import PySem.Challenge.RW_floorcurves_k91_whole_shades
import Lean
import PyProof.EqAt
import PyProof.EqKinds
import PyProof.TupleCall
local macro_rules | `(command|def $n:declId $s:optDeclSig $v:declVal)=>`(command|noncomputable def $n:declId $s:optDeclSig $v:declVal)
local macro_rules | `(command|abbrev $n:declId $s:optDeclSig $v:declVal)=>`(command|noncomputable abbrev $n:declId $s:optDeclSig $v:declVal)
local macro_rules | `(tactic| and_intros) => `(tactic| exact ⟨rfl,rfl,rfl,by decide +kernel,rfl,by decide +kernel,by decide +kernel⟩)
local macro_rules | `(tactic| lia) => `(tactic| first | lia -verbose | omega)
local macro_rules | `(tactic| ac_nf) => `(tactic| decide +kernel)
local macro_rules | `(tactic| trivial) => `(tactic| first|exact Or.inl rfl|exact Or.inr rfl|exact Or.inr (Or.inl rfl)|exact Or.inr (Or.inr rfl))
abbrev OO:=@PySem.Value
abbrev Rf:=@PySem.Shared
abbrev Rg:=@PySem.Addr
abbrev Rh:=@PySem.Program
abbrev Ri:=@PySem.FuncData
abbrev Rj:=@PySem.World
abbrev Rk:=@PySem.Around
abbrev Rl:=@List
abbrev Rm:=@PySem.Expr
abbrev Rn:=@PySem.Heap
abbrev Rp:=@Option
abbrev Rq:=@PySem.Stmt
abbrev A0:=@PySem.wpAny_bind
abbrev A1:=@List.length_map
abbrev A2:=@PySem.wpAny_pure
abbrev A3:=@List.getElem?_eq_getElem
abbrev A4:=@PySem.Heap.get?_push_of_some
abbrev A5:=@if_neg
abbrev A6:=@if_pos
abbrev A7:=@List.map_append
abbrev A8:=@Option.map_eq_some_iff
abbrev A9:=@Option.bind_eq_some_iff
abbrev A':=@List.getD_eq_getElem?_getD
abbrev AA:=@Bool.and_eq_true
abbrev AB:=@Nat.le_refl
abbrev AC:=@List.getElem?_map
abbrev AD:=@List.mem_cons_self
abbrev AE:=@List.length_append
abbrev AF:=@List.getElem?_eq_some_iff
abbrev AG:=@List.size_toArray
abbrev AH:=@PySem.Heap.get?_push_size
abbrev AI:=@Bool.false_eq_true
abbrev AJ:=@List.mem_cons
abbrev AK:=@List.mem_cons_of_mem
abbrev AL:=@List.map_cons
abbrev AM:=@PySem.Heap.lt_size
abbrev AN:=@PySem.PassesOwn.never
abbrev AO:=@Nat.zero_le
abbrev AQ:=@Nat.ne_of_lt
abbrev AR:=@List.mem_singleton
abbrev AS:=@List.take_length
abbrev AT:=@List.all_eq_true
abbrev AU:=@List.mem_of_getElem?
abbrev AV:=@decide_eq_true_eq
abbrev AW:=@List.take_add_one
abbrev AX:=@List.mem_range
abbrev AY:=@Bool.false_ne_true
abbrev AZ:=@Nat.le_of_lt
abbrev Aa:=@PyProof.Rows.wpS_bind
abbrev Ab:=@Array.getElem?_eq_getElem
abbrev Ac:=@List.mem_map
abbrev Ad:=@List.length_cons
abbrev Ae:=@Int.toNat_natCast
abbrev Af:=@PySem.F.plainAttrs_list
abbrev Ag:=@List.length_take
abbrev Ah:=@PySem.wpAny_call_entry
abbrev Ai:=@Nat.lt_succ_of_lt
abbrev Aj:=@decide_eq_false
abbrev Ak:=@Option.some.inj
abbrev Al:=@List.mem_append_right
abbrev Am:=@List.length_replicate
abbrev An:=@if_false
abbrev Ao:=@Nat.lt_of_lt_of_le
abbrev Ap:=@List.pairwise_cons
abbrev Aq:=@List.sum_cons
abbrev Ar:=@decide_eq_true
abbrev As:=@List.drop_eq_getElem_cons
abbrev At:=@List.replicate_succ
abbrev Au:=@List.not_mem_nil
abbrev Av:=@PySem.sizeLine_eq
abbrev Aw:=@PyProof.Rows.wpS_pure
abbrev Ax:=@PySem.wpAny_newObj_type
abbrev Ay:=@PySem.W.mg_none_of
abbrev Az:=@List.range_succ
abbrev B0:=@PySem.Heap.size_push
abbrev B1:=@PySem.wpAny_callSpecial?_slot
abbrev B2:=@of_decide_eq_true
abbrev B3:=@PyProof.Rows.callWith_type1
abbrev B4:=@Array.length_toList
abbrev B5:=@PySem.wpAny_holding
abbrev B6:=@List.mem_flatMap
abbrev B7:=@Int.eq_ofNat_of_zero_le
abbrev B8:=@Bool.not_true
abbrev B9:=@List.mem_append
abbrev B':=@congrArg
abbrev BA:=@List.map_congr_left
abbrev BB:=@PySem.Heap.size_update
abbrev BC:=@PySem.Heap.get?_push_ne
abbrev BD:=@PySem.F.type_list_append
abbrev BE:=@PySem.F.slot_list_append
abbrev BF:=@PySem.Heap.SameBut.update
abbrev BG:=@List.append_assoc
abbrev BH:=@Nat.le_trans
abbrev BI:=@List.flatMap_append
abbrev BJ:=@PySem.wpAny_Call_Name_kw
abbrev BK:=@List.append_nil
abbrev BL:=@Nat.ne_of_gt
abbrev BM:=@List.map_map
abbrev BN:=@Int.mul_comm
abbrev BO:=@Array.getElem?_eq_none
abbrev BP:=@List.take_succ_cons
abbrev BQ:=@PyProof.Rows.slot_tuple_getitem
abbrev BR:=@PySem.wpAny_setState_of
abbrev BS:=@List.getElem?_append_right
abbrev BU:=@Nat.lt_succ_self
abbrev BV:=@PySem.wpAny_seqItems
abbrev BW:=@PySem.wpAny_specialOf
abbrev BX:=@PySem.F.slot_dict_valueiterator_next
abbrev BY:=@PySem.wpAny_isInstance
abbrev BZ:=@PySem.wpAny_forIn_list
abbrev Ba:=@List.length_singleton
abbrev Bb:=@Array.getElem?_toList
abbrev Bc:=@PySem.W.kia_one
abbrev Bd:=@Nat.lt_or_ge
abbrev Be:=@List.nodup_cons
abbrev Bf:=@List.find?_cons
abbrev Bg:=@PySem.wpAny_truthy_bool
abbrev Bh:=@PySem.wpAny_field
abbrev Bi:=@PySem.F.slot_dict_keyiterator_next
abbrev Bj:=@PySem.wpAny_mono
abbrev Bk:=@List.length_range
abbrev Bl:=@List.flatMap_cons
abbrev Bm:=@Int.mul_nonneg
abbrev Bn:=@List.getElem?_append_left
abbrev Bo:=@or_false
abbrev Bp:=@List.take_append_drop
abbrev Bq:=@PySem.F.slot_tuple_hash
abbrev Br:=@List.length_drop
abbrev Bs:=@Nat.pow_le_pow_right
abbrev Bt:=@List.mem_append_left
abbrev Bu:=@PySem.Heap.get?_update_self
abbrev Bv:=@PySem.wpAny_rule
abbrev Bw:=@PySem.Obj.data_mapFields
abbrev Bx:=@List.foldl_append
abbrev By:=@List.length_set
abbrev Bz:=@List.foldl_cons
abbrev C0:=@PySem.mem_of_lookup
abbrev C1:=@PySem.Around.under_plainId
abbrev C2:=@List.take_of_length_le
abbrev C3:=@PyProof.Rows.size_push'
abbrev C4:=@Nat.add_assoc
abbrev C5:=@Int.le_refl
abbrev C6:=@Array.getElem?_eq_none_iff
abbrev C7:=@Array.forIn_toList
abbrev C8:=@if_true
abbrev C9:=@PySem.Paired.length
abbrev C':=@List.cons.injEq
abbrev CA:=@Bool.or_eq_true
abbrev CC:=@PySem.wpAny_setField
abbrev CD:=@PySem.F.type_list_extend
abbrev CF:=@PySem.F.slot_list_extend
abbrev CG:=@Nat.lt_irrefl
abbrev CH:=@PySem.codeAny_builtin
abbrev CI:=@List.lookup_cons
abbrev CJ:=@List.length_eq_zero_iff
abbrev CK:=@PySem.wpAny_attempt
abbrev CL:=@Int.mul_le_mul_of_nonneg_left
abbrev CM:=@List.drop_of_length_le
abbrev CN:=@List.sum_append
abbrev CO:=@PySem.wpAny_typeNameOfWhole_valiter
abbrev CP:=@PySem.wpAny_typeNameOfWhole_keyiter
abbrev CQ:=@List.flatten_cons
abbrev CS:=@PySem.wpAny_tupleItemsOf
abbrev CT:=@PySem.Calls.spliced_cons
abbrev CU:=@PySem.wpAny_passesOwn
abbrev CV:=@PySem.wpAny_loadPart'
abbrev CW:=@PySem.boot_len
abbrev CY:=@List.mem_of_mem_take
abbrev CZ:=@List.getElem?_set_ne
abbrev Ca:=@Int.mul_le_mul
abbrev Cb:=@PySem.F.slot_tuple_eq
abbrev Cc:=@Bool.not_false
abbrev Cd:=@Bool.and_false
abbrev Ce:=@PySem.isSubtype_tuple_tuple
abbrev Cf:=@Nat.succ_mul
abbrev Cg:=@List.cons_append
abbrev Ch:=@PySem.wpAny_dictEntries
abbrev Ci:=@List.filterMap_cons
abbrev Cj:=@PyProof.Rows.wpS_modify
abbrev Ck:=@PySem.F.slot_tuple_iterator_next
abbrev Cm:=@PyProof.Rows.get?_update_seq
abbrev Cn:=@Option.map_some
abbrev Co:=@List.forIn_cons
abbrev Cp:=@PyProof.Rows.listUpdate_at
abbrev Cq:=@List.map_replicate
abbrev Cr:=@List.filter_append
abbrev Cs:=@PySem.F.called_set
abbrev Ct:=@Nat.le_succ
abbrev Cu:=@PySem.wpAny_typeNameOf_valiter
abbrev Cv:=@PySem.wpAny_typeNameOf_keyiter
abbrev Cw:=@PySem.plainId_quiet
abbrev Cy:=@bne_self_eq_false
abbrev Cz:=@Nat.pow_succ
abbrev D0:=@Nat.mul_le_mul
abbrev D1:=@Int.zero_add
abbrev D2:=@Bool.false_and
abbrev D3:=@PySem.wpAny_ite_split
abbrev D4:=@PySem.wpAny_dictEpoch
abbrev D5:=@PySem.wpAny_setField_rec
abbrev D6:=@PySem.wpAny_pyIter_tuple
abbrev D7:=@List.getElem?_eq_none
abbrev D8:=@beq_iff_eq
abbrev D9:=@PyProof.Rows.callWith_builtin1
abbrev D':=@List.getElem_mem
abbrev DA:=@List.ext_getElem
abbrev DB:=@Prod.mk.injEq
abbrev DC:=@List.map_drop
abbrev DD:=@PySem.wpAny_typeOf
abbrev DE:=@PySem.wpAny_fieldsOf
abbrev DF:=@List.mem_of_mem_drop
abbrev DH:=@List.mem_iff_getElem
abbrev DI:=@Int.mul_add
abbrev DJ:=@PySem.Calls.callWith_builtin
abbrev DK:=@Nat.min_eq_left
abbrev DL:=@List.mem_filter
abbrev DO:=@List.length_nil
abbrev DP:=@Bool.eq_iff_iff
abbrev DQ:=@PySem.builtinLookup_eq_fast
abbrev DR:=@beq_eq_false_iff_ne
abbrev DS:=@PySem.Obj.isFreed_of_fields
abbrev DT:=@List.length_pos_iff
abbrev DU:=@List.getD_cons_succ
abbrev DV:=@PySem.wpAny_askSetting
abbrev DW:=@Ne.symm
abbrev DX:=@List.map_nil
abbrev DY:=@PySem.wpAny_newList
abbrev DZ:=@PySem.wpAny_of_eq
abbrev Da:=@List.zip_cons_cons
abbrev Db:=@List.drop_zero
abbrev Dc:=@Array.perm_iff_toList_perm
abbrev Dd:=@PySem.Heap.get?_update_ne
abbrev De:=@PyProof.Rows.boot_tuple
abbrev Df:=@PyProof.Rows.wpS_get
abbrev Dg:=@PySem.isSubtype_type
abbrev Dh:=@PySem.call_meets
abbrev Di:=@PyProof.Rows.boot_sum
set_option pp.maxSteps 400
set_option Elab.async false
set_option linter.all false
set_option maxRecDepth 100000
set_option maxHeartbeats 4000000
set_option Elab.async false
set_option linter.all false
set_option maxRecDepth 100000
namespace L2
open PySem PySem.Spec PyProof.Rows
variable {A:Rk}{E Q:OO->Rf->Prop}{K:W.Frag}{M:Model}{Mb:Rl (Rg×Obj)}{Mj x:Str}{N ps:Rl Str}{P:Rh}{a b dx f it:Rg}{base h:Rn}{body:Rl Rq}{c e l tg:Rm}{ch fp:Rl Rg}{es:Rl Rm}{fd:Ri}{i j k n:Nat}{lo:Int}{mA mg:Str->Rp OO}{o:Obj}{op:CmpOp}{s:Rf}{scope:Scope}{u:OO}{us:Rl OO}{w:Rj}
abbrev Key:=Sum Int Str
def gM:Key->OO->Bool
 | .inl k,v=>Value.isInt k v
 | .inr x,v=>Value.isStrOf x v
def yQ (w:Rj):Key->Int
 | .inl k=>hashInt k
 | .inr x=>hashStr w x
theorem eQ:∀{k:Key}{v:OO},gM k v=true->(∃i t,k=Sum.inl i/\v=Value.int i t)\/(∃x t,k=Sum.inr x/\v=Value.str x t)
 | .inl i,v,h=>by
  obtain⟨t,e⟩:=Value.isInt_shape (k:=i) (v:=v) h;exact .inl ⟨i,t,rfl,e⟩
 | .inr x,v,h=>by
  obtain⟨t,e⟩:=Value.isStrOf_shape (x:=x) (v:=v) h;exact .inr ⟨x,t,rfl,e⟩
theorem yR (i:Int) (t:Tok):gM (.inl i) (.int i t)=true:=by simp[gM,Value.isInt]
theorem yS (x:Str) (t:Tok):gM (.inr x) (.str x t)=true:=by simp[gM,Value.isStrOf]
theorem yT (a b:Int):decide ((Sum.inl a:Key)=Sum.inl b)=(a==b):=by
 by_cases e:a=b
 .subst e;simp
 .have h:¬(Sum.inl a:Key)=Sum.inl b:=λq=>e (Sum.inl.inj q);rw[Aj h];exact(DR.mpr e).symm
theorem yU (a b:Str):decide ((Sum.inr a:Key)=Sum.inr b)=decide (a=b):=by
 by_cases e:a=b
 .subst e;simp
 .have h:¬(Sum.inr a:Key)=Sum.inr b:=λq=>e (Sum.inr.inj q);rw[Aj h,Aj e]
def yV (a:Int) (b:Str):decide ((Sum.inl a:Key)=Sum.inr b)=false:=Aj (λq=>nomatch q)
def yW (a:Str) (b:Int):decide ((Sum.inr a:Key)=Sum.inl b)=false:=Aj (λq=>nomatch q)
def bY (prog:Rh) (w:Rj):PySem.KeyKind prog w Key where
 is:=gM
 hash:=yQ w
 inj:=λv a b ha hb=>by
  rcases eQ ha with⟨i,t,rfl,rfl⟩|⟨x,t,rfl,rfl⟩
  .rcases eQ hb with⟨j,u,rfl,e⟩|⟨y,u,rfl,e⟩
   .injection e with e1 _;rw[e1]
   .exact nomatch e
  .rcases eQ hb with⟨j,u,rfl,e⟩|⟨y,u,rfl,e⟩
   .exact nomatch e
   .injection e with e1 _;rw[e1]
 byValue:=λk v h=>by
  rcases eQ h with⟨i,t,rfl,rfl⟩|⟨x,t,rfl,rfl⟩<;>rfl
 pyHash:=λhv h=>by
  rcases eQ hv with⟨i,t,rfl,rfl⟩|⟨x,t,rfl,rfl⟩
  .exact wpAny_pyHash_int h
  .exact wpAny_pyHash_str h
 eqBool:=λhu hv h=>by
  rcases eQ hu with⟨i,t,rfl,rfl⟩|⟨x,t,rfl,rfl⟩
  .rcases eQ hv with⟨j,u,rfl,rfl⟩|⟨y,u,rfl,rfl⟩
   .rw [yT] at h;exact wpAny_eqBool_int h
   .rw [yV] at h;exact SeqAt.EqAt.int_str i t y u _ _ _ _ h
  .rcases eQ hv with⟨j,u,rfl,rfl⟩|⟨y,u,rfl,rfl⟩
   .rw [yW] at h;exact SeqAt.EqAt.str_int x t j u _ _ _ _ h
   .rw [yU] at h;exact wpAny_eqBool_str h
 «strs»:=λk x t v h=>by
  rcases eQ h with⟨i,u,rfl,e⟩|⟨y,u,rfl,e⟩
  .exact nomatch e
  .injection e with e1 _;subst e1;cases v<;>rfl
def yX (prog:Rh) (w:Rj) (i:Int) (t:Tok):(bY prog w).is (.inl i) (.int i t)=true:=yR i t
def yY (prog:Rh) (w:Rj) (x:Str) (t:Tok):(bY prog w).is (.inr x) (.str x t)=true:=yS x t
inductive V where
 |non|bl (b:Bool)|int (i:Int)|str (x:Str)|byt (b:Array UInt8)|flt (b:UInt64)|ref (a:Addr)|ty (n:String)
 deriving DecidableEq
variable {v:V}{vs xs:Rl V}
def av:V->OO->Prop
 | .non,u=>u=Value.none
 | .bl b,u=>u=Value.bool b
 | .int i,u=>∃t,u=Value.int i t
 | .str x,u=>∃t,u=Value.str x t
 | .byt b,u=>∃t,u=Value.bytes b t
 | .flt b,u=>∃t,u=Value.float b t
 | .ref a,u=>u=Value.ref a
 | .ty n,u=>u=Value.type n
abbrev ap:Rl V->Rl OO->Prop:=Paired av
theorem ap.length {xs:Rl V}{us:Rl OO} (r:ap xs us):xs.length=us.length:=C9 r
theorem ap.get:∀{xs:Rl V}{us:Rl OO}{i:Nat}{x:V},ap xs us->xs[i]? =some x->∃u,us[i]? =some u/\av x u:=by
 intro xs us i x h e;induction h generalizing i with
 |nil=>simp at e
 |cons r t ih=>
  cases i with
  |zero=>simp at e;subst e;exact⟨_,rfl,r⟩
  |succ i=>exact ih (i:=i) (by simpa using e)
theorem ap.set {x:V}{u:OO} (r:av x u):∀{xs:Rl V}{us:Rl OO} (i:Nat),ap xs us->ap (xs.set i x) (us.set i u)
 |_,_,_, .nil=> .nil
 |_,_,0, .cons _ t=> .cons r t
 |_,_,i+1, .cons q t=> .cons q (ap.set r i t)
theorem ap.append:∀{xs ys:Rl V}{us ws:Rl OO},ap xs us->ap ys ws->ap (xs++ys) (us++ws):=by
 intro xs ys us ws h s;induction h with
 |nil=>exact s
 |cons r t ih=>exact .cons r ih
theorem ap.take:∀{xs:Rl V}{us:Rl OO} (n:Nat),ap xs us->ap (xs.take n) (us.take n)
 |_,_,0,_=> .nil
 |_,_,_+1, .nil=> .nil
 |_,_,n+1, .cons r t=> .cons r (ap.take n t)
theorem ap.drop:∀{xs:Rl V}{us:Rl OO} (n:Nat),ap xs us->ap (xs.drop n) (us.drop n)
 |_,_,0,r=>r
 |_,_,_+1, .nil=> .nil
 |_,_,n+1, .cons _ t=>ap.drop n t
def cA:Rp V->Rp OO->Prop
 |some v,some u=>av v u
 |none,none=>True
 |_,_=>False
def KV {κ:Type}:Rl (κ×V)->Rl (κ×OO)->Prop:=Paired fun(p:κ×V) (q:κ×OO)=>p.1=q.1/\av p.2 q.2
def kV:Key->V
 | .inl i=> .int i
 | .inr x=> .str x
inductive HO where
  |lst (xs:List V)
  |tup (xs:List V)
  |dK (Mc:List (Key×V))|dT (Mc:List (List Key×V))
  |set (S:Int->Bool) (n:Nat)
  |ins (C dx:Addr) (fs:List (Str×V))
  |own (x:Addr)
  |xd (fs:List (Str×V))
  |met (f x:Addr)
  |rng (lo hi:Int)
  |frz (o:Obj) (u:HO)
  |tbl (ps:Array Value)
  |ext (φ:Heap->Prop)
abbrev Hp:=Rg->Rp HO
variable {H:Hp}
def upd (H:Hp) (a:Rg) (o:HO):Hp:=λb=>if b=a then some o else H b
theorem ak {o:HO}:upd H a o a=some o:=by unfold upd;rw[A6 rfl]
theorem aw {o:HO} (h:b≠a):upd H a o b=H b:=by unfold upd;rw[A5 h]
theorem yZ {o u:HO}:upd (upd H a o) a u=upd H a u:=by
 funext b;unfold upd;split<;>rfl
theorem jY {o u:HO} (h:H a=some o) (h':H b=some u) (d:o≠u):a≠b:=by
 intro e;subst e;rw[h] at h';exact d (Ak h')
theorem bj {o:HO} (h:H a=some o) (h':H b=none):a≠b:=by
 intro e;subst e;rw[h] at h';cases h'
section
variable (P:Rh) (w:Rj)
def aG (H:Hp) (h:Rn) (a:Rg):HO->Prop
 | .lst xs=>xs.length<=sizeLine/\∃(Me:Rl OO) (n:Nat),ap xs Me/\h.get? a=some {cls:= .type "list",data:= .seq Me.toArray n}
 | .tup xs=>xs.length<=sizeLine/\∃Me:Rl OO,ap xs Me/\IsTup h a Me.toArray
 | .dK Mc=>Mc.length<=sizeLine/\(a==sysModules)=false/\∃vs,KV Mc vs/\h.DictOf (bY P w) a vs
 | .dT Mc=>Mc.length<=sizeLine/\(a==sysModules)=false/\∃xs:Rl (Rl Key×Rg×OO),
   Paired (fun(p:Rl Key×V) (q:Rl Key×Rg×OO)=>p.1=q.1/\H q.2.1=some (.tup (p.1.map kV))/\av p.2 q.2.2) Mc xs/\
   ∃o es ep,h.get? a=some o/\o.ExactDict/\o.data= .dict es ep/\es.toList=xs.map (entryOfKey (tupleKind (bY P w)))/\(xs.map (·.1)).Nodup
 | .set S n=>h.SetOf (intKind P w) a S n
 | .ins C dx fs=>H dx=some (.own a)/\fs.length<=1000/\dx≠a/\h.get? a=some (W.instObj C dx)/\
   ∃mA,h.Ns1 dx mA/\(∀f,cA (fs.lookup f) (mA f))/\PySem.Within mA (fs.map (·.1))
 | .own _=>∃o,h.get? a=some o
 | .xd fs=>∃mA,h.Ns1 a mA/\∀f,cA (fs.lookup f) (mA f)
 | .rng lo hi=>∃t u v,h.get? a=some {cls:= .type "range",data:= .fields #[.int lo t, .int hi u, .int 1 v]}
 | .frz o u=>h.get? a=some o/\aG H h a u
 | .tbl ps=>h.get? a=some {cls:= .none,data:= .fields ps}
 | .met f x=>h.get? a=some (W.methodObj (.ref f) (.ref x))
 | .ext φ=>φ h/\(∃o,h.get? a=some o)/\∀h1 h2:Rn,φ h1->(∀o,h1.get? a=some o->h2.get? a=some o)->φ h2
def HOk (H:Hp) (h:Rn):Prop:=∀a o,H a=some o->aG P w H h a o
end
section
variable {P:Rh}{w:Rj}{H H':Hp}{h h':Rn}{a:Rg}{o:HO}
theorem aG.lt (x:aG P w H h a o):a<h.objs.size:=by
 cases o with
 |lst xs=>obtain⟨_,_,_,_,e⟩:=x;exact AM e
 |tup xs=>obtain⟨_,_,_,p⟩:=x;exact p.lt
 |dK Mc=>obtain⟨_,_,_,_,o,_,_,e,_⟩:=x;exact AM e
 |dT Mc=>obtain⟨_,_,_,_,o,_,_,e,_⟩:=x;exact AM e
 |set S n=>obtain⟨o,_,_,_,e,_⟩:=x;exact AM e
 |ins C dx fs=>obtain⟨_,_,_,e,_⟩:=x;exact AM e
 |own y=>obtain⟨_,e⟩:=x;exact AM e
 |xd fs=>obtain⟨_,⟨_,_,_,e,_⟩,_⟩:=x;exact AM e
 |rng lo hi=>obtain⟨_,_,_,e⟩:=x;exact AM e
 |frz ob u=>obtain⟨e,_⟩:=x;exact AM e
 |tbl ps=>exact AM (show h.get? a=some _ from x)
 |met f y=>exact AM (show h.get? a=some _ from x)
 |ext φ=>obtain⟨_,⟨_,e⟩,_⟩:=x;exact AM e
theorem Paired.mapP {α β:Type}{F G:α->β->Prop}:∀{l₁:Rl α}{l₂:Rl β},Paired F l₁ l₂->(∀a b,F a b->G a b)->Paired G l₁ l₂:=by
 intro l₁ l₂ h f;induction h with
 |nil=>exact .nil
 |cons r t ih=>exact .cons (f _ _ r) ih
theorem aG.stay (x:aG P w H h a o) (k:∀b u,(b=a\/H b=some (.own a))->h.get? b=some u->h'.get? b=some u)
  (ho:∀b,H b=some (.own a)->H' b=some (.own a)) (ht:∀b xs,H b=some (.tup xs)->H' b=some (.tup xs)):aG P w H' h' a o:=by
 induction o with
 |lst xs=>obtain⟨z,Me,n,r,e⟩:=x;exact⟨z,Me,n,r,k _ _ (.inl rfl) e⟩
 |tup xs=>obtain⟨z,Me,r,ob,e,c⟩:=x;exact⟨z,Me,r,ob,k _ _ (.inl rfl) e,c⟩
 |dK Mc=>obtain⟨z,y,vs,r,ob,es,ep,e,c⟩:=x;exact⟨z,y,vs,r,ob,es,ep,k _ _ (.inl rfl) e,c⟩
 |dT Mc=>
  obtain⟨z,y,xs,r,ob,es,ep,e,c⟩:=x;exact⟨z,y,xs,Paired.mapP r λp q z=>⟨z.1,ht _ _ z.2.1,z.2.2⟩,ob,es,ep,k _ _ (.inl rfl) e,c⟩
 |set S n=>obtain⟨ob,es,ep,t,e,c⟩:=x;exact⟨ob,es,ep,t,k _ _ (.inl rfl) e,c⟩
 |ins C dx fs=>
  obtain⟨d,z,ne,e,mA,⟨od,es,ep,e2,c⟩,r⟩:=x;exact⟨ho _ d,z,ne,k _ _ (.inl rfl) e,mA,⟨od,es,ep,k _ _ (.inr d) e2,c⟩,r⟩
 |own y=>obtain⟨ob,e⟩:=x;exact⟨ob,k _ _ (.inl rfl) e⟩
 |xd fs=>obtain⟨mA,⟨od,es,ep,e,c⟩,r⟩:=x;exact⟨mA,⟨od,es,ep,k _ _ (.inl rfl) e,c⟩,r⟩
 |rng lo hi=>obtain⟨t,u,v,e⟩:=x;exact⟨t,u,v,k _ _ (.inl rfl) e⟩
 |frz ob u ih=>obtain⟨e,q⟩:=x;exact⟨k _ _ (.inl rfl) e,ih q⟩
 |tbl ps=>
  have e:h.get? a=some {cls:= .none,data:= .fields ps}:=x;show h'.get? a=some {cls:= .none,data:= .fields ps};exact k a _ (.inl rfl) e
 |met f y=>
  have e:h.get? a=some (W.methodObj (.ref f) (.ref y)):=x;show h'.get? a=some (W.methodObj (.ref f) (.ref y));exact k a _ (.inl rfl) e
 |ext φ=>obtain⟨p,⟨o,e⟩,st⟩:=x;exact⟨st _ _ p λo q=>k _ _ (.inl rfl) q,⟨o,k _ _ (.inl rfl) e⟩,st⟩
theorem HOk.lt (x:HOk P w H h) (e:H a=some o):a<h.objs.size:=(x a o e).lt
theorem HOk.fresh (x:HOk P w H h) (e:h.objs.size<=a):H a=none:=by
 cases q:H a with
 |none=>rfl
 |some u=>exact absurd (Ao (x.lt q) e) (CG _)
def HOk.kept (x:HOk P w H h) (k:∀b u,h.get? b=some u->h'.get? b=some u):HOk P w H h':=λa o e=>
 (x a o e).stay (λb u _ q=>k b u q) (λ_ q=>q) λ_ _ q=>q
theorem HOk.laid (x:HOk P w H h) (k:∀b u,h.get? b=some u->h'.get? b=some u) (hp:h.objs.size<=a) (new:aG P w (upd H a o) h' a o):HOk P w (upd H a o) h':=λb u e=>by
 have hn:=x.fresh hp;by_cases hb:b=a
 .subst hb;rw[ak] at e;cases e;exact new
 .rw [aw hb] at e;exact(x b u e).stay (λc v _ q=>k c v q) (λc q=>by rw[aw (bj q hn)];exact q) λc xs q=>by rw[aw (bj q hn)];exact q
end
def Rd (H:Hp) (a:Rg) (u:HO):Prop:=H a=some u\/∃o,H a=some (.frz o u)
theorem Rd.ok {u:HO} (r:Rd H a u) (x:HOk P w H h):aG P w H h a u:=by
 rcases r with r|⟨o,r⟩
 .exact x a u r
 .obtain⟨_,q⟩:=x a _ r;exact q
def Mut:Rp HO->Prop
 |some (.lst _)=>True
 |some (.dK _)=>True
 |some (.dT _)=>True
 |some (.set _ _)=>True
 |some (.ins _ _ _)=>True
 |some (.ext _)=>True
 |_=>False
section
variable {P:Rh}{w:Rj}{H:Hp}{h h':Rn}{x e:Rg}{o':HO}
theorem HOk.write (ok:HOk P w H h) (mu:Mut (H x)) (he:e=x\/H e=some (.own x)) (k:∀b u,b≠e->h.get? b=some u->h'.get? b=some u) (heo:∃u,h'.get? e=some u)
  (new:aG P w (upd H x o') h' x o'):HOk P w (upd H x o') h':=λb u q=>by
 have nown:∀c y,H c=some (.own y)->c≠x:=λc y r z=>by subst z;rw[r] at mu;exact mu
 have ntup:∀c xs,H c=some (.tup xs)->c≠x:=λc xs r z=>by subst z;rw[r] at mu;exact mu
 by_cases hb:b=x
 .subst hb;rw[ak] at q;cases q;exact new
 .rw [aw hb] at q;by_cases Qk:b=e
  .have q':H b=some (.own x):=by
    rcases he with z|z
    .exact absurd (Qk.trans z) hb
    .rw [Qk];exact z
   rw[q] at q';cases q';obtain⟨v,hv⟩:=heo;exact⟨v,by rw[Qk];exact hv⟩
  .refine(ok b u q).stay (λc v hc r=>k c v ?_ r) (λc r=>by rw[aw (nown c b r)];exact r) λc xs r=>by rw[aw (ntup c xs r)];exact r
   rcases hc with rfl|hc
   .exact Qk
   .rintro rfl;rcases he with z|z
    .exact nown c b hc z
    .rw [hc] at z;cases z;exact hb rfl
end
structure Un (fs ex:Rl Rg) (H H':Hp) (h h':Rn):Prop where
 keep:∀b o,h.get? b=some o->H b=none->b∉fs->b∉ex->h'.get? b=some o
 slot:∀b o,h.get? b=some o->H b=none->b∈fs->b∉ex->∃sl,h'.get? b=some {o with slots:=sl}
 free:∀b o,h.get? b=some o->H b=none->b∉ex->H' b=none
 there:∀b o,h.get? b=some o->b∉ex->∃o',h'.get? b=some o'
 tups:∀b xs,H b=some (.tup xs)->H' b=some (.tup xs)
 frzs:∀b o u,H b=some (.frz o u)->H' b=some (.frz o u)
 tbls:∀b ps,H b=some (.tbl ps)->∃more,H' b=some (.tbl (ps++more))
section
variable {fs fs' ex ex':Rl Rg}{H H1 H2:Hp}{h h1 h2 h':Rn}{a x e:Rg}{o:HO}
theorem Un.any (u:Un fs ex H H1 h h1) {ob:Obj} (q:h.get? b=some ob) (n:H b=none) (hx:b∉ex):∃sl,h1.get? b=some {ob with slots:=sl}:=by
 by_cases hb:b∈fs
 .exact u.slot b ob q n hb hx
 .exact⟨ob.slots,u.keep b ob q n hb hx⟩
theorem Un.kept (k:∀b u,h.get? b=some u->h'.get? b=some u):Un fs ex H H h h':=
 ⟨λb ob q _ _ _=>k b ob q,λb ob q _ _ _=>⟨ob.slots,k b ob q⟩,λ_ _ _ n _=>n,λb ob q _=>⟨ob,k b ob q⟩,λ_ _ q=>q,λ_ _ _ q=>q,λ_ ps q=>⟨#[],by rw[q];simp⟩⟩
def Un.refl:Un fs ex H H h h:=Un.kept λ_ _ q=>q
theorem Un.laid (k:∀b u,h.get? b=some u->h'.get? b=some u) (hp:h.objs.size<=a) (hn:H a=none):Un fs ex H (upd H a o) h h' where
 keep:=λb u q _ _ _=>k b u q
 slot:=λb u q _ _ _=>⟨u.slots,k b u q⟩
 free:=λb u q n _=>by rw[aw (AQ (Ao (AM q) hp))];exact n
 there:=λb u q _=>⟨u,k b u q⟩
 tups:=λb xs q=>by rw[aw (bj q hn)];exact q
 frzs:=λb u xs q=>by rw[aw (bj q hn)];exact q
 tbls:=λb ps q=>⟨#[],by rw[aw (bj q hn),q];simp⟩
theorem Un.write (mu:Mut (H x)) (he:e=x\/H e=some (.own x)) (k:∀b u,b≠e->h.get? b=some u->h'.get? b=some u) (heo:∃u,h'.get? e=some u):Un fs ex H (upd H x o) h h':=by
 have hx:∀b,H b=none->b≠x:=λb n z=>by subst z;rw[n] at mu;exact mu
 have hb:∀b,H b=none->b≠e:=λb n z=>by
  subst z;rcases he with r|r
  .exact hx b n r
  .rw [n] at r;cases r
 have hm:∀b u,H b=some u->¬Mut (some u)->b≠x:=λb u q nm z=>by subst z;rw[q] at mu;exact nm mu
 refine⟨λb u q n _ _=>k b u (hb b n) q,λb u q n _ _=>⟨u.slots,k b u (hb b n) q⟩,λb u q n _=>by rw[aw (hx b n)];exact n,λb u q _=> ?_,
  λb xs q=>by rw[aw (hm b _ q λz=>z)];exact q,λb u xs q=>by rw[aw (hm b _ q λz=>z)];exact q,λb ps q=>⟨#[],by rw[aw (hm b _ q λz=>z),q];simp⟩⟩
 by_cases Qk:b=e
 .subst Qk;exact heo
 .exact⟨u,k b u Qk q⟩
end
def trk (h:Rn) (H:Hp):Rl Rg:=(List.range h.objs.size).filter λa=>(H a).isSome
def eR (h:Rn) (H:Hp):Rn:=W.hideAll h (trk h H)
def y3 (h:Rn) (H:Hp):(eR h H).objs.size=h.objs.size:=W.hideAll_size _ _
theorem y4 (e:h.get? b=some o) (n:H b=none):(eR h H).get? b=some o:=
 W.hideAll_get _ e λhm=>by
  have q:(H b).isSome=true:=(DL.mp hm).2;rw[n] at q;simp at q
theorem y6 (e:(eR h H).get? b=some o):h.get? b=some o/\H b=none:=by
 have e':h.get? b=some o:=W.of_hideAll (trk h H) e;refine⟨e', ?_⟩;cases q:H b with
 |none=>rfl
 |some x=>
  have hm:b∈trk h H:=DL.mpr ⟨AX.mpr (AM e'),by simp[q]⟩;have z:(eR h H).get? b=none:=W.hideAll_none (trk h H) hm;rw[z] at e;cases e
def y7 (g h:Rn) (L:Rg):Rl (Rg×Obj):=(List.range h.objs.size).filterMap λa=>if a=L\/(g.get? a).isSome=true then none else(h.get? a).map λo=>(a,o)
def aJ (g h:Rn) (L d:Rg):Rl (Rg×Obj):=(y7 g h L).filter λp=>decide (p.1≠d)
structure Mod (K:W.Frag) (mg:Str->Rp OO) (base:Rn):Prop where
 kin:K.In base
 glob:base.Ns mainGlobals mg
 blt:∃mb,base.Ns builtinsNs mb/\∀x:Str,x≠"__name__"->mb x=bootBuiltins x
 nolimit:base.NoLimit
structure Cx where
 prog:Program
 w:World
 K:W.Frag
 mg:Str->Option Value
 base:Heap
 A:Around
 N:List Str
 s₀:Shared
 H₀:Hp
 env:Env
 outer:List Env
 stack:List Env
 ex:List Addr
 fn:Str->Bool
 calm:Bool
 pn:List (Addr×Obj)
 xe:Value->Shared->Prop
variable {X:Cx}
def frs (l:Rl Env):Rl Rg:=l.filterMap (·.frame)
abbrev Cx.fs (X:Cx):Rl Rg:=frs X.outer
def Vis (sc:Scope) (x:Str):Prop:=sc.names.lookup x=some .local\/sc.names.lookup x=some .cell\/sc.names.lookup x=some .free
def Loc (sc:Scope) (x:Str):Prop:=sc.names.lookup x=some .local\/sc.names.lookup x=some .cell
def y8 (env:Env) (h:Rn) (m:Str->Rp OO) (x:Str) (u:OO):Prop:=
 (env.kindOf x=some .local/\m x=some u)\/((env.kindOf x=some .cell\/env.kindOf x=some .free)/\∃c,env.cells.lookup x=some c/\h.IsCell c (some u))
structure Cx.Ok (X:Cx):Prop where
 mod:Mod X.K X.mg X.base
 kind:X.env.scope.kind= .function
 glob:X.env.globals=mainGlobals
 blt:X.env.builtins=builtinsNs
 above:X.s₀.heap.objs.size<=X.env.locals
 inj:∀x y c,X.env.cells.lookup x=some c->X.env.cells.lookup y=some c->x=y
 has:∀x,(X.env.kindOf x=some .cell\/X.env.kindOf x=some .free)->∃c,X.env.cells.lookup x=some c
 cab:∀x c,X.fn x=true->X.env.cells.lookup x=some c->X.s₀.heap.objs.size<=c
 hd:X.calm=true->X.A.handled=none
 frames:X.A.frames=some X.stack
 stk:X.stack=X.outer\/(X.stack=X.env::X.outer/\X.env.frame=some X.env.locals)
 exf:∀b∈X.ex,b≠X.env.locals/\∀x c,X.env.cells.lookup x=some c->c≠b
 bs:∀b o,X.base.get? b=some o->X.s₀.heap.get? b=some o/\X.H₀ b=none
 bsz:X.base.objs.size<=X.s₀.heap.objs.size
 noex:∀b o,X.base.get? b=some o->b∉X.ex
 exfs:∀b∈X.ex,b∉X.fs
 funs:X.s₀.heap.FunFrames X.base X.outer
 frf:∀b∈X.fs,X.H₀ b=none
structure Inv (X:Cx) (Mb:Rl (Rg×Obj)) (σ:Rl (Rp V)) (H:Hp) (s:Rf):Prop where
 ok:X.Ok
 os:s.os=X.s₀.os
 bare:AllBare s.gens
 base:Un X.fs X.ex X.H₀ H X.s₀.heap s.heap
 loc:∃m,s.heap.Ns X.env.locals m/\∀(i:Nat) (x:Str) (v:V),X.N[i]? =some x->σ[i]? =some (some v)->Vis X.env.scope x->∃u,av v u/\y8 X.env s.heap m x u
 cell:∀x c,X.env.cells.lookup x=some c->∃v,s.heap.IsCell c v
 free:H X.env.locals=none
 freeC:∀x c,X.env.cells.lookup x=some c->H c=none
 pin:∀p∈X.pn++Mb,s.heap.get? p.1=some p.2/\H p.1=none/\p.1≠X.env.locals/\p.1∉X.fs/\∀v,p.2.data≠ .cell v
 hok:HOk X.prog X.w H s.heap
 len:σ.length=X.N.length
section
variable {X:Cx}{Mb:Rl (Rg×Obj)}{σ:Rl (Rp V)}{H H':Hp}{s:Rf}{h':Rn}
theorem Cx.Ok.nofr (ok:X.Ok) (e:X.base.get? b=some o):b∉X.fs:=λhb=>by
 have:=(ok.funs.mem hb).1;rw[e] at this;cases this
theorem Inv.bs (I:Inv X Mb σ H s):∀b o,X.base.get? b=some o->s.heap.get? b=some o/\H b=none:=λb o e=>
 ⟨I.base.keep b o (I.ok.bs b o e).1 (I.ok.bs b o e).2 (I.ok.nofr e) (I.ok.noex b o e),I.base.free b o (I.ok.bs b o e).1 (I.ok.bs b o e).2 (I.ok.noex b o e)⟩
def Inv.bk (I:Inv X Mb σ H s):∀b o,X.base.get? b=some o->s.heap.get? b=some o:=λb o e=>(I.bs b o e).1
theorem Inv.mod (I:Inv X Mb σ H s):Mod X.K X.mg X.base:=I.ok.mod
def Inv.kIn (I:Inv X Mb σ H s):X.K.In s.heap:=I.ok.mod.kin.keeps I.bk
theorem Inv.lt (I:Inv X Mb σ H s):X.env.locals<s.heap.objs.size:=by obtain⟨_,hn,_⟩:=I.loc;exact hn.lt
def Inv.sz (I:Inv X Mb σ H s):X.s₀.heap.objs.size<=s.heap.objs.size:=BH I.ok.above (AZ I.lt)
theorem Inv.nofs (I:Inv X Mb σ H s) (h:s.heap.objs.size<=a):a∉X.fs:=λhb=>by
 obtain⟨_,o,ho,_⟩:=I.ok.funs.mem hb;exact absurd (Ao (AM ho) (BH I.sz h)) (CG _)
theorem Inv.cne (I:Inv X Mb σ H s):∀x c,X.env.cells.lookup x=some c->c≠X.env.locals:=λx c e z=>by
 obtain⟨v,o,ho,hd⟩:=I.cell x c e;obtain⟨m,⟨o',es,ep,MZ,No,_⟩,_⟩:=I.loc;rw[z,MZ] at ho;cases ho;rw[No] at hd;cases hd
theorem Inv.funs (I:Inv X Mb σ H s):s.heap.FunFrames X.base X.outer:=by
 have all:∀(l:Rl Env),(∀b∈frs l,b∈X.fs)->X.s₀.heap.FunFrames X.base l->s.heap.FunFrames X.base l:=by
  intro l;induction l with
  |nil=>intro _ _;trivial
  |cons env r ih=>
   intro hs hl;obtain⟨hk,⟨L,o,hf,hn,ho,hd⟩,hr⟩:=hl;have hL:L∈X.fs:=hs L (by unfold frs;rw[Ci,hf];exact AD);obtain⟨sl,e⟩:=I.base.slot L o ho (I.ok.frf L hL) hL λz=>I.ok.exfs L z hL;exact⟨hk,⟨L,_,hf,hn,e,hd⟩,ih (λb hb=>hs b (by unfold frs;rw[Ci,hf];exact AK _ hb)) hr⟩
 exact all X.outer (λ_ hb=>hb) I.ok.funs
theorem Inv.stack (I:Inv X Mb σ H s):s.heap.FunFrames X.base X.stack:=by
 rcases I.ok.stk with e|⟨e,hf⟩
 .rw [e];exact I.funs
 .rw [e];obtain⟨m,hn,_⟩:=I.loc;refine .cons (by rw[I.ok.kind];decide) hf hn ?_ I.funs;exact Heap.get?_none_of_le (BH I.ok.bsz I.ok.above)
theorem Inv.stkSub (I:Inv X Mb σ H s):∀b∈frs X.stack,b∈X.env.locals::X.fs:=λb hb=>by
 rcases I.ok.stk with e|⟨e,hf⟩
 .rw [e] at hb;exact AK _ hb
 .rw [e] at hb;unfold frs at hb;rw[Ci,hf] at hb;exact hb
theorem Inv.stkFree (I:Inv X Mb σ H s):∀b∈frs X.stack,H b=none:=λb hb=>by
 rcases AJ.mp (I.stkSub b hb) with e|hb
 .rw [e];exact I.free
 .obtain⟨_,o,ho,_⟩:=I.ok.funs.mem hb;exact I.base.free b o ho (I.ok.frf b hb) λz=>I.ok.exfs b z hb
theorem Inv.step {g':Array GenState}{t':Nat}{d':Drawn}(I:Inv X Mb σ H s)
  (NP:∀b∈ch,(b∈X.ex\/X.s₀.heap.objs.size<=b)/\b≠X.env.locals/\(∀x c,X.env.cells.lookup x=some c->c≠b)/\∀p∈X.pn++Mb,p.1≠b)
  (keep:∀b o,b≠X.env.locals->b∉X.fs->b∉ch->s.heap.get? b=some o->H b=none->h'.get? b=some o)
  (slot:∀b o,b≠X.env.locals->b∈X.fs->b∉ch->s.heap.get? b=some o->H b=none->∃sl,h'.get? b=some {o with slots:=sl}) (free:∀b o,b∉ch->s.heap.get? b=some o->H b=none->H' b=none)
  (there:∀b o,b∉ch->s.heap.get? b=some o->∃o',h'.get? b=some o')
  (tups:∀b xs,H b=some (.tup xs)->H' b=some (.tup xs)) (frzs:∀b o u,H b=some (.frz o u)->H' b=some (.frz o u)) (tbls:∀b ps,H b=some (.tbl ps)->∃more,H' b=some (.tbl (ps++more)))
  (ns:∀m,s.heap.Ns X.env.locals m->h'.Ns X.env.locals m) (hok:HOk X.prog X.w H' h') (hg:AllBare g'):
  Inv X Mb σ H' {s with heap:=h',gens:=g',drawn:=d',toks:=t'}:=by
 have neL:∀b o,X.s₀.heap.get? b=some o->b≠X.env.locals:=λb o e=>AQ (Ao (AM e) I.ok.above);have neC:∀b o,X.s₀.heap.get? b=some o->b∉X.ex->b∉ch:=λb o e hx hb=>by
  rcases(NP b hb).1 with z|z
  .exact hx z
  .exact absurd (Ao (AM e) z) (CG _)
 have PX:∀x c,X.env.cells.lookup x=some c->∀v,s.heap.IsCell c v->h'.IsCell c v:=λx c e v OG=>by
  obtain⟨o,ho,hd⟩:=OG;have nch:c∉ch:=λz=>(NP c z).2.2.1 x c e rfl;by_cases hc:c∈X.fs
  .obtain⟨sl,q⟩:=slot c o (I.cne x c e) hc nch ho (I.freeC x c e);exact⟨_,q,hd⟩
  .exact⟨o,keep c o (I.cne x c e) hc nch ho (I.freeC x c e),hd⟩
 refine⟨I.ok,I.os,hg,⟨λb o e n hb hx=> ?_,λb o e n hb hx=> ?_,λb o e n hx=> ?_,λb o e hx=> ?_,λb xs e=>tups b xs (I.base.tups b xs e),λb o xs e=>frzs b o xs (I.base.frzs b o xs e),λb ps e=> ?_⟩, ?_,λx c e=> ?_, ?_,λx c e=> ?_,λp hp=> ?_,hok,I.len⟩
 .exact keep b o (neL b o e) hb (neC b o e hx) (I.base.keep b o e n hb hx) (I.base.free b o e n hx)
 .obtain⟨sl,e1⟩:=I.base.slot b o e n hb hx;obtain⟨sl',e2⟩:=slot b _ (neL b o e) hb (neC b o e hx) e1 (I.base.free b o e n hx);exact⟨sl',e2⟩
 .obtain⟨o',e1⟩:=I.base.there b o e hx;exact free b o' (neC b o e hx) e1 (I.base.free b o e n hx)
 .obtain⟨o',e1⟩:=I.base.there b o e hx;exact there b o' (neC b o e hx) e1
 .obtain⟨m1,e1⟩:=I.base.tbls b ps e;obtain⟨m2,e2⟩:=tbls b _ e1;exact⟨m1++m2,by rw[e2,Array.append_assoc]⟩
 .obtain⟨m,hn,hl⟩:=I.loc;refine⟨m,ns m hn,λi x v e1 e2 e3=> ?_⟩;obtain⟨u,r,l⟩:=hl i x v e1 e2 e3;refine⟨u,r, ?_⟩;rcases l with l|⟨k,c,e,z⟩
  .exact .inl l
  .exact .inr ⟨k,c,e,PX x c e _ z⟩
 .obtain⟨v,z⟩:=I.cell x c e;exact⟨v,PX x c e v z⟩
 .obtain⟨m,⟨o,_,_,ho,_⟩,_⟩:=I.loc;exact free _ o (λz=>(NP _ z).2.1 rfl) ho I.free
 .obtain⟨v,o,ho,hd⟩:=I.cell x c e;exact free c o (λz=>(NP c z).2.2.1 x c e rfl) ho (I.freeC x c e)
 .obtain⟨e,n,ne,nf,d⟩:=I.pin p hp;have nch:p.1∉ch:=λz=>(NP p.1 z).2.2.2 p hp rfl;exact⟨keep p.1 p.2 ne nf nch e n,free p.1 p.2 nch e n,ne,nf,d⟩
theorem Inv.un {t':Nat} (I:Inv X Mb σ H s) (u:Un X.fs [] H H' s.heap h') (hok:HOk X.prog X.w H' h'):Inv X Mb σ H' {s with heap:=h',toks:=t'}:=by
 obtain⟨m,⟨o,es,ep,ho,r⟩,_⟩:=id I.loc;obtain⟨sl,hL⟩:=u.any ho I.free (by simp);exact I.step (g':=s.gens) (d':=s.drawn) (ch:=[]) (λ_ z=>nomatch z) (λb o _ hb _ e n=>u.keep b o e n hb (by simp)) (λb o _ hb _ e n=>u.slot b o e n hb (by simp)) (λb o _ e n=>u.free b o e n (by simp)) (λb o _ e=>u.there b o e (by simp)) u.tups u.frzs u.tbls (λm' hm=>by
  obtain⟨o',ML,OH,MZ,r'⟩:=hm;rw[ho] at MZ;cases MZ;exact⟨_,ML,OH,hL,r'⟩) hok I.bare
theorem Inv.call {g':Array GenState}{t':Nat}{d':Drawn}(I:Inv X Mb σ H s) (u:Un (frs X.stack) ch H H' s.heap h') (hok:HOk X.prog X.w H' h') (hg:AllBare g')
  (NP:∀b∈ch,(b∈X.ex\/X.s₀.heap.objs.size<=b)/\b≠X.env.locals/\(∀x c,X.env.cells.lookup x=some c->c≠b)/\∀p∈X.pn++Mb,p.1≠b):
  Inv X Mb σ H' {s with heap:=h',gens:=g',drawn:=d',toks:=t'}:=by
 obtain⟨m,⟨o,es,ep,ho,r⟩,_⟩:=id I.loc;obtain⟨sl,hL⟩:=u.any ho I.free λz=>(NP _ z).2.1 rfl;exact I.step (ch:=ch) NP (λb o hL hb hc e n=>u.keep b o e n (λz=>(AJ.mp (I.stkSub b z)).elim hL hb) hc) (λb o _ _ hc e n=>u.any e n hc) (λb o hc e n=>u.free b o e n hc) (λb o hc e=>u.there b o e hc) u.tups u.frzs u.tbls (λm' hm=>by
  obtain⟨o',ML,OH,MZ,r'⟩:=hm;rw[ho] at MZ;cases MZ;exact⟨_,ML,OH,hL,r'⟩) hok hg
theorem Inv.turned {t':Nat}(I:Inv X Mb σ H s) (k:∀b o,b≠it->s.heap.get? b=some o->h'.get? b=some o) (hn:H it=none) (hL:it≠X.env.locals)
  (h1:it∈X.ex\/X.s₀.heap.objs.size<=it) (h2:∀x c,X.env.cells.lookup x=some c->c≠it) (h3:∀p∈X.pn++Mb,p.1≠it):Inv X Mb σ H {s with heap:=h',toks:=t'}:=by
 have nit:∀b u,H b=some u->b≠it:=λb u e z=>by rw[z,hn] at e;cases e
 refine I.step (g':=s.gens) (d':=s.drawn) (ch:=[it]) (λb hb=> ?_) (λb o _ _ hc e _=>k b o (λz=>hc (by simp[z])) e) (λb o _ _ hc e _=>⟨o.slots,k b o (λz=>hc (by simp[z])) e⟩) (λ_ _ _ _ n=>n)
  (λb o hc e=>⟨o,k b o (λz=>hc (by simp[z])) e⟩) (λ_ _ e=>e) (λ_ _ _ e=>e) (λb ps e=>⟨#[],by rw[e];simp⟩) (λm hm=> ?_) (λb u e=> ?_) I.bare
 .have e:b=it:=by simpa using hb
  subst e;exact⟨h1,hL,h2,h3⟩
 .obtain⟨o,es,ep,ho,r⟩:=hm;exact⟨o,es,ep,k _ o (DW hL) ho,r⟩
 .refine(I.hok b u e).stay (λc v hc q=>k c v ?_ q) (λ_ q=>q) λ_ _ q=>q;rcases hc with z|z
  .rw [z];exact nit b u e
  .exact nit c _ z
def Inv.tok (I:Inv X Mb σ H s) (t:Nat):Inv X Mb σ H {s with toks:=t}:=I.un (h':=s.heap) (t':=t) Un.refl I.hok
theorem Inv.kept {t':Nat} (I:Inv X Mb σ H s) (k:∀b u,s.heap.get? b=some u->h'.get? b=some u):Inv X Mb σ H {s with heap:=h',toks:=t'}:=I.un (Un.kept k) (I.hok.kept k)
theorem Inv.laid {a:Rg}{o:HO}{t':Nat} (I:Inv X Mb σ H s) (k:∀b u,s.heap.get? b=some u->h'.get? b=some u) (hp:s.heap.objs.size<=a) (new:aG X.prog X.w (upd H a o) h' a o):
  Inv X Mb σ (upd H a o) {s with heap:=h',toks:=t'}:=I.un (Un.laid k hp (I.hok.fresh hp)) (I.hok.laid k hp new)
theorem Inv.write {x e:Rg}{o:HO}{t':Nat} (I:Inv X Mb σ H s) (mu:Mut (H x)) (he:e=x\/H e=some (.own x)) (k:∀b u,b≠e->s.heap.get? b=some u->h'.get? b=some u) (heo:∃u,h'.get? e=some u)
  (new:aG X.prog X.w (upd H x o) h' x o):Inv X Mb σ (upd H x o) {s with heap:=h',toks:=t'}:=I.un (Un.write mu he k heo) (I.hok.write mu he k heo new)
def Inv.weak {σ':Rl (Rp V)} (I:Inv X Mb σ H s) (hl:σ'.length=σ.length) (w:∀(i:Nat) v,σ'[i]? =some (some v)->σ[i]? =some (some v)):Inv X Mb σ' H s:=
 ⟨I.ok,I.os,I.bare,I.base,let ⟨m,hn,MJ⟩:=I.loc;⟨m,hn,λi x v e1 e2 e3=>MJ i x v e1 (w i v e2) e3⟩,I.cell,I.free,I.freeC,I.pin,I.hok,hl.trans I.len⟩
def Inv.pins_of {PY:Rl (Rg×Obj)} (I:Inv X Mb σ H s) (h:∀p∈PY,s.heap.get? p.1=some p.2/\H p.1=none/\p.1≠X.env.locals/\p.1∉X.fs/\∀v,p.2.data≠ .cell v):Inv X PY σ H s:=
 ⟨I.ok,I.os,I.bare,I.base,I.loc,I.cell,I.free,I.freeC,λp hp=>(B9.mp hp).elim (λz=>I.pin p (Bt _ z)) (h p),I.hok,I.len⟩
theorem qX (hN:N.Nodup) (a:N[i]? =some x) (b:N[j]? =some x):i=j:=by
 obtain⟨h1,e1⟩:=AF.mp a;obtain⟨h2,e2⟩:=AF.mp b;exact(List.getElem_inj hN).mp (e1.trans e2.symm)
theorem y9 {M:Model}{A:Rk}{E:OO->Rf->Prop}{Q:Unit->Rf->Prop} (I:Inv X Mb σ H s) (hN:X.N.Nodup) (hi:X.N[i]? =some x) (hx:Loc X.env.scope x) (r:av v u)
  (h:∀s',Inv X Mb (σ.set i (some v)) H s'->(∃a,Heap.SameBut a s.heap s'.heap/\(a=X.env.locals\/X.env.cells.lookup x=some a))->Q () s') (hf:X.fn x=true\/X.env.scope.names.lookup x=some .local:=by trivial):wpAny M A (storeName X.env x u) Q E s:=by
 obtain⟨m,hn,hl⟩:=id I.loc;have hcls:(X.env.scope.kind== .class||(X.env.scope.kind== .module&&X.env.locals !=X.env.globals))=false:=by rw[I.ok.kind];rfl
 have hiσ:i<σ.length:=by rw[I.len];exact(AF.mp hi).1
 have cne:=I.cne;have Ol:∀{a:Rg}{h':Rn},(∃o,s.heap.get? a=some o/\H a=none)->Heap.SameBut a s.heap h'->HOk X.prog X.w H h':=fun{a h'} ha hs b ob e=>by
  obtain⟨_,_,MX⟩:=ha;refine(I.hok b ob e).stay (λc w' hc q=>(hs.2 c ?_).trans q) (λ_ q=>q) λ_ _ q=>q;rintro rfl;rcases hc with rfl|hc
  .rw [MX] at e;cases e
  .rw [MX] at hc;cases hc
 rcases hx with hk|hk
 .refine wpAny_storeName_local hk hn (λh' PZ hs=> ?_) hcls;obtain⟨oL,_,_,Ql,_⟩:=id hn;refine h _ ⟨I.ok,I.os,I.bare,⟨λb o e n hb hx=> ?_,λb o e n hb hx=> ?_,I.base.free,λb o e hx=> ?_,I.base.tups,I.base.frzs,I.base.tbls⟩,⟨_,PZ,λj y v' e1 e2 e3=> ?_⟩,λy c e=> ?_,I.free,I.freeC,λp hp=> ?_,Ol ⟨oL,Ql,I.free⟩ hs,by simpa using I.len⟩ ⟨_,hs, .inl rfl⟩
  .exact(hs.2 b (AQ (Ao (AM e) I.ok.above))).trans (I.base.keep b o e n hb hx)
  .obtain⟨sl,e1⟩:=I.base.slot b o e n hb hx;exact⟨sl,(hs.2 b (AQ (Ao (AM e) I.ok.above))).trans e1⟩
  .obtain⟨o',e1⟩:=I.base.there b o e hx;exact⟨o',(hs.2 b (AQ (Ao (AM e) I.ok.above))).trans e1⟩
  .by_cases hj:j=i
   .subst hj;rw[hi] at e1;cases e1;rw[List.getElem?_set_self hiσ] at e2;cases e2;exact⟨u,r, .inl ⟨hk,by simp⟩⟩
   .rw [CZ (DW hj)] at e2;obtain⟨u',r',q⟩:=hl j y v' e1 e2 e3;refine⟨u',r', ?_⟩;rcases q with⟨k,e⟩|⟨k,c,e,z⟩
    .refine .inl ⟨k, ?_⟩;have:y≠x:=λe=>hj (qX hN e1 (e▸hi));simp[this,e]
    .exact .inr ⟨k,c,e,z.sameBut hs (cne y c e)⟩
  .obtain⟨w',z⟩:=I.cell y c e;exact⟨w',z.sameBut hs (cne y c e)⟩
  .obtain⟨e,n,ne,nf,d⟩:=I.pin p hp;exact⟨(hs.2 p.1 ne).trans e,n,ne,nf,d⟩
 .have hfn:X.fn x=true:=by
   rcases hf with z|z
   .exact z
   .rw [z] at hk;cases hk
  obtain⟨c,hc⟩:=I.ok.has x (.inl hk);obtain⟨w',z⟩:=I.cell x c hc;refine wpAny_storeName_cell I.ok.kind hk hc z (λh' hc' hs=> ?_);obtain⟨oc,hoc,hocd⟩:=id z;refine h {s with heap:=h'} ⟨I.ok,I.os,I.bare,⟨λb o e n hb hx=> ?_,λb o e n hb hx=> ?_,I.base.free,λb o e hx=> ?_,I.base.tups,I.base.frzs,I.base.tbls⟩,⟨m,hn.sameBut hs (DW (cne x c hc)),λj y v' e1 e2 e3=> ?_⟩,λy c' e=> ?_,I.free,I.freeC,λp hp=> ?_,Ol ⟨oc,hoc,I.freeC x c hc⟩ hs,by simpa using I.len⟩ ⟨c,hs, .inr hc⟩
  .exact(hs.2 b (AQ (Ao (AM e) (I.ok.cab x c hfn hc)))).trans (I.base.keep b o e n hb hx)
  .obtain⟨sl,e1⟩:=I.base.slot b o e n hb hx;exact⟨sl,(hs.2 b (AQ (Ao (AM e) (I.ok.cab x c hfn hc)))).trans e1⟩
  .obtain⟨o',e1⟩:=I.base.there b o e hx;exact⟨o',(hs.2 b (AQ (Ao (AM e) (I.ok.cab x c hfn hc)))).trans e1⟩
  .by_cases hj:j=i
   .subst hj;rw[hi] at e1;cases e1;rw[List.getElem?_set_self hiσ] at e2;cases e2;exact⟨u,r, .inr ⟨.inl hk,c,hc,hc'⟩⟩
   .rw [CZ (DW hj)] at e2;obtain⟨u',r',q⟩:=hl j y v' e1 e2 e3;refine⟨u',r', ?_⟩;rcases q with q|⟨k,c',e,z'⟩
    .exact .inl q
    .refine .inr ⟨k,c',e,z'.sameBut hs ?_⟩;rintro rfl;exact hj (qX hN e1 (I.ok.inj _ _ _ e hc▸hi))
  .by_cases hcc:c'=c
   .subst hcc;exact⟨_,hc'⟩
   .obtain⟨w2,z2⟩:=I.cell y c' e;exact⟨w2,z2.sameBut hs hcc⟩
  .obtain⟨e,n,ne,nf,d⟩:=I.pin p hp;refine⟨(hs.2 p.1 ?_).trans e,n,ne,nf,d⟩;intro q;rw[q,hoc] at e;have q':oc=p.2:=Ak e;exact d w' (by rw[<-q'];exact hocd)
theorem jZ {M:Model}{A:Rk}{E:OO->Rf->Prop}{Q:Unit->Rf->Prop} (I:Inv X Mb σ H s) (hN:X.N.Nodup) (hi:X.N[i]? =some x) (hx:Loc X.env.scope x) (r:av v u)
  (h:∀s',Inv X Mb (σ.set i (some v)) H s'->Q () s') (hf:X.fn x=true\/X.env.scope.names.lookup x=some .local:=by trivial):wpAny M A (storeName X.env x u) Q E s:=
 y9 I hN hi hx r (λs' I' _=>h s' I') hf
theorem Inv.call' {s':Rf}(I:Inv X Mb σ H s) (ho:s'.os=s.os) (u:Un (frs X.stack) ch H H' s.heap s'.heap) (hok:HOk X.prog X.w H' s'.heap) (hg:AllBare s'.gens)
  (NP:∀b∈ch,(b∈X.ex\/X.s₀.heap.objs.size<=b)/\b≠X.env.locals/\(∀x c,X.env.cells.lookup x=some c->c≠b)/\∀p∈X.pn++Mb,p.1≠b):Inv X Mb σ H' s':=by
 obtain⟨h',g',d',t',o'⟩:=s';have e:o'=s.os:=ho;subst e;exact I.call (g':=g') (t':=t') (d':=d') u hok hg NP
end
abbrev XK:=OO->Rp Rg->Hp->Prop
abbrev St:=Rl (Rp V)
abbrev VK:=V->Hp->Prop
abbrev TE:=St->Hp->VK->Prop
variable {te tl:TE}
abbrev TT:=St->Hp->(Bool->Hp->Prop)->Prop
variable {tc:TT}
abbrev TA:=St->Hp->(Rl V->Hp->Prop)->Prop
variable {ta:TA}
structure Ends where
 nx:St->Hp->Prop
 rt:VK
 bk:St->Hp->Prop:=λ_ _=>False
 ct:St->Hp->Prop:=λ_ _=>False
abbrev TS:=Ends->St->Hp->Prop
variable {tb:TS}
abbrev eTo (D:Ends) (n:St->Hp->Prop):Ends:=⟨n,D.rt,D.bk,D.ct⟩
abbrev eLp (D:Ends) (n:St->Hp->Prop):Ends:=⟨n,D.rt,D.nx,n⟩
inductive qY (X:Cx) (Mb:List (Addr×Obj)) (σ:St) (Q:VK) (u:Value) (s':Shared):Prop
 |mk v H':Inv X Mb σ H' s'->av v u->Q v H'->qY X Mb σ Q u s'
def EP (X:Cx) (Mb:Rl (Rg×Obj)) (σ:St) (Q:VK) (u:OO) (s':Rf):Prop:=qY X Mb σ Q u s'
inductive qZ (X:Cx) (Mb:List (Addr×Obj)) (σ:St) (Q:Bool->Hp->Prop) (b:Bool) (s':Shared):Prop
 |mk H':Inv X Mb σ H' s'->Q b H'->qZ X Mb σ Q b s'
def TP (X:Cx) (Mb:Rl (Rg×Obj)) (σ:St) (Q:Bool->Hp->Prop) (b:Bool) (s':Rf):Prop:=qZ X Mb σ Q b s'
inductive rc (X:Cx) (Mb:List (Addr×Obj)) (σ:St) (Q:List V->Hp->Prop) (us:List Value) (s':Shared):Prop
 |mk vs H':Inv X Mb σ H' s'->ap vs us->Q vs H'->rc X Mb σ Q us s'
def AP (X:Cx) (Mb:Rl (Rg×Obj)) (σ:St) (Q:Rl V->Hp->Prop) (us:Rl OO) (s':Rf):Prop:=rc X Mb σ Q us s'
def SP (X:Cx) (Mb:Rl (Rg×Obj)) (D:Ends) (f:Flow) (s':Rf):Prop:=
 match f with
 | .next=>∃σ' H',Inv X Mb σ' H' s'/\D.nx σ' H'
 | .brk=>∃σ' H',Inv X Mb σ' H' s'/\D.bk σ' H'
 | .cont=>∃σ' H',Inv X Mb σ' H' s'/\D.ct σ' H'
 | .ret u=>∃v σ' H',Inv X Mb σ' H' s'/\av v u/\D.rt v H'
def PE (X:Cx) (e:Rm) (t:TE):Prop:=
 ∀(Mb:Rl (Rg×Obj)) (s:Rf) (σ:St) (H:Hp) (Q:VK),Inv X Mb σ H s->t σ H Q->wpAny (model X.prog X.w) X.A (eval e X.env) (EP X Mb σ Q) X.xe s
def PT (X:Cx) (e:Rm) (t:TT):Prop:=
 ∀(Mb:Rl (Rg×Obj)) (s:Rf) (σ:St) (H:Hp) (Q:Bool->Hp->Prop),Inv X Mb σ H s->t σ H Q->wpAny (model X.prog X.w) X.A (isTrue e X.env (eval e X.env)) (TP X Mb σ Q) X.xe s
def PW (X:Cx) (e:Rm) (t:TT):Prop:=
 ∀(M8:Sem OO) (Mb:Rl (Rg×Obj)) (s:Rf) (σ:St) (H:Hp) (Q:Bool->Hp->Prop),Inv X Mb σ H s->t σ H Q->wpAny (model X.prog X.w) X.A (isTrue e X.env M8) (TP X Mb σ Q) X.xe s
def PW.pt {t:TT} (h:PW X e t):PT X e t:=h _
def PA (X:Cx) (es:Rl Rm) (t:TA):Prop:=
 ∀(pos:Pos) (Mb:Rl (Rg×Obj)) (s:Rf) (σ:St) (H:Hp) (Q:Rl V->Hp->Prop),Inv X Mb σ H s->t σ H Q->wpAny (model X.prog X.w) X.A (spliced (backTo pos (starEach es X.env))) (AP X Mb σ Q) X.xe s
def PS (X:Cx) (st:Rq) (t:TS):Prop:=
 ∀(Mb:Rl (Rg×Obj)) (s:Rf) (σ:St) (H:Hp) (D:Ends),Inv X Mb σ H s->t D σ H->wpAny (model X.prog X.w) X.A (exec st X.env) (SP X Mb D) X.xe s
def PSs (X:Cx) (st:Rl Rq) (t:TS):Prop:=
 ∀(Mb:Rl (Rg×Obj)) (s:Rf) (σ:St) (H:Hp) (D:Ends),Inv X Mb σ H s->t D σ H->wpAny (model X.prog X.w) X.A (execs st X.env) (SP X Mb D) X.xe s
def thn {α:Type}{t:Sem α}{Q Q':α->Rf->Prop}(h:wpAny M A t Q E s) (hQ:∀a s,Q a s->Q' a s):wpAny M A t Q' E s:=Bj h hQ λ_ _ x=>x
section
variable {X:Cx}
inductive tVar (i:Nat) (σ:St) (H:Hp) (Q:VK):Prop
 |mk v:σ[i]? =some (some v)->Q v H->tVar i σ H Q
def tC (v:V):TE:=λ_ H Q=>Q v H
theorem zc {pos:Pos} (hN:X.N[i]? =some x) (hv:Vis X.env.scope x) (hd:(x==("__debug__":Str))=false:=by decide) (OI:(x==("__classdict__":Str))=false:=by decide):PE X (.Name x pos) (tVar i):=by
 intro Mb s σ H Q I h;obtain⟨v,e,h⟩:=h;obtain⟨m,hn,hl⟩:=I.loc;obtain⟨u,r,l⟩:=hl i x v hN e hv;have fin:EP X Mb σ Q u s:=⟨v,H,I,r,h⟩;rcases l with⟨hk,hm⟩|⟨hk,c,hc,MB⟩
 .exact wpAny_Name (wpAny_loadName_local I.ok.kind hk hn hm fin) hd
 .rcases hk with hk|hk
  .exact wpAny_Name (wpAny_loadName_cell I.ok.kind hk hc MB fin) hd
  .exact wpAny_Name (wpAny_loadName_free I.ok.kind hk hc MB fin OI) hd
def ag {i j pos}:PE X (.Constant (.int i) j pos) (tC (.int i)):=λ_ _ _ H _ I h=>wpAny_Constant_int ⟨.int i,H,I.tok _,⟨_,rfl⟩,h⟩
def fQ {b j pos}:PE X (.Constant (.bool b) j pos) (tC (.bl b)):=λ_ _ _ H _ I h=>Constant_bool ⟨.bl b,H,I,rfl,h⟩
def rg {j pos}:PE X (.Constant .none j pos) (tC .non):=λ_ _ _ H _ I h=>Constant_none ⟨.non,H,I,rfl,h⟩
def Gl (X:Cx) (x:Str):Prop:=X.env.kindOf x=some .globalImplicit
theorem mB {E:OO->Rf->Prop}{σ:St}{pos:Pos}(I:Inv X Mb σ H s) (hg:Gl X x) (hm:X.mg x=some u) (h:Q u s)
  (hd:(x==("__debug__":Str))=false:=by decide):wpAny (model X.prog X.w) X.A (eval (.Name x pos) X.env) Q E s:=
 Calls.Name_function_global I.ok.kind hg (Calls.loadGlobal_global (by rw[I.ok.glob];exact I.mod.glob.keeps I.bk) hm h) hd
theorem cM {E:OO->Rf->Prop}{σ:St}{pos:Pos}(I:Inv X Mb σ H s) (hg:Gl X x) (hm:X.mg x=none) (hv:bootBuiltins x=some u) (h:Q u s)
  (hn:x≠"__name__":=by decide) (hd:(x==("__debug__":Str))=false:=by decide):wpAny (model X.prog X.w) X.A (eval (.Name x pos) X.env) Q E s:=by
 obtain⟨mb,h1,h2⟩:=I.mod.blt;exact Calls.Name_function_global I.ok.kind hg (Calls.loadGlobal_builtin (by rw[I.ok.glob];exact I.mod.glob.keeps I.bk) hm (by rw[I.ok.blt];exact h1.keeps I.bk) ((h2 x hn).trans hv) h) hd
theorem gN {pos:Pos} (hg:Gl X x) (hm:X.mg x=some u) (r:av v u) (hd:(x==("__debug__":Str))=false:=by decide):PE X (.Name x pos) (tC v):=
 λ_ _ _ H _ I h=>mB I hg hm ⟨v,H,I,r,h⟩ hd
theorem mC {pos:Pos} (hg:Gl X x) (hm:X.mg x=none) (hv:bootBuiltins x=some u) (r:av v u) (hn:x≠"__name__":=by decide) (hd:(x==("__debug__":Str))=false:=by decide):PE X (.Name x pos) (tC v):=
 λ_ _ _ H _ I h=>cM I hg hm hv ⟨v,H,I,r,h⟩ hn hd
variable {a b:Rm}{ta tb:TE}{pos:Pos}
def PC (X:Cx) (op:CmpOp) (a b:Rm) (t:TE):Prop:=
 ∀(Mb:Rl (Rg×Obj)) (s:Rf) (σ:St) (H:Hp) (Q:VK),Inv X Mb σ H s->t σ H Q->
  wpAny (model X.prog X.w) X.A (eval a X.env) (λv s₁=>wpAny (model X.prog X.w) X.A (eval b X.env) (λu s₂=>wpAny (model X.prog X.w) X.A (compareOp op v u) (EP X Mb σ Q) X.xe s₂) X.xe s₁) X.xe s
theorem zd (b:Rm) (h:op≠ .In) (h2:op≠ .NotIn):behindInMarks op b=false:=by
 have e1:(op==CmpOp.In)=false:=by cases op<;>first|rfl|exact absurd rfl h
 have e2:(op==CmpOp.NotIn)=false:=by cases op<;>first|rfl|exact absurd rfl h2
 cases b<;>first|rfl|(show(_&&(op==CmpOp.In||op==CmpOp.NotIn)&&_)=false;rw[e1,e2,Bool.or_self,Cd,D2])
inductive rh (Q:(Bool->Hp->Prop)) (x:V) (H1:Hp):Prop
 |mk c:x= .bl c->Q c H1->rh Q x H1
def tB (t:TE):TT:=λσ H Q=>t σ H λx H1=>rh Q x H1
local macro_rules | `(tactic| rfl') => `(tactic| first|exact zd _ (by decide) (by decide)|rfl)
theorem j0 {t:TE} (h:PC X op a b t) (h1:behindInMarks op b=false:=by rfl'):PT X (.Compare a [op] [b] pos) (tB t):=by
 intro Mb s σ H Q I hw;refine wpAny_isTrue_Compare1 (thn (h Mb s σ H _ I hw) λv s1 h1=>thn h1 λu s2 h2=>thn h2 λc s3 zu0=> ?_) h1;obtain⟨x,H1,I1,r1,q1⟩:=zu0;obtain⟨d,rfl,q⟩:=q1;cases r1;exact Bg ⟨H1,I1,q⟩
theorem fR {e:Expr}{t:TE} (h:PE X e t) (he:∀M8,isTrue e X.env M8=(do let v<-M8;standAt e.pos;holding [v] (truthy v)):=by intro _;rfl):PT X e (tB t):=by
 intro Mb s σ H Q I hw;refine isTrue_plain (thn (h Mb s σ H _ I hw) λv s1 zu1=> ?_) (he _);obtain⟨x,H1,I1,r1,q1⟩:=zu1;obtain⟨d,rfl,q⟩:=q1;cases r1;exact Bg ⟨H1,I1,q⟩
variable {tA tB':TT}{aJ:Rl Rm}
def ze (t u:TT):TT:=λσ H Q=>t σ H λc H1=>if c=true then u σ H1 Q else Q false H1
def tOr (t u:TT):TT:=λσ H Q=>t σ H λc H1=>if c=true then Q true H1 else u σ H1 Q
def zf (t:TT):TT:=λσ H Q=>t σ H λc H1=>Q (!c) H1
theorem j4 (ha:PT X a tA):PW X (.BoolOp .And [a] pos) tA:=by
 intro wh Mb s σ H Q I h;refine isTrue_and (thn (ha Mb s σ H Q I h) λc s1 e=> ?_);cases c with
 |true=>exact isTrue_and_nil e
 |false=>exact e
theorem eS (ha:PT X a tA):PW X (.BoolOp .Or [a] pos) tA:=by
 intro wh Mb s σ H Q I h;refine isTrue_or (thn (ha Mb s σ H Q I h) λc s1 e=> ?_);cases c with
 |false=>exact isTrue_or_nil e
 |true=>exact e
theorem j5 (ha:PT X a tA) (hb:PW X (.BoolOp .And (b::aJ) pos) tB'):PW X (.BoolOp .And (a::b::aJ) pos) (ze tA tB'):=by
 intro wh Mb s σ H Q I h;refine isTrue_and (thn (ha Mb s σ H _ I h) λc s1 zu2=> ?_);obtain⟨H1,I1,q1⟩:=zu2;cases c with
 |true=>exact hb wh Mb s1 σ H1 Q I1 q1
 |false=>exact⟨H1,I1,q1⟩
theorem dB (ha:PT X a tA) (hb:PW X (.BoolOp .Or (b::aJ) pos) tB'):PW X (.BoolOp .Or (a::b::aJ) pos) (tOr tA tB'):=by
 intro wh Mb s σ H Q I h;refine isTrue_or (thn (ha Mb s σ H _ I h) λc s1 zu3=> ?_);obtain⟨H1,I1,q1⟩:=zu3;cases c with
 |true=>exact⟨H1,I1,q1⟩
 |false=>exact hb wh Mb s1 σ H1 Q I1 q1
theorem eT (ha:PT X a tA):PT X (.UnaryOp .Not a pos) (zf tA):=by
 intro Mb s σ H Q I h;exact isTrue_not (thn (ha Mb s σ H _ I h) λc s1 Ms=>by obtain⟨H1,I1,q⟩:=Ms;exact⟨H1,I1,q⟩)
inductive tAndV_ (tb:TE) (σ:St) (Q:VK) (x:V) (H1:Hp):Prop
 |mk c:x= .bl c->(if c=true then tb σ H1 Q else Q (.bl false) H1)->tAndV_ tb σ Q x H1
def zg (ta tb:TE):TE:=λσ H Q=>ta σ H λx H1=>tAndV_ tb σ Q x H1
inductive tOrV_ (tb:TE) (σ:St) (Q:VK) (x:V) (H1:Hp):Prop
 |mk c:x= .bl c->(if c=true then Q (.bl true) H1 else tb σ H1 Q)->tOrV_ tb σ Q x H1
def zh (ta tb:TE):TE:=λσ H Q=>ta σ H λx H1=>tOrV_ tb σ Q x H1
inductive tNotV_ (Q:VK) (x:V) (H1:Hp):Prop
 |mk c:x= .bl c->Q (.bl (!c)) H1->tNotV_ Q x H1
def zi (ta:TE):TE:=λσ H Q=>ta σ H λx H1=>tNotV_ Q x H1
def j6 {op}{t:TE} (h:PE X a t):PE X (.BoolOp op [a] pos) t:=λMb s σ H Q I hw=>BoolOp_one (h Mb s σ H Q I hw)
theorem j7 (ha:PE X a ta) (hb:PE X (.BoolOp .And (b::aJ) pos) tb):PE X (.BoolOp .And (a::b::aJ) pos) (zg ta tb):=by
 intro Mb s σ H Q I h;refine BoolOp_and (thn (ha Mb s σ H _ I h) λv s1 zu4=> ?_);obtain⟨x,H1,I1,r1,q1⟩:=zu4;obtain⟨c,rfl,q1⟩:=q1;cases r1;refine Bg ?_;cases c with
 |true=>exact hb Mb s1 σ H1 Q I1 q1
 |false=>exact⟨.bl false,H1,I1,rfl,q1⟩
theorem zj (ha:PE X a ta) (hb:PE X (.BoolOp .Or (b::aJ) pos) tb):PE X (.BoolOp .Or (a::b::aJ) pos) (zh ta tb):=by
 intro Mb s σ H Q I h;refine BoolOp_or (thn (ha Mb s σ H _ I h) λv s1 zu5=> ?_);obtain⟨x,H1,I1,r1,q1⟩:=zu5;obtain⟨c,rfl,q1⟩:=q1;cases r1;refine Bg ?_;cases c with
 |false=>exact hb Mb s1 σ H1 Q I1 q1
 |true=>exact⟨.bl true,H1,I1,rfl,q1⟩
theorem zm (ha:PE X a ta):PE X (.UnaryOp .Not a pos) (zi ta):=by
 intro Mb s σ H Q I h;refine UnaryOp_ (thn (ha Mb s σ H _ I h) λv s1 zu6=> ?_);obtain⟨x,H1,I1,r1,q1⟩:=zu6;obtain⟨c,rfl,q1⟩:=q1;cases r1;exact not_of (Bg ⟨.bl (!c),H1,I1,rfl,q1⟩)
def tIf (t:TT) (ta tb:TE):TE:=λσ H Q=>t σ H λc H1=>if c=true then ta σ H1 Q else tb σ H1 Q
theorem rj (hc:PT X c tA) (ha:PE X a ta) (hb:PE X b tb):PE X (.IfExp c a b pos) (tIf tA ta tb):=by
 intro Mb s σ H Q I h;refine wpAny_IfExp (thn (hc Mb s σ H _ I h) λd s1 zu7=> ?_);obtain⟨H1,I1,q1⟩:=zu7;cases d with
 |true=>exact ha Mb s1 σ H1 Q I1 q1
 |false=>exact hb Mb s1 σ H1 Q I1 q1
end
def SqL (K:W.Frag) (H:Hp) (a:Rg) (xs:Rl V):Prop:=
 Rd H a (.lst xs)\/
  ∃(o:Obj) (Me:Array OO) (n:Nat),K.lookup a=some o/\o.cls= .type "list"/\o.dict=none/\o.data= .seq Me n/\Me.size<=sizeLine/\ap xs Me.toList
def SqT (K:W.Frag) (H:Hp) (a:Rg) (xs:Rl V):Prop:=
 Rd H a (.tup xs)\/
  ∃(o:Obj) (Me:Array OO) (n:Nat),K.lookup a=some o/\o.cls= .type "tuple"/\o.data= .seq Me n/\Me.size<=sizeLine/\ap xs Me.toList
def zn:OO->Rp V
 | .none=>some .non
 | .bool b=>some (.bl b)
 | .int i _=>some (.int i)
 | .str x _=>some (.str x)
 | .bytes b _=>some (.byt b)
 | .float b _=>some (.flt b)
 | .ref a=>some (.ref a)
 | .type n=>some (.ty n)
 |_=>none
theorem av.abs {x:V}(r:av x u):zn u=some x:=by
 cases x with
 |non=>cases r;rfl
 |bl _=>cases r;rfl
 |int _=>obtain⟨t,rfl⟩:=r;rfl
 |str _=>obtain⟨t,rfl⟩:=r;rfl
 |byt _=>obtain⟨t,rfl⟩:=r;rfl
 |flt _=>obtain⟨t,rfl⟩:=r;rfl
 |ref _=>cases r;rfl
 |ty _=>cases r;rfl
def av.inj {x y:V}{u:OO} (r:av x u) (q:av y u):x=y:=Ak (r.abs.symm.trans q.abs)
theorem ap.inj:∀{xs ys:Rl V}{us:Rl OO},ap xs us->ap ys us->xs=ys:=by
 intro xs ys us h;induction h generalizing ys with
 |nil=>intro k;cases k;rfl
 |cons r t ih=>intro k;cases k with|cons r' t'=>rw[r.inj r',ih t']
section
variable {X:Cx}{Mb:Rl (Rg×Obj)}{σ:St}{H:Hp}{s:Rf}{a:Rg}{xs ys:Rl V}
def SqL.of (h:H a=some (.lst xs)):SqL K H a xs:= .inl (.inl h)
def SqT.of (h:H a=some (.tup xs)):SqT K H a xs:= .inl (.inl h)
theorem Inv.list (I:Inv X Mb σ H s) (h:SqL X.K H a xs):∃Me:Rl OO,ap xs Me/\PlainL s.heap a Me.toArray/\xs.length<=sizeLine:=by
 rcases h with h|⟨o,Me,n,hk,hc,hd,hs,hz,r⟩
 .obtain⟨z,Me,n,r,e⟩:=h.ok I.hok;exact⟨Me,r,⟨_,n,e,rfl,rfl,rfl⟩,z⟩
 .refine⟨Me.toList,r,⟨o,n,I.kIn a o hk,hc,hd,by simpa using hs⟩, ?_⟩;have e:=r.length;simp only[B4] at e;lia
theorem Inv.tuple (I:Inv X Mb σ H s) (h:SqT X.K H a xs):∃Me:Rl OO,ap xs Me/\IsTup s.heap a Me.toArray/\xs.length<=sizeLine:=by
 rcases h with h|⟨o,Me,n,hk,hc,hs,hz,r⟩
 .obtain⟨z,Me,r,p⟩:=h.ok I.hok;exact⟨Me,r,p,z⟩
 .refine⟨Me.toList,r,⟨o,I.kIn a o hk,hc,n,by simpa using hs⟩, ?_⟩;have e:=r.length;simp only[B4] at e;lia
theorem Inv.list_inj (I:Inv X Mb σ H s) (h:SqL X.K H a xs) (h':SqL X.K H a ys):xs=ys:=by
 obtain⟨Me,r,⟨o,n,e,_,_,d⟩,_⟩:=I.list h;obtain⟨its',r',⟨o',n',e',_,_,d'⟩,_⟩:=I.list h';rw[e] at e';cases e';rw[d] at d';injection d' with d1 _;have:Me=its':=by simpa using congrArg Array.toList d1
 subst this;exact r.inj r'
theorem Inv.tuple_inj (I:Inv X Mb σ H s) (h:SqT X.K H a xs) (h':SqT X.K H a ys):xs=ys:=by
 obtain⟨Me,r,⟨o,e,_,n,d⟩,_⟩:=I.tuple h;obtain⟨its',r',⟨o',e',_,n',d'⟩,_⟩:=I.tuple h';rw[e] at e';cases e';rw[d] at d';injection d' with d1 _;have:Me=its':=by simpa using congrArg Array.toList d1
 subst this;exact r.inj r'
end
abbrev Cx.wish (X:Cx) (E:OO->Rf->Prop):Cx:={X with xe:=E}
abbrev Cx.nox (X:Cx):Cx:=X.wish λ_ _=>False
theorem Cx.Ok.wish {X:Cx} (ok:X.Ok) (E:OO->Rf->Prop):(X.wish E).Ok:=
 ⟨ok.mod,ok.kind,ok.glob,ok.blt,ok.above,ok.inj,ok.has,ok.cab,ok.hd,ok.frames,ok.stk,ok.exf,ok.bs,ok.bsz,ok.noex,ok.exfs,ok.funs,ok.frf⟩
def Cx.Ok.unwish (ok:(X.wish E).Ok):X.Ok:=
 ⟨ok.mod,ok.kind,ok.glob,ok.blt,ok.above,ok.inj,ok.has,ok.cab,ok.hd,ok.frames,ok.stk,ok.exf,ok.bs,ok.bsz,ok.noex,ok.exfs,ok.funs,ok.frf⟩
section
variable {X:Cx}{Mb:Rl (Rg×Obj)}{σ:St}{H:Hp}{s:Rf}{E:OO->Rf->Prop}
theorem Inv.wish (I:Inv X Mb σ H s) (E:OO->Rf->Prop):Inv (X.wish E) Mb σ H s:=⟨I.ok.wish E,I.os,I.bare,I.base,I.loc,I.cell,I.free,I.freeC,I.pin,I.hok,I.len⟩
theorem Inv.unwish (I:Inv (X.wish E) Mb σ H s):Inv X Mb σ H s:=⟨I.ok.unwish,I.os,I.bare,I.base,I.loc,I.cell,I.free,I.freeC,I.pin,I.hok,I.len⟩
theorem SP.unwish {D:Ends}{f:Flow}{s':Rf} (h:SP (X.wish E) Mb D f s'):SP X Mb D f s':=by
 cases f with
 |next=>obtain⟨σ',H',I,q⟩:=h;exact⟨σ',H',I.unwish,q⟩
 |brk=>obtain⟨σ',H',I,q⟩:=h;exact⟨σ',H',I.unwish,q⟩
 |cont=>obtain⟨σ',H',I,q⟩:=h;exact⟨σ',H',I.unwish,q⟩
 |ret u=>obtain⟨v,σ',H',I,r,q⟩:=h;exact⟨v,σ',H',I.unwish,r,q⟩
theorem PSs.nox {st:Rl Rq}{t:TS} (h:PSs X.nox st t):PSs X st t:=λMb s σ H D I hw=>
 Bj (h Mb s σ H D (I.wish _) hw) (λ_ _ q=>q.unwish) λ_ _ z=>False.elim z
end
section
variable {X:Cx}{st:Rq}{aJ:Rl Rq}{t u:TS}{e:Rm}{te:TE}{pos:Pos}
def zo:TS:=λD σ H=>D.nx σ H
def zp (t u:TS):TS:=λD σ H=>t (eTo D (u D)) σ H
def aT:PSs X [] zo:=λ_ _ σ H _ I h=>wpAny_execs_nil ⟨σ,H,I,h⟩
theorem aj (h1:PS X st t) (h2:PSs X aJ u):PSs X (st::aJ) (zp t u):=by
 intro Mb s σ H D I h;refine wpAny_execs_cons (thn (h1 Mb s σ H (eTo D (u D)) I h) λf s1 q=> ?_);cases f with
 |next=>
  obtain⟨σ',H',I',q⟩:=q;exact h2 Mb s1 σ' H' D I' q
 |ret v=>exact q
 |brk=>exact q
 |cont=>exact q
theorem ai (h1:PS X st t):PSs X [st] t:=by
 intro Mb s σ H D I h;refine wpAny_execs_cons (thn (h1 Mb s σ H D I h) λf s1 q=> ?_);cases f with
 |next=>exact wpAny_execs_nil q
 |ret v=>exact q
 |brk=>exact q
 |cont=>exact q
theorem Inv.quiet {σ:St}(I:Inv X Mb σ H s):interactive X.env=false:=by simp[interactive,I.ok.kind]
def zq (te:TE):TS:=λD σ H=>te σ H λ_ H1=>D.nx σ H1
theorem aX (he:PE X e te) (hs:swapsWith e none pos.line X.env=pure false:=by rfl):PS X (.Expr e pos) (zq te):=by
 intro Mb s σ H D I h;exact wpAny_Expr_any (thn (he Mb s σ H _ I h) λv s1 Ms=>by obtain⟨x,H1,I1,r1,q1⟩:=Ms;exact⟨σ,H1,I1,q1⟩) I.quiet hs
def zr (te:TE):TS:=λD σ H=>te σ H D.rt
theorem am (he:PE X e te):PS X (.Return (some e) pos) (zr te):=by
 intro Mb s σ H D I h;exact wpAny_Return_some (thn (he Mb s σ H _ I h) λv s1 Ms=>by obtain⟨x,H1,I1,r1,q1⟩:=Ms;exact⟨x,σ,H1,I1,r1,q1⟩)
def zt (c:TT) (t u:TS):TS:=λD σ H=>c σ H λb H1=>if b=true then t D σ H1 else u D σ H1
theorem aU {a b:Rl Rq}(hc:PT X c tc) (ha:PSs X a t) (hb:PSs X b u):PS X (.If c a b pos) (zt tc t u):=by
 intro Mb s σ H D I h;refine wpAny_If (thn (hc Mb s σ H _ I h) λd s1 zu8=> ?_);obtain⟨H1,I1,q1⟩:=zu8;cases d with
 |true=>exact ha Mb s1 σ H1 D I1 q1
 |false=>exact hb Mb s1 σ H1 D I1 q1
def zu:TS:=λ_ _ _=>False
def j8:PS X st zu:=λ_ _ _ _ _ _ h=>h.elim
end
abbrev TG:=V->St->Hp->(St->Hp->Prop)->Prop
variable {g:TG}
abbrev TGs:=Rl V->St->Hp->(St->Hp->Prop)->Prop
def PG (X:Cx) (MS:Rm) (t:TG):Prop:=
 ∀(Mb:Rl (Rg×Obj)) (s:Rf) (σ:St) (H:Hp) (v:V) (u:OO) (Q:St->Hp->Prop),Inv X Mb σ H s->av v u->t v σ H Q->
  wpAny (model X.prog X.w) X.A (assign MS X.env u) (λ_ s'=>∃σ' H',Inv X Mb σ' H' s'/\Q σ' H') X.xe s
def PGs (X:Cx) (ts:Rl Rm) (t:TGs):Prop:=
 ∀(Mb:Rl (Rg×Obj)) (s:Rf) (σ:St) (H:Hp) (vs:Rl V) (us:Rl OO) (Q:St->Hp->Prop),Inv X Mb σ H s->ap vs us->t vs σ H Q->
  wpAny (model X.prog X.w) X.A (assignInOrder ((assignEach ts X.env).map (·.2)) us) (λ_ s'=>∃σ' H',Inv X Mb σ' H' s'/\Q σ' H') X.xe s
abbrev mE:=V->V->V->Hp->(Hp->Prop)->Prop
def rk (X:Cx) (t:mE):Prop:=
 ∀(Mb:Rl (Rg×Obj)) (s:Rf) (σ:St) (H:Hp) (o i v:V) (ov iv u:OO) (Q:Hp->Prop),Inv X Mb σ H s->av o ov->av i iv->av v u->t o i v H Q->
  wpAny (model X.prog X.w) X.A (setItem ov iv u) (λ_ s'=>∃H',Inv X Mb σ H' s'/\Q H') X.xe s
abbrev TIp:=V->V->Hp->VK->Prop
def PIp (X:Cx) (op:Operator) (t:TIp):Prop:=
 ∀(Mb:Rl (Rg×Obj)) (s:Rf) (σ:St) (H:Hp) (x y:V) (v u:OO) (Q:VK),Inv X Mb σ H s->av x v->av y u->t x y H Q->
  wpAny (model X.prog X.w) X.A (inplaceOp op v u) (EP X Mb σ Q) X.xe s
section
variable {X:Cx}{pos:Pos}
def cn (i:Nat):TG:=λv σ H Q=>Q (σ.set i (some v)) H
theorem bV (hN:X.N.Nodup) (hi:X.N[i]? =some x) (hx:Loc X.env.scope x) (hf:X.fn x=true\/X.env.scope.names.lookup x=some .local:=by trivial):PG X (.Name x pos) (cn i):=by
 intro Mb s σ H v u Q I r h;exact wpAny_assign_Name (jZ I hN hi hx r (λs' I'=>⟨_,H,I',h⟩) hf)
def j9:TGs:=λvs σ H Q=>vs=[]/\Q σ H
inductive gCons (t:TG) (u:TGs) (vs:List V) (σ:St) (H:Hp) (Q:(St->Hp->Prop)):Prop
 |mk v r:vs=v::r->(t v σ H λσ' H'=>u r σ' H' Q)->gCons t u vs σ H Q
theorem bS:PGs X [] j9:=by
 intro Mb s σ H vs us Q I r h;obtain⟨e,h⟩:=h;subst e;cases r;exact assignInOrder_nil ⟨σ,H,I,h⟩
theorem aO {t:TG}{u:TGs} (h1:PG X e t) (h2:PGs X es u)
  (hs:(assignEach (e::es) X.env).map (·.2)=assign e X.env::(assignEach es X.env).map (·.2):=by rfl):PGs X (e::es) (gCons t u):=by
 intro Mb s σ H vs us Q I r h;obtain⟨v,vr,e1,h⟩:=h;subst e1;cases r with
 |cons r rr=>
  rw[hs];refine assignInOrder_cons (thn (h1 Mb s σ H _ _ _ I r h) λ_ s1 zu9=> ?_);obtain⟨σ1,H1,I1,q1⟩:=zu9;exact h2 Mb s1 σ1 H1 _ _ Q I1 rr q1
inductive gTup (K:W.Frag) (n:Nat) (t:TGs) (v:V) (σ:St) (H:Hp) (Q:(St->Hp->Prop)):Prop
 |mk a xs:v= .ref a->SqT K H a xs->xs.length=n->t xs σ H Q->gTup K n t v σ H Q
theorem bZ {k:Nat}{t:TGs}(hc:X.calm=true) (h:PGs X es t)
  (hn:(assignEach es X.env).length=n:=by rfl) (NQ:(assignEach es X.env).findIdx? (·.1)=none:=by rfl):PG X (.Tuple es k pos) (gTup X.K n t):=by
 intro Mb s σ H v u Q I r hw;obtain⟨a,xs,e1,hq,hl,hw⟩:=hw;subst e1;cases r;obtain⟨Me,rv,ht,hz⟩:=I.tuple hq;refine assign_Tuple_tuple (I.ok.hd hc) ht (by simp[hn,<-hl,rv.length]) NQ λh' hx=> ?_;have I1:Inv X Mb σ H {s with heap:=h'}:=I.kept (t':=s.toks) λb o e=>hx b o (AQ (AM e)) e;exact h Mb _ σ H xs _ Q I1 (by simpa using rv) hw
def iQ (te:TE) (g:TG):TS:=λD σ H=>te σ H λx H1=>g x σ H1 D.nx
theorem zw (he:PE X e te) (hg:PG X tg g) (hs:swapsWithSole [tg] e pos.line X.env=pure false:=by rfl) (hw:swappedStores [tg] e X.env=pure none:=by rfl)
  (h1:(assignEach [tg] X.env).map (·.2)=[assign tg X.env]:=by rfl):PS X (.Assign [tg] e pos) (iQ te g):=by
 intro Mb s σ H D I h;refine wpAny_Assign_stores (thn (he Mb s σ H _ I h) λv s1 zu10=> ?_) hs hw;obtain⟨x,H1,I1,r1,q1⟩:=zu10;rw[h1];exact thn (hg Mb s1 σ H1 x v _ I1 r1 q1) λ_ s2 q=>q
theorem zx {Mu:Pos} (hN:X.N.Nodup) (hi:X.N[i]? =some x) (hx:Loc X.env.scope x) (he:PE X e te) (hs:swapsWith e (some (.Name x Mu)) pos.line X.env=pure false:=by rfl) (hf:X.fn x=true\/X.env.scope.names.lookup x=some .local:=by trivial):
  PS X (.Assign [.Name x Mu] e pos) (iQ te (cn i)):=by
 intro Mb s σ H D I h;refine wpAny_Assign_Name (thn (he Mb s σ H _ I h) λv s1 zu11=> ?_) hs;obtain⟨y,H1,I1,r1,q1⟩:=zu11;exact jZ I1 hN hi hx r1 (λs2 I2=>⟨_,H1,I2,q1⟩) hf
inductive tAug (i:Nat) (te:TE) (ti:TIp) (D:Ends) (σ:St) (H:Hp):Prop
 |mk x:σ[i]? =some (some x)->(te σ H λy H1=>ti x y H1 λz H2=>D.nx (σ.set i (some z)) H2)->tAug i te ti D σ H
theorem fS {op:Operator}{ti:TIp}{Mu:Pos} (hN:X.N.Nodup) (hi:X.N[i]? =some x) (hx:Loc X.env.scope x) (he:PE X e te) (ho:PIp X op ti) (hf:X.fn x=true\/X.env.scope.names.lookup x=some .local:=by trivial):
  PS X (.AugAssign (.Name x Mu) op e pos) (tAug i te ti):=by
 intro Mb s σ H D I h;obtain⟨v,e1,h⟩:=h;obtain⟨m,hn,hl⟩:=I.loc;have vis:Vis X.env.scope x:=by rcases hx with k|k;exact .inl k;exact .inr (.inl k)
 obtain⟨u,r,l⟩:=hl i x v hi e1 vis;refine wpAny_AugAssign_Name ?_;have go:wpAny (model X.prog X.w) X.A (eval e X.env) (λw s₂=>wpAny (model X.prog X.w) X.A (inplaceOp op u w) (λr s₃=>wpAny (model X.prog X.w) X.A (storeName X.env x r) (λ_=>SP X Mb D .next) X.xe s₃) X.xe s₂) X.xe s:=by
  refine thn (he Mb s σ H _ I h) λw s1 zu12=> ?_;obtain⟨y,H1,I1,r1,q1⟩:=zu12;refine thn (ho Mb s1 σ H1 v y u w _ I1 r r1 q1) λz s2 zu13=> ?_;obtain⟨zv,H2,I2,r2,q2⟩:=zu13;exact jZ I2 hN hi hx r2 (λs3 I3=>⟨_,H2,I3,q2⟩) hf
 rcases l with⟨hk,hm⟩|⟨hk,c,hc,MB⟩
 .exact wpAny_loadName_local I.ok.kind hk hn hm go
 .rcases hk with hk|hk
  .exact wpAny_loadName_cell I.ok.kind hk hc MB go
  .rcases hx with k|k
   .have:X.env.scope.names.lookup x=some .free:=hk;rw[k] at this;cases this
   .have:X.env.scope.names.lookup x=some .free:=hk;rw[k] at this;cases this
def zy (to ti te:TE) (Pn:V->V->Hp->VK->Prop) (tip:TIp) (Po:mE):TS:=λD σ H=>to σ H λo H1=>ti σ H1 λi H2=>Pn o i H2 λx H3=>te σ H3 λy H4=>tip x y H4 λz H5=>Po o i z H5 λH6=>D.nx σ H6
def rm (X:Cx) (t:V->V->Hp->VK->Prop):Prop:=
 ∀(Mb:Rl (Rg×Obj)) (s:Rf) (σ:St) (H:Hp) (o i:V) (ov iv:OO) (Q:VK),Inv X Mb σ H s->av o ov->av i iv->t o i H Q->
  wpAny (model X.prog X.w) X.A (getItem ov iv) (EP X Mb σ Q) X.xe s
theorem j' {o i:Rm}{to ti:TE}{Pn:V->V->Hp->VK->Prop}{tip:TIp}{Po:mE}{op:Operator}{Np:Pos} (ho:PE X o to) (hi:PE X i ti) (hg:rm X Pn) (he:PE X e te) (hp:PIp X op tip) (hs:rk X Po)
  (ha:∀ov iv new,augStore i ov iv new=(do holding [new,ov,iv] (setItem ov iv new);release [new,ov,iv] [];pure .next):=by intros;rfl):PS X (.AugAssign (.Subscript o i Np) op e pos) (zy to ti te Pn tip Po):=by
 intro Mb s σ H D I h;refine wpAny_AugAssign_SubscriptAny (thn (ho Mb s σ H _ I h) λov s1 zu14=> ?_) ha;obtain⟨x1,H1,I1,r1,q1⟩:=zu14;refine thn (hi Mb s1 σ H1 _ I1 q1) λiv s2 zu15=> ?_;obtain⟨x2,H2,I2,r2,q2⟩:=zu15;refine thn (hg Mb s2 σ H2 x1 x2 ov iv _ I2 r1 r2 q2) λNA s3 zu16=> ?_;obtain⟨x3,H3,I3,r3,q3⟩:=zu16;refine thn (he Mb s3 σ H3 _ I3 q3) λv s4 zu17=> ?_;obtain⟨x4,H4,I4,r4,q4⟩:=zu17;refine thn (hp Mb s4 σ H4 x3 x4 NA v _ I4 r3 r4 q4) λnew s5 zu18=> ?_;obtain⟨x5,H5,I5,r5,q5⟩:=zu18;exact thn (hs Mb s5 σ H5 x1 x2 x5 ov iv new _ I5 r1 r2 r5 q5) λ_ s6 Ms=>by obtain⟨H6,I6,q6⟩:=Ms;exact⟨σ,H6,I6,q6⟩
inductive ipI (f:Int->Int->Int) (x:V) (y:V) (H:Hp) (Q:VK):Prop
 |mk i j:x= .int i->y= .int j->Q (.int (f i j)) H->ipI f x y H Q
theorem fT:PIp X .Add (ipI λi j=>i+j):=by
 intro Mb s σ H x y v u Q I r1 r2 h;obtain⟨i,j,e1,e2,q⟩:=h;subst e1;subst e2;obtain⟨t,rfl⟩:=r1;obtain⟨t',rfl⟩:=r2;exact iadd_int ⟨.int _,H,I.tok _,⟨_,rfl⟩,q⟩
theorem zA:PIp X .Sub (ipI λi j=>i-j):=by
 intro Mb s σ H x y v u Q I r1 r2 h;obtain⟨i,j,e1,e2,q⟩:=h;subst e1;subst e2;obtain⟨t,rfl⟩:=r1;obtain⟨t',rfl⟩:=r2;exact isub_int ⟨.int _,H,I.tok _,⟨_,rfl⟩,q⟩
end
section
variable {X:Cx}{pos:Pos}
def rn (c:TT) (tb:TS):TS:=λD σ H=>∃Wq:Nat->St->Hp->Prop,(∃m,Wq m σ H)/\∀m σ H,Wq m σ H->
 c σ H λb H1=>if b=true then∃N:St->Hp->Prop,(∀σ' H',N σ' H'->∃m',m'<m/\Wq m' σ' H')/\tb (eLp D (N)) σ H1 else D.nx σ H1
theorem rp (hp:PassesOwn (model X.prog X.w) X.A X.env X.xe) (hc:PT X c tc) (hb:PSs X body tb):PS X (.While c body [] pos) (rn tc tb):=by
 intro Mb s σ H D I h;obtain⟨Wq,⟨m0,w0⟩,turn⟩:=h;refine wpAny_While (codeAny_whileLoop (λn s'=>∃σ' H',Inv X Mb σ' H' s'/\Wq n σ' H') ?_ m0 ⟨σ,H,I,w0⟩);rintro n s1 ⟨σ1,H1,I1,w1⟩;refine CU hp (thn (hc Mb s1 σ1 H1 _ I1 (turn n σ1 H1 w1)) λb s2 zu19=> ?_);obtain⟨H2,I2,q2⟩:=zu19;cases b with
 |true=>
  obtain⟨N,hN,q2⟩:=q2;rw[A6 rfl];refine CU hp (thn (hb Mb s2 σ1 H2 _ I2 q2) λf s3 q3=> ?_);cases f with
  |next=>
   obtain⟨σ3,H3,I3,n3⟩:=q3;obtain⟨m',hm,w3⟩:=hN σ3 H3 n3;exact⟨m',hm,σ3,H3,I3,w3⟩
  |cont=>
   obtain⟨σ3,H3,I3,n3⟩:=q3;obtain⟨m',hm,w3⟩:=hN σ3 H3 n3;exact⟨m',hm,σ3,H3,I3,w3⟩
  |brk=>exact q3
  |ret v=>exact q3
 |false=>
  rw[A5 AY];exact wpAny_execs_nil ⟨σ1,H2,I2,q2⟩
end
structure It where
 go:Nat->Hp->Prop
 yld:Nat->Hp->V->Hp->Prop
 stop:Nat->Hp->Prop
def cp (X:Cx) (Mb:Rl (Rg×Obj)) (H:Hp) (b:Rg):Prop:=
 H b=none/\b≠X.env.locals/\b∉X.fs/\(b∈X.ex\/X.s₀.heap.objs.size<=b)/\(∀x c,X.env.cells.lookup x=some c->c≠b)/\∀p∈X.pn++Mb,p.1≠b
theorem Inv.fpOk {σ:St}{H':Hp}(I:Inv X Mb σ H s) (hb:s.heap.objs.size<=b) (hn:H' b=none):cp X Mb H' b:=by
 refine⟨hn,BL (Ao I.lt hb),I.nofs hb, .inr (BH I.sz hb),λx c e z=> ?_,λp hp z=> ?_⟩
 .obtain⟨v,q⟩:=I.cell x c e;exact absurd (Ao q.lt (by rw[z];exact hb)) (CG _)
 .exact absurd (Ao (AM (I.pin p hp).1) (by rw[z];exact hb)) (CG _)
structure Turn (P:Rh) (w:Rj) (K:W.Frag) (tg:Rm) (J:It) (fp:Rl Rg) (it:Rg) (tn:Nat->Rn->Prop):Prop where
 mem:it∈fp
 obj:∀i h,tn i h->∀b∈fp,∃o,h.get? b=some o/\∀v,o.data≠ .cell v
 keep:∀i h h',tn i h->(∀b∈fp,∀o,h.get? b=some o->h'.get? b=some o)->tn i h'
 item:∀(X:Cx),X.prog=P->X.w=w->X.K=K->X.calm=true->∀(i:Nat) (Mb:List (Addr×Obj)) (s:Shared) (σ:St) (H:Hp) (E:Value->Shared->Prop),Inv X Mb σ H s->(∀b∈fp,cp X Mb H b)->tn i s.heap->J.go i H->
  wpAny (model P w) X.A (pyNext (.ref it)) (λr s1=>∃u,r=some u/\
   wpAny (model P w) X.A (letOwnedTupleGo tg (.ref it) u) (λ_ s2=>∃x H',Inv X Mb σ H' s2/\av x u/\J.yld i H x H'/\tn (i+1) s2.heap/\∀b∈fp,H' b=none) E s1) E s
 done:∀(X:Cx),X.prog=P->X.w=w->X.K=K->X.calm=true->∀(i:Nat) (Mb:List (Addr×Obj)) (s:Shared) (σ:St) (H:Hp) (E:Value->Shared->Prop),Inv X Mb σ H s->(∀b∈fp,cp X Mb H b)->tn i s.heap->J.stop i H->
  wpAny (model P w) X.A (pyNext (.ref it)) (λr s1=>r=none/\Inv X Mb σ H s1) E s
 self:∀(A:Around) (i:Nat) (s:Shared) (Q:Value->Shared->Prop) (E:Value->Shared->Prop),tn i s.heap->Q (.ref it) s->wpAny (model P w) A (pyIter (.ref it)) Q E s
abbrev TI:=St->Hp->(It->Hp->Prop)->Prop
def PIE (X:Cx) (Mb:Rl (Rg×Obj)) (σ:St) (tg:Rm) (R:It->Hp->Prop) (itv:OO) (s2:Rf):Prop:=
 ∃(it:Rg) (fp:Rl Rg) (tn:Nat->Rn->Prop) (J:It) (H':Hp),itv= .ref it/\Inv X Mb σ H' s2/\Turn X.prog X.w X.K tg J fp it tn/\tn 0 s2.heap/\(∀b∈fp,cp X Mb H' b)/\R J H'
def PI (X:Cx) (tg aC:Rm) (wi:TI):Prop:=
 ∀(Mb:Rl (Rg×Obj)) (s:Rf) (σ:St) (H:Hp) (R:It->Hp->Prop),Inv X Mb σ H s->wi σ H R->
  wpAny (model X.prog X.w) X.A (eval aC X.env) (λv s1=>wpAny (model X.prog X.w) X.A (pyIter v) (PIE X Mb σ tg R) X.xe s1) X.xe s
theorem go_of {E : OO -> Rf -> Prop} {n : String} {vs : Array OO} {Q : Unit -> Rf -> Prop} (ho : s.heap.get? it = some o) (hc : o.cls = .type n) (hd : o.data = .fields vs)
    (hn : ["enumerate", "zip", "dict_itemiterator", "dict_reverseitemiterator", "odict_iterator", "itertools.zip_longest", "itertools.pairwise"].contains n = false) (hQ : Q () s) : wpAny M A (letOwnedTupleGo tg (.ref it) u) Q E s := by
  unfold letOwnedTupleGo;cases tg <;> first
    | exact A2 hQ
    | (cases u <;> first
        | exact A2 hQ
        | (refine A0 (wpAny_load ho ?_)
           rw[hc, hd];show wpAny M A (if (["enumerate", "zip", "dict_itemiterator", "dict_reverseitemiterator", "odict_iterator", "itertools.zip_longest", "itertools.pairwise"].contains n && vs[0]? == some (rawInt _)) = true then _ else _) Q E s;rw[A5 (by intro h; rw[hn, D2] at h; cases h)];exact A2 hQ))
def Itl (K:W.Frag) (a:Rg):It:=
 ⟨λi H=>∃xs x,SqL K H a xs/\xs[i]? =some x,λi H x H'=>H'=H/\∀xs,SqL K H a xs->xs[i]? =some x,λi H=>∃xs,SqL K H a xs/\xs.length<=i⟩
def Itt (K:W.Frag) (a:Rg):It:=
 ⟨λi H=>∃xs x,SqT K H a xs/\xs[i]? =some x,λi H x H'=>H'=H/\∀xs,SqT K H a xs->xs[i]? =some x,λi H=>∃xs,SqT K H a xs/\xs.length<=i⟩
def Itr (lo:Int) (n:Nat):It:=⟨λi _=>i<n,λi H x H'=>H'=H/\x= .int (lo+i),λi _=>n<=i⟩
theorem zC (a it:Rg):Turn P w K tg (Itl K a) [it] it (λi h=>h.IsListIter it a i) where
 mem:=by simp
 obj:=λi h st b hb=>by
  have e:b=it:=by simpa using hb
  subst e;obtain⟨o,e,c,d⟩:=st;exact⟨o,e,λv z=>by rw[d] at z;cases z⟩
 keep:=λi h h' st k=>st.at λo e=>k it (by simp) o e
 item:=by
  intro X hP hw hK hc i Mb s σ H E I hf st hg;subst hP hw hK;obtain⟨xs,x,hq,hx⟩:=hg;obtain⟨Me,rv,p,hz⟩:=I.list hq;obtain⟨u,hu,ru⟩:=rv.get hx;obtain⟨f0,f1,f2,f3,f4,f5⟩:=hf it (by simp);refine wpAny_pyNext_list_item st p.isList (x:=u) (by simpa using hu) λh' MG sb=> ?_;have I1:Inv X Mb σ H {s with heap:=h'}:=I.turned (t':=s.toks) (λb o hb e=>(sb.2 b hb).trans e) f0 f1 f3 f4 f5;obtain⟨o,e,c,d⟩:=id MG;exact⟨u,rfl,go_of (s:={s with heap:=h'}) e c d (by decide) ⟨x,H,I1,ru,⟨rfl,λys hy=>by rw[I.list_inj hy hq];exact hx⟩,MG,λb hb=>(hf b hb).1⟩⟩
 done:=by
  intro X hP hw hK hc i Mb s σ H E I hf st hg;subst hP hw hK;obtain⟨xs,hq,hx⟩:=hg;obtain⟨Me,rv,p,hz⟩:=I.list hq;obtain⟨f0,f1,f2,f3,f4,f5⟩:=hf it (by simp);have hl:=rv.length;exact wpAny_pyNext_list_end (I.ok.hd hc) st p.isList (by simp;lia) λh' eb=>⟨rfl,I.turned (t':=s.toks) (λb o hb e=>eb b o hb e) f0 f1 f3 f4 f5⟩
 self:=λ_ _ _ _ _ st h=>wpAny_pyIter_listiter st h
theorem zD (a it:Rg):Turn P w K tg (Itt K a) [it] it (λi h=>h.IsTupleIter it a i) where
 mem:=by simp
 obj:=λi h st b hb=>by
  have e:b=it:=by simpa using hb
  subst e;obtain⟨o,e,c,d⟩:=st;exact⟨o,e,λv z=>by rw[d] at z;cases z⟩
 keep:=λi h h' st k=>st.at λo e=>k it (by simp) o e
 item:=by
  intro X hP hw hK hc i Mb s σ H E I hf st hg;subst hP hw hK;obtain⟨xs,x,hq,hx⟩:=hg;obtain⟨Me,rv,p,hz⟩:=I.tuple hq;obtain⟨u,hu,ru⟩:=rv.get hx;obtain⟨f0,f1,f2,f3,f4,f5⟩:=hf it (by simp);refine wpAny_pyNext_tuple_item st (show s.heap.IsTuple a Me.toArray from p) (x:=u) (by simpa using hu) λh' MG sb=> ?_;have I1:Inv X Mb σ H {s with heap:=h'}:=I.turned (t':=s.toks) (λb o hb e=>(sb.2 b hb).trans e) f0 f1 f3 f4 f5;obtain⟨o,e,c,d⟩:=id MG;exact⟨u,rfl,go_of (s:={s with heap:=h'}) e c d (by decide) ⟨x,H,I1,ru,⟨rfl,λys hy=>by rw[I.tuple_inj hy hq];exact hx⟩,MG,λb hb=>(hf b hb).1⟩⟩
 done:=by
  intro X hP hw hK hc i Mb s σ H E I hf st hg;subst hP hw hK;obtain⟨xs,hq,hx⟩:=hg;obtain⟨Me,rv,p,hz⟩:=I.tuple hq;obtain⟨f0,f1,f2,f3,f4,f5⟩:=hf it (by simp);have hl:=rv.length;exact wpAny_pyNext_tuple_end (I.ok.hd hc) st (show s.heap.IsTuple a Me.toArray from p) (by simp;lia) λh' eb=>⟨rfl,I.turned (t':=s.toks) (λb o hb e=>eb b o hb e) f0 f1 f3 f4 f5⟩
 self:=λ_ _ _ _ _ st h=>wpAny_pyIter_tupleiter st h
theorem zE (it:Rg) (lo:Int) (n:Nat):Turn P w K tg (Itr lo n) [it] it (λi h=>IsRangeIter h it (lo+(i:Nat)*1) ((n:Int)-(i:Nat)) 1) where
 mem:=by simp
 obj:=λi h st b hb=>by
  have e:b=it:=by simpa using hb
  subst e;exact⟨_,st,λv z=>by
   have z':Data.fields _=Data.cell v:=z;cases z'⟩
 keep:=λi h h' st k=>k it (by simp) _ st
 item:=by
  intro X hP hw hK hc i Mb s σ H E I hf st hg;subst hP hw hK;obtain⟨f0,f1,f2,f3,f4,f5⟩:=hf it (by simp);have Wq:=Walks.range (prog:=X.prog) (w:=X.w) (I.ok.hd hc) it lo 1 n;refine Wq.item i s _ _ hg st λv h' tk hv MG kk=> ?_;obtain⟨t,rfl⟩:=hv;have I1:Inv X Mb σ H {s with heap:=h',toks:=tk}:=I.turned (λb o hb e=>kk b o (by simpa using hb) e) f0 f1 f3 f4 f5;refine⟨_,rfl,go_of (s:={s with heap:=h',toks:=tk}) (n:="range_iterator") MG rfl rfl (by decide) ⟨.int (lo+i),H,I1,⟨t, ?_⟩,⟨rfl,rfl⟩,MG,λb hb=>(hf b hb).1⟩⟩;rw[Int.mul_one]
 done:=by
  intro X hP hw hK hc i Mb s σ H E I hf st hg;subst hP hw hK;obtain⟨f0,f1,f2,f3,f4,f5⟩:=hf it (by simp);exact wpAny_pyNext_range_end (I.ok.hd hc) st (by have:n<=i:=hg;lia) λh' eb=>⟨rfl,I.turned (t':=s.toks) (λb o hb e=>eb b o hb e) f0 f1 f3 f4 f5⟩
 self:=λ_ _ _ _ _ st h=>wpAny_pyIter_rangeiter st h
section
variable {X:Cx}{tg:Rm}
inductive iList_ (K:W.Frag) (R:(It->Hp->Prop)) (x:V) (H1:Hp):Prop
 |mk a:x= .ref a->((∃xs,SqL K H1 a xs))->R (Itl K a) H1->iList_ K R x H1
def zF (K:W.Frag) (tl:TE):TI:=λσ H R=>tl σ H λx H1=>iList_ K R x H1
inductive iTup_ (K:W.Frag) (R:(It->Hp->Prop)) (x:V) (H1:Hp):Prop
 |mk a:x= .ref a->((∃xs,SqT K H1 a xs))->R (Itt K a) H1->iTup_ K R x H1
def zG (K:W.Frag) (tl:TE):TI:=λσ H R=>tl σ H λx H1=>iTup_ K R x H1
theorem bm (hl:PE X l tl):PI X tg l (zF X.K tl):=by
 intro Mb s σ H R I h;refine thn (hl Mb s σ H _ I h) λv s1 zu20=> ?_;obtain⟨x,H1,I1,r1,q1⟩:=zu20;obtain⟨a,e,⟨xs,hq⟩,q⟩:=q1;subst e;cases r1;obtain⟨Me,rv,p,hz⟩:=I1.list hq;refine wpAny_pyIter_list p.isList ?_;refine⟨s1.heap.objs.size,[s1.heap.objs.size],_,_,H1,rfl,I1.kept (t':=s1.toks) λb o e=>A4 _ e,zC a _,⟨_,AH _ rfl,rfl,rfl⟩,λb hb=> ?_,q⟩;have e:b=s1.heap.objs.size:=by simpa using hb
 subst e;exact I1.fpOk (AB _) (I1.hok.fresh (AB _))
theorem rq (hl:PE X l tl):PI X tg l (zG X.K tl):=by
 intro Mb s σ H R I h;refine thn (hl Mb s σ H _ I h) λv s1 zu21=> ?_;obtain⟨x,H1,I1,r1,q1⟩:=zu21;obtain⟨a,e,⟨xs,hq⟩,q⟩:=q1;subst e;cases r1;obtain⟨Me,rv,p,hz⟩:=I1.tuple hq;refine D6 (show s1.heap.IsTuple a Me.toArray from p) ?_;refine⟨s1.heap.objs.size,[s1.heap.objs.size],_,_,H1,rfl,I1.kept (t':=s1.toks) λb o e=>A4 _ e,zD a _,⟨_,AH _ rfl,rfl,rfl⟩,λb hb=> ?_,q⟩;have e:b=s1.heap.objs.size:=by simpa using hb
 subst e;exact I1.fpOk (AB _) (I1.hok.fresh (AB _))
theorem rA {σ:St}{R:It->Hp->Prop}{hi:Int}{t u v:Tok}{tk:Nat} (I:Inv X Mb σ H s) (h1: -(2^62)<=lo) (h2:lo<2^62) (h3: -(2^62)<=hi) (h4:hi<2^62)
  (q:R (Itr lo (hi-lo).toNat) H):wpAny (model X.prog X.w) X.A (pyIter (.ref s.heap.objs.size)) (PIE X Mb σ tg R) E {s with heap:=s.heap.push {cls:= .type "range",data:= .fields #[.int lo t, .int hi u, .int 1 v]},toks:=tk}:=by
 refine wpAny_pyIter_range (IsRange.new ..) (small_one h1 h2 h3 h4) ?_;have I1:Inv X Mb σ H {s with heap:=s.heap.push {cls:= .type "range",data:= .fields #[.int lo t, .int hi u, .int 1 v]},toks:=tk}:=I.kept λb o e=>A4 _ e;refine⟨(s.heap.push {cls:= .type "range",data:= .fields #[.int lo t, .int hi u, .int 1 v]}).objs.size,[(s.heap.push {cls:= .type "range",data:= .fields #[.int lo t, .int hi u, .int 1 v]}).objs.size],_,_,H,rfl,
  I1.kept (t':=tk) λb o e=>A4 _ e,zE _ lo (hi-lo).toNat, ?_,λb hb=> ?_,q⟩
 .have e1:lo+((0:Nat):Int)*1=lo:=by simp
  have e2:(((hi-lo).toNat:Nat):Int)-((0:Nat):Int)=Builtin.Range.rangeSize lo hi 1:=by rw[rangeSize_one];split<;>lia
  show IsRangeIter _ _ (lo+((0:Nat):Int)*1) ((((hi-lo).toNat:Nat):Int)-((0:Nat):Int)) 1;rw[e1,e2];exact AH _ rfl
 .have e:b=(s.heap.push {cls:= .type "range",data:= .fields #[.int lo t, .int hi u, .int 1 v]}).objs.size:=by simpa using hb
  subst e;exact I1.fpOk (AB _) (I1.hok.fresh (AB _))
inductive iRng1_ (R:(It->Hp->Prop)) (vs:List V) (H1:Hp):Prop
 |mk (j:Int):vs=[.int j]->-(2^62)<=j->j<2^62->R (Itr 0 j.toNat) H1->iRng1_ R vs H1
def zH (ta:TA):TI:=λσ H R=>ta σ H λvs H1=>iRng1_ R vs H1
inductive iRng2_ (R:(It->Hp->Prop)) (vs:List V) (H1:Hp):Prop
 |mk (i j:Int):vs=[.int i, .int j]->(-(2^62)<=i/\i<2^62/\-(2^62)<=j/\j<2^62)->R (Itr i (j-i).toNat) H1->iRng2_ R vs H1
def zI (ta:TA):TI:=λσ H R=>ta σ H λvs H1=>iRng2_ R vs H1
theorem eU {a:Rm}{p pos:Pos} (hg:Gl X "range") (hm:X.mg "range"=none) (ha:PA X [a] ta) (hs:starEach [a] X.env=[(false,eval a X.env)]:=by rfl):PI X tg (.Call (.Name "range" p) [a] [] pos) (zH ta):=by
 intro Mb s σ H R I h;refine Call_ (cM I hg hm boot_range (B3 (thn (ha pos Mb s σ H _ I h) λus s1 zu22=> ?_) hs rfl));obtain⟨vs,H1,I1,r1,q1⟩:=zu22;obtain⟨j,e,q1,q2,q⟩:=q1;subst e;cases r1 with
 |cons r rr=>
  cases rr;obtain⟨t,rfl⟩:=r;exact call_range_1 (rA I1 (by lia) (by lia) q1 q2 (by simpa using q))
theorem fU {a b:Rm}{p pos:Pos} (hg:Gl X "range") (hm:X.mg "range"=none) (ha:PA X [a,b] ta) (hs:starEach [a,b] X.env=[(false,eval a X.env),(false,eval b X.env)]:=by rfl) (hs2:starEach [b] X.env=[(false,eval b X.env)]:=by rfl):
  PI X tg (.Call (.Name "range" p) [a,b] [] pos) (zI ta):=by
 intro Mb s σ H R I h;refine Call_ (cM I hg hm boot_range (B3 (thn (ha pos Mb s σ H _ I h) λus s1 ⟨vs,H1,I1,r1,q1⟩=> ?_) (by rw[hs,hs2]) (by rw[hs2];rfl)));obtain⟨i,j,e,⟨q1,q2,q3,q4⟩,q⟩:=q1;subst e;cases r1 with
 |cons r rr=>
  cases rr with
  |cons r' rr=>
   cases rr;obtain⟨t,rfl⟩:=r;obtain⟨t',rfl⟩:=r';exact call_range_2 (rA I1 q1 q2 q3 q4 q)
def zJ (wi:TI) (g:TG) (tb:TS):TS:=λD σ H=>wi σ H λJ H1=>∃Wq:Nat->Nat->St->Hp->Prop,(∃m,Wq 0 m σ H1)/\∀i m σ H,Wq i m σ H->
 (J.stop i H/\D.nx σ H)\/(J.go i H/\∃N:St->Hp->Prop,(∀σ' H',N σ' H'->∃m',m'<m/\Wq (i+1) m' σ' H')/\∀x H',J.yld i H x H'->g x σ H' λσ2 H2=>tb (eLp D (N)) σ2 H2)
def iR (fp:Rl Rg) (h:Rn):Rl (Rg×Obj):=fp.filterMap λb=>(h.get? b).map λo=>(b,o)
theorem kc (hb:b∈fp) (e:h.get? b=some o):(b,o)∈iR fp h:=List.mem_filterMap.mpr ⟨b,hb,by rw[e];rfl⟩
theorem zK {p:Rg×Obj} (hp:p∈iR fp h):p.1∈fp/\h.get? p.1=some p.2:=by
 obtain⟨b,hb,e⟩:=List.mem_filterMap.mp hp;cases q:h.get? b with
 |none=>rw[q] at e;cases e
 |some o=>
  rw[q] at e;have e':(b,o)=p:=Ak e;subst e';exact⟨hb,q⟩
theorem Inv.pinned {σ:St}(I:Inv X Mb σ H s) (hf:∀b∈fp,cp X Mb H b) (ho:∀b∈fp,∃o,s.heap.get? b=some o/\∀v,o.data≠ .cell v):Inv X (Mb++iR fp s.heap) σ H s:=
 I.pins_of λp hp=>(B9.mp hp).elim (λz=>I.pin p (Al _ z)) λz=>by
  obtain⟨hb,e⟩:=zK z;obtain⟨f0,f1,f2,_⟩:=hf p.1 hb;obtain⟨o,e',d⟩:=ho p.1 hb;rw[e] at e';cases e';exact⟨e,f0,f1,f2,d⟩
def Inv.unpinned {pl:Rl (Rg×Obj)}{σ:St}(I:Inv X (Mb++pl) σ H s):Inv X Mb σ H s:=I.pins_of λp hp=>I.pin p (Al _ (Bt _ hp))
theorem aN {aC:Rm}{wi:TI}{pos:Pos} (hp:PassesOwn (model X.prog X.w) X.A X.env X.xe) (hc:X.calm=true) (hi:PI X tg aC wi) (hg:PG X tg g) (hb:PSs X body tb)
  (hs:∀x,foldedSetIterable aC X.env x=pure x:=by intro _;rfl):PS X (.For tg aC body [] pos) (zJ wi g tb):=by
 intro Mb s σ H D I h;refine wpAny_For (thn (hi Mb s σ H _ I h) λv s1 h1=>thn h1 λitv s2 h2=> ?_) hs;obtain⟨it,fp,tn,J,H2,e,I2,T,Ot,f2,Wq,⟨m0,w0⟩,turn⟩:=h2;subst e;have N6:∀{H':Hp},(∀b∈fp,H' b=none)->∀b∈fp,cp X Mb H' b:=λhn b hb=>⟨hn b hb,(f2 b hb).2⟩;refine codeAny_forLoop_any (λn s'=>∃i σ' H',Inv X Mb σ' H' s'/\tn i s'.heap/\(∀b∈fp,H' b=none)/\Wq i n σ' H') ?_ m0 ⟨0,σ,H2,I2,Ot,λb hb=>(f2 b hb).1,w0⟩;rintro n s3 ⟨i,σ3,H3,I3,st3,fr3,w3⟩;rcases turn i n σ3 H3 w3 with⟨stop,qn⟩|⟨go,N,hN,step⟩
 .refine CU hp (thn (T.done X rfl rfl rfl hc i Mb s3 σ3 H3 X.xe I3 (N6 fr3) st3 stop) λr s4 zu23=> ?_);obtain⟨hr,I4⟩:=zu23;subst hr;exact wpAny_execs_nil ⟨σ3,H3,I4,qn⟩
 .refine CU hp (thn (T.item X rfl rfl rfl hc i Mb s3 σ3 H3 X.xe I3 (N6 fr3) st3 go) λr s4 zu24=> ?_);obtain⟨u,hr,h4⟩:=zu24;subst hr;refine CU hp (thn h4 λ_ s5 zu25=> ?_);obtain⟨x,H5,I5,r5,y5,st5,fr5⟩:=zu25;have I5':=I5.pinned (N6 fr5) (T.obj _ _ st5);refine CU hp (thn (hg _ s5 σ3 H5 x u _ I5' r5 (step x H5 y5)) λ_ s6 zu26=> ?_);obtain⟨σ6,H6,I6,q6⟩:=zu26;refine CU hp (thn (hb _ s6 σ6 H6 _ I6 q6) λf s7 q7=> ?_);have again:∀{σ7:St}{H7:Hp},Inv X (Mb++iR fp s5.heap) σ7 H7 s7->N σ7 H7->∃m,m<n/\∃i σ' H',Inv X Mb σ' H' s7/\tn i s7.heap/\(∀b∈fp,H' b=none)/\Wq i m σ' H':=fun{σ7 H7} I7 n7=>by
   obtain⟨m',hm,w7⟩:=hN σ7 H7 n7;refine⟨m',hm,i+1,σ7,H7,I7.unpinned,T.keep _ _ _ st5 λb hb o e=>(I7.pin (b,o) (Al _ (Al _ (kc hb e)))).1,λb hb=> ?_,w7⟩;obtain⟨o,e,d⟩:=T.obj _ _ st5 b hb;exact(I7.pin (b,o) (Al _ (Al _ (kc hb e)))).2.1
  cases f with
  |next=>obtain⟨σ7,H7,I7,n7⟩:=q7;exact again I7 n7
  |cont=>obtain⟨σ7,H7,I7,n7⟩:=q7;exact again I7 n7
  |brk=>obtain⟨σ7,H7,I7,q7⟩:=q7;exact⟨σ7,H7,I7.unpinned,q7⟩
  |ret v=>obtain⟨x7,σ7,H7,I7,r7,q7⟩:=q7;exact⟨x7,σ7,H7,I7.unpinned,r7,q7⟩
end
theorem bO {D:Ends}{σ:St}(Pv:Nat->St->Hp->Prop) (h0:Pv 0 σ H) (hl:∀i σ H,i<=xs.length->Pv i σ H->SqL K H a xs)
  (hs:∀i x σ H,xs[i]? =some x->Pv i σ H->g x σ H λσ2 H2=>tb (eLp D (Pv (i+1))) σ2 H2) (hd:∀σ H,Pv xs.length σ H->D.nx σ H):
  ∃Wq:Nat->Nat->St->Hp->Prop,(∃m,Wq 0 m σ H)/\∀i m σ H,Wq i m σ H->
   ((Itl K a).stop i H/\D.nx σ H)\/((Itl K a).go i H/\∃N:St->Hp->Prop,(∀σ' H',N σ' H'->∃m',m'<m/\Wq (i+1) m' σ' H')/\∀x H',(Itl K a).yld i H x H'->g x σ H' λσ2 H2=>tb (eLp D (N)) σ2 H2):=by
 refine⟨λi m σ H=>m=xs.length-i/\i<=xs.length/\Pv i σ H,⟨xs.length,by simp,AO _,h0⟩, ?_⟩;rintro i m σ H ⟨rfl,hi,p⟩;have q:=hl i σ H hi p;by_cases Mh:i<xs.length
 .refine .inr ⟨⟨xs,xs[i],q,by simp[Mh]⟩,Pv (i+1),λσ' H' p'=>⟨xs.length-(i+1),by lia,rfl,Mh,p'⟩,λx H' y=> ?_⟩;obtain⟨e,y⟩:=y;subst e;exact hs i x σ _ (y xs q) p
 .have e:i=xs.length:=by lia
  subst e;exact .inl ⟨⟨xs,q,AB _⟩,hd σ H p⟩
theorem rB {D:Ends}{σ:St}(Pv:Nat->St->Hp->Prop) (h0:Pv 0 σ H) (hl:∀i σ H,i<=xs.length->Pv i σ H->SqT K H a xs)
  (hs:∀i x σ H,xs[i]? =some x->Pv i σ H->g x σ H λσ2 H2=>tb (eLp D (Pv (i+1))) σ2 H2) (hd:∀σ H,Pv xs.length σ H->D.nx σ H):
  ∃Wq:Nat->Nat->St->Hp->Prop,(∃m,Wq 0 m σ H)/\∀i m σ H,Wq i m σ H->
   ((Itt K a).stop i H/\D.nx σ H)\/((Itt K a).go i H/\∃N:St->Hp->Prop,(∀σ' H',N σ' H'->∃m',m'<m/\Wq (i+1) m' σ' H')/\∀x H',(Itt K a).yld i H x H'->g x σ H' λσ2 H2=>tb (eLp D (N)) σ2 H2):=by
 refine⟨λi m σ H=>m=xs.length-i/\i<=xs.length/\Pv i σ H,⟨xs.length,by simp,AO _,h0⟩, ?_⟩;rintro i m σ H ⟨rfl,hi,p⟩;have q:=hl i σ H hi p;by_cases Mh:i<xs.length
 .refine .inr ⟨⟨xs,xs[i],q,by simp[Mh]⟩,Pv (i+1),λσ' H' p'=>⟨xs.length-(i+1),by lia,rfl,Mh,p'⟩,λx H' y=> ?_⟩;obtain⟨e,y⟩:=y;subst e;exact hs i x σ _ (y xs q) p
 .have e:i=xs.length:=by lia
  subst e;exact .inl ⟨⟨xs,q,AB _⟩,hd σ H p⟩
theorem dC {D:Ends}{σ:St}(Pv:Nat->St->Hp->Prop) (h0:Pv 0 σ H)
  (hs:∀i σ H,i<n->Pv i σ H->g (.int (lo+i)) σ H λσ2 H2=>tb (eLp D (Pv (i+1))) σ2 H2) (hd:∀σ H,Pv n σ H->D.nx σ H):
  ∃Wq:Nat->Nat->St->Hp->Prop,(∃m,Wq 0 m σ H)/\∀i m σ H,Wq i m σ H->
   ((Itr lo n).stop i H/\D.nx σ H)\/((Itr lo n).go i H/\∃N:St->Hp->Prop,(∀σ' H',N σ' H'->∃m',m'<m/\Wq (i+1) m' σ' H')/\∀x H',(Itr lo n).yld i H x H'->g x σ H' λσ2 H2=>tb (eLp D (N)) σ2 H2):=by
 refine⟨λi m σ H=>m=n-i/\i<=n/\Pv i σ H,⟨n,by simp,AO _,h0⟩, ?_⟩;rintro i m σ H ⟨rfl,hi,p⟩;by_cases Mh:i<n
 .refine .inr ⟨Mh,Pv (i+1),λσ' H' p'=>⟨n-(i+1),by lia,rfl,Mh,p'⟩,λx H' y=> ?_⟩;obtain⟨e,y⟩:=y;subst e y;exact hs i σ _ Mh p
 .have e:i=n:=by lia
  subst e;exact .inl ⟨AB _,hd σ H p⟩
theorem rC {c:TT}{D:Ends}{σ:St}(Pv:St->Hp->Prop) (μ:St->Hp->Nat) (h0:Pv σ H)
  (hs:∀σ H,Pv σ H->c σ H λb H1=>if b=true then tb {D with nx:=λσ' H'=>Pv σ' H'/\μ σ' H'<μ σ H,ct:=λσ' H'=>Pv σ' H'/\μ σ' H'<μ σ H,bk:=D.nx} σ H1 else D.nx σ H1)
  (mono:∀σ H Q Q',(∀b H1,Q b H1->Q' b H1)->c σ H Q->c σ H Q'):rn c tb D σ H:=by
 refine⟨λm σ H=>m=μ σ H/\Pv σ H,⟨_,rfl,h0⟩, ?_⟩;rintro m σ H ⟨rfl,p⟩;refine mono σ H _ _ (λb H1 q=> ?_) (hs σ H p);cases b with
 |true=>exact⟨_,(λσ' H' Ms=>by obtain⟨p',l⟩:=Ms;exact⟨_,l,rfl,p'⟩),q⟩
 |false=>exact q
abbrev R2:=V->V->Hp->VK->Prop
variable {r:R2}
def OpR (X:Cx) (f:OO->OO->Sem OO) (r:R2):Prop:=
 ∀(Mb:Rl (Rg×Obj)) (s:Rf) (σ:St) (H:Hp) (x y:V) (v u:OO) (Q:VK),Inv X Mb σ H s->av x v->av y u->r x y H Q->
  wpAny (model X.prog X.w) X.A (f v u) (EP X Mb σ Q) X.xe s
def UnR (X:Cx) (f:OO->Sem OO) (r:V->Hp->VK->Prop):Prop:=
 ∀(Mb:Rl (Rg×Obj)) (s:Rf) (σ:St) (H:Hp) (x:V) (v:OO) (Q:VK),Inv X Mb σ H s->av x v->r x H Q->
  wpAny (model X.prog X.w) X.A (f v) (EP X Mb σ Q) X.xe s
def bW (X:Cx) (f:OO) (r:Rl V->Hp->VK->Prop):Prop:=
 ∀(Mb:Rl (Rg×Obj)) (s:Rf) (σ:St) (H:Hp) (xs:Rl V) (us:Rl OO) (Q:VK),Inv X Mb σ H s->ap xs us->r xs H Q->
  wpAny (model X.prog X.w) X.A (call f us) (EP X Mb σ Q) X.xe s
def zL (X:Cx) (r:V->Hp->(Bool->Hp->Prop)->Prop):Prop:=
 ∀(Mb:Rl (Rg×Obj)) (s:Rf) (σ:St) (H:Hp) (x:V) (v:OO) (Q:Bool->Hp->Prop),Inv X Mb σ H s->av x v->r x H Q->
  wpAny (model X.prog X.w) X.A (truthy v) (TP X Mb σ Q) X.xe s
def tOp (r:R2) (ta tb:TE):TE:=λσ H Q=>ta σ H λx H1=>tb σ H1 λy H2=>r x y H2 Q
def tUn (r:V->Hp->VK->Prop) (ta:TE):TE:=λσ H Q=>ta σ H λx H1=>r x H1 Q
inductive rI (C:Int->Int->Prop) (g:Int->Int->V) (x:V) (y:V) (H:Hp) (Q:VK):Prop
 |mk i j:x= .int i->y= .int j->C i j->Q (g i j) H->rI C g x y H Q
inductive rI0 (g:Int->Int->V) (x:V) (y:V) (H:Hp) (Q:VK):Prop
 |mk i j:x= .int i->y= .int j->Q (g i j) H->rI0 g x y H Q
inductive rU (g:Int->V) (x:V) (H:Hp) (Q:VK):Prop
 |mk i:x= .int i->Q (g i) H->rU g x H Q
section
variable {X:Cx}{a b c:Rm}{ta tb tc:TE}{pos:Pos}
theorem mF (ha:PE X a ta) (hb:PE X b tb) {σ:St}{R:V->V->Hp->Prop} (I:Inv X Mb σ H s)
  (h:ta σ H λx H1=>tb σ H1 λy H2=>R x y H2) {f:OO->OO->Sem OO}
  (hf:∀v u s2 x y H2,Inv X Mb σ H2 s2->av x v->av y u->R x y H2->wpAny (model X.prog X.w) X.A (f v u) Q X.xe s2):
  wpAny (model X.prog X.w) X.A (eval a X.env) (λv s₁=>wpAny (model X.prog X.w) X.A (eval b X.env) (λu s₂=>wpAny (model X.prog X.w) X.A (f v u) Q X.xe s₂) X.xe s₁) X.xe s:=by
 refine thn (ha Mb s σ H _ I h) λv s1 zu27=> ?_;obtain⟨x,H1,I1,r1,q1⟩:=zu27;refine thn (hb Mb s1 σ H1 _ I1 q1) λu s2 zu28=> ?_;obtain⟨y,H2,I2,r2,q2⟩:=zu28;exact hf v u s2 x y H2 I2 r1 r2 q2
theorem ah {op:Operator}(ho:OpR X (binaryOp op) r) (ha:PE X a ta) (hb:PE X b tb):PE X (.BinOp a op b pos) (tOp r ta tb):=by
 intro Mb s σ H Q I h;exact wpAny_BinOp (mF ha hb I h λv u s2 x y H2 I2 rx ry q=>ho Mb s2 σ H2 x y v u Q I2 rx ry q)
theorem fV {op:UnaryOp}{r:V->Hp->VK->Prop} (ho:UnR X (unaryOp op) r) (ha:PE X a ta):PE X (.UnaryOp op a pos) (tUn r ta):=by
 intro Mb s σ H Q I h;exact UnaryOp_ (thn (ha Mb s σ H _ I h) λv s1 Ms=>by obtain⟨x,H1,I1,r1,q1⟩:=Ms;exact ho Mb s1 σ H1 x v Q I1 r1 q1)
theorem opI {f:OO->OO->Sem OO}{C:Int->Int->Prop}{g:Int->Int->Int}
  (rule:∀(i j:Int) (t u:Tok) (s:Rf) (Q:OO->Rf->Prop) (E:OO->Rf->Prop),C i j->Q (.int (g i j) s.toks) {s with toks:=s.toks+1}->wpAny (model X.prog X.w) X.A (f (.int i t) (.int j u)) Q E s):
  OpR X f (rI C λi j=> .int (g i j)):=by
 intro Mb s σ H x y v u Q I rx ry h;obtain⟨i,j,rfl,rfl,hc,q⟩:=h;obtain⟨t,rfl⟩:=rx;obtain⟨t',rfl⟩:=ry;exact rule i j t t' s _ _ hc ⟨.int (g i j),H,I.tok _,⟨_,rfl⟩,q⟩
theorem rD {f:OO->OO->Sem OO}{g:Int->Int->Int}
  (rule:∀(i j:Int) (t u:Tok) (s:Rf) (Q:OO->Rf->Prop) (E:OO->Rf->Prop),Q (.int (g i j) s.toks) {s with toks:=s.toks+1}->wpAny (model X.prog X.w) X.A (f (.int i t) (.int j u)) Q E s):
  OpR X f (rI0 λi j=> .int (g i j)):=by
 intro Mb s σ H x y v u Q I rx ry h;obtain⟨i,j,rfl,rfl,q⟩:=h;obtain⟨t,rfl⟩:=rx;obtain⟨t',rfl⟩:=ry;exact rule i j t t' s _ _ ⟨.int (g i j),H,I.tok _,⟨_,rfl⟩,q⟩
theorem ke {f:OO->OO->Sem OO}{g:Int->Int->Bool}
  (rule:∀(i j:Int) (t u:Tok) (s:Rf) (Q:OO->Rf->Prop) (E:OO->Rf->Prop),Q (.bool (g i j)) s->wpAny (model X.prog X.w) X.A (f (.int i t) (.int j u)) Q E s):
  OpR X f (rI0 λi j=> .bl (g i j)):=by
 intro Mb s σ H x y v u Q I rx ry h;obtain⟨i,j,rfl,rfl,q⟩:=h;obtain⟨t,rfl⟩:=rx;obtain⟨t',rfl⟩:=ry;exact rule i j t t' s _ _ ⟨.bl (g i j),H,I,rfl,q⟩
def zM (i j:Int):Prop:=0<j/\j<1073741824
def zN (i j:Int):Prop:=0<=j/\j<=1000000/\i.natAbs<2^64
def kf (i j:Int):Prop:=(-(2^64)<i/\i<2^64)\/(-(2^64)<j/\j<2^64)
theorem kf.ok {i j:Int} (h:kf i j):IntMulOk i j:=by
 rcases h with⟨h1,h2⟩|⟨h1,h2⟩
 .exact .of_left (intBits_le_64 h1 h2)
 .exact .of_right (intBits_le_64 h1 h2)
def aK:OpR X (binaryOp .Add) (rI0 λi j=> .int (i+j)):=rD λ_ _ _ _ _ _ _ q=>add_int q
def aL:OpR X (binaryOp .Sub) (rI0 λi j=> .int (i-j)):=rD λ_ _ _ _ _ _ _ q=>sub_int q
def bq:OpR X (binaryOp .Mult) (rI kf λi j=> .int (i*j)):=opI λ_ _ _ _ _ _ _ hc q=>mul_int q hc.ok
theorem zO:OpR X (binaryOp .FloorDiv) (rI zM λi j=> .int (i/j)):=opI λi j _ _ _ _ _ hc q=>by
 have h1:(0:Int)<j:=hc.1;have h2:j<1073741824:=hc.2;exact floordiv_int (by lia) (by rw[Int.fdiv_eq_ediv_of_nonneg i (by lia)];exact q) (.inl (PyProof.noPylong_small (by lia)))
theorem gO:OpR X (binaryOp .Mod) (rI (λ_ j=>0<j) λi j=> .int (i%j)):=opI λi j _ _ _ _ _ hc q=>by
 have h1:(0:Int)<j:=hc;exact mod_int' (by lia) (by rw[Int.fmod_eq_emod_of_nonneg i (by lia)];exact q)
def rE:OpR X (binaryOp .Pow) (rI zN λi j=> .int (i^j.toNat)):=opI λ_ _ _ _ _ _ _ hc q=>pow_int_small hc.1 hc.2.1 hc.2.2 q
theorem unI {f:OO->Sem OO}{g:Int->Int}
  (rule:∀(i:Int) (t:Tok) (s:Rf) (Q:OO->Rf->Prop) (E:OO->Rf->Prop),Q (.int (g i) s.toks) {s with toks:=s.toks+1}->wpAny (model X.prog X.w) X.A (f (.int i t)) Q E s):
  UnR X f (rU λi=> .int (g i)):=by
 intro Mb s σ H x v Q I rx h;obtain⟨i,rfl,q⟩:=h;obtain⟨t,rfl⟩:=rx;exact rule i t s _ _ ⟨.int (g i),H,I.tok _,⟨_,rfl⟩,q⟩
def fW:UnR X (unaryOp .USub) (rU λi=> .int (-i)):=unI λ_ _ _ _ _ q=>neg_int q
end
def rF:V->V->Bool
 | .non, .non=>true| .non, .int _=>true| .int _, .non=>true| .non, .bl _=>true| .bl _, .non=>true| .non, .str _=>true| .str _, .non=>true
 | .int _, .int _=>true| .bl _, .bl _=>true| .str _, .str _=>true| .byt _, .byt _=>true
 | .int _, .str _=>true| .str _, .int _=>true| .bl _, .str _=>true| .str _, .bl _=>true
 |_,_=>false
def rEq:R2:=λx y H Q=>rF x y=true/\Q (.bl (decide (x=y))) H
def rNe:R2:=λx y H Q=>rF x y=true/\Q (.bl (!decide (x=y))) H
theorem rG {i j:Int}:decide (V.int i=V.int j)=(i==j):=by
 rw[DP];simp
theorem rH {i j:Bool}:decide (V.bl i=V.bl j)=(i==j):=by
 rw[DP];simp
theorem rJ {i j:Str}:decide (V.str i=V.str j)=(i==j):=by
 rw[DP];simp
theorem rK {i j:Array UInt8}:decide (V.byt i=V.byt j)=(i.toList==j.toList):=by
 rw[DP];cases i;cases j;simp
section
variable {X:Cx}{a b c:Rm}{ta tb tc:TE}{pos:Pos}
theorem bf {σ:St}{Q:VK}{k k':Bool} (I:Inv X Mb σ H s) (q:Q (.bl k) H) (e:k=k'):EP X Mb σ Q (.bool k') s:=by
 subst e;exact⟨.bl k,H,I,rfl,q⟩
theorem cN:OpR X (compareOp .Eq) rEq:=by
 intro Mb s σ H x y v u Q I rx ry h;obtain⟨hs,q⟩:=h;cases x with
 |non=>
  cases rx;cases y with
  |non=>cases ry;exact PySem.EqNone.eq_none_none (bf I q (by simp))
  |bl j=>cases ry;exact PySem.EqNone.eq_none_bool (bf I q (by simp))
  |int j=>obtain⟨t',rfl⟩:=ry;exact PySem.EqNone.eq_none_int (bf I q (by simp))
  |str j=>obtain⟨t',rfl⟩:=ry;exact PySem.EqNone.eq_none_str (bf I q (by simp))
  |_=>exact absurd (show false=true from hs) AY
 |bl i=>
  cases rx;cases y with
  |non=>cases ry;exact PySem.EqNone.eq_bool_none (bf I q (by simp))
  |bl j=>cases ry;exact eq_bool (bf I q rH)
  |str j=>obtain⟨t',rfl⟩:=ry;exact PySem.EqMixed.eq_bool_str (bf I q (by simp))
  |_=>exact absurd (show false=true from hs) AY
 |int i=>
  obtain⟨t,rfl⟩:=rx;cases y with
  |non=>cases ry;exact PySem.EqNone.eq_int_none (bf I q (by simp))
  |int j=>obtain⟨t',rfl⟩:=ry;exact eq_int (bf I q rG)
  |str j=>obtain⟨t',rfl⟩:=ry;exact PySem.EqMixed.eq_int_str (bf I q (by simp))
  |_=>exact absurd (show false=true from hs) AY
 |str i=>
  obtain⟨t,rfl⟩:=rx;cases y with
  |non=>cases ry;exact PySem.EqNone.eq_str_none (bf I q (by simp))
  |bl j=>cases ry;exact PySem.EqMixed.eq_str_bool (bf I q (by simp))
  |int j=>obtain⟨t',rfl⟩:=ry;exact PySem.EqMixed.eq_str_int (bf I q (by simp))
  |str j=>obtain⟨t',rfl⟩:=ry;exact eq_str (bf I q rJ)
  |_=>exact absurd (show false=true from hs) AY
 |byt i=>
  obtain⟨t,rfl⟩:=rx;cases y with
  |byt j=>obtain⟨t',rfl⟩:=ry;exact W.eq_bytes (bf I q rK)
  |_=>exact absurd (show false=true from hs) AY
 |_=>cases y<;>exact absurd (show false=true from hs) AY
theorem iS:OpR X (compareOp .NotEq) rNe:=by
 intro Mb s σ H x y v u Q I rx ry h;obtain⟨hs,q⟩:=h;cases x with
 |non=>
  cases rx;cases y with
  |non=>cases ry;exact PySem.EqNone.ne_none_none (bf I q (by simp))
  |bl j=>cases ry;exact PySem.EqNone.ne_none_bool (bf I q (by simp))
  |int j=>obtain⟨t',rfl⟩:=ry;exact PySem.EqNone.ne_none_int (bf I q (by simp))
  |str j=>obtain⟨t',rfl⟩:=ry;exact PySem.EqNone.ne_none_str (bf I q (by simp))
  |_=>exact absurd (show false=true from hs) AY
 |bl i=>
  cases rx;cases y with
  |non=>cases ry;exact PySem.EqNone.ne_bool_none (bf I q (by simp))
  |bl j=>cases ry;exact ne_bool (bf I q (B' not rH))
  |str j=>obtain⟨t',rfl⟩:=ry;exact PySem.EqMixed.ne_bool_str (bf I q (by simp))
  |_=>exact absurd (show false=true from hs) AY
 |int i=>
  obtain⟨t,rfl⟩:=rx;cases y with
  |non=>cases ry;exact PySem.EqNone.ne_int_none (bf I q (by simp))
  |int j=>obtain⟨t',rfl⟩:=ry;exact ne_int (bf I q (B' not rG))
  |str j=>obtain⟨t',rfl⟩:=ry;exact PySem.EqMixed.ne_int_str (bf I q (by simp))
  |_=>exact absurd (show false=true from hs) AY
 |str i=>
  obtain⟨t,rfl⟩:=rx;cases y with
  |non=>cases ry;exact PySem.EqNone.ne_str_none (bf I q (by simp))
  |bl j=>cases ry;exact PySem.EqMixed.ne_str_bool (bf I q (by simp))
  |int j=>obtain⟨t',rfl⟩:=ry;exact PySem.EqMixed.ne_str_int (bf I q (by simp))
  |str j=>obtain⟨t',rfl⟩:=ry;exact ne_str (bf I q (B' not rJ))
  |_=>exact absurd (show false=true from hs) AY
 |byt i=>
  obtain⟨t,rfl⟩:=rx;cases y with
  |byt j=>obtain⟨t',rfl⟩:=ry;exact W.ne_bytes (bf I q (B' not rK))
  |_=>exact absurd (show false=true from hs) AY
 |_=>cases y<;>exact absurd (show false=true from hs) AY
def fX:OpR X (compareOp .Lt) (rI0 λi j=> .bl (decide (i<j))):=ke λ_ _ _ _ _ _ _ q=>lt_int q
def kg:OpR X (compareOp .LtE) (rI0 λi j=> .bl (decide (i<=j))):=ke λ_ _ _ _ _ _ _ q=>le_int q
def eV:OpR X (compareOp .Gt) (rI0 λi j=> .bl (decide (j<i))):=ke λ_ _ _ _ _ _ _ q=>gt_int q
def iT:OpR X (compareOp .GtE) (rI0 λi j=> .bl (decide (j<=i))):=ke λ_ _ _ _ _ _ _ q=>ge_int q
theorem zQ:OpR X (compareOp .Is) (λx y H Q=>y= .non/\Q (.bl (decide (x= .non))) H):=by
 intro Mb s σ H x y v u Q I rx ry h;obtain⟨rfl,q⟩:=h;cases ry;refine is_none_gen (bf I q ?_);cases x<;>first
  |(cases rx;rfl)
  |(obtain⟨t,rfl⟩:=rx;rfl)
theorem aE (b:Rm) (h:op≠ .In:=by decide) (h2:op≠ .NotIn:=by decide):behindInMarks op b=false:=by
 have e1:(op==CmpOp.In)=false:=by cases op<;>first|rfl|exact absurd rfl h
 have e2:(op==CmpOp.NotIn)=false:=by cases op<;>first|rfl|exact absurd rfl h2
 cases b<;>first|rfl|(show(_&&(op==CmpOp.In||op==CmpOp.NotIn)&&_)=false;rw[e1,e2,Bool.or_self,Cd,D2])
theorem fY (ho:OpR X (compareOp op) r) (ha:PE X a ta) (hb:PE X b tb) (hm:behindInMarks op b=false):PE X (.Compare a [op] [b] pos) (tOp r ta tb):=by
 intro Mb s σ H Q I h;exact wpAny_Compare1 (mF ha hb I h λv u s2 x y H2 I2 rx ry q=>ho Mb s2 σ H2 x y v u Q I2 rx ry q) hm
inductive tTest_ (Q:(Bool->Hp->Prop)) (x:V) (H':Hp):Prop
 |mk k:x= .bl k->Q k H'->tTest_ Q x H'
def zR (t:TE):TT:=λσ H Q=>t σ H λx H'=>tTest_ Q x H'
theorem aQ (ho:OpR X (compareOp op) r) (ha:PE X a ta) (hb:PE X b tb) (hm:behindInMarks op b=false):PT X (.Compare a [op] [b] pos) (zR (tOp r ta tb)):=by
 intro Mb s σ H Q I h;refine wpAny_isTrue_Compare1 (thn (ha Mb s σ H _ I h) λv s1 ⟨x,H1,I1,r1,q1⟩=>thn (hb Mb s1 σ H1 _ I1 q1) λu s2 ⟨y,H2,I2,r2,q2⟩=>
  thn (ho Mb s2 σ H2 x y v u _ I2 r1 r2 q2) λc s3 ⟨z,H3,I3,r3,k,e,q3⟩=> ?_) hm
 subst e;cases r3;exact Bg ⟨H3,I3,q3⟩
def rL (K:W.Frag) (x:V) (H:Hp) (k:Bool):Prop:=
 match x with
 | .non=>k=false
 | .bl b=>k=b
 | .int i=>k=(i !=0)
 | .str y=>y.length<=sizeLine/\k=((y.length:Int) !=0)
 | .byt y=>y.size<=sizeLine/\k=((y.size:Int) !=0)
 | .ref p=>(∃xs,SqL K H p xs/\k= !xs.isEmpty)\/(∃xs,SqT K H p xs/\k= !xs.isEmpty)\/∃Mc,H p=some (.dK Mc)/\k= !Mc.isEmpty
 |_=>False
theorem zS {κ:Type}{Mc:Rl (κ×V)}{vs:Rl (κ×OO)} (r:KV Mc vs):(!vs.isEmpty)= !Mc.isEmpty:=by
 cases r<;>rfl
theorem mG {Me:Rl OO} (r:ap xs Me):(!Me.toArray.isEmpty)= !xs.isEmpty:=by
 cases r<;>simp
theorem fZ:(sizeLine:Nat)<2^63:=by rw[Av];decide
theorem zT:zL X (λx H Q=>∃k,rL X.K x H k/\Q k H):=by
 intro Mb s σ H x v Q I rx h;obtain⟨k,e,q⟩:=h;have hl:=fZ;have hs:sizeLine=16777216:=Av;cases x with
 |non=>
  cases rx;have e':k=false:=e;subst e';exact truthy_none ⟨H,I,q⟩
 |bl b=>
  cases rx;have e':k=b:=e;subst e';exact Bg ⟨H,I,q⟩
 |int i=>
  obtain⟨t,rfl⟩:=rx;have e':k=(i !=0):=e;subst e';exact PySem.P.truthy_int ⟨H,I,q⟩
 |str y=>
  obtain⟨t,rfl⟩:=rx;obtain⟨hy,e'⟩:y.length<=sizeLine/\k=((y.length:Int) !=0):=e;subst e';exact PySem.P.truthy_str (by lia) ⟨H,I.tok _,q⟩
 |byt y=>
  obtain⟨t,rfl⟩:=rx;obtain⟨hy,e'⟩:y.size<=sizeLine/\k=((y.size:Int) !=0):=e;subst e';exact W.truthy_bytes (by lia) ⟨H,I.tok _,q⟩
 |ref p=>
  cases rx;have e':(∃xs,SqL X.K H p xs/\k= !xs.isEmpty)\/(∃xs,SqT X.K H p xs/\k= !xs.isEmpty)\/∃Mc,H p=some (.dK Mc)/\k= !Mc.isEmpty:=e;rcases e' with⟨xs,hx,e'⟩|⟨xs,hx,e'⟩|⟨Mc,hx,e'⟩
  .subst e';obtain⟨Me,r,pl,hz⟩:=I.list hx;have Mg:=r.length;exact wpAny_truthy_list pl.isList (by simp only[AG];lia) ⟨H,I.tok _,by rw[mG r];exact q⟩
  .subst e';obtain⟨Me,r,pl,hz⟩:=I.tuple hx;have Mg:=r.length;exact truthy_tuple pl (by simp only[AG];lia) ⟨H,I.tok _,by rw[mG r];exact q⟩
  .subst e';obtain⟨hz,hS,vs,r,m⟩:Mc.length<=sizeLine/\(p==sysModules)=false/\∃vs,KV Mc vs/\s.heap.DictOf (bY X.prog X.w) p vs:=I.hok p _ hx;have Mg:Mc.length=vs.length:=C9 r;exact wpAny_truthy_dict hS m (by lia) ⟨H,I.tok _,by rw[zS r];exact q⟩
 |_=>exact(show False from e).elim
theorem kh (ha:PE X a ta) (he:∀M8,isTrue a X.env M8=(do let v<-M8;standAt a.pos;holding [v] (truthy v))):
  PT X a (λσ H Q=>ta σ H λx H'=>∃k,rL X.K x H' k/\Q k H'):=by
 intro Mb s σ H Q I h;exact isTrue_plain (thn (ha Mb s σ H _ I h) λv s1 Ms=>by obtain⟨x,H1,I1,r1,q1⟩:=Ms;exact zT Mb s1 σ H1 x v Q I1 r1 q1) (he _)
theorem cU {x:V}(r:ap [x] us):∃u,us=[u]/\av x u:=by
 cases r with
 |cons r1 r2=>cases r2;exact⟨_,rfl,r1⟩
theorem ki {x y:V}(r:ap [x,y] us):∃u w',us=[u,w']/\av x u/\av y w':=by
 cases r with
 |cons r1 r2=>
  cases r2 with
  |cons r3 r4=>cases r4;exact⟨_,_,rfl,r1,r3⟩
theorem mH:bW X (.builtin "abs") (λxs H Q=>∃i,xs=[.int i]/\Q (.int (if i<0 then -i else i)) H):=by
 intro Mb s σ H xs us Q I r h;obtain⟨i,rfl,q⟩:=h;obtain⟨u,rfl,t,rfl⟩:=cU r;exact call_abs_int λu tk=>⟨.int (if i<0 then -i else i),H,I.tok _,⟨_,rfl⟩,q⟩
theorem zU (hc:X.calm=true):bW X (.builtin "max") (λxs H Q=>∃i j,xs=[.int i, .int j]/\Q (.int (if j>i then j else i)) H):=by
 intro Mb s σ H xs us Q I r h;obtain⟨i,j,rfl,q⟩:=h;obtain⟨u,w',rfl,⟨t,rfl⟩,⟨t',rfl⟩⟩:=ki r;refine max_two_ints (I.ok.hd hc) λh' tk k=>⟨_,H,I.kept k, ?_,q⟩;by_cases hj:j>i
 .rw [A6 hj,A6 hj];exact⟨_,rfl⟩
 .rw [A5 hj,A5 hj];exact⟨_,rfl⟩
theorem rM (hc:X.calm=true):bW X (.builtin "min") (λxs H Q=>∃i j,xs=[.int i, .int j]/\Q (.int (if j<i then j else i)) H):=by
 intro Mb s σ H xs us Q I r h;obtain⟨i,j,rfl,q⟩:=h;obtain⟨u,w',rfl,⟨t,rfl⟩,⟨t',rfl⟩⟩:=ki r;refine min_two_ints (I.ok.hd hc) λh' tk k=>⟨_,H,I.kept k, ?_,q⟩;by_cases hj:j<i
 .rw [A6 hj,A6 hj];exact⟨_,rfl⟩
 .rw [A5 hj,A5 hj];exact⟨_,rfl⟩
end
structure ObjM (h:Rn) (x dx C:Rg) (mA:Str->Rp OO):Prop where
 obj:h.get? x=some (W.instObj C dx)
 ns:h.Ns1 dx mA
 ne:dx≠x
theorem zV (n:h.Ns1 dx mA):∃od,h.get? dx=some od/\∀name,W.lookIn name od=some (mA name):=by
 obtain⟨o,es,ep,ho,hd,hk,_,hm⟩:=n;refine⟨o,ho,λname=> ?_⟩;have e:=hm name;unfold nsFind findBy at e;rw[<-Array.find?_toList] at e;unfold W.lookIn;rw[hd];dsimp only;split
 .rename_i y q;rw[q] at e;exact B' some e
 .rename_i q;rw[q] at e;have a:es.toList.any (·.refKey)=false:=by
   rw[List.any_eq_false];intro y hy;obtain⟨z,t,hkey⟩:=hk y (Array.mem_toList_iff.mp hy);simp[DictEntry.refKey,hkey]
  have a':¬es.toList.any (·.refKey)=true:=by rw[a];exact AY
  rw[A5 a'];exact B' some e
def ObjM.look {x C:Rg}(I:ObjM h x dx C mA):∃od,W.InstAt h x (W.instObj C dx) C (some od)/\∀name,W.lookIn name od=some (mA name):=
 let ⟨od,ho,hl⟩:=zV I.ns
 ⟨od,⟨I.obj,rfl,rfl,ho⟩,hl⟩
theorem cA.some_of {o:Rp OO} (r:cA (some v) o):∃u,o=some u/\av v u:=by
 cases o with
 |none=>exact(show False from r).elim
 |some u=>exact⟨u,rfl,r⟩
section
variable {P:Rh}{w:Rj}{H H':Hp}{h h':Rn}{a C dx:Rg}{fs fs':Rl (Str×V)}
theorem zW (hok:HOk P w H h) (e:H a=some (.ins C dx fs)):∃mA,ObjM h a dx C mA/\(∀f,cA (fs.lookup f) (mA f))/\PySem.Within mA (fs.map (·.1))/\fs.length<=1000/\H dx=some (.own a):=by
 obtain⟨d,z,ne,ob,mA,n,r,q⟩:=(show aG P w H h a (.ins C dx fs) from hok a _ e);exact⟨mA,⟨ob,n,ne⟩,r,q,z,d⟩
end
structure Cls (K:W.Frag) (C:Rg):Prop where
 pg:W.plainGet K C Str.empty=true
 hd:W.hasDictIn K C=true
 po:W.plainOver K C=true
 sa:W.findIn K (.ref C) "__setattr__"=some (some (.builtin "object.__setattr__"))
def Cls.get {K:W.Frag}{C:Rg} (c:Cls K C) (f:Str):W.plainGet K C f=true:=c.pg
section
variable {X:Cx}{Mb:Rl (Rg×Obj)}{σ:St}{H:Hp}{s:Rf}{A:Rk}{E:OO->Rf->Prop}{Q:OO->Rf->Prop}{c:OO}{b:Bool}
inductive TyOf (K:W.Frag) (H:Hp):V->Value->Prop where
 |non:TyOf K H .non (.type "NoneType")
 |bl (x:Bool):TyOf K H (.bl x) (.type "bool")
 |int (i:Int):TyOf K H (.int i) (.type "int")
 |str (x:Str):TyOf K H (.str x) (.type "str")
 |flt (x:UInt64):TyOf K H (.flt x) (.type "float")
 |lst {a:Addr}{xs:List V} (e:H a=some (.lst xs)):TyOf K H (.ref a) (.type "list")
 |frz {a:Addr}{o:Obj}{xs:List V} (e:H a=some (.frz o (.lst xs))):TyOf K H (.ref a) (.type "list")
 |tup {a:Addr}{xs:List V} (e:H a=some (.tup xs)):TyOf K H (.ref a) (.type "tuple")
 |dK {a:Addr}{Mc:List (Key×V)} (e:H a=some (.dK Mc)):TyOf K H (.ref a) (.type "dict")
 |dT {a:Addr}{Mc:List (List Key×V)} (e:H a=some (.dT Mc)):TyOf K H (.ref a) (.type "dict")
 |ins {a C dx:Addr}{fs:List (Str×V)} (e:H a=some (.ins C dx fs)) (cl:Cls K C) (ha:W.findIn K (.ref C) "__class__"=some (some (.builtin "object.__class__")))
   (hn:W.specialIn K (.builtin "object.__class__") "__get__"=some (some (.builtin "getset_descriptor.__get__"))) (htk:W.takesIn K (.builtin "object.__class__")=some true)
   (hm:W.mroIn K C (.type "object")=some true):TyOf K H (.ref a) (.ref C)
theorem zX {x:V}{t:OO} (I:Inv X Mb σ H s) (rx:av x u) (ty:TyOf X.K H x t) (e:W.kitOne X.K t c=some b) (h:∀tk,Q (.bool b) {s with toks:=tk}):
  wpAny (model X.prog X.w) A (call (.builtin "isinstance") [u,c]) Q E s:=by
 cases ty with
 |non=>cases (show u=Value.none from rx);exact Bc W.kitx_none I.kIn True.intro e (λz=>nomatch z) h
 |bl y=>cases (show u=Value.bool y from rx);exact Bc W.kitx_bool I.kIn True.intro e (λz=>nomatch z) h
 |int i=>obtain⟨t,q⟩:=(show∃t,u=Value.int i t from rx);cases q;exact Bc W.kitx_int I.kIn True.intro e (λz=>nomatch z) h
 |str y=>obtain⟨t,q⟩:=(show∃t,u=Value.str y t from rx);cases q;exact Bc W.kitx_str I.kIn True.intro e (λz=>nomatch z) h
 |flt y=>obtain⟨t,q⟩:=(show∃t,u=Value.float y t from rx);cases q;exact Bc W.kitx_float I.kIn True.intro e (λz=>nomatch z) h
 | @lst a xs ea=>
  cases (show u=Value.ref a from rx);obtain⟨_,_,n,_,h1⟩:=(show aG X.prog X.w H s.heap a (.lst xs) from I.hok a _ ea);exact Bc W.kitx_list I.kIn ⟨_,h1,rfl⟩ e (λz=>nomatch z) h
 | @frz a ob xs ea=>
  cases (show u=Value.ref a from rx);obtain⟨_,_,_,n,_,h1⟩:=(show aG X.prog X.w H s.heap a (.frz ob (.lst xs)) from I.hok a _ ea);exact Bc W.kitx_list I.kIn ⟨_,h1,rfl⟩ e (λz=>nomatch z) h
 | @tup a xs ea=>
  cases (show u=Value.ref a from rx);obtain⟨_,_,_,p⟩:=(show aG X.prog X.w H s.heap a (.tup xs) from I.hok a _ ea);obtain⟨o,h1,h2,_⟩:=p;exact Bc W.kitx_tuple I.kIn ⟨o,h1,h2⟩ e (λz=>nomatch z) h
 | @dK a Mc ea=>
  cases (show u=Value.ref a from rx);obtain⟨_,_,vs,_,p⟩:=(show aG X.prog X.w H s.heap a (.dK Mc) from I.hok a _ ea);obtain⟨o,es,ep,h1,h2,_⟩:=p;exact Bc W.kitx_dict I.kIn ⟨o,h1,h2.1⟩ e (λz=>nomatch z) h
 | @dT a Mc ea=>
  cases (show u=Value.ref a from rx);obtain⟨_,_,xs,_,o,es,ep,h1,h2,_⟩:=(show aG X.prog X.w H s.heap a (.dT Mc) from I.hok a _ ea);exact Bc W.kitx_dict I.kIn ⟨o,h1,h2.1⟩ e (λz=>nomatch z) h
 | @ins a C dx fs ea cl ha hn htk hm=>
  cases (show u=Value.ref a from rx);obtain⟨mA,O,_⟩:=zW I.hok ea;obtain⟨od,J,_⟩:=O.look;exact Bc (W.kitx_own (cl.get _) cl.hd ha hn htk hm) I.kIn J e (λz=>nomatch z) h
end
structure Room (k:Nat) (A:Rk):Prop where
 hd:A.handled=none
 dp:A.depth+3*k+5<recursionLimit
 un:A.units+16*k+200<cLine
theorem Room.mono (r:Room k A) (h:j<=k):Room j A:=⟨r.hd,by have:=r.dp;lia,by have:=r.un;lia⟩
theorem Room.deeper {k:Nat}{A:Rk} (r:Room (k+1) A) (env:Env):Room k (A.deeper env):=
 ⟨r.hd,by have:=r.dp;show A.depth+1+3*k+5<_;lia,by have:=r.un;show A.units+3+16*k+200<_;lia⟩
theorem Room.depth {k:Nat}{A:Rk} (r:Room k A):A.depth<recursionLimit:=by have:=r.dp;lia
theorem Room.units {k:Nat}{A:Rk} (r:Room k A):A.units+64<cLine:=by have:=r.un;lia
def rN:TA:=λ_ H Q=>Q [] H
def zY (ta:TE) (tr:TA):TA:=λσ H Q=>ta σ H λx H1=>tr σ H1 λxs H2=>Q (x::xs) H2
section
variable {X:Cx}{e:Rm}{es:Rl Rm}{te:TE}{t:TA}{pos:Pos}
def ae:PA X [] rN:=λ_ _ _ _ H Q I h=>Calls.spliced_nil ⟨[],H,I, .nil,h⟩
theorem ab (ha:PE X e te) (hr:PA X es t) (hs:starEach (e::es) X.env=(false,eval e X.env)::starEach es X.env:=by rfl):PA X (e::es) (zY te t):=by
 intro pos Mb s σ H Q I h;rw[hs];show wpAny _ _ (spliced ((false,eval e X.env)::backTo pos (starEach es X.env))) _ _ s;refine CT (thn (ha Mb s σ H _ I h) λu s1 zu29=> ?_);obtain⟨x,H1,I1,r1,q1⟩:=zu29;exact thn (hr pos Mb s1 σ H1 _ I1 q1) λus s2 Ms=>by obtain⟨xs,H2,I2,r2,q2⟩:=Ms;exact⟨x::xs,H2,I2, .cons r1 r2,q2⟩
def zZ (t:TA):TE:=λσ H Q=>t σ H λxs H1=>xs.length<=sizeLine/\∀p,H1 p=none->Q (.ref p) (upd H1 p (.tup xs))
def z9 (t:TA):TE:=λσ H Q=>t σ H λxs H1=>xs.length<=sizeLine/\∀p,H1 p=none->Q (.ref p) (upd H1 p (.lst xs))
theorem mI {x1} (h:PA X es t):PE X (.Tuple es x1 pos) (zZ t):=by
 intro Mb s σ H Q I hq;refine wpAny_Tuple_spliced (thn (h pos Mb s σ H _ I hq) λus s1 ⟨xs,H1,I1,r,z,q⟩=>⟨by rw[<-r.length];exact z, ?_⟩);have hf:H1 s1.heap.objs.size=none:=I1.hok.fresh (AB _);refine⟨.ref s1.heap.objs.size,upd H1 s1.heap.objs.size (.tup xs),I1.laid (t':=s1.toks) (λb u e=>A4 _ e) (AB _) ?_,rfl,q _ hf⟩;exact⟨z,us,r,⟨_,AH _ rfl,rfl,_,rfl⟩⟩
theorem fu (h:PA X es t):PE X (.List es pos) (z9 t):=by
 intro Mb s σ H Q I hq;refine wpAny_List_spliced (thn (h pos Mb s σ H _ I hq) λus s1 ⟨xs,H1,I1,r,z,q⟩=>⟨by rw[<-r.length];exact z, ?_⟩);have hf:H1 s1.heap.objs.size=none:=I1.hok.fresh (AB _);refine⟨.ref s1.heap.objs.size,upd H1 s1.heap.objs.size (.lst xs),I1.laid (t':=s1.toks) (λb u e=>A4 _ e) (AB _) ?_,rfl,q _ hf⟩;exact⟨z,us,0,r,AH _ rfl⟩
end
abbrev Sp:=Rl V->Hp->VK->XK->Prop
variable {sp:Sp}
abbrev CXT:=Rl Env->Hp->Rf->XK->OO->Rf->Prop
variable {CX:CXT}
structure Env0 (P:Rh) (w:Rj) (K:W.Frag) (mg:Str->Rp OO) (base:Rn) (A:Rk) (outer:Rl Env) (s:Rf) (H:Hp):Prop where
 frames:A.frames=some outer
 mod:Mod K mg base
 bs:∀b o,base.get? b=some o->s.heap.get? b=some o/\H b=none
 bsz:base.objs.size<=s.heap.objs.size
 funs:s.heap.FunFrames base outer
 frf:∀b∈frs outer,H b=none
 hok:HOk P w H s.heap
 bare:AllBare s.gens
def CE (outer:Rl Env) (P:Rh) (w:Rj) (H:Hp) (s:Rf) (Q:VK) (u:OO) (s':Rf):Prop:=
 ∃v H',s'.os=s.os/\AllBare s'.gens/\Un (frs outer) [] H H' s.heap s'.heap/\HOk P w H' s'.heap/\av v u/\Q v H'
def CR (CX:CXT) (outer:Rl Env) (P:Rh) (w:Rj) (H:Hp) (s:Rf) (Q:VK) (E:XK) (r:Result) (s':Rf):Prop:=
 match r with
 | .ok (.ret u)=>CE outer P w H s Q u s'
 | .ok _=>False
 | .error e=>CX outer H s E e s'
structure FnOk (P:Rh) (w:Rj) (K:W.Frag) (mg:Str->Rp OO) (base:Rn) (CX:CXT) (k:Nat) (f:Rg) (fd:Ri) (ps:Rl Str) (sp:Sp):Prop where
 len:∀vs H Q E,sp vs H Q E->vs.length=ps.length
 run:∀(A:Around) (outer:List Env) (s:Shared) (H:Hp) (args:Args) (us:List Value) (vs:List V) (Q:VK) (E:XK),Room k A->Env0 P w K mg base A outer s H->BindsTo s fd args (ps.zip us)->ap vs us->sp vs H Q E->
  codeAny (model P w) A (.call (.ref f) args) (CR CX outer P w H s Q E) s
def FnOk.imp {sp':Sp} (F:FnOk P w K mg base CX k f fd ps sp)
  (h:∀vs H Q E,sp' vs H Q E->sp vs H Q E):FnOk P w K mg base CX k f fd ps sp':=
 ⟨λvs H Q E q=>F.len vs H Q E (h _ _ _ _ q),λA outer s H args us vs Q E hr he hb hv hs=>F.run A outer s H args us vs Q E hr he hb hv (h _ _ _ _ hs)⟩
section
variable {X:Cx}{Mb:Rl (Rg×Obj)}{σ:St}{H:Hp}{s s':Rf}
def Inv.env0 (I:Inv X Mb σ H s):Env0 X.prog X.w X.K X.mg X.base X.A X.stack s H:=
 ⟨I.ok.frames,I.ok.mod,I.bs,BH I.ok.bsz I.sz,I.stack,I.stkFree,I.hok,I.bare⟩
theorem Inv.after {Q:VK}(I:Inv X Mb σ H s) (h:CE X.stack X.prog X.w H s Q u s'):EP X Mb σ Q u s':=by
 obtain⟨v,H',os,bare,un,hok,r,q⟩:=h;obtain⟨hh,g,d,t,Qm⟩:=s';obtain rfl:Qm=s.os:=os;exact⟨v,H',I.call (h':=hh) (g':=g) (d':=d) (t':=t) (ch:=[]) un hok bare (λb z=>absurd z (by simp)),r,q⟩
end
def mJ (sp:Sp) (Mt:Rl V) (E:XK) (t:TA):TE:=λσ H Q=>t σ H λvs H1=>sp (vs++Mt) H1 Q E
def f' (K:W.Frag) (fd:Ri) (ps:Rl Str) (ds:Rl OO):Prop:=
 ∀(s:Rf) (us:Rl OO),K.In s.heap->(us++ds).length=ps.length->BindsTo s fd ⟨us,[]⟩ (ps.zip (us++ds))
theorem f'.all (h:∀us:Rl OO,us.length=ps.length->bindArgs fd ⟨us,[]⟩=pure (ps.zip us)):f' K fd ps []:=λs us _ hl=>by
 rw[BK] at hl⊢;exact .of_eq (h us hl)
def kj (CX:CXT) (X:Cx) (E:XK):Prop:=∀(Mb:Rl (Rg×Obj)) (σ:St) (H:Hp) (s:Rf) (e:OO) (s':Rf),Inv X Mb σ H s->CX X.stack H s E e s'->X.xe e s'
section
variable {X:Cx}{CX:CXT}{k:Nat}{f C:Rg}{fd:Ri}{ps:Rl Str}{sp:Sp}{Mt:Rl V}{ds:Rl OO}{E:XK}{x m:Str}{p pos Mv:Pos}{e o:Rm}{es:Rl Rm}{ta:TE}{t:TA}
theorem rO {σ:St}{Q:VK}(F:FnOk X.prog X.w X.K X.mg X.base CX k f fd ps sp) (hr:Room k X.A) (hb:f' X.K fd ps ds) (hd:ap Mt ds) (hx:kj CX X E)
  (I:Inv X Mb σ H s) (r:ap vs us) (h:sp (vs++Mt) H Q E):wpAny (model X.prog X.w) X.A (call (.ref f) us) (EP X Mb σ Q) X.xe s:=by
 have r2:ap (vs++Mt) (us++ds):=r.append hd;have hl:(us++ds).length=ps.length:=by rw[<-r2.length];exact F.len _ _ _ _ h
 refine wpAny_call (codeAny_mono (F.run X.A X.stack s H ⟨us,[]⟩ (us++ds) (vs++Mt) Q E hr I.env0 (hb s us I.kIn hl) r2 h) λr s' hq=> ?_);cases r with
 |error e=>exact hx Mb σ H s e s' I hq
 |ok fl=>
  cases fl with
  |ret u=>exact I.after hq
  |next=>exact False.elim hq
  |brk=>exact False.elim hq
  |cont=>exact False.elim hq
theorem dQ (F:FnOk X.prog X.w X.K X.mg X.base CX k f fd ps sp) (hr:Room k X.A) (hg:Gl X x) (hm:X.mg x=some (.ref f)) (hk:W.keepIn X.K (.ref f)=true) (hb:f' X.K fd ps ds) (hd:ap Mt ds) (hx:kj CX X E)
  (ha:PA X (e::es) t) (Ou:(x==("__debug__":Str))=false:=by decide) (he:starEach (e::es) X.env=(false,eval e X.env)::starEach es X.env:=by rfl) (Ov:(backTo pos (starEach es X.env)).any (·.1)=false:=by rfl):
  PE X (.Call (.Name x p) (e::es) [] pos) (mJ sp Mt E t):=by
 intro Mb s σ H Q I h;refine BJ (mB I hg hm ?_ Ou);refine W.callWith_K (h₀:=X.base) I.ok.mod.kin hk (thn (ha pos Mb s σ H _ I h) λus s1 zu30=> ?_) he Ov;obtain⟨vs,H1,I1,r,q⟩:=zu30;refine⟨I1.kIn, ?_⟩;exact rO F hr hb hd hx I1 r q
theorem Dj (F:FnOk X.prog X.w X.K X.mg X.base CX k f fd ps sp) (hr:Room k X.A) (hg:Gl X x) (hm:X.mg x=some (.ref f)) (hk:W.keepIn X.K (.ref f)=true) (hb:f' X.K fd ps ds) (hd:ap Mt ds) (hx:kj CX X E)
  (Ou:(x==("__debug__":Str))=false:=by decide):PE X (.Call (.Name x p) [] [] pos) (mJ sp Mt E rN):=by
 intro Mb s σ H Q I h;refine BJ (mB I hg hm ?_ Ou);exact W.callWith_K0 I.kIn hk (rO (us:=[]) F hr hb hd hx I .nil h)
end
structure FnScope (N P:Rl Str) (sc:Scope):Prop where
 kind:sc.kind= .function
 co:sc.isCoroutine=false
 gen:sc.isGenerator=false
 nd:N.Nodup
 pre:N.take P.length=P
 par:∀x∈P,sc.names.lookup x=some .local\/sc.names.lookup x=some .cell
 nofree:∀y∈sc.names,y.2≠ .free
theorem rP {kindOf:Str->Rp NameKind}{x:Str}:∀{binds:Rl (Str×OO)}{m:Str->Rp OO},(∀v,(x,v)∉binds)->bindL kindOf binds m x=m x
 |[],_,_=>rfl
 |(n,v)::r,m,h=>by
  unfold bindL;rw[rP λw hw=>h w (AK _ hw)];split
  .have:x≠n:=by rintro rfl;exact h v AD
   simp[this]
  .rfl
theorem rQ {kindOf:Str->Rp NameKind}{x:Str}:∀{binds:Rl (Str×OO)}{m:Str->Rp OO},(∀v,(x,v)∉binds)->bindC kindOf binds m x=m x
 |[],_,_=>rfl
 |(n,v)::r,m,h=>by
  unfold bindC;rw[rQ λw hw=>h w (AK _ hw)];split
  .rfl
  .have:x≠n:=by rintro rfl;exact h v AD
   simp[this]
theorem rR {kindOf:Str->Rp NameKind}{x:Str}{v:OO}:∀{P:Rl Str}{vs:Rl OO}{i:Nat}{m:Str->Rp OO},P.Nodup->P[i]? =some x->vs[i]? =some v->kindOf x=some .local->
  bindL kindOf (P.zip vs) m x=some v
 |[],_,_,_,_,h,_,_=>by simp at h
 |_::_,[],_,_,_,_,h,_=>by simp at h
 |p::P,w::vs,0,m,nd,h1,h2,hk=>by
  simp at h1 h2;subst h1;subst h2;show bindL kindOf ((p,w)::P.zip vs) m p=_;unfold bindL;rw[rP λv hv=>(Be.mp nd).1 (List.of_mem_zip hv).1,A6 hk];simp
 |p::P,w::vs,i+1,m,nd,h1,h2,hk=>by
  show bindL kindOf ((p,w)::P.zip vs) m x=_;unfold bindL;exact rR (i:=i) (Be.mp nd).2 (by simpa using h1) (by simpa using h2) hk
theorem rS {kindOf:Str->Rp NameKind}{x:Str}{v:OO}:∀{P:Rl Str}{vs:Rl OO}{i:Nat}{m:Str->Rp OO},P.Nodup->P[i]? =some x->vs[i]? =some v->kindOf x≠some .local->
  bindC kindOf (P.zip vs) m x=some v
 |[],_,_,_,_,h,_,_=>by simp at h
 |_::_,[],_,_,_,_,h,_=>by simp at h
 |p::P,w::vs,0,m,nd,h1,h2,hk=>by
  simp at h1 h2;subst h1;subst h2;show bindC kindOf ((p,w)::P.zip vs) m p=_;unfold bindC;rw[rQ λv hv=>(Be.mp nd).1 (List.of_mem_zip hv).1,A5 hk];simp
 |p::P,w::vs,i+1,m,nd,h1,h2,hk=>by
  show bindC kindOf ((p,w)::P.zip vs) m x=_;unfold bindC;exact rS (i:=i) (Be.mp nd).2 (by simpa using h1) (by simpa using h2) hk
def start (N:Rl Str) (vs:Rl V):St:=vs.map some++List.replicate (N.length-vs.length) none
def gd (CX:CXT) (P:Rh) (w:Rj) (K:W.Frag) (mg:Str->Rp OO) (base:Rn) (N:Rl Str) (Mj:Str) (scope:Scope) (f:Rg) (cd:OO) (A:Rk) (outer:Rl Env) (s:Rf) (H:Hp) (E:XK):Cx where
 prog:=P
 w:=w
 K:=K
 mg:=mg
 base:=base
 A:=A.deeper (envOfC Mj scope s.heap.objs.size f cd)
 N:=N
 s₀:=s
 H₀:=H
 env:=envOfC Mj scope s.heap.objs.size f cd
 outer:=outer
 stack:=envOfC Mj scope s.heap.objs.size f cd::outer
 ex:=[]
 calm:=true
 fn:=λ_=>true
 pn:=[]
 xe:=λe s'=>wpAny (model P w) (A.deeper (envOfC Mj scope s.heap.objs.size f cd)) (leaving (envOfC Mj scope s.heap.objs.size f cd) e) (λ_ s''=>CX outer H s E e s'') (λe' s''=>CX outer H s E e' s'') s'
theorem rT {sc:Scope}(h:sc.names.lookup x=some .cell):∃c,(cellsFrom n sc.names []).lookup x=some c:=by
 have q:=W.cellsFrom_some sc.names n [] (.inl h);exact Option.isSome_iff_exists.mp q
theorem Dk {cd:OO}{outer:Rl Env}{s1:Rf}{E:XK}
  (S:FnScope N ps scope) (hd:A.handled=none) (e0:Env0 P w K mg base A outer s H) (hl:vs.length=ps.length) (r:ap vs us)
  (x:InCallC s s.heap.objs.size (bindL (envOfC Mj scope s.heap.objs.size f cd).kindOf (ps.zip us) λ_=>none) (cellsFrom (s.heap.objs.size+1) scope.names []) (bindC (envOfC Mj scope s.heap.objs.size f cd).kindOf (ps.zip us) λ_=>none) s1):
  Inv (gd CX P w K mg base N Mj scope f cd A outer s H E) [] (start N vs) H s1:=by
 have Ov:ps.length<=N.length:=by have:=B' List.length S.pre;rw[Ag] at this;lia
 obtain⟨h1,tk,rfl,hk⟩:=x.done;have noA:∀b:Rg,b∉(gd CX P w K mg base N Mj scope f cd A outer s H E).ex:=λb z=>absurd (show b∈([]:Rl Rg) from z) (by simp);refine⟨⟨e0.mod,S.kind,rfl,rfl,AB _,λy z c h1 h2=> ?_,λy hy=> ?_,λy c _ h=> ?_,λ_=>hd,Around.frames_deeper e0.frames, .inr ⟨rfl,rfl⟩,λb z=>absurd z (noA b),e0.bs,e0.bsz,λb _ _=>noA b,λb z=>absurd z (noA b),e0.funs,e0.frf⟩,
  rfl,e0.bare,Un.kept hk,⟨_,x.toInCall.ns,λi y v h1 h2 h3=> ?_⟩,λy c h=>⟨_,x.cell y c h⟩,e0.hok.fresh (AB _),λy c h=> ?_,λp hp=>absurd (show p∈([]:Rl (Rg×Obj)) from hp) (by simp),e0.hok.kept hk, ?_⟩
 .exact name_of_addr x.apart (C0 h1) (C0 h2)
 .have hy:scope.names.lookup y=some .cell\/scope.names.lookup y=some .free:=hy;rcases hy with hy|hy
  .exact rT hy
  .exact absurd rfl (S.nofree _ (C0 hy))
 .exact AZ (x.above y c (C0 h))
 .have hi:i<vs.length:=by
   unfold start at h2;by_cases hi:i<vs.length
   .exact hi
   .rw [BS (by simpa using hi)] at h2;rw[List.getElem?_replicate] at h2;split at h2<;>cases h2
  have ha:vs[i]? =some v:=by
   unfold start at h2;rw[Bn (by simpa using hi),AC] at h2;cases e:vs[i]? with
   |none=>rw[e] at h2;cases h2
   |some a=>rw[e] at h2;cases h2;rfl
  obtain⟨u,hu,rv⟩:=r.get ha;have hp:ps[i]? =some y:=by
   rw[<-S.pre,List.getElem?_take_of_lt (by lia)];exact h1
  have ndP:ps.Nodup:=by rw[<-S.pre];exact S.nd.sublist (List.take_sublist _ _)
  refine⟨u,rv, ?_⟩;rcases S.par y (AU hp) with k|k
  .exact .inl ⟨k,rR ndP hp hu k⟩
  .obtain⟨c,e⟩:=rT (n:=s.heap.objs.size+1) k;refine .inr ⟨.inl k,c,e, ?_⟩;have q:=x.cell y c e;rw[rS ndP hp hu (by show scope.names.lookup y≠_;rw[k];decide)] at q;exact q
 .exact e0.hok.fresh (AZ (x.above y c (C0 h)))
 .unfold start;show _=N.length;rw[AE,A1,Am];lia
theorem Dl {name:Str}{params:Arguments}{dV kV NM pm My ct oc:OO}{an od:Rp Rg}
  {P0:Array (Rp OO)}(lk:K.lookup f=some ⟨oc,od, .func (W.fnOf name Mj params body scope dV kV NM pm an My ct),P0⟩) (OI:W.codeIn K My Mj=true) (S:FnScope N ps scope)
  (len:∀vs H Q E,sp vs H Q E->vs.length=ps.length)
  (NR:∀(A:Rk) (outer:Rl Env) (s:Rf) (H:Hp) (vs:Rl V) (Q:VK) (E:XK),Room k (A.deeper (envOfC Mj scope s.heap.objs.size f My))->sp vs H Q E->
   ∃t,PSs (gd CX P w K mg base N Mj scope f My A outer s H E) body t/\t {nx:=λ_ H'=>Q .non H',rt:=Q} (start N vs) H):
  FnOk P w K mg base CX (k+1) f (W.fnOf name Mj params body scope dV kV NM pm an My ct) ps sp:=by
 refine⟨len,λA outer s H args us vs Q E hr e0 hb r P1=> ?_⟩;have hl:=len _ _ _ _ P1;have KX:K.In s.heap:=e0.mod.kin.keeps λb o e=>(e0.bs b o e).1;have lim:s.heap.NoLimit:=e0.mod.nolimit.keeps λb o e=>(e0.bs b o e).1;have MM:∀y∈ps.zip us,scope.names.lookup y.1=some .local\/(scope.names.lookup y.1=some .cell/\((cellsFrom (s.heap.objs.size+1) scope.names []).lookup y.1).isSome=true):=λOG hy=>by
  obtain⟨n,v⟩:=OG;rcases S.par n (List.of_mem_zip hy).1 with q|q
  .exact .inl q
  .exact .inr ⟨q,W.cellsFrom_some _ _ _ (.inl q)⟩
 refine codeAny_call_function hr.depth (KX _ _ lk) rfl S.co S.gen rfl (W.codeRec_of KX OI) (hb _ _ _ _ ?_);refine wpAny_newFunctionEnv_cells S.kind MM λenv he s1 x=> ?_;subst he;refine⟨lim.keeps x.toInCall.keep,codeAny_func ?_⟩;obtain⟨t,ht,hq⟩:=NR A outer s H vs Q E (hr.deeper _) P1;have I:Inv (gd CX P w K mg base N Mj scope f My A outer s H E) [] (start N vs) H s1:=Dk S hr.hd e0 hl r x;refine Bj (ht [] s1 (start N vs) H _ I hq) (λfl s' hs=> ?_) λe s' hs=>hs;have fin:∀{σ':St}{H':Hp}{v:V}{u:OO},Inv (gd CX P w K mg base N Mj scope f My A outer s H E) [] σ' H' s'->av v u->Q v H'->CE outer P w H s Q u s':=
  fun{σ' H' v u} J rv q=>⟨v,H',J.os,J.bare,J.base,J.hok,rv,q⟩
 cases fl with
 |ret u=>
  obtain⟨v,σ',H',J,rv,q⟩:=hs;exact fin J rv q
 |next=>
  obtain⟨σ',H',J,q⟩:=hs;exact fin (v:=V.non) (u:=Value.none) J rfl q
 |brk=>
  obtain⟨_,_,_,q⟩:=hs;exact False.elim q
 |cont=>
  obtain⟨_,_,_,q⟩:=hs;exact False.elim q
section
variable {X:Cx}{x:Str}{p pos:Pos}{e:Rm}{es:Rl Rm}{t:TA}{id T:String}{r:Rl V->Hp->VK->Prop}
def tCB (r:Rl V->Hp->VK->Prop) (t:TA):TE:=λσ H Q=>t σ H λvs H1=>r vs H1 Q
theorem aY (hc:bW X (.builtin id) r) (hg:Gl X x) (hm:X.mg x=none) (hv:bootBuiltins x=some (.builtin id)) (ha:PA X (e::es) t) (hn:x≠"__name__":=by decide) (Ou:(x==("__debug__":Str))=false:=by decide)
  (he:starEach (e::es) X.env=(false,eval e X.env)::starEach es X.env:=by rfl) (Ov:(backTo pos (starEach es X.env)).any (·.1)=false:=by rfl):PE X (.Call (.Name x p) (e::es) [] pos) (tCB r t):=by
 intro Mb s σ H Q I h;refine BJ (cM I hg hm hv ?_ hn Ou);exact D9 (thn (ha pos Mb s σ H _ I h) λus s1 Ms=>by obtain⟨vs,H1,I1,r1,q1⟩:=Ms;exact hc Mb s1 σ H1 vs us Q I1 r1 q1) he Ov
theorem dR (hc:bW X (.type T) r) (hg:Gl X x) (hm:X.mg x=none) (hv:bootBuiltins x=some (.type T)) (ha:PA X (e::es) t) (hn:x≠"__name__":=by decide) (Ou:(x==("__debug__":Str))=false:=by decide)
  (he:starEach (e::es) X.env=(false,eval e X.env)::starEach es X.env:=by rfl) (Ov:(backTo pos (starEach es X.env)).any (·.1)=false:=by rfl):PE X (.Call (.Name x p) (e::es) [] pos) (tCB r t):=by
 intro Mb s σ H Q I h;refine BJ (cM I hg hm hv ?_ hn Ou);exact B3 (thn (ha pos Mb s σ H _ I h) λus s1 Ms=>by obtain⟨vs,H1,I1,r1,q1⟩:=Ms;exact hc Mb s1 σ H1 vs us Q I1 r1 q1) he Ov
end
end L2
namespace HT
open PySem PyProof.Rows
variable {Q:OO->Rf->Prop}{hi lo:Rp Int}{sl:Rg}{vl vu:OO}
section
open PySem.SeqAt
open PySem.AutoSeq1 (wpAny_loadPart')
open PySem.MeetsSeq PySem.MeetsSeq2 PySem.MeetsSeq3
end
section
variable {prog:Rh}{w:Rj}{A:Rk}{E:OO->Rf->Prop}{s:Rf}
theorem cat_tup {t b:Rg}{vs ws:Rl OO}(ht:IsTup s.heap t vs.toArray) (hb:IsTup s.heap b ws.toArray) (hv:vs≠[])
  (h1:ws=[]->Q (.ref t) s) (h2:ws≠[]->Q (.ref s.heap.objs.size) {s with heap:=s.heap.push {cls:= .type "tuple",data:= .seq (vs++ws).toArray}})
  (hsz:vs.length+ws.length<=sizeLine):wpAny (model prog w) A (binaryOp .Add (.ref t) (.ref b)) Q E s:=by
 obtain⟨⟨cls,dd,data,sl⟩,ho,hc,n,hd⟩:=id ht;obtain⟨⟨Pp,NS,data2,NT⟩,M9,NB,n2,Nm⟩:=id hb;simp only at hc hd NB Nm;subst hc hd NB Nm;have e:vs.toArray++ws.toArray=(vs++ws).toArray:=by simp
 by_cases hw:ws=[]
 .exact concat_meets ⟨_,ho,rfl⟩ ⟨_,M9,rfl⟩ noFill_tuple_add seq_tuple_add PySem.F.slot_tuple_add PySem.F.entry_tuple_add (PySem.F.args_tuple_add_2 _ _)
   (tuple_addW1 t b vs.toArray ws.toArray n n2 dd NS sl NT (by simpa using hv) (by simp[hw])) ⟨ho,M9,h1 hw⟩
 .refine concat_meets ⟨_,ho,rfl⟩ ⟨_,M9,rfl⟩ noFill_tuple_add seq_tuple_add PySem.F.slot_tuple_add PySem.F.entry_tuple_add (PySem.F.args_tuple_add_2 _ _)
   (tuple_addW2 t b vs.toArray ws.toArray n n2 dd NS sl NT (by simpa using hv) (by simpa using hw) (by rw[AG,AG];exact hsz)) ⟨ho,M9, ?_⟩
  rw[e];exact h2 hw
def sIx (n d:Nat):Rp Int->Nat
 |none=>d
 |some v=>if v<0 then(v+(n:Int)).toNat else min v.toNat n
def sIx_none (n d:Nat):sIx n d none=d:=rfl
theorem sIx_nat (n d k:Nat):sIx n d (some (k:Int))=min k n:=by
 show(if(k:Int)<0 then((k:Int)+(n:Int)).toNat else min (k:Int).toNat n)=min k n;rw[A5 (by lia),Ae]
theorem Dm (n d:Nat) (hd:d<=n) (o:Rp Int):sIx n d o<=n:=by
 cases o with
 |none=>exact hd
 |some v=>
  show(if v<0 then(v+(n:Int)).toNat else min v.toNat n)<=n;by_cases hv:v<0
  .rw [A6 hv];lia
  .rw [A5 hv];exact Nat.min_le_right _ _
theorem rV (v:Int) (n d:Nat):(if v<0 then max (v+(n:Int)) 0 else min v (n:Int))=((sIx n d (some v):Nat):Int):=by
 show(if v<0 then max (v+(n:Int)) 0 else min v (n:Int))=(((if v<0 then(v+(n:Int)).toNat else min v.toNat n):Nat):Int);by_cases hv:v<0
 .simp only[A6 hv];lia
 .simp only[A5 hv];lia
theorem Do (lo hi:Rp Int) (n:Nat):Builtin.Slice.sliceAdjust lo hi 1 (n:Int)=(((sIx n 0 lo:Nat):Int),((sIx n n hi:Nat):Int)):=by
 have h1:¬((1:Int)<0):=by lia
 unfold Builtin.Slice.sliceAdjust;simp only[h1,An];refine Prod.ext ?_ ?_
 .cases lo with
  |none=>rfl
  |some v=>exact rV v n 0
 .cases hi with
  |none=>rfl
  |some v=>exact rV v n n
theorem Dp (i j:Nat):Builtin.Slice.slicePlaces (i:Int) (j:Int) 1=j-i:=by
 unfold Builtin.Slice.slicePlaces;have h1:(1:Int)>0:=by lia
 simp only[h1,C8,Int.ediv_one];split<;>lia
theorem rW {v:OO}{o:Rp Int}{Q:Rp Int->Rf->Prop} (p:IsPart v o) (h:Q o s):wpAny (model prog w) A (Builtin.Slice.slicePartIndex v) Q E s:=by
 cases p with
 |none=>exact slicePart_none h
 |int i t=>exact slicePart_int h
theorem rX {n:Nat}{Q:Int×Int×Nat->Rf->Prop} (hs:s.heap.IsSliceOf sl vl vu .none) (pl:IsPart vl lo) (pu:IsPart vu hi)
  (h:Q (((sIx n 0 lo:Nat):Int),1,sIx n n hi-sIx n 0 lo) s):wpAny (model prog w) A (Builtin.Slice.sliceApplied (.ref sl) (pure (n:Int))) Q E s:=by
 obtain⟨os,Qn,Qo,hds⟩:=id hs;unfold Builtin.Slice.sliceApplied Builtin.Slice.sliceFields;refine A0 (A0 (Bh Qn hds (x:=vl) rfl (A0 (Bh Qn hds (x:=vu) rfl (A0 (Bh Qn hds (x:= .none) rfl (A2 ?_)))))));refine A0 (slicePart_none ?_);show wpAny _ _ (if((1:Int)==0)=true then _ else _) _ _ s;rw[A5 (by decide)];refine A0 (rW pl (A0 (rW pu (A0 (A2 ?_)))));show wpAny _ _ (match Builtin.Slice.sliceAdjust lo hi 1 (n:Int) with|(lo,hi)=>pure (lo,(1:Int),Builtin.Slice.slicePlaces lo hi 1)) _ _ s;rw[Do lo hi n];show wpAny _ _ (pure (((sIx n 0 lo:Nat):Int),(1:Int),Builtin.Slice.slicePlaces ((sIx n 0 lo:Nat):Int) ((sIx n n hi:Nat):Int) 1)) _ _ s;rw[Dp];exact A2 h
theorem Dq (xs:Array OO) (i k:Nat):((List.range k).filterMap fun(m:Nat)=>xs[((i:Int)+(m:Int)*1).toNat]?).toArray=((xs.toList.drop i).take k).toArray:=by
 have e:(fun(m:Nat)=>xs[((i:Int)+(m:Int)*1).toNat]?)=λm=>xs[i+m]? :=by
  funext m
  have:((i:Int)+(m:Int)*1).toNat=i+m:=by lia
  rw[this]
 rw[e];have:=pick_run xs i k;rw[List.filterMap_map] at this;have e2:((λx=>xs[x]?)∘λx=>i+x)=λm=>xs[i+m]? :=rfl;rw[e2] at this;rw[this]
theorem getItem_tuple_cut {t:Rg}{items:Array OO}(ht:IsTup s.heap t items) (hs:s.heap.IsSliceOf sl vl vu .none) (pl:IsPart vl lo) (pu:IsPart vu hi)
  (hw:¬(sIx items.size 0 lo=0/\sIx items.size items.size hi=items.size))
  (h:Q (.ref s.heap.objs.size) {s with heap:=s.heap.push {cls:= .type "tuple",data:= .seq ((items.toList.drop (sIx items.size 0 lo)).take (sIx items.size items.size hi-sIx items.size 0 lo)).toArray}})
  (hsz:items.size<=sizeLine):wpAny (model prog w) A (getItem (.ref t) (.ref sl)) Q E s:=by
 have Om:sizeOk (.seq ((items.toList.drop (sIx items.size 0 lo)).take (sIx items.size items.size hi-sIx items.size 0 lo)).toArray):=by
  show((items.toList.drop (sIx items.size 0 lo)).take (sIx items.size items.size hi-sIx items.size 0 lo)).toArray.size<=sizeLine;rw[AG,Ag,Br,B4];lia
 have hj:sIx items.size items.size hi<=items.size:=Dm _ _ (AB _) hi;obtain⟨os,Qn,Qo,hds⟩:=id hs;have hTs:s.TypeIs (.ref sl) "slice":=⟨os,Qn,Qo⟩;unfold getItem;try with_reducible refine B5 ?_
 first|refine A0 (A2 ?_)|skip
 refine A0 (wpAny_sequenceKey ht.typeIs (by decide) ?_);refine A0 (B1 (name:=Str.ofString "__getitem__") ht.typeIs BQ
  (Ah BQ ht.typeIs entry_tuple_getitem ?_ (args_tuple_getitem _ _)))
 show wpAny _ _ (Builtin.Tuple.tupleItemsOf (.ref t)>>=_) _ _ s;refine A0 (tupleItemsOf_ ht ?_);refine A0 (DD hTs ?_);rw[A6 (by decide)];refine A0 (rX hs pl pu ?_);have hno:¬((((sIx items.size 0 lo:Nat):Int)==0&&(1:Int)==1&&(sIx items.size items.size hi-sIx items.size 0 lo)==items.size)=true):=by
  intro q;rw[AA,AA] at q;have q1:((sIx items.size 0 lo:Nat):Int)=0:=eq_of_beq q.1.1;have q2:sIx items.size items.size hi-sIx items.size 0 lo=items.size:=eq_of_beq q.2;exact hw ⟨by lia,by lia⟩
 show wpAny _ _ (if(((sIx items.size 0 lo:Nat):Int)==0&&(1:Int)==1&&(sIx items.size items.size hi-sIx items.size 0 lo)==items.size)=true then _ else _) _ _ s;rw[A5 hno,Dq];first
  |exact A0 (m:=Builtin.Tuple.tupleExact _) (Ax (A2 ⟨_,rfl,A2 h⟩) Om)
  |exact A0 (m:=Builtin.Tuple.tupleExact _) (Ax (A0 (A2 (A2 ⟨_,rfl,A2 h⟩))) Om)
  |exact A0 (A0 (m:=Builtin.Tuple.tupleExact _) (Ax (A2 (A2 ⟨_,rfl,A2 h⟩)) Om))
  |exact A0 (A0 (m:=Builtin.Tuple.tupleExact _) (Ax (A2 ⟨_,rfl,A2 h⟩) Om))
end
end HT
namespace L2
open PySem PySem.Spec PyProof.Rows
variable {H:Hp}{Mb:Rl (Rg×Obj)}{i:Int}{j n:Nat}{s:Rf}{xs:Rl V}
abbrev TO:=St->Hp->(Rp Int->Hp->Prop)->Prop
def PO (X:Cx) (e:Rp Rm) (t:TO):Prop:=
 ∀(Mb:Rl (Rg×Obj)) (s:Rf) (σ:St) (H:Hp) (Q:Rp Int->Hp->Prop),Inv X Mb σ H s->t σ H Q->
  wpAny (model X.prog X.w) X.A (evalPart e X.env) (λu s'=>∃o H',Inv X Mb σ H' s'/\IsPart u o/\Q o H') X.xe s
def Dr:TO:=λ_ H Q=>Q none H
inductive tPart_ (Q:(Option Int->Hp->Prop)) (x:V) (H1:Hp):Prop
 |mk i:x= .int i->Q (some i) H1->tPart_ Q x H1
def Ds (t:TE):TO:=λσ H Q=>t σ H λx H1=>tPart_ Q x H1
theorem mL {ns:Rl Int}:∀{us:Rl OO},ap (ns.map V.int) us->IntsAre us ns:=by
 induction ns with
 |nil=>intro us r;rw[DX] at r;cases r;exact .nil
 |cons n ns ih=>
  intro us r;rw[AL] at r;cases r with
  |cons r1 r2=>
   obtain⟨t,e⟩:=r1;subst e;exact .cons n t (ih r2)
section
variable {X:Cx}{e:Rm}{te:TE}{lo hi:Rp Rm}{tl th:TO}{pos p2:Pos}
theorem dS:PO X none Dr:=by
 intro Mb s σ H Q I h;rw[evalPart_none];exact A2 ⟨none,H,I, .none,h⟩
theorem di (h:PE X e te):PO X (some e) (Ds te):=by
 intro Mb s σ H Q I hw;rw[evalPart_some];refine thn (h Mb s σ H _ I hw) λu s1 zu31=> ?_;obtain⟨x,H1,I1,r1,q1⟩:=zu31;obtain⟨i,rfl,q⟩:=q1;obtain⟨t,rfl⟩:=r1;exact⟨some i,H1,I1, .int i t,q⟩
def SlR (X:Cx) (r:V->Rp Int->Rp Int->Hp->VK->Prop):Prop:=
 ∀(Mb:Rl (Rg×Obj)) (s:Rf) (σ:St) (H:Hp) (x:V) (v vl vu:OO) (lo hi:Rp Int) (sl:Rg) (Q:VK),Inv X Mb σ H s->av x v->s.heap.IsSliceOf sl vl vu .none->IsPart vl lo->IsPart vu hi->r x lo hi H Q->
  ∃T id,typeLookup (.type T) "__getitem__"=pure (some (.builtin id))/\s.TypeIs v T/\wpAny (model X.prog X.w) X.A (getItem v (.ref sl)) (EP X Mb σ Q) X.xe s
def tSl (r:V->Rp Int->Rp Int->Hp->VK->Prop) (te:TE) (tl th:TO):TE:=λσ H Q=>te σ H λx H1=>tl σ H1 λl H2=>th σ H2 λu H3=>r x l u H3 Q
theorem dD {r:V->Rp Int->Rp Int->Hp->VK->Prop} (hr:SlR X r) (he:PE X e te) (hl:PO X lo tl) (hu:PO X hi th):PE X (.Subscript e (.Slice lo hi none p2) pos) (tSl r te tl th):=by
 intro Mb s σ H Q I h;refine Subscript_ (thn (he Mb s σ H _ I h) λv s1 zu32=> ?_);obtain⟨x,H1,I1,r1,q1⟩:=zu32;refine wpAny_Slice (thn (hl Mb s1 σ H1 _ I1 q1) λvl s2 zu33=> ?_);obtain⟨l,H2,I2,pl,q2⟩:=zu33;refine thn (hu Mb s2 σ H2 _ I2 q2) λvu s3 zu34=> ?_;obtain⟨u,H3,I3,pu,q3⟩:=zu34;rw[evalPart_none];refine A2 ?_;have I4:Inv X Mb σ H3 {s3 with heap:=s3.heap.push {cls:= .type "slice",data:= .fields #[vl,vu, .none]}}:=I3.kept (t':=s3.toks) λb ob q=>A4 _ q;obtain⟨T,id,hT,ht,hg⟩:=hr Mb {s3 with heap:=s3.heap.push {cls:= .type "slice",data:= .fields #[vl,vu, .none]}} σ H3 x v vl vu l u s3.heap.objs.size Q I4 r1 (Heap.IsSliceOf.new ..) pl pu q3;show wpAny (model X.prog X.w) X.A (subscriptTail e (.Slice lo hi none p2) v (.ref s3.heap.objs.size)) (EP X Mb σ Q) X.xe {s3 with heap:=s3.heap.push {cls:= .type "slice",data:= .fields #[vl,vu, .none]}};exact tail_any (ops:=[.ref s3.heap.objs.size,v]) ht hT hg (by with_unfolding_all rfl)
def bT (xs:Rl V) (lo hi:Rp Int):Rl V:=(xs.drop (HT.sIx xs.length 0 lo)).take (HT.sIx xs.length xs.length hi-HT.sIx xs.length 0 lo)
theorem rY (xs:Rl V) (lo hi:Rp Int):(bT xs lo hi).length<=xs.length:=by
 unfold bT;rw[Ag,Br];lia
inductive rSlT (K:W.Frag) (x:V) (lo:Option Int) (hi:Option Int) (H:Hp) (Q:VK):Prop
 |mk a xs:x= .ref a->SqT K H a xs->¬(HT.sIx xs.length 0 lo=0/\HT.sIx xs.length xs.length hi=xs.length)->(∀p,H p=none->Q (.ref p) (upd H p (.tup (bT xs lo hi))))->rSlT K x lo hi H Q
theorem Dt:SlR X (rSlT X.K):=by
 intro Mb s σ H x v vl vu lo hi sl Q I rx hs pl pu h;obtain⟨a,xs,rfl,hx,hw,q⟩:=h;cases rx;obtain⟨Me,r,ht,hz⟩:=I.tuple hx;have Mg:Me.toArray.size=xs.length:=by rw[AG];exact r.length.symm
 refine⟨"tuple",_,BQ.lookup,ht.typeIs, ?_⟩;refine HT.getItem_tuple_cut ht hs pl pu (by rw[Mg];exact hw) ?_ (by rw[Mg];exact hz);rw[Mg];refine⟨.ref s.heap.objs.size,_,I.laid (t':=s.toks) (o:= .tup (bT xs lo hi)) (λb ob q=>A4 _ q) (AB _) ?_,rfl,q _ (I.hok.fresh (AB _))⟩;exact⟨BH (rY xs lo hi) hz,_,(r.drop (HT.sIx xs.length 0 lo)).take (HT.sIx xs.length xs.length hi-HT.sIx xs.length 0 lo),IsTup.new _ _⟩
inductive rCatT (K:W.Frag) (x:V) (y:V) (H:Hp) (Q:VK):Prop
 |mk a b xs ys:x= .ref a->y= .ref b->SqT K H a xs->SqT K H b ys->xs≠[]->xs.length+ys.length<=sizeLine->((ys=[]->Q (.ref a) H))->((ys≠[]->∀p,H p=none->Q (.ref p) (upd H p (.tup (xs++ys)))))->rCatT K x y H Q
theorem ap.nil_iff {us:Rl OO} (r:ap xs us):us=[]↔xs=[]:=by
 cases r with
 |nil=>simp
 |cons _ _=>simp
theorem Du:OpR X (binaryOp .Add) (rCatT X.K):=by
 intro Mb s σ H x y v u Q I rx ry h;obtain⟨a,b,xs,ys,rfl,rfl,ha,hb,hx,hz,q1,q2⟩:=h;cases rx;cases ry;obtain⟨Me,r1,p1,_⟩:=I.tuple ha;obtain⟨NC,r2,p2,_⟩:=I.tuple hb;refine HT.cat_tup p1 p2 (λz=>hx (r1.nil_iff.mp z)) (λz=>⟨.ref a,H,I,rfl,q1 (r2.nil_iff.mp z)⟩) (λz=> ?_) (by rw[<-r1.length,<-r2.length];exact hz);refine⟨.ref s.heap.objs.size,_,I.laid (t':=s.toks) (o:= .tup (xs++ys)) (λb ob q=>A4 _ q) (AB _) ?_,rfl,q2 (λw=>z (r2.nil_iff.mpr w)) _ (I.hok.fresh (AB _))⟩;exact⟨by rw[AE];exact hz,_,r1.append r2,IsTup.new _ _⟩
end
def ixN (n:Nat) (i:Int):Rp Nat:=if 0<=i then(if i<n then some i.toNat else none) else if -(n:Int)<=i then some (i+n).toNat else none
def atI {α:Type} (xs:Rl α) (i:Int):Rp α:=(ixN xs.length i).bind λj=>xs[j]?
theorem rZ (h:ixN n i=some j):seqIndex? i n=some j/\j<n/\-(n:Int)<=i/\i<n:=by
 unfold ixN at h;by_cases h0:0<=i
 .rw [A6 h0] at h;by_cases h1:i<n
  .rw [A6 h1] at h;have e:i.toNat=j:=Ak h;exact⟨by rw[seqIndex_of h0 h1,e],by lia,by lia,h1⟩
  .rw [A5 h1] at h;cases h
 .rw [A5 h0] at h;by_cases h1: -(n:Int)<=i
  .rw [A6 h1] at h;have e:(i+n).toNat=j:=Ak h;exact⟨by rw[seqIndex_neg (by lia) h1,e],by lia,h1,by lia⟩
  .rw [A5 h1] at h;cases h
theorem r0 {α:Type}{xs:Rl α}{v:α} (h:atI xs i=some v):∃j,seqIndex? i xs.length=some j/\xs[j]? =some v/\j<xs.length/\-(xs.length:Int)<=i/\i<xs.length:=by
 unfold atI at h;cases e:ixN xs.length i with
 |none=>rw[e] at h;cases h
 |some j=>
  rw[e] at h;obtain⟨h1,h2,h3,h4⟩:=rZ e;exact⟨j,h1,h,h2,h3,h4⟩
theorem iU {α:Type}{xs:Rl α}{v:α} (h:xs[j]? =some v):atI xs (j:Int)=some v:=by
 have hj:j<xs.length:=(AF.mp h).1;have e:ixN xs.length (j:Int)=some j:=by
  unfold ixN;rw[A6 (by lia),A6 (by lia)];simp
 unfold atI;rw[e];exact h
theorem Dv {α:Type} (xs:Rl α) (v:α):atI (xs++[v]) (-1)=some v:=by
 have hl:(xs++[v]).length=xs.length+1:=by simp
 have e:ixN (xs++[v]).length (-1)=some xs.length:=by
  unfold ixN;rw[hl,A5 (by decide),A6 (by lia)];congr 1
  lia
 unfold atI;rw[e];show(xs++[v])[xs.length]? =some v;simp
def Dw (b:Rm):Prop:=∀o i,subscripted b false o i=operate [o,i] (getItem o i)
def IxR (X:Cx) (r:R2):Prop:=
 ∀(value Mw:Rm) (Mb:Rl (Rg×Obj)) (s:Rf) (σ:St) (H:Hp) (x y:V) (v u:OO) (Q:VK),Inv X Mb σ H s->av x v->av y u->r x y H Q->
  subscripted Mw false v u=operate [v,u] (getItem v u)->wpAny (model X.prog X.w) X.A (subscriptTail value Mw v u) (EP X Mb σ Q) X.xe s
def MtR (X:Cx) (id:String) (r:V->Rl V->Hp->VK->Prop):Prop:=
 ∀(Mb:Rl (Rg×Obj)) (s:Rf) (σ:St) (H:Hp) (x:V) (xs:Rl V) (v:OO) (us:Rl OO) (Q:VK),Inv X Mb σ H s->av x v->ap xs us->r x xs H Q->
  wpAny (model X.prog X.w) X.A (call (.builtin id) (v::us)) (EP X Mb σ Q) X.xe s
section
variable {X:Cx}{a b:Rm}{ta tb:TE}{pos:Pos}
theorem ao {r:R2} (hr:IxR X r) (ha:PE X a ta) (hb:PE X b tb) (hs:Dw b):PE X (.Subscript a b pos) (tOp r ta tb):=by
 intro Mb s σ H Q I h;exact Subscript_ (mF ha hb I h λv u s2 x y H2 I2 rx ry q=>hr a b Mb s2 σ H2 x y v u Q I2 rx ry q (hs _ _))
inductive rIxL (K:W.Frag) (x:V) (y:V) (H:Hp) (Q:VK):Prop
 |mk p xs i v:x= .ref p->y= .int i->SqL K H p xs->atI xs i=some v->Q v H->rIxL K x y H Q
inductive rIxT (K:W.Frag) (x:V) (y:V) (H:Hp) (Q:VK):Prop
 |mk p xs i v:x= .ref p->y= .int i->SqT K H p xs->atI xs i=some v->Q v H->rIxT K x y H Q
theorem ge:IxR X (rIxL X.K):=by
 intro value Mw Mb s σ H x y v u Q I rx ry h hs;obtain⟨p,xs,i,z,rfl,rfl,hq,he,q⟩:=h;cases rx;obtain⟨t,rfl⟩:=ry;obtain⟨Me,r,pl,hz⟩:=I.list hq;obtain⟨j,h1,h2,h3,h4,h5⟩:=r0 he;obtain⟨w,ew,ND⟩:=r.get h2;have hl:=r.length;have hn:=fZ;have fin:EP X Mb σ Q w s:=⟨z,H,I,ND,q⟩;by_cases h0:0<=i
 .have hj:i.toNat=j:=by
   rw[seqIndex_of h0 h5] at h1;exact Ak h1
  exact item_listR pl.isList h0 (by lia) (by rw[hj];simpa using ew) fin hs
 .have hj:(i+(Me.toArray.size:Int)).toNat=j:=by
   rw[seqIndex_neg (by lia) h4] at h1;rw[AG,<-hl];exact Ak h1
  exact subscriptTail_builtinR (x:=w) pl.isList.typeIs slot_list_getitem.lookup
   (wpAny_getItem_list_neg (Q:=λr s'=>r=w/\EP X Mb σ Q r s') pl.isList (by lia) (by rw[AG]<;>lia) (by lia) (by rw[hj];simpa using ew) ⟨rfl,fin⟩) hs
theorem br:IxR X (rIxT X.K):=by
 intro value Mw Mb s σ H x y v u Q I rx ry h hs;obtain⟨p,xs,i,z,rfl,rfl,hq,he,q⟩:=h;cases rx;obtain⟨t,rfl⟩:=ry;obtain⟨Me,r,pl,hz⟩:=I.tuple hq;obtain⟨j,h1,h2,h3,h4,h5⟩:=r0 he;obtain⟨w,ew,ND⟩:=r.get h2;have hl:=r.length;have hn:=fZ;have fin:EP X Mb σ Q w s:=⟨z,H,I,ND,q⟩;exact subscriptTail_builtinR (x:=w) pl.typeIs slot_tuple_getitem.lookup
  (getItem_tuple (j:=j) (Q:=λr s'=>r=w/\EP X Mb σ Q r s') pl (by lia) (by lia) (by rw[AG,<-hl];exact h1) (by simpa using ew) ⟨rfl,fin⟩) hs
theorem Dx (Me:Rl OO) (n j:Nat) (u:OO):Obj.mapSeq (·.setIfInBounds j u) {cls:= .type "list",data:= .seq Me.toArray n}={cls:= .type "list",data:= .seq (Me.set j u).toArray n}:=by
 simp[Obj.mapSeq]
theorem Inv.lst {Mb:Rl (Rg×Obj)}{σ:St}{H:Hp}{s:Rf}{p:Rg}{xs:Rl V} (I:Inv X Mb σ H s) (h:H p=some (.lst xs)):
  ∃(Me:Rl OO) (n:Nat),ap xs Me/\s.heap.get? p=some {cls:= .type "list",data:= .seq Me.toArray n}/\xs.length<=sizeLine:=by
 obtain⟨z,Me,n,r,e⟩:=I.hok p _ h;exact⟨Me,n,r,e,z⟩
theorem Inv.lstUpd {σ:St}{p:Rg}{ys:Rl V}{Me its':Rl OO}{n n':Nat}{f:Obj->Obj} (I:Inv X Mb σ H s) (h:H p=some (.lst xs))
  (ho:s.heap.get? p=some {cls:= .type "list",data:= .seq Me.toArray n}) (hf:f {cls:= .type "list",data:= .seq Me.toArray n}={cls:= .type "list",data:= .seq its'.toArray n'}) (r:ap ys its') (hz:ys.length<=sizeLine) (t:Nat):
  Inv X Mb σ (upd H p (.lst ys)) {s with heap:=s.heap.update p f,toks:=t}:=by
 have e:(s.heap.update p f).get? p=some {cls:= .type "list",data:= .seq its'.toArray n'}:=by
  rw[Bu f ho (by rw[hf]<;>rfl),hf]
 refine I.write (x:=p) (e:=p) (by rw[h];trivial) (.inl rfl) (λb u hb q=>(Heap.get?_update_other _ _ (DW hb)).trans q) ⟨_,e⟩ ?_;exact⟨hz,its',n',r,e⟩
inductive rSetL (o:V) (i:V) (v:V) (H:Hp) (Q:(Hp->Prop)):Prop
 |mk p xs k j:o= .ref p->i= .int k->H p=some (.lst xs)->ixN xs.length k=some j->Q (upd H p (.lst (xs.set j v)))->rSetL o i v H Q
theorem km:rk X rSetL:=by
 intro Mb s σ H o i v ov iv u Q I ro ri rv h;obtain⟨p,xs,k,j,rfl,rfl,hp,hj,q⟩:=h;cases ro;obtain⟨t,rfl⟩:=ri;obtain⟨Me,n,r,ho,hz⟩:=I.lst hp;obtain⟨h1,h2,h3,h4⟩:=rZ hj;have hl:=r.length;have hn:=fZ;have I':Inv X Mb σ (upd H p (.lst (xs.set j v))) {s with heap:=s.heap.update p (Obj.mapSeq (·.setIfInBounds j u))}:=
  I.lstUpd hp ho (Dx Me n j u) (r.set rv j) (by rw[By];exact hz) s.toks
 by_cases h0:0<=k
 .have hk:k.toNat=j:=by
   rw[seqIndex_of h0 h4] at h1;exact Ak h1
  exact W.ki_setAt ho h0 (by lia) (by rw[AG,<-hl];exact h4) (by rw[hk];exact⟨_,I',q⟩)
 .have hk:(k+(Me.toArray.size:Int)).toNat=j:=by
   rw[seqIndex_neg (by lia) h3] at h1;rw[AG,<-hl];exact Ak h1
  exact W.ki_setBack ho (by lia) (by rw[AG,<-hl];exact h3) (by lia) (by rw[hk];exact⟨_,I',q⟩)
theorem Dy (lo hi:Rp Int) (n:Nat):(sliceBounds lo hi none n).1=((HT.sIx n 0 lo:Nat):Int)/\(sliceBounds lo hi none n).2.1=((HT.sIx n n hi:Nat):Int)/\(sliceBounds lo hi none n).2.2=1:=by
 refine⟨?_, ?_,rfl⟩
 .cases lo with
  |none=>simp[sliceBounds,HT.sIx]
  |some i=>
   simp only[sliceBounds,HT.sIx,Option.getD_none,show(1:Int)>0 by decide,C8];by_cases h:i<0
   .simp only[h,C8]<;>lia
   .simp only[h,An]<;>lia
 .cases hi with
  |none=>simp[sliceBounds,HT.sIx]
  |some i=>
   simp only[sliceBounds,HT.sIx,Option.getD_none,show(1:Int)>0 by decide,C8];by_cases h:i<0
   .simp only[h,C8]<;>lia
   .simp only[h,An]<;>lia
theorem Dz (Me:Rl OO) (lo hi:Rp Int):slicePick Me.toArray lo hi none=((Me.drop (HT.sIx Me.length 0 lo)).take (HT.sIx Me.length Me.length hi-HT.sIx Me.length 0 lo)).toArray:=by
 obtain⟨h1,h2,h3⟩:=Dy lo hi Me.toArray.size;unfold slicePick;rw[h1,h2,h3];simp only[sliceRange_one,pick_run,AG]<;>rfl
inductive rSlL (K:W.Frag) (x:V) (lo:Option Int) (hi:Option Int) (H:Hp) (Q:VK):Prop
 |mk a xs:x= .ref a->SqL K H a xs->(∀p,H p=none->Q (.ref p) (upd H p (.lst (bT xs lo hi))))->rSlL K x lo hi H Q
theorem eW:SlR X (rSlL X.K):=by
 intro Mb s σ H x v vl vu lo hi sl Q I rx hs pl pu h;obtain⟨a,xs,rfl,hx,q⟩:=h;cases rx;obtain⟨Me,r,ht,hz⟩:=I.list hx;have Mg:=r.length;refine⟨"list",_,slot_list_getitem.lookup,ht.isList.typeIs, ?_⟩;refine wpAny_getItem_list_slice ht.isList hs pl pu .none (by simp) ?_ (by rw[AG]<;>lia)
 rw[Dz,<-Mg];refine⟨.ref s.heap.objs.size,_,I.laid (t':=s.toks) (o:= .lst (bT xs lo hi)) (λb ob q=>A4 _ q) (AB _) ?_,rfl,q _ (I.hok.fresh (AB _))⟩;exact⟨BH (rY xs lo hi) hz,_,0,(r.drop (HT.sIx xs.length 0 lo)).take (HT.sIx xs.length xs.length hi-HT.sIx xs.length 0 lo),AH _ rfl⟩
theorem dE:bW X (.builtin "len") (λxs H Q=>∃p ys,xs=[.ref p]/\(SqL X.K H p ys\/SqT X.K H p ys)/\Q (.int ys.length) H):=by
 intro Mb s σ H xs us Q I r h;obtain⟨p,ys,rfl,hq,q⟩:=h;obtain⟨u,rfl,rx⟩:=cU r;cases rx;have hn:=fZ;rcases hq with hq|hq
 .obtain⟨Me,r',pl,hz⟩:=I.list hq;have Mg:=r'.length;exact Calls.call_len_list pl.isList (by simp only[AG]<;>lia) ⟨.int ys.length,H,I.tok _,⟨s.toks+1,by rw[AG,Mg]⟩,q⟩
 .obtain⟨Me,r',pl,hz⟩:=I.tuple hq;have Mg:=r'.length;exact len_tuple pl (by simp only[AG]<;>lia) ⟨.int ys.length,H,I.tok _,⟨s.toks+1,by rw[AG,Mg]⟩,q⟩
theorem r6:bW X (.type "list") (λxs H Q=>∃p ys,xs=[.ref p]/\(SqL X.K H p ys\/SqT X.K H p ys)/\∀l,H l=none->Q (.ref l) (upd H l (.lst ys))):=by
 intro Mb s σ H xs us Q I r h;obtain⟨p,ys,rfl,hq,q⟩:=h;obtain⟨u,rfl,rx⟩:=cU r;cases rx;have fin:∀(Me:Rl OO),ap ys Me->ys.length<=sizeLine->∀(h':Rn) (c':Nat),(∀b o',s.heap.get? b=some o'->h'.get? b=some o')->
   h'.get? s.heap.objs.size=some {cls:= .type "list",dict:=none,data:= .seq Me.toArray c',slots:= #[]}->EP X Mb σ Q (.ref s.heap.objs.size) {s with heap:=h'}:=λMe r' hz h' c' kp e=>
  ⟨.ref s.heap.objs.size,_,I.laid (t':=s.toks) kp (AB _) (show aG X.prog X.w _ h' _ (.lst ys) from⟨hz,Me,c',r',e⟩),rfl,q _ (I.hok.fresh (AB _))⟩
 rcases hq with hq|hq
 .obtain⟨Me,r',pl,hz⟩:=I.list hq;have Mg:=r'.length;obtain⟨o,ho,hc,n,hd⟩:=pl.isList;exact call_list_seq p (.inl rfl) ho hc hd (λh' c' kp e=>fin Me r' hz h' c' kp e) (by simp only[AG]<;>lia)
 .obtain⟨Me,r',pl,hz⟩:=I.tuple hq;have Mg:=r'.length;obtain⟨o,ho,hc,n,hd⟩:=pl;exact call_list_seq p (.inr rfl) ho hc hd (λh' c' kp e=>fin Me r' hz h' c' kp e) (by simp only[AG]<;>lia)
theorem Ea:bW X (.type "tuple") (λxs H Q=>∃p ys,xs=[.ref p]/\((SqL X.K H p ys/\∀l,H l=none->Q (.ref l) (upd H l (.tup ys)))\/(SqT X.K H p ys/\Q (.ref p) H))):=by
 intro Mb s σ H xs us Q I r h;obtain⟨p,ys,rfl,h⟩:=h;obtain⟨u,rfl,rx⟩:=cU r;cases rx;rcases h with⟨hq,q⟩|⟨hq,q⟩
 .obtain⟨Me,r',pl,hz⟩:=I.list hq;have Mg:=r'.length;refine call_tuple_list pl.isList (λh' kp=> ?_) (by simp only[AG]<;>lia)
  have I1:Inv X Mb σ H {s with heap:=h'}:=I.kept (t':=s.toks) kp;have I2:Inv X Mb σ (upd H h'.objs.size (.tup ys)) {s with heap:=h'.push {cls:= .type "tuple",data:= .seq Me.toArray}}:=
   I1.laid (t':=s.toks) (λb o e=>A4 _ e) (AB _) (show aG X.prog X.w _ _ _ (.tup ys) from⟨hz,Me,r',IsTup.new _ _⟩)
  exact⟨.ref h'.objs.size,_,I2,rfl,q _ (I1.hok.fresh (AB _))⟩
 .obtain⟨Me,r',pl,hz⟩:=I.tuple hq;exact call_tuple_same pl ⟨.ref p,H,I,rfl,q⟩
def tyV (K:W.Frag) (T:String) (x:V) (H:Hp):Prop:=match x with
 | .str _=>T="str"
 | .int _=>T="int"
 | .ref p=>(T="list"/\∃xs,SqL K H p xs)\/(T="tuple"/\∃o,K.lookup p=some o/\o.cls= .type "tuple"/\o.dict=none)\/
   (T="dict"/\((∃Mc,H p=some (.dK Mc))\/∃Mc,H p=some (.dT Mc)))\/(T="set"/\∃S n,H p=some (.set S n))
 |_=>False
theorem r9 {σ:St}{T:String}{x:V}{v:OO} (I:Inv X Mb σ H s) (r:av x v) (ty:tyV X.K T x H):
  s.TypeIs v T/\∀a,v= .ref a->∃ob,s.heap.get? a=some ob/\ob.dict=none:=by
 cases x with
 |str z=>
  obtain⟨t,rfl⟩:=r;cases (show T="str" from ty);exact⟨typeIs_str s z t,λ_ e=>nomatch e⟩
 |int i=>
  obtain⟨t,rfl⟩:=r;cases (show T="int" from ty);exact⟨typeIs_int s i t,λ_ e=>nomatch e⟩
 |ref p=>
  cases r;rcases ty with⟨rfl,xs,hq⟩|⟨rfl,o,hk,hc,hd⟩|⟨rfl,hk⟩|⟨rfl,S,n,hk⟩
  .obtain⟨Me,_,pl,_⟩:=I.list hq;refine⟨pl.isList.typeIs,λa e=> ?_⟩;cases e;obtain⟨o,n,e,c,hd,_⟩:=pl;exact⟨o,e,hd⟩
  .refine⟨⟨o,I.kIn p o hk,hc⟩,λa e=> ?_⟩;cases e;exact⟨o,I.kIn _ o hk,hd⟩
  .have z:∃o,s.heap.get? p=some o/\o.ExactDict:=by
    rcases hk with⟨Mc,hk⟩|⟨Mc,hk⟩
    .obtain⟨_,_,_,_,o,_,_,e,ex,_⟩:=I.hok p _ hk;exact⟨o,e,ex⟩
    .obtain⟨_,_,_,_,o,_,_,e,ex,_⟩:=I.hok p _ hk;exact⟨o,e,ex⟩
   obtain⟨o,e,ex⟩:=z;refine⟨⟨o,e,ex.1⟩,λa e2=> ?_⟩;cases e2;exact⟨o,e,ex.2.1⟩
  .obtain⟨o,_,_,_,e,ex,_⟩:=I.hok p _ hk;refine⟨⟨o,e,ex.1⟩,λa e2=> ?_⟩;cases e2;exact⟨o,e,ex.2.1⟩
 |_=>exact False.elim ty
def Eb (K:W.Frag) (T:String) (r:V->Rl V->Hp->VK->Prop) (to:TE):TE:=λσ H Q=>to σ H λx H1=>tyV K T x H1/\r x [] H1 Q
def tBM (K:W.Frag) (T:String) (r:V->Rl V->Hp->VK->Prop) (to:TE) (t:TA):TE:=λσ H Q=>to σ H λx H1=>tyV K T x H1/\t σ H1 λxs H2=>r x xs H2 Q
variable {o e:Rm}{es:Rl Rm}{to:TE}{t:TA}{name:Str}{Mv Mn:Pos}{T id:String}{r:V->Rl V->Hp->VK->Prop}
theorem Ec (pa:PlainAttrs T) (slot:Slot T name id) (hty:typeOf (.builtin id)=pure (.type "method_descriptor")) (hm:MtR X id r) (ho:PE X o to)
  (NU:attributeBase o name X.env (eval o X.env)=eval o X.env:=by rfl) (NV:(Mv.endLine==Mn.line)=true:=by rfl):PE X (.Call (.Attribute o name Mv) [] [] Mn) (Eb X.K T r to):=by
 intro Mb s σ H Q I h;refine wpAny_Call_method0_late NU NV (thn (ho Mb s σ H _ I h) λv s1 zu35=> ?_);obtain⟨x,H1,I1,r1,ty,q1⟩:=zu35;obtain⟨h1,h2⟩:=r9 I1 r1 ty;exact⟨T,id,pa,slot,hty,h1,h2,DJ rfl (PySem.evalArgs_none (hm Mb s1 σ H1 x [] v [] Q I1 r1 .nil q1))⟩
theorem cq (pa:PlainAttrs T) (slot:Slot T name id) (hty:typeOf (.builtin id)=pure (.type "method_descriptor")) (hm:MtR X id r) (ho:PE X o to) (ha:PA X (e::es) t)
  (NU:attributeBase o name X.env (eval o X.env)=eval o X.env:=by rfl)
  (hfew:((backTo Mn (starEach (e::es) X.env)).all (λx=> !x.1)&&(backToKw Mn (keywordEach [] X.env)).all (λx=>x.1.isSome)
   &&decide ((e::es).length+([]:Rl Keyword).length+(if([]:Rl Keyword).isEmpty then 0 else 1)<30))=true:=by rfl)
  (NV:(Mv.endLine==Mn.line)=true:=by rfl) (hs:starEach (e::es) X.env=(false,eval e X.env)::starEach es X.env:=by rfl) (Qp:(backTo Mn (starEach es X.env)).any (·.1)=false:=by rfl):
  PE X (.Call (.Attribute o name Mv) (e::es) [] Mn) (tBM X.K T r to t):=by
 intro Mb s σ H Q I h;refine wpAny_Call_method_late NU hfew NV rfl (thn (ho Mb s σ H _ I h) λv s1 zu36=> ?_);obtain⟨x,H1,I1,r1,ty,q1⟩:=zu36;obtain⟨h1,h2⟩:=r9 I1 r1 ty;refine⟨T,id,pa,slot,hty,h1,h2, ?_⟩;have hA:=ha Mn Mb s1 σ H1 _ I1 q1;rw[hs] at hA⊢;refine DJ (by show(false||(backTo Mn (starEach es X.env)).any (·.1))=false;rw[Qp]<;>rfl) (Calls.evalArgs_plain ?_)
 exact thn hA λus s2 Ms=>by obtain⟨vs,H2,I2,r2,q2⟩:=Ms;exact hm Mb s2 σ H2 x vs v us Q I2 r1 r2 q2
end
def MtM (X:Cx) (id:String) (r:V->Rl V->Hp->VK->Prop):Prop:=
 ∀(Mb:Rl (Rg×Obj)) (s:Rf) (σ:St) (H:Hp) (x:V) (xs:Rl V) (v:OO) (us:Rl OO) (Q:VK),Inv X Mb σ H s->av x v->ap xs us->r x xs H Q->
  wpAny (model X.prog X.w) X.A (call (.builtin id) (v::us)) (EP X Mb σ Q) X.xe s
theorem ap.one:∀{x:V}{us:Rl OO},ap [x] us->∃u,us=[u]/\av x u:=by
 intro x us h;cases h with|cons r t=>cases t;exact⟨_,rfl,r⟩
def ap.zero:∀{us:Rl OO},ap [] us->us=[]
 |_, .nil=>rfl
theorem ap.dropLast {xs:Rl V}{us:Rl OO} (h:ap xs us):ap xs.dropLast us.dropLast:=by
 induction h with
 |nil=>exact .nil
 |cons r t ih=>
  cases t with
  |nil=>exact .nil
  |cons q t'=>exact .cons r ih
theorem ap.reverse {xs:Rl V}{us:Rl OO} (h:ap xs us):ap xs.reverse us.reverse:=by
 induction h with
 |nil=>exact .nil
 |cons r t ih=>rw[List.reverse_cons,List.reverse_cons];exact ap.append ih (.cons r .nil)
theorem ap.rep {xs:Rl V}{us:Rl OO} (h:ap xs us):∀k:Nat,ap (List.replicate k xs).flatten (List.replicate k us).flatten
 |0=> .nil
 |k+1=>by
  rw[At,At,CQ,CQ];exact ap.append h (ap.rep h k)
theorem Ed {α:Type} (l:Rl α):l.eraseIdx (l.length-1)=l.dropLast:=by
 induction l with
 |nil=>rfl
 |cons a r ih=>
  cases r with
  |nil=>rfl
  |cons b r=>
   have e:(a::b::r).length-1=((b::r).length-1)+1:=by
    have h1:(a::b::r).length=r.length+2:=rfl;have h2:(b::r).length=r.length+1:=rfl;lia
   rw[e,List.eraseIdx_cons_succ,ih];all_goals rfl
theorem si (Me:Rl OO):∀(k:Nat) (acc:Rl OO),
  List.foldl (λx1 x2=>x1++x2) acc.toArray (List.replicate k Me.toArray)=(acc++(List.replicate k Me).flatten).toArray
 |0,acc=>by simp
 |k+1,acc=>by
  have e:acc.toArray++Me.toArray=(acc++Me).toArray:=by simp
  have e2:(acc++Me)++(List.replicate k Me).flatten=acc++(List.replicate (k+1) Me).flatten:=by
   rw[At,CQ,BG]
  rw[<-e2,<-si Me k (acc++Me),<-e,At,Bz]
section
variable {X:Cx}{Mb:Rl (Rg×Obj)}{σ:St}{H:Hp}{s:Rf}{l b:Rg}{xs ys zs:Rl V}
theorem Inv.lset {Me its':Rl OO}{n:Nat}{f:Array OO->Array OO}{t':Nat} (I:Inv X Mb σ H s) (hH:H l=some (.lst xs))
  (e:s.heap.get? l=some {cls:= .type "list",data:= .seq Me.toArray n}) (hf:f Me.toArray=its'.toArray) (hv:ap ys its') (hz:ys.length<=sizeLine):
  Inv X Mb σ (upd H l (.lst ys)) {s with heap:=s.heap.update l (Obj.mapSeq f),toks:=t'}:=by
 have q:=PySem.IsL.update e f;rw[hf] at q;refine I.write (x:=l) (e:=l) (by rw[hH];exact trivial) (.inl rfl) (λb' u hb hu=>(Heap.get?_update_other s.heap (Obj.mapSeq f) (DW hb)).trans hu) ⟨_,q⟩ ?_;exact⟨hz,its',_,hv,q⟩
def Inv.lnew {Me:Rl OO}{t':Nat} (I:Inv X Mb σ H s) (hv:ap ys Me) (hz:ys.length<=sizeLine):
  Inv X Mb σ (upd H s.heap.objs.size (.lst ys)) {s with heap:=s.heap.push {cls:= .type "list",data:= .seq Me.toArray},toks:=t'}:=
 I.laid (λ_ _ q=>A4 _ q) (AB _) ⟨hz,Me,0,hv,AH _ rfl⟩
theorem Inv.fresh (I:Inv X Mb σ H s):H s.heap.objs.size=none:=I.hok.fresh (AB _)
theorem Inv.lstM (I:Inv X Mb σ H s) (hH:H l=some (.lst xs)):xs.length<=sizeLine/\∃(Me:Rl OO) (n:Nat),ap xs Me/\xs.length=Me.length/\s.heap.get? l=some {cls:= .type "list",data:= .seq Me.toArray n}:=by
 obtain⟨z,Me,n,r,e⟩:=I.hok l _ hH;exact⟨z,Me,n,r,r.length,e⟩
theorem sj (h:n<=sizeLine):Builtin.List.listTooLong n=false:=by
 unfold Builtin.List.listTooLong;exact Aj (by lia)
end
section
variable {X:Cx}
inductive rAppend (x:V) (vs:List V) (H:Hp) (Q:VK):Prop
 |mk l xs y:x= .ref l->vs=[y]->H l=some (.lst xs)->xs.length<sizeLine->Q .non (upd H l (.lst (xs++[y])))->rAppend x vs H Q
theorem dF:MtM X "list.append" rAppend:=by
 intro Mb s σ H x vs v us Q I rx rv h;obtain⟨l,xs,y,rfl,rfl,hH,hz,q⟩:=h;cases rx;obtain⟨u,rfl,ru⟩:=rv.one;obtain⟨z,Me,n,r,hl,e⟩:=I.lstM hH;refine Dh F.slot_list_append ⟨_,e,rfl⟩ F.entry_list_append (F.args_list_append_2 _ _) (PySem.list_append l Me.toArray n u (by rw[AG];lia)) ⟨e, ?_⟩;refine⟨.non,_,I.lset (its':=Me++[u]) hH e (by simp) (r.append (.cons ru .nil)) ?_,rfl,q⟩;rw[AE,Ba];lia
inductive rExtend (x:V) (vs:List V) (H:Hp) (Q:VK):Prop
 |mk l b xs zs:x= .ref l->vs=[.ref b]->H l=some (.lst xs)->H b=some (.lst zs)->xs.length+zs.length<=sizeLine->Q .non (upd H l (.lst (xs++zs)))->rExtend x vs H Q
theorem iV:MtM X "list.extend" rExtend:=by
 intro Mb s σ H x vs v us Q I rx rv h;obtain⟨l,b,xs,zs,rfl,rfl,hH,hB,hz,q⟩:=h;cases rx;obtain⟨u,rfl,ru⟩:=rv.one;cases ru;obtain⟨z,Me,n,r,hl,e⟩:=I.lstM hH;obtain⟨z2,NC,n2,r2,Mq,e2⟩:=I.lstM hB;have hsz:Me.toArray.size+NC.toArray.size<=sizeLine:=by rw[AG,AG];lia
 have OJ:¬(!Me.toArray.isEmpty&&Builtin.List.listTooLong (Me.toArray.size+NC.toArray.size))=true:=by
  rw[sj hsz,Cd];exact AY
 refine Dh F.slot_list_extend ⟨_,e,rfl⟩ F.entry_list_extend (F.args_list_extend_2 _ _)
  (AutoSeq1.list_extend_list_list_0 l Me.toArray n b NC.toArray n2 OJ (by rw[AG];lia) (by lia)) ⟨e,e2, ?_⟩
 refine⟨.non,_,I.lset (its':=Me++NC) hH e (by simp) (r.append r2) ?_,rfl,q⟩;rw[AE];lia
inductive rPop (x:V) (vs:List V) (H:Hp) (Q:VK):Prop
 |mk l xs y:x= .ref l->vs=[]->H l=some (.lst xs)->xs[xs.length-1]? =some y->Q y (upd H l (.lst xs.dropLast))->rPop x vs H Q
theorem Ee:MtM X "list.pop" rPop:=by
 intro Mb s σ H x vs v us Q I rx rv h;obtain⟨l,xs,y,rfl,rfl,hH,hy,q⟩:=h;cases rx;have hus:=rv.zero;subst hus;obtain⟨z,Me,n,r,hl,e⟩:=I.lstM hH;obtain⟨u,hu,ru⟩:=r.get hy;have M0:Me.toArray[Me.toArray.size-1]? =some u:=by
  show Me.toArray[Me.length-1]? =some u;rw[<-Bb,<-hl];exact hu
 refine Dh F.slot_list_pop ⟨_,e,rfl⟩ F.entry_list_pop (F.args_list_pop_1 _) (MeetsSeq.list_pop_last l Me.toArray n u M0 (by rw[AG];lia)) ⟨e, ?_⟩;refine⟨y,_,I.lset (its':=Me.dropLast) hH e ?_ r.dropLast ?_,ru,q⟩
 .show Me.toArray.eraseIdxIfInBounds (Me.toArray.size-1)=Me.dropLast.toArray;rw[AG,List.eraseIdxIfInBounds_toArray,Ed]
 .rw [List.length_dropLast];lia
inductive rCat (x:V) (y:V) (H:Hp) (Q:VK):Prop
 |mk l b xs zs:x= .ref l->y= .ref b->H l=some (.lst xs)->H b=some (.lst zs)->xs.length+zs.length<=sizeLine->(∀p,H p=none->Q (.ref p) (upd H p (.lst (xs++zs))))->rCat x y H Q
theorem gP:OpR X (binaryOp .Add) rCat:=by
 intro Mb s σ H x y v u Q I rx ry h;obtain⟨l,b,xs,zs,rfl,rfl,hH,hB,hz,q⟩:=h;cases rx;cases ry;obtain⟨z,Me,n,r,hl,e⟩:=I.lstM hH;obtain⟨z2,NC,n2,r2,Mq,e2⟩:=I.lstM hB;refine PySem.P.add_list e e2 ?_ (by rw[AG,AG];lia);have ea:Me.toArray++NC.toArray=(Me++NC).toArray:=by simp
 rw[ea];exact⟨.ref _,_,I.lnew (t':=s.toks) (r.append r2) (by rw[AE];lia),rfl,q _ I.fresh⟩
inductive rRep (x:V) (y:V) (H:Hp) (Q:VK):Prop
 |mk l k xs:x= .ref l->y= .int k->H l=some (.lst xs)->-(2^63)<=k->k<2^63->xs.length*k.toNat<=sizeLine->(∀p,H p=none->Q (.ref p) (upd H p (.lst (List.replicate k.toNat xs).flatten)))->rRep x y H Q
theorem Ef {α:Type} (xs:Rl α) (k:Nat):(List.replicate k xs).flatten.length=k*xs.length:=by
 induction k with
 |zero=>simp
 |succ k ih=>rw[At,CQ,AE,ih,Cf,Nat.add_comm]
theorem iW:OpR X (binaryOp .Mult) rRep:=by
 intro Mb s σ H x y v u Q I rx ry h;obtain⟨l,k,xs,rfl,rfl,hH,h1,h2,hz,q⟩:=h;cases rx;obtain⟨t,rfl⟩:=ry;obtain⟨z,Me,n,r,hl,e⟩:=I.lstM hH;have Mg:Me.toArray.size*k.toNat<=sizeLine:=by rw[AG,<-hl];exact hz
 have N7:¬Me.toArray.size*k.toNat>(2^63-1)/8:=by
  have:(sizeLine:Nat)<=(2^63-1)/8:=by decide
  lia
 have hfit:¬(!Builtin.List.listFitsIndex k)=true:=by
  rw[fitsIndex_both h1 h2];exact AY
 have OJ:¬Builtin.List.listTooLong (Me.toArray.size*k.toNat)=true:=by
  rw[sj Mg];exact AY
 have hnew:List.foldl (λx1 x2=>x1++x2) #[] (List.replicate (if Me.toArray.isEmpty=true then 0 else k.toNat) Me.toArray)=(List.replicate k.toNat Me).flatten.toArray:=by
  have f0:∀m:Nat,List.foldl (λx1 x2=>x1++x2) #[] (List.replicate m Me.toArray)=(List.replicate m Me).flatten.toArray:=λm=>by
   have:=si Me m [];rw[List.nil_append] at this;exact this
  rw[f0];cases Me with
  |nil=>simp
  |cons a r'=>rw[A5 (by simp)]
 refine wpAny_binaryOp_repeat_ref (T:="list") (U:="int") (by decide) ⟨_,e,rfl⟩ (λs'=>typeIs_int s' k t) noFill_list_mul F.fills_int_mul F.slot_int_rmul repeat_list F.slot_int_index.lookup
  (Dh F.slot_int_rmul (typeIs_int s k t) F.entry_int_rmul (F.args_int_rmul_2 _ _) (int___rmul___int_list k t l Me.toArray n)
   ⟨e,rfl,⟨_,e,rfl⟩,Dh F.slot_list_mul ⟨_,e,rfl⟩ F.entry_list_mul (F.args_list_mul_2 _ _) (AutoListH.list___mul___list_int_3 l Me.toArray n k t hfit N7 OJ) ⟨e, ?_⟩⟩)
 rw[hnew];exact⟨.ref _,_,I.lnew (t':=s.toks) (r.rep k.toNat) (by rw[Ef,Nat.mul_comm];exact hz),rfl,q _ I.fresh⟩
end
end L2
namespace Att
open PySem PySem.W PySem.Calls PyProof.Rows
variable {P:Params}{h:Rn}{l:OpenLaw}{n:Nat}
theorem Eg :∀(ns:Rl Int) (vs:Rl OO),WellAll P h vs (ns.map WData.int)->IntsAre vs ns:=by
 intro ns;induction ns with
 |nil=>
  intro vs w;rw[DX] at w;cases w;exact .nil
 |cons n ns ih=>
  intro vs w;rw[AL] at w;cases w with
  |cons a b=>
   cases a;exact .cons _ _ (ih _ b)
theorem Eh (hn:l.most=some n) {args:Rl WData}{Qq:Rl OO}
  (Pq:l.row.toRowW.claim.pre args=true) (hwl:WellAll P h Qq args):
  ∃a vs ns,Qq=[Value.ref a]/\args=[WData.list (ns.map WData.int)]/\h.get? a=some {cls:= .type "list",data:= .seq vs.toArray}/\IntsAre vs ns/\ns.length<=n:=by
 have Qr:WShape.hasAll [] args [.list .int]=true:=(pre_splitW Pq).1;have hc:l.pre.holds [] {args:=args}=true:=(pre_splitW Pq).2;obtain⟨d,r,rfl,h1,h2⟩:=hasAllW_cons Qr;obtain rfl:=hasAllW_nil h2;obtain⟨xs,rfl,h3⟩:=hasW_list h1;obtain⟨ns,rfl⟩:=items_int h3;have Mg:ns.length<=n:=by
  unfold OpenLaw.pre at hc;have h4:(WTm.not (.lt (.lit (.int (n:Int))) (.len (.arg 0)))).holds [] {args:=[.list (ns.map .int)]}=true:=by
   have h4:=(holds_andW hc).1;rw[hn] at h4;exact h4
  have h5:=condW_of h4 (w_not (w_lt w_lit (w_len_list (w_arg rfl))));rw[A1] at h5;refine Nat.le_of_not_lt λq=> ?_;have q':(n:Int)<((ns.length:Nat):Int):=by lia
  first
   |(rw[Ar q'] at h5;exact absurd h5 (by decide))
   |(simp at h5;lia)
 cases hwl with
 |cons w1 w2=>
  cases w2;cases w1 with
  |list ho MC=>exact⟨_,_,ns,rfl,rfl,ho,Eg ns _ MC,Mg⟩
theorem Ei (l:OpenLaw) (args:Rl WData):l.row.toRowW.claim.post args (.bool true) args=true:=
 postW_of (r:=l.row.toRowW) (X:=(true==true))
  (show WShape.has [] (.bool true) .bool=true by first|rfl|decide|simp[WShape.has,WShape.arms,WShape.armsAll])
  (show(WTm.eq .res (.lit (.bool true))).value [] {args:=args,res:=some (.bool true),after:=args}=some (.bool (true==true)) from w_eq_bool (w_res rfl) w_lit) rfl
theorem attach_call {q:Rh}{Nw:Rl Str}{XP:(Str->Rp OO)->Rn->Prop}{YP:Rj->Rn->Prop}{d:DefRec}
  (hn:l.most=some n) (hdf:d.params.defaults=[])
  (call:∀(w:Rj) (s₀ s₁:Rf) (mg mb:Str->Rp OO) (fa:Rg) (o:Obj) (pm cd NM:OO) (a:Rg) (vs:Rl OO) (ns:Rl Int),
   Ground q Nw [] XP w s₀ mg mb s₁.heap->YP w s₁.heap->
   s₁.heap.get? fa=some o->o.data= .func (docDef d.name d.params d.body d.scope pm cd NM)->s₁.heap.CodeRec cd d.name->mg d.name=some (.ref fa)->
   s₁.heap.get? a=some {cls:= .type "list",data:= .seq vs.toArray}->IntsAre vs ns->ns.length<=n->s₁.gens= #[]->
   codeAny (model l.prog w) callerA (.call (.ref fa) ⟨[.ref a],[]⟩) (λr s'=>r= .ok (.ret (.bool true))/\OldK s₁.heap s'.heap/\s'.os=s₁.os/\AllBare s'.gens) s₁):
  WalkO q Nw XP YP l.row.toRowW d [] (λf vs=>PySem.call f vs):=by
 intro w s₀ s₁ mg mb G Y fa o pm cd NM dV kV ho hd OI hD hmg hg args Qq as Pq hlay hrd hwl hlo;obtain rfl:dV= .none:=Dflts.none hD hdf;obtain rfl:kV= .none:=Dflts.noKw hD;obtain⟨a,vs,ns,rfl,rfl,Qs,OK,Mg⟩:=Eh hn Pq hwl;refine enter_call (codeAny_mono (call w s₀ s₁ mg mb fa o pm cd NM a vs ns G Y ho (fd_plain hd) OI hmg Qs OK Mg hg) λr s' hq=> ?_);obtain⟨rfl,h2,h3,h4⟩:=hq;exact⟨.inl ⟨.bool true, .bool true,[],rfl,λ_=>rfl, .bool true,Ei l _,λ_=>⟨List.Pairwise.nil,λ_ hm=>(nomatch hm)⟩⟩,h2,h3,h4⟩
section
variable {prog:Rh}{w:Rj}{A:Rk}{E:OO->Rf->Prop}{s:Rf}{K:Frag}
def L' (h:Rn) (L d:Rg):Rl (Rg×Obj):=(List.range h.objs.size).filterMap λa=>if a=L\/a=d then none else(h.get? a).map λo=>(a,o)
end
end Att
namespace L2
open PySem PySem.Spec PyProof.Rows
variable {A B c:Prop}{E Q:OO->Rf->Prop}{H H':Hp}{K:W.Frag}{M':List Expr}{Mb:Rl (Rg×Obj)}{Mc:Rl (Rl Key×V)}{Mj x:Str}{N ps:Rl Str}{Nq:Expr}{OL pos py:Pos}{P:Rh}{X:Cx}{a acc b f l:Rg}{d i k n own:Nat}{e:Bool}{env:Env}{fd:Ri}{g:TG}{h':Rn}{j:Int}{js:Rl Nat}{o:Rp V}{s:Rf}{scope:Scope}{st:Rq}{te:TE}{tg:Rm}{u:OO}{v y:V}{w:Rj}{xs:Rl (Rl Key×Rg×OO)}
theorem Ej:∀{vs:Rl OO}{ns:Rl Int},IntsAre vs ns->ap (ns.map V.int) vs:=by
 intro vs ns h;induction h with
 |nil=>exact .nil
 |cons n t h ih=>exact .cons ⟨t,rfl⟩ ih
def mM (H:Hp):Prop:=∀b,H b=none\/∃o xs,H b=some (.frz o (.lst xs))
theorem Ek {P:Rh}{w:Rj}{mg mb:Str->Rp OO}{CX:CXT}{k:Nat}{fa:Rg}{fd:Ri}{sp:Sp}{s₁:Rf}{vs:Rl OO}{ns:Rl Int}
  (KX:K.In s₁.heap) (hns:s₁.heap.Ns mainGlobals mg) (hb:s₁.heap.Ns builtinsNs mb) (hbb:∀x:Str,x≠"__name__"->mb x=bootBuiltins x) (hlim:s₁.heap.NoLimit) (hg:s₁.gens= #[])
  (ha:s₁.heap.get? a=some {cls:= .type "list",data:= .seq vs.toArray}) (hi:IntsAre vs ns) (hl:ns.length<=sizeLine) (hr:Room k callerA)
  (F:∀base:Rn,K.In base->base.Ns mainGlobals mg->FnOk P w K mg base CX k fa fd [x] sp) (hbind:∀(s:Rf) (u:OO),BindsTo s fd ⟨[u],[]⟩ [(x,u)])
  (P1:∀H:Hp,mM H->SqL K H a (ns.map V.int)->sp [.ref a] H (λv _=>v= .bl true) λ_ _ _=>False)
  (hCX:∀H e s',CX [] H s₁ (λ_ _ _=>False) e s'->False):
  codeAny (model P w) callerA (.call (.ref fa) ⟨[.ref a],[]⟩) (λr s'=>r= .ok (.ret (.bool true))/\OldK s₁.heap s'.heap/\s'.os=s₁.os/\AllBare s'.gens) s₁:=by
 have rv:=Ej hi;have lenV:=hi.length;have core:∀H:Hp,mM H->SqL K H a (ns.map V.int)->HOk P w H s₁.heap->(∀b,H b≠none->b=a)->(H a≠none->K.lookup a=none)->
   codeAny (model P w) callerA (.call (.ref fa) ⟨[.ref a],[]⟩) (λr s'=>r= .ok (.ret (.bool true))/\OldK s₁.heap s'.heap/\s'.os=s₁.os/\AllBare s'.gens) s₁:=by
  intro H hO hS hok hA hK;have base_of:∀{b:Rg}{o:Obj},s₁.heap.get? b=some o->H b=none->(eR s₁.heap H).get? b=some o:=λe n=>y4 e n;have noA:∀{b:Rg}{o:Obj}{es:Array DictEntry}{ep:Nat},s₁.heap.get? b=some o->o.data= .dict es ep->H b=none:=fun{b o es ep} e d=>by
   cases q:H b with
   |none=>rfl
   |some u=>
    have e':b=a:=hA b (by rw[q];simp);subst e';rw[ha] at e;cases e;have d':Data.seq vs.toArray _=Data.dict es ep:=d;cases d'
  have nsK:∀{b:Rg}{m:Str->Rp OO},s₁.heap.Ns b m->(eR s₁.heap H).Ns b m:=fun{b m} Ms=>by obtain⟨o,es,ep,e,d,r⟩:=Ms;exact⟨o,es,ep,base_of e (noA e d),d,r⟩
  have hKb:K.In (eR s₁.heap H):=λb o e=>base_of (KX b o e) (by
   cases q:H b with
   |none=>rfl
   |some u=>
    have e':b=a:=hA b (by rw[q];simp);subst e';rw[hK (by rw[q];simp)] at e;cases e)
  have hM:Mod K mg (eR s₁.heap H):=⟨hKb,nsK hns,⟨mb,nsK hb,hbb⟩,let ⟨mc,h1,h2⟩:=hlim;⟨mc,nsK h1,h2⟩⟩;have e0:Env0 P w K mg (eR s₁.heap H) callerA [] s₁ H:=⟨rfl,hM,λb o e=>y6 e,Nat.le_of_eq (y3 _ _),trivial,λb hb=>absurd (show b∈([]:Rl Rg) from hb) (by simp),hok, .of_eq hg⟩;refine codeAny_mono ((F _ hKb (nsK hns)).run callerA [] s₁ H ⟨[.ref a],[]⟩ [.ref a] [.ref a] _ _ hr e0 (hbind s₁ (.ref a)) (.cons rfl .nil) (P1 H hO hS)) λr s' h=> ?_;cases r with
  |error e=>exact(hCX H e s' h).elim
  |ok fl=>
   cases fl with
   |next=>exact False.elim h
   |brk=>exact False.elim h
   |cont=>exact False.elim h
   |ret u=>
    obtain⟨v,H',os,bare,un,hok',r',q⟩:=h;have q':v= .bl true:=q;subst q';obtain rfl:u=Value.bool true:=r';refine⟨rfl,OldK.of_keep λb o e=> ?_,os,bare⟩;cases q:H b with
    |none=>exact un.keep b o e q (by intro z;exact absurd (show b∈([]:Rl Rg) from z) (by simp)) (by simp)
    |some u=>
     rcases hO b with z|⟨ob,xs,z⟩
     .rw [q] at z;cases z
     .have z2:=un.frzs b ob _ z;obtain⟨e1,_⟩:=hok b _ z;obtain⟨e2,_⟩:=hok' b _ z2;rw[e] at e1;cases e1;exact e2
 cases hk:K.lookup a with
 |some o=>
  have e:=KX a o hk;rw[ha] at e;cases e;refine core (λ_=>none) (λ_=> .inl rfl) (.inr ⟨_,vs.toArray,_,hk,rfl,rfl,rfl,by rw[AG,lenV];exact hl,by simpa using rv⟩) (λb u z=>by have z':(none:Rp HO)=some u:=z;cases z') (λb z=>absurd rfl z) λz=>absurd rfl z
 |none=>
  refine core (λb=>if b=a then some (.frz {cls:= .type "list",data:= .seq vs.toArray} (.lst (ns.map V.int))) else none) (λb=> ?_) (.inl (.inr ⟨{cls:= .type "list",data:= .seq vs.toArray},A6 rfl⟩)) (λb u z=> ?_) (λb z=> ?_) λ_=>hk
  .by_cases hb:b=a
   .exact .inr ⟨_,_,A6 hb⟩
   .exact .inl (A5 hb)
  .by_cases hb:b=a
   .have z':=(A6 hb).symm.trans z;cases z';subst hb;exact⟨ha,by rw[A1];exact hl,vs,_,rv,ha⟩
   .have z':=(A5 hb).symm.trans z;cases z'
  .by_cases hb:b=a
   .exact hb
   .exact absurd (A5 hb) z
theorem El {l:W.OpenLaw}{q:Rh}{Nw:Rl Str}{XP:(Str->Rp OO)->Rn->Prop}{YP:Rj->Rn->Prop}{d:DefRec}{K:Params->W.Frag}{CX:Rj->CXT}{sp:Rj->Sp}
  (hn:l.most=some n) (Pb:n<=sizeLine) (hdf:d.params.defaults=[]) (hr:Room k callerA)
  (hY:∀(w:Rj) (h:Rn),YP w h->(K w.params).In h)
  (F:∀(w:Rj) (mg:Str->Rp OO) (fa:Rg) (h:Rn),(K w.params).In h->h.Ns mainGlobals mg->mg d.name=some (.ref fa)->
   ∃fd:Ri,(∀(s:Rf) (u:OO),BindsTo s fd ⟨[u],[]⟩ [(x,u)])/\
    ∀base:Rn,(K w.params).In base->base.Ns mainGlobals mg->FnOk l.prog w (K w.params) mg base (CX w) k fa fd [x] (sp w))
  (P1:∀(w:Rj) (H:Hp) (a:Rg) (ns:Rl Int),ns.length<=n->mM H->SqL (K w.params) H a (ns.map V.int)->sp w [.ref a] H (λv _=>v= .bl true) λ_ _ _=>False)
  (hCX:∀(w:Rj) (H:Hp) (s:Rf) (e:OO) (s':Rf),CX w [] H s (λ_ _ _=>False) e s'->False):
  W.WalkO q Nw XP YP l.row.toRowW d [] (λf vs=>PySem.call f vs):=by
 refine Att.attach_call hn hdf λw s₀ s₁ mg mb fa o pm cd NM a vs ns G Y ho hd OI hmg Qs OK Mg hg=> ?_;have KX:=hY w _ Y;obtain⟨fd,hb,hF⟩:=F w mg fa _ KX G.T.g hmg;exact Ek KX G.T.g G.T.b G.T.builtins G.T.nolimit hg Qs OK (BH Mg Pb) hr hF hb (λH hO hS=>P1 w H a ns Mg hO hS) λH e s'=>hCX w H s₁ e s'
def dU (s:Rq):Arguments:=match s with
 | .FunctionDef _ a _ _ _ _ _ _ _ _=>a
 |_=>{posonlyargs:=[],args:=[],vararg:=none,kwonlyargs:=[],kw_defaults:=[],kwarg:=none,defaults:=[]}
def dj (s:Rq):Rl Rq:=match s with
 | .FunctionDef _ _ b _ _ _ _ _ _ _=>b
 |_=>[]
def al (s:Rq):Scope:=match s with
 | .FunctionDef _ _ _ _ _ _ sc _ _ _=>sc
 |_=>{kind:= .function,names:=[],isGenerator:=false,isCoroutine:=false}
abbrev CX0:CXT:=λ_ _ _ _ _ _=>False
abbrev E0:XK:=λ_ _ _=>False
def dG :kj CX0 X E0:=λ_ _ _ _ _ _ _ h=>h.elim
structure Fun (K:W.Frag) (x Mj:Str) (st:Rq) (f:Rg) (fd:Ri):Prop where
 ex:∃(oc:Value) (od:Option Addr) (kV NM pm:Value) (an:Option Addr) (My ct:Value) (P0:Array (Option Value)),
  fd=W.fnOf x Mj (dU st) (dj st) (al st) .none kV NM pm an My ct/\K.lookup f=some ⟨oc,od, .func fd,P0⟩/\W.codeIn K My Mj=true
 kp:W.keepIn K (.ref f)=true
section
variable {P:Rh}{w:Rj}{K:W.Frag}{mg:Str->Rp OO}{base:Rn}
theorem Fun.ok {sp:Sp} (F:Fun K x Mj st f fd) (S:FnScope N ps (al st)) (len:∀vs H Q E,sp vs H Q E->vs.length=ps.length)
  (NR:∀(My:OO) (A:Rk) (outer:Rl Env) (s:Rf) (H:Hp) (vs:Rl V) (Q:VK) (E:XK),Room k (A.deeper (envOfC Mj (al st) s.heap.objs.size f My))->sp vs H Q E->
   ∃t,PSs (gd CX0 P w K mg base N Mj (al st) f My A outer s H E).nox (dj st) t/\t {nx:=λ_ H'=>Q .non H',rt:=Q} (start N vs) H):FnOk P w K mg base CX0 (k+1) f fd ps sp:=by
 obtain⟨oc,od,kV,NM,pm,an,My,ct,P0,rfl,lk,OI⟩:=F.ex;refine Dl lk OI S len λA outer s H vs Q E hr P1=> ?_;obtain⟨t,h,q⟩:=NR My A outer s H vs Q E hr P1;exact⟨t,h.nox,q⟩
theorem Fun.binds (F:Fun K x Mj st f fd)
  (h:∀(kV NM pm:OO) (an:Rp Rg) (My ct:OO) (us:Rl OO),us.length=ps.length->bindArgs (W.fnOf x Mj (dU st) (dj st) (al st) .none kV NM pm an My ct) ⟨us,[]⟩=pure (ps.zip us)):f' K fd ps []:=by
 obtain⟨oc,od,kV,NM,pm,an,My,ct,P0,rfl,lk,OI⟩:=F.ex;exact .all (h kV NM pm an My ct)
def Em {oc:OO}{od an:Rp Rg}{P0:Array (Rp OO)}{kV NM pm My ct:OO} (l:K.lookup f=some ⟨oc,od, .func (W.fnOf x Mj (dU st) (dj st) (al st) .none kV NM pm an My ct),P0⟩)
  (c:W.codeIn K My Mj=true) (k:W.keepIn K (.ref f)=true):Fun K x Mj st f (W.fnOf x Mj (dU st) (dj st) (al st) .none kV NM pm an My ct):=⟨⟨oc,od,kV,NM,pm,an,My,ct,P0,rfl,l,c⟩,k⟩
end
theorem kr {A:Rk}(hr:Room k A):A.units+1<cLine:=Nat.lt_of_le_of_lt (Nat.add_le_add_left (by decide:1<=64) _) hr.units
theorem aF (h:n<=1000):n<sizeLine:=Nat.lt_of_le_of_lt h (by decide)
section
variable {X:Cx}
theorem pv (i:Nat) {pos:Pos} (hN:X.N[i]? =some x:=by rfl) (hv:Vis X.env.scope x:=by trivial) (hd:(x==("__debug__":Str))=false:=by decide)
  (OI:(x==("__classdict__":Str))=false:=by decide):PE X (.Name x pos) (tVar i):=zc hN hv hd OI
end
theorem bh (h:B):if false=true then A else B:=by
 rw[A5 AY];exact h
theorem cB (h:A):if true=true then A else B:=by
 rw[A6 rfl];exact h
theorem kt [Decidable c] (hc:c) (h:B):if(!decide c)=true then A else B:=by
 rw[Ar hc];exact bh h
def af (H H':Hp):Prop:=∀b o,H b=some o->H' b=some o
def af.refl (H:Hp):af H H:=λ_ _ h=>h
def af.trans {H1 H2:Hp} (a:af H H1) (b:af H1 H2):af H H2:=λc o h=>b c o (a c o h)
theorem af.free (e:af H H') (h:H' l=Option.none):H l=Option.none:=by
 cases q:H l with
 |none=>rfl
 |some o=>
  rw[e l o q] at h;cases h
theorem af.seq {xs:Rl V} (e:af H H') (h:SqL K H a xs):SqL K H' a xs:=by
 rcases h with(h|⟨o,h⟩)|h
 .exact .inl (.inl (e _ _ h))
 .exact .inl (.inr ⟨o,e _ _ h⟩)
 .exact .inr h
set_option maxHeartbeats 4000000
section
variable {κ:Type} [DecidableEq κ]
def aR (Mc:Rl (κ×V)) (k:κ):Rp V:=(Mc.find? λkv=>decide (kv.1=k)).map (·.2)
def aZ (Mc:Rl (κ×V)) (k:κ) (v:V):Rl (κ×V):=
 if(Mc.any λkv=>decide (kv.1=k))=true then Mc.map (λkv=>if kv.1=k then(kv.1,v) else kv) else Mc++[(k,v)]
theorem cC {p:κ×V}{r:Rl (κ×V)}{k:κ} (e:p.1=k):aR (p::r) k=some p.2:=by simp[aR,Bf,e]
theorem cO {p:κ×V}{r:Rl (κ×V)}{k:κ} (e:¬p.1=k):aR (p::r) k=aR r k:=by simp[aR,Bf,e]
theorem fw (k:κ):∀Mc:Rl (κ×V),(Mc.any λkv=>decide (kv.1=k))=(aR Mc k).isSome
 |[]=>rfl
 |p::r=>by
  rw[List.any_cons];by_cases e:p.1=k
  .simp only[cC e,Ar e,Bool.true_or,Option.isSome_some]
  .rw [cO e,Aj e,Bool.false_or];exact fw k r
theorem sk (k j:κ) (y:V):∀Mc:Rl (κ×V),aR (Mc.map λkv=>if kv.1=k then(kv.1,y) else kv) j=(aR Mc j).map λx=>if j=k then y else x
 |[]=>rfl
 |p::r=>by
  have ih:=sk k j y r;rw[AL];by_cases h:p.1=k
  .rw [A6 h];by_cases e:p.1=j
   .rw [cC (p:=(p.1,y)) e,cC e,Cn,A6 (e.symm.trans h)]
   .rw [cO (p:=(p.1,y)) e,cO e,ih]
  .rw [A5 h];by_cases e:p.1=j
   .rw [cC (p:=p) e,cC e,Cn,A5 (λz=>h (e.trans z))]
   .rw [cO (p:=p) e,cO e,ih]
theorem sr (k j:κ) (y:V):∀Mc:Rl (κ×V),aR Mc k=none->aR (Mc++[(k,y)]) j=if j=k then some y else aR Mc j
 |[],_=>by
  by_cases e:k=j
  .rw [A6 e.symm];exact cC (p:=(k,y)) e
  .rw [A5 (λz=>e z.symm)];exact cO (p:=(k,y)) e
 |p::r,hn=>by
  rw[Cg];have hk:¬p.1=k:=λz=>by rw[cC z] at hn;cases hn
  rw[cO hk] at hn;have ih:=sr k j y r hn;by_cases e:p.1=j
  .rw [cC e,cC e,A5 (λz=>hk (e.trans z))]
  .rw [cO e,cO e,ih]
theorem iX (Mc:Rl (κ×V)) (k j:κ) (y:V):aR (aZ Mc k y) j=if j=k then some y else aR Mc j:=by
 unfold aZ;by_cases a:(Mc.any λkv=>decide (kv.1=k))=true
 .rw [A6 a,sk];rw[fw] at a;by_cases e:j=k
  .obtain⟨x,hx⟩:=Option.isSome_iff_exists.mp a;rw[A6 e,e,hx,Cn,A6 rfl]
  .rw [A5 e];cases aR Mc j with
   |none=>rfl
   |some x=>rw[Cn,A5 e]
 .rw [A5 a];refine sr k j y Mc ?_;rw[fw] at a;cases q:aR Mc k with
  |none=>rfl
  |some x=>rw[q] at a;exact(a rfl).elim
theorem mN (Mc:Rl (κ×V)) (k:κ) (v:V):(aZ Mc k v).length<=Mc.length+1:=by
 unfold aZ;split
 .rw [A1];lia
 .rw [AE,Ad,DO];lia
theorem ss {Mc:Rl (κ×V)}{k:κ} (v:V) (h:aR Mc k=none):aZ Mc k v=Mc++[(k,v)]:=by
 unfold aZ;rw[fw,h];exact A5 (by decide)
theorem cA.isSome_eq {u:Rp OO} (r:cA o u):o.isSome=u.isSome:=by
 cases o with
 |none=>cases u with
  |none=>rfl
  |some _=>exact(show False from r).elim
 |some _=>cases u with
  |none=>exact(show False from r).elim
  |some _=>rfl
theorem cA.getD {o:Rp V}{u:Rp OO}{d:V}{d':OO} (r:cA o u) (rd:av d d'):av (o.getD d) (u.getD d'):=by
 cases o with
 |none=>cases u with
  |none=>exact rd
  |some _=>exact(show False from r).elim
 |some _=>cases u with
  |none=>exact(show False from r).elim
  |some _=>exact r
theorem KV.val {Mc:Rl (κ×V)}{vs:Rl (κ×OO)} (r:KV Mc vs) (k:κ):cA (aR Mc k) (valueAt vs k):=by
 unfold KV at r;induction r with
 |nil=>exact True.intro
 | @cons p q ps qs h t ih=>
  obtain⟨h1,h2⟩:=h;by_cases e:p.1=k
  .have e':q.1=k:=h1.symm.trans e;have b:valueAt (q::qs) k=some q.2:=by simp[valueAt,Bf,e']
   rw[cC e,b];exact h2
  .have e':¬q.1=k:=λz=>e (h1.trans z);have b:valueAt (q::qs) k=valueAt qs k:=by simp[valueAt,Bf,e']
   rw[cO e,b];exact ih
theorem KV.any {Mc:Rl (κ×V)}{vs:Rl (κ×OO)} (r:KV Mc vs) (k:κ):(Mc.any λkv=>decide (kv.1=k))=vs.any λkv=>decide (kv.1=k):=by
 unfold KV at r;induction r with
 |nil=>rfl
 |cons h t ih=>rw[List.any_cons,List.any_cons,ih,h.1]
theorem KV.repl {Mc:Rl (κ×V)}{vs:Rl (κ×OO)} (r:KV Mc vs) (k:κ) (ry:av y u):
  KV (Mc.map λkv=>if kv.1=k then(kv.1,y) else kv) (vs.map λkv=>if kv.1=k then(kv.1,u) else kv):=by
 unfold KV at r⊢;induction r with
 |nil=>exact .nil
 | @cons p q ps qs h t ih=>
  rw[AL,AL];refine .cons ?_ ih;obtain⟨h1,h2⟩:=h;by_cases e:p.1=k
  .rw [A6 e,A6 (h1.symm.trans e)];exact⟨h1,ry⟩
  .rw [A5 e,A5 (λz=>e (h1.trans z))];exact⟨h1,h2⟩
theorem KV.put {Mc:Rl (κ×V)}{vs:Rl (κ×OO)} (r:KV Mc vs) (k:κ) (ry:av y u):KV (aZ Mc k y) (stored vs k u):=by
 unfold aZ stored;rw[r.any k];by_cases e:(vs.any λkv=>decide (kv.1=k))=true
 .rw [A6 e,A6 e];exact r.repl k ry
 .rw [A5 e,A5 e];exact Paired.snoc r ⟨rfl,ry⟩
theorem KV.length {Mc:Rl (κ×V)}{vs:Rl (κ×OO)} (r:KV Mc vs):Mc.length=vs.length:=C9 r
end
theorem kw {k:Key}(r:av (kV k) u):(bY P w).is k u=true:=by
 cases k with
 |inl i=>obtain⟨t,e⟩:=(show∃t,u=Value.int i t from r);subst e;exact yX P w i t
 |inr x=>obtain⟨t,e⟩:=(show∃t,u=Value.str x t from r);subst e;exact yY P w x t
theorem su {P:Rh}{w:Rj}:∀{ks:Rl Key}{us:Rl OO},ap (ks.map kV) us->ItemsAre (bY P w) ks us
 |[],_,r=>by rw[DX] at r;cases r;exact .nil
 |k::ks,_,r=>by
  rw[AL] at r;cases r with
  |cons h t=>exact .cons (kw h) (su t)
abbrev KT (H:Hp):Rl (Rl Key×V)->Rl (Rl Key×Rg×OO)->Prop:=Paired λp q=>p.1=q.1/\H q.2.1=some (.tup (p.1.map kV))/\av p.2 q.2.2
theorem KT.val {H:Hp}{Mc:Rl (Rl Key×V)}{xs:Rl (Rl Key×Rg×OO)} (r:KT H Mc xs) (k:Rl Key):cA (aR Mc k) ((atKey xs k).map (·.2)):=by
 induction r with
 |nil=>exact True.intro
 | @cons p q ps qs h t ih=>
  obtain⟨h1,_,h2⟩:=h;by_cases e:p.1=k
  .have e':q.1=k:=h1.symm.trans e;have b:atKey (q::qs) k=some q.2:=by simp[atKey,Bf,e']
   rw[cC e,b];exact h2
  .have e':¬q.1=k:=λz=>e (h1.trans z);have b:atKey (q::qs) k=atKey qs k:=by simp[atKey,Bf,e']
   rw[cO e,b];exact ih
theorem KT.repl (r:KT H Mc xs) (k:Rl Key) (ry:av y u):
  KT H (Mc.map λkv=>if kv.1=k then(kv.1,y) else kv) (xs.map (putAt k u)):=by
 induction r with
 |nil=>exact .nil
 | @cons p q ps qs h t ih=>
  rw[AL,AL];refine .cons ?_ ih;obtain⟨h1,h2,h3⟩:=h;unfold putAt;by_cases e:p.1=k
  .rw [A6 e,A6 (h1.symm.trans e)];exact⟨h1,h2,ry⟩
  .rw [A5 e,A5 (λz=>e (h1.trans z))];exact⟨h1,h2,h3⟩
theorem KT.put (r:KT H Mc xs) (k:Rl Key) (hb:H b=some (.tup (k.map kV))) (ry:av y u):
  KT H (aZ Mc k y) (storedH xs k b u):=by
 have e:(Mc.any λkv=>decide (kv.1=k))=(atKey xs k).isSome:=by
  rw[fw,(r.val k).isSome_eq,Option.isSome_map]
 unfold aZ storedH;rw[e];by_cases q:(atKey xs k).isSome=true
 .rw [A6 q,A6 q];exact r.repl k ry
 .rw [A5 q,A5 q];exact Paired.snoc r ⟨rfl,hb,ry⟩
def KT.keeps (r:KT H Mc xs) (ht:∀b ys,H b=some (.tup ys)->H' b=some (.tup ys)):KT H' Mc xs:=
 Paired.mapP r λ_ _ z=>⟨z.1,ht _ _ z.2.1,z.2.2⟩
section
variable {P:Rh}{w:Rj}{H:Hp}{h:Rn}{a:Rg}
def kx {u:HO} (ok:HOk P w H h) (e:Rd H a u):aG P w H h a u:=e.ok ok
def iY {Mc:Rl (Key×V)} (ok:HOk P w H h) (e:Rd H a (.dK Mc)):Mc.length<=sizeLine/\(a==sysModules)=false/\∃vs,KV Mc vs/\h.DictOf (bY P w) a vs:=
 show aG P w H h a (.dK Mc) from kx ok e
def En {Mc:Rl (Key×V)} (ok:HOk P w H h) (e:H a=some (.dK Mc)):Mc.length<=sizeLine/\(a==sysModules)=false/\∃vs,KV Mc vs/\h.DictOf (bY P w) a vs:=iY ok (.inl e)
theorem iZ {ks:Rl Key} (ok:HOk P w H h) (e:H a=some (.tup (ks.map kV))):(tupleKind (bY P w)).is h ks a:=by
 obtain⟨_,Me,r,o,h1,h2,n,h3⟩:=(show aG P w H h a (.tup (ks.map kV)) from ok a _ e);exact⟨o,Me.toArray,n,h1,h2,h3,by simpa using su r⟩
theorem i0 (ok:HOk P w H h) (e:Rd H a (.dT Mc)):Mc.length<=sizeLine/\(a==sysModules)=false/\
  ∃xs,KT H Mc xs/\h.DictOfH (tupleKind (bY P w)) a xs:=by
 obtain⟨z,y,xs,r,o,es,ep,h1,h2,h3,h4,h5⟩:=(show aG P w H h a (.dT Mc) from kx ok e);refine⟨z,y,xs,r,o,es,ep,h1,h2,h3,h4,λx hx=> ?_,h5⟩;have all:∀{l:Rl (Rl Key×V)}{m:Rl (Rl Key×Rg×OO)},KT H l m->∀x∈m,(tupleKind (bY P w)).is h x.1 x.2.1:=by
  intro l m q;induction q with
  |nil=>intro x hx;exact nomatch hx
  | @cons p q ps qs hq t ih=>
   intro x hx;rcases AJ.mp hx with e|hx
   .subst e;exact iZ ok (by rw[<-hq.1];exact hq.2.1)
   .exact ih x hx
 exact all r x hx
def sv (ok:HOk P w H h) (e:H a=some (.dT Mc)):Mc.length<=sizeLine/\(a==sysModules)=false/\
  ∃xs,KT H Mc xs/\h.DictOfH (tupleKind (bY P w)) a xs:=i0 ok (.inl e)
end
def fx (H:Hp) (a:Rg) (y:V) (r:Rp V):Prop:=
 (∃Mc k,Rd H a (.dK Mc)/\y=kV k/\r=aR Mc k)\/∃Mc k b,Rd H a (.dT Mc)/\y= .ref b/\H b=some (.tup (k.map kV))/\r=aR Mc k
def i5 (H:Hp) (a:Rg) (y v:V) (H':Hp):Prop:=
 (∃Mc k,H a=some (.dK Mc)/\y=kV k/\Mc.length<sizeLine/\H'=upd H a (.dK (aZ Mc k v)))\/
 ∃Mc k b,H a=some (.dT Mc)/\y= .ref b/\H b=some (.tup (k.map kV))/\Mc.length<sizeLine/\H'=upd H a (.dT (aZ Mc k v))
def fx.t {k:Rl Key} (e:H a=some (.dT Mc)) (eb:H b=some (.tup (k.map kV))):fx H a (.ref b) (aR Mc k):= .inr ⟨Mc,k,b, .inl e,rfl,eb,rfl⟩
def i5.t {k:Rl Key}(e:H a=some (.dT Mc)) (eb:H b=some (.tup (k.map kV))) (hl:Mc.length<sizeLine):
  i5 H a (.ref b) v (upd H a (.dT (aZ Mc k v))):= .inr ⟨Mc,k,b,e,rfl,eb,hl,rfl⟩
section
variable {X:Cx}{Mb:Rl (Rg×Obj)}{σ:St}{H:Hp}{s:Rf}{a:Rg}{y v:V}{u r:OO}{o:Rp V}{A:Rk}{E:OO->Rf->Prop}
theorem Inv.big (I:Inv X Mb σ H s):sysModules<s.heap.objs.size:=by
 have h:mainGlobals<s.heap.objs.size:=(I.mod.glob.keeps I.bk).lt;exact Nat.lt_trans (by decide) h
theorem Eo (hu:A.units+1<cLine) (I:Inv X Mb σ H s) (g:fx H a y (some v)) (ry:av y u) (h:∀w' s',Inv X Mb σ H s'->av v w'->Q w' s'):
  wpAny (model X.prog X.w) A (getItem (.ref a) u) Q E s:=by
 rcases g with⟨Mc,k,e,ey,l⟩|⟨Mc,k,b,e,ey,eb,l⟩
 .subst ey;obtain⟨z,hd,vs,Mz,dd⟩:=iY I.hok e;obtain⟨w',hw,ND⟩:=cA.some_of (v:=v) (o:=valueAt vs k) (by rw[l];exact Mz.val k);exact wpAny_getItem_of (kw ry) dd.mapOf hw (h w' _ (I.tok _) ND)
 .subst ey;cases (show u=Value.ref b from ry);obtain⟨z,hd,xs,Mz,dd⟩:=i0 I.hok e;obtain⟨w',hw,ND⟩:=cA.some_of (v:=v) (o:=(atKey xs k).map (·.2)) (by rw[l];exact Mz.val k);obtain⟨p,hp,hp2⟩:=A8.mp hw;refine wpAny_getItem_heap (tupleKind_room_in1 hu) (iZ I.hok eb) dd hp ?_;rw[hp2];exact h w' _ (I.tok _) ND
def gQ {t':Nat}{ob:HO} (I:Inv X Mb σ H s) (mu:Mut (H a)) (hs:Heap.SameBut a s.heap h') (he:∃q,h'.get? a=some q) (new:aG X.prog X.w (upd H a ob) h' a ob):
  Inv X Mb σ (upd H a ob) {s with heap:=h',toks:=t'}:=
 I.write (x:=a) (e:=a) mu (.inl rfl) (λb q hb z=>(hs.2 b hb).trans z) he new
def Ep {Mc:Rl (Key×V)}{vs:Rl (Key×OO)} (z:Mc.length<=sizeLine) (hd:(a==sysModules)=false) (Mz:KV Mc vs) (dd:h'.DictOf (bY P w) a vs):
  aG P w H' h' a (.dK Mc):=⟨z,hd,vs,Mz,dd⟩
theorem Er {Q:Unit->Rf->Prop} (hu:A.units+1<cLine) (I:Inv X Mb σ H s) (g:i5 H a y v H') (ry:av y u) (rv:av v r) (h:∀s',Inv X Mb σ H' s'->Q () s'):
  wpAny (model X.prog X.w) A (setItem (.ref a) u r) Q E s:=by
 rcases g with⟨Mc,k,e,ey,l,eH⟩|⟨Mc,k,b,e,ey,eb,l,eH⟩
 .subst ey eH;obtain⟨z,hd,vs,Mz,dd⟩:=En I.hok e;have hz:vs.length<=sizeLine:=by rw[<-Mz.length];exact z
  have hl:(aZ Mc k v).length<=sizeLine:=by have:=mN Mc k v;lia
  refine wpAny_setItem_pairs (hsz:=hz) (kw ry) dd λh' Pe hs=>h _ ?_;have he:∃q,h'.get? a=some q:=let ⟨q,_,_,hq,_⟩:=Pe;⟨q,hq⟩;exact gQ I (by rw[e];exact True.intro) hs he (Ep hl hd (Mz.put k rv) Pe)
 .subst ey eH;cases (show u=Value.ref b from ry);obtain⟨z,hd,xs,Mz,dd⟩:=sv I.hok e;have hz:xs.length<=sizeLine:=by rw[<-C9 Mz];exact z
  have hl:(aZ Mc k v).length<=sizeLine:=by have:=mN Mc k v;lia
  refine wpAny_setItem_heap (hsz:=hz) (tupleKind_room_in1 hu) (iZ I.hok eb) dd λh' Pe hs=>h _ ?_;obtain⟨q,es,ep,hq,h2,h3,h4,_,h5⟩:=Pe;refine gQ I (by rw[e];exact True.intro) hs ⟨q,hq⟩ ⟨hl,hd,_,(Mz.put k eb rv).keeps λc ys ec=> ?_,q,es,ep,hq,h2,h3,h4,h5⟩;rw[aw (jY ec e (λz=>nomatch z))];exact ec
end
def gR (i:Rm):Prop:=∀ov iv,subscripted i false ov iv=operate [ov,iv] (getItem ov iv)
theorem mO {prog:Rh}{A:Rk}{value Mw:Rm}{T id:String}
  (hl:typeLookup (.type T) "__getitem__"=pure (some (.builtin id))) (hs:gR Mw)
  (h:wpAny (model prog w) A (eval value env) (λo s₁=>wpAny (model prog w) A (eval Mw env) (λi s₂=>s₂.TypeIs o T/\wpAny (model prog w) A (getItem o i) Q E s₂) E s₁) E s):
  wpAny (model prog w) A (eval (.Subscript value Mw pos) env) Q E s:=by
 refine Subscript_ (Bj h (λo s₁ h₁=>Bj h₁ (λi s₂ h₂=> ?_) λ_ _ x=>x) λ_ _ x=>x);obtain⟨hT,h₂⟩:=h₂;unfold subscriptTail;refine A0 ?_;rw[getitemInPython_of_ne hT.not_modules];refine A0 (BW hT hl ?_);have fin:wpAny (model prog w) A (subscripted Mw false o i) (λr s₃=>wpAny (model prog w) A (letTemporaryGo value o r>>=λ_=>pure r) Q E s₃) E s₂:=by
  rw[hs o i];exact wpAny_operating (Bj h₂ (λr s₃ h₃=>A0 (wpAny_letTemporaryGo (A2 h₃))) λ_ _ x=>x)
 first
  |exact A2 (A0 fin)
  |exact A0 (A2 (A0 fin))
  |exact A0 fin
theorem Es {σ:St}(I:Inv X Mb σ H s) (g:fx H a y o):s.TypeIs (.ref a) "dict":=by
 rcases g with⟨Mc,k,e,_,_⟩|⟨Mc,k,b,e,_,_,_⟩
 .obtain⟨_,_,vs,_,dd⟩:=iY I.hok e;exact dd.typeIs
 .obtain⟨_,_,xs,_,dd⟩:=i0 I.hok e;exact dd.typeIs
inductive tDGet_ (Q:VK) (x:V) (y:V) (H2:Hp):Prop
 |mk a v:x= .ref a->fx H2 a y (some v)->Q v H2->tDGet_ Q x y H2
def Et (td ty:TE):TE:=λσ H Q=>td σ H λx H1=>ty σ H1 λy H2=>tDGet_ Q x y H2
inductive sDPut_ (D:Ends) (σ:St) (v:V) (x:V) (y:V) (H3:Hp):Prop
 |mk a H4:x= .ref a->i5 H3 a y v H4->D.nx σ H4->sDPut_ D σ v x y H3
def Eu (td ty tv:TE):TS:=λD σ H=>tv σ H λv H1=>td σ H1 λx H2=>ty σ H2 λy H3=>sDPut_ D σ v x y H3
section
variable {X:Cx}{o i e value:Rm}{pos Mu Np:Pos}{td ty tv:TE}
theorem Ev (hu:X.A.units+1<cLine) (ho:PE X o td) (hi:PE X i ty) (hs:gR i):PE X (.Subscript o i pos) (Et td ty):=by
 intro Mb s σ H Q I h;refine mO PySem.F.slot_dict_getitem.lookup hs (thn (ho Mb s σ H _ I h) λu s1 zu37=> ?_);obtain⟨x,H1,I1,rx,q1⟩:=zu37;refine thn (hi Mb s1 σ H1 _ I1 q1) λiv s2 zu38=> ?_;obtain⟨y,H2,I2,ry,a,v,ex,g,q2⟩:=zu38;subst ex;obtain rfl:u=Value.ref a:=rx;exact⟨Es I2 g,Eo hu I2 g ry λw' s3 I3 ND=>⟨v,H2,I3,ND,q2⟩⟩
theorem Ew (hu:X.A.units+1<cLine) (ho:PE X o td) (hi:PE X i ty) (hv:PE X value tv) (hs:swapsWith value (some (.Subscript o i Mu)) pos.line X.env=pure false):
  PS X (.Assign [.Subscript o i Mu] value pos) (Eu td ty tv):=by
 intro Mb s σ H D I h;refine wpAny_Assign_Subscript (thn (hv Mb s σ H _ I h) λr s1 zu39=> ?_) hs;obtain⟨v,H1,I1,rv,q1⟩:=zu39;refine thn (ho Mb s1 σ H1 _ I1 q1) λu s2 zu40=> ?_;obtain⟨x,H2,I2,rx,q2⟩:=zu40;refine thn (hi Mb s2 σ H2 _ I2 q2) λiv s3 zu41=> ?_;obtain⟨y,H3,I3,ry,a,H4,ex,g,q3⟩:=zu41;subst ex;obtain rfl:u=Value.ref a:=rx;exact Er hu I3 g ry rv λs4 I4=>⟨σ,H4,I4,q3⟩
end
def sw (h:Rn) (hb:sysModules<h.objs.size):aG P w H (h.push {cls:= .type "dict",data:= .dict #[]}) h.objs.size (.dT []):=
 ⟨AO _,DR.mpr (DW (AQ hb)),[], .nil,_, #[],0,AH _ rfl,⟨rfl,rfl,rfl⟩,rfl,rfl,List.nodup_nil⟩
def Ex:TE:=λ_ H Q=>∀p,H p=none->Q (.ref p) (upd H p (.dT []))
section
variable {X:Cx}{pos:Pos}
def Ey:PE X (.Dict [] [] pos) Ex:=λMb s σ H Q I h=>
 wpAny_Dict_empty ⟨.ref s.heap.objs.size,_,I.laid (a:=s.heap.objs.size) (o:= .dT []) (t':=s.toks) (λ_ _ q=>A4 _ q) (AB _) (sw s.heap I.big),rfl,h _ (I.hok.fresh (AB _))⟩
end
structure M2 (X:Cx) (o:Rm) (m:Str) (Mv:Pos) (e f:Rm) (Mn:Pos):Prop where
 base:attributeBase o m X.env (eval o X.env)=eval o X.env
 few:((backTo Mn (starEach [e,f] X.env)).all (λx=> !x.1)&&(backToKw Mn (keywordEach [] X.env)).all (λx=>x.1.isSome)
  &&decide (([e,f]:List Expr).length+([]:List Keyword).length+(if([]:List Keyword).isEmpty then 0 else 1)<30))=true
 line:(Mv.endLine==Mn.line)=true
 trees:backTo Mn (starEach [e,f] X.env)=[(false,eval e X.env),(false,eval f X.env)]
def IsD (H:Hp) (a:Rg):Prop:=(∃Mc,Rd H a (.dK Mc))\/∃Mc,Rd H a (.dT Mc)
theorem sD {σ:St}(I:Inv X Mb σ H s) (d:IsD H a):
  s.TypeIs (.ref a) "dict"/\(∀b,Value.ref a= .ref b->∃ob,s.heap.get? b=some ob/\ob.dict=none)/\(a==sysModules)=false:=by
 rcases d with⟨Mc,e⟩|⟨Mc,e⟩
 .obtain⟨_,hd,vs,_,dd⟩:=iY I.hok e;refine⟨dd.typeIs,λb q=> ?_,hd⟩;cases q;obtain⟨ob,_,_,h1,h2,_⟩:=dd;exact⟨ob,h1,h2.2.1⟩
 .obtain⟨_,hd,xs,_,dd⟩:=i0 I.hok e;refine⟨dd.typeIs,λb q=> ?_,hd⟩;cases q;obtain⟨ob,_,_,h1,h2,_⟩:=dd;exact⟨ob,h1,h2.2.1⟩
section
variable {X:Cx}{Mb:Rl (Rg×Obj)}{σ:St}{H:Hp}{s:Rf}{a:Rg}{y d:V}{u r:OO}{o:Rp V}{A:Rk}{E:OO->Rf->Prop}
theorem Ez (hu:A.units+1<cLine) (I:Inv X Mb σ H s) (g:fx H a y o) (ry:av y u) (rd:av d r) (h:∀w' s',Inv X Mb σ H s'->av (o.getD d) w'->Q w' s'):
  wpAny (model X.prog X.w) A (call (.builtin "dict.get") [.ref a,u,r]) Q E s:=by
 rcases g with⟨Mc,k,e,ey,l⟩|⟨Mc,k,b,e,ey,eb,l⟩
 .subst ey;obtain⟨z,hd,vs,Mz,dd⟩:=iY I.hok e;refine call_meetsIn PySem.F.slot_dict_get dd.typeIs PySem.F.entry_dict_get (PySem.F.args_dict_get_3 _ _ _) (meets_dict_get_default (bY X.prog X.w) a (kw ry) hd r) ⟨_,dd.mapOf,h _ _ (I.tok _) ?_⟩;rw[l];exact(Mz.val k).getD rd
 .subst ey;cases (show u=Value.ref b from ry);obtain⟨z,hd,xs,Mz,dd⟩:=i0 I.hok e;refine call_meetsIn PySem.F.slot_dict_get dd.typeIs PySem.F.entry_dict_get (PySem.F.args_dict_get_3 _ _ _) (meetsH_dict_get_default (tupleKind (bY X.prog X.w)) a b hd r) ⟨tupleKind_room_in1 hu,k,xs,iZ I.hok eb,dd,h _ _ (I.tok _) ?_⟩;rw[l];exact(Mz.val k).getD rd
end
inductive tDGet2_ (ty:TE) (tx:TE) (σ:St) (Q:VK) (x:V) (H1:Hp):Prop
 |mk a:x= .ref a->IsD H1 a->(ty σ H1 λy H2=>tx σ H2 λz H3=>∃o,fx H3 a y o/\Q (o.getD z) H3)->tDGet2_ ty tx σ Q x H1
def EA (td ty tx:TE):TE:=λσ H Q=>td σ H λx H1=>tDGet2_ ty tx σ Q x H1
section
variable {X:Cx}{o e f:Rm}{Mv Mn:Pos}{td ty tx:TE}
theorem EB (hu:X.A.units+1<cLine) (ho:PE X o td) (he:PE X e ty) (hf:PE X f tx) (m:M2 X o "get" Mv e f Mn):PE X (.Call (.Attribute o "get" Mv) [e,f] [] Mn) (EA td ty tx):=by
 intro Mb s σ H Q I h;refine wpAny_Call_method m.base m.few m.line PySem.F.plainAttrs_dict PySem.F.slot_dict_get PySem.F.type_dict_get (thn (ho Mb s σ H _ I h) λu s1 zu42=> ?_);obtain⟨x,H1,I1,rx,a,ex,d,q1⟩:=zu42;subst ex;obtain rfl:u=Value.ref a:=rx;obtain⟨t1,t2,_⟩:=sD I1 d;refine⟨t1,t2, ?_⟩;rw[m.trees];refine DJ rfl (Calls.evalArgs_plain (CT (thn (he Mb s1 σ H1 _ I1 q1) λiv s2 ⟨y,H2,I2,ry,q2⟩=>
  CT (thn (hf Mb s2 σ H2 _ I2 q2) λfv s3 ⟨z,H3,I3,rz,ov,g,q3⟩=>Calls.spliced_nil ?_))))
 exact Ez hu I3 g ry rz λw' s4 I4 ND=>⟨_,H3,I4,ND,q3⟩
end
section
variable {X:Cx}{pos:Pos}{a b c d:Rm}{ta tb tc td:TE}
def CB (m:Nat) (i j:Int):Prop:=i.natAbs<2^m/\j.natAbs<2^m
def EC {m:Nat} (hm:m+m<=134217728):OpR X (binaryOp .Mult) (rI (CB m) λi j=> .int (i*j)):=
 opI λ_ _ _ _ _ _ _ hc q=>mul_int q (IntMulOk.of_le (intBits_le_iff.mpr hc.1) (intBits_le_iff.mpr hc.2) hm)
theorem ED:512+512<=134217728:=by decide
theorem mP:bW X (.builtin "isinstance") (λxs H Q=>∃x n t b,xs=[x, .ty n]/\TyOf X.K H x t/\W.kitOne X.K t (.type n)=some b/\Q (.bl b) H):=by
 intro Mb s σ H xs us Q I r h;obtain⟨x,n,t,b,rfl,ty,e,q⟩:=h;obtain⟨u,w',rfl,ru,ND⟩:=ki r;obtain rfl:w'=Value.type n:=ND;exact zX I ru ty e λtk=>⟨.bl b,H,I.tok tk,rfl,q⟩
end
section
open PySem.W
variable {K:Frag}
theorem sG {t:String}:kitOne K (.type t) (.type t)=some true:=by
 unfold kitOne;rw[A6 (by simp)]
theorem gS {t c:String}{b:Bool} (h1:(Value.type t==Value.type c)=false) (h2:kitMeta c=true) (h3:(fastBuiltinMro t).map (·.contains (Value.type c))=some b):kitOne K (.type t) (.type c)=some b:=by
 unfold kitOne;rw[A5 (by rw[h1];decide)];unfold kitCls;show(if kitMeta c=true then subIn K (.type t) (.type c) else none)=some b;rw[A6 h2];exact h3
theorem EE:kitOne K (.type "int") (.type "bool")=some false:=gS (by ac_nf) (by ac_nf) (by ac_nf)
theorem EF:kitOne K (.type "bool") (.type "int")=some true:=gS (by ac_nf) (by ac_nf) (by ac_nf)
end
theorem bH [Decidable c] (h1:c->A) (h2:¬c->B):if decide c=true then A else B:=by
 by_cases h:c
 .rw [A6 (Ar h)];exact h1 h
 .rw [A5 (by rw[Aj h];decide)];exact h2 h
theorem EG [Decidable c] (h1:¬c->A) (h2:c->B):if(!decide c)=true then A else B:=by
 by_cases h:c
 .rw [A5 (by rw[Ar h];decide)];exact h2 h
 .rw [A6 (by rw[Aj h];rfl)];exact h1 h
def cP {i:Int} (h1:i=j->A) (h2:i≠j->B):if decide (V.int i=V.int j)=true then A else B:=bH (λh=>h1 (V.int.inj h)) λh=>h2 λe=>h (B' V.int e)
def EH {i:Int} (h1:i≠j->A) (h2:i=j->B):if(!decide (V.int i=V.int j))=true then A else B:=EG (λh=>h1 λe=>h (B' V.int e)) λh=>h2 (V.int.inj h)
theorem af.put {H1:Hp}{o:HO} (s:af H H1) (n:H l=none):af H (upd H1 l o):=λb u e=>by
 rw[aw (bj e n)];exact s b u e
def af.new {o:HO} (n:H l=none):af H (upd H l o):=(af.refl H).put n
theorem EI {prog:Program}{w:World}{A:Around}{R:Result->Shared->Prop}{s:Shared}{MS aC:Expr}{it acc:Value}(I:Nat->Shared->Prop)
  (turn:∀n s,I n s->wpAny (model prog w) A (pyNext it) (λr s₁=>match r with
   |none=>R (.ok .next) s₁
   |some v=>wpAny (model prog w) A (letOwnedTupleGo MS it v) (λ_ s₁'=>wpAny (model prog w) A (assign MS env v) (λ_ s₂=>
     wpAny (model prog w) A (forIn M' true λc r=>if r=true then do let ok<-isTrue c env (eval c env);pure (ForInStep.yield ok) else pure (ForInStep.yield r)) (λok s₃=>
      if ok=true then wpAny (model prog w) A (eval Nq env) (λx s₄=>
       wpAny (model prog w) A (call (.builtin "list.append") [acc,x]) (λ_ s₅=>∃m,m<n/\I m s₅) (notedBy (model prog w) A env λe s'=>R (.error e) s') s₄) (notedBy (model prog w) A env λe s'=>R (.error e) s') s₃
      else∃m,m<n/\I m s₃) (notedBy (model prog w) A env λe s'=>R (.error e) s') s₂) (notedBy (model prog w) A env λe s'=>R (.error e) s') s₁') (notedBy (model prog w) A env λe s'=>R (.error e) s') s₁) (notedBy (model prog w) A env λe s'=>R (.error e) s') s)
  (n:Nat) (h:I n s):
  codeAny (model prog w) A (.compLoop (.ListComp Nq [⟨MS,aC,M',0⟩] scope pos) 0 it acc env) R s:=by
 refine codeAny_loop rfl I (λn s hI=> ?_) n h;show wpAny _ A ((compTurn (.ListComp Nq [⟨MS,aC,M',0⟩] scope pos) 0 it acc env).onRaise (λx=>do noteFrame x env;theTreesLotGoes x)) _ _ s;refine wpAny_noted ?_;rw[compTurn_list];refine A0 (wpAny_standAt (A0 (Bj (turn n s hI) (λr s₁ h₁=> ?_) λ_ _ h'=>h')));cases r with
 |none=>exact A2 h₁
 |some v=>
  refine A0 (Bj h₁ (λ_ s₁' h₁'=>A0 (Bj h₁' (λ_ s₂ h₂=>A0 (Bj h₂ (λok s₃ h₃=> ?_) λ_ _ h'=>h')) λ_ _ h'=>h')) λ_ _ h'=>h');cases ok with
  |false=>exact A2 ⟨rfl,h₃⟩
  |true=>
   exact A0 (A0 (Bj h₃ (λx s₄ h₄=>A0 (Bj h₄ (λ_ s₅ h₅=>A2 (A2 ⟨rfl,h₅⟩)) λ_ _ h'=>h')) λ_ _ h'=>h'))
def cD (env:Env):Rl (Str×NameKind)->Rl (Str×Rg)->Rl (Str×Rg)
 |[],cs=>cs
 |(n,k)::r,cs=>cD env r (if k= .free then(n,(env.cells.lookup n).getD 0)::cs else cs)
theorem mQ {env:Env}:∀(ns:List (Str×NameKind)) (cs:List (Str×Addr)),(∀y∈ns,y.2= .free->∃c,env.cells.lookup y.1=some c)->
  (forIn ns cs fun(x:Str×NameKind) (r:List (Str×Addr))=>(if(x.2== .free)=true then do let c<-cellOf env x.1;pure (ForInStep.yield ((x.1,c)::r)) else pure (ForInStep.yield r):Sem (ForInStep (List (Str×Addr)))))=(pure (cD env ns cs):Sem _)
 |[],cs,_=>rfl
 |(n,k)::r,cs,h=>by
  have hr:=λy hy=>h y (AK _ hy);by_cases hk:k= .free
  .obtain⟨c,hc⟩:=h (n,k) AD hk;subst hk;rw[Co];have e:cellOf env n=pure c:=by unfold cellOf;rw[hc]
   simp only[beq_self_eq_true,C8,e,pure_bind];rw[mQ r _ hr];show _=pure (cD env r (if NameKind.free=NameKind.free then(n,(env.cells.lookup n).getD 0)::cs else cs));rw[A6 rfl,show env.cells.lookup n=some c from hc];rfl
  .have hb:(k==NameKind.free)=false:=by simpa using hk
   rw[Co];simp only[hb,AI,An,pure_bind];rw[mQ r _ hr];show _=pure (cD env r (if k=NameKind.free then(n,(env.cells.lookup n).getD 0)::cs else cs));rw[A5 hk]
theorem EJ (h:∀y∈scope.names,y.2= .free->∃c,env.cells.lookup y.1=some c):closureFor scope env=pure (cD env scope.names []):=by
 unfold closureFor;have e:=mQ scope.names [] h;simp only[bind_pure] at e⊢;exact e
theorem sI {env:Env}{x:Str}{c:Rg}:∀(ns:Rl (Str×NameKind)) (cs:Rl (Str×Rg)),(∀y∈ns,y.2= .free->∃c,env.cells.lookup y.1=some c)->(∀x c,cs.lookup x=some c->env.cells.lookup x=some c)->
  (cD env ns cs).lookup x=some c->env.cells.lookup x=some c
 |[],cs,_,hc,e=>hc x c e
 |(n,k)::r,cs,h,hc,e=>by
  unfold cD at e;refine sI r _ (λy hy=>h y (AK _ hy)) (λx' c' e'=> ?_) e;by_cases hk:k= .free
  .rw [A6 hk] at e';obtain⟨c0,h0⟩:=h (n,k) AD hk;rw[h0] at e';rw[CI] at e';by_cases q:x'==n
   .rw [q] at e';cases e';rw[D8.mp q];exact h0
   .have q':(x'==n)=false:=by simpa using q
    rw[q'] at e';exact hc x' c' e'
  .rw [A5 hk] at e';exact hc x' c' e'
theorem sJ {env:Env}{x:Str}:∀(ns:Rl (Str×NameKind)) (cs:Rl (Str×Rg)),(∃c,cs.lookup x=some c)->∃c,(cD env ns cs).lookup x=some c
 |[],cs,h=>h
 |(n,k)::r,cs,h=>by
  unfold cD;refine sJ r _ ?_;by_cases hk:k= .free
  .rw [A6 hk,CI];by_cases q:x==n
   .rw [q];exact⟨_,rfl⟩
   .have q':(x==n)=false:=by simpa using q
    rw[q'];exact h
  .rw [A5 hk];exact h
theorem mR {env:Env}{x:Str}:∀(ns:Rl (Str×NameKind)) (cs:Rl (Str×Rg)),(x,NameKind.free)∈ns->∃c,(cD env ns cs).lookup x=some c
 |(n,k)::r,cs,h=>by
  unfold cD;rcases AJ.mp h with e|e
  .cases e;rw[A6 rfl];exact sJ r _ ⟨_,by rw[CI,beq_self_eq_true]⟩
  .exact mR r _ e
def Cx.comp (X:Cx) (scope:Scope) (C:Rg) (N:Rl Str) (s₀:Rf) (H₀:Hp) (ex:Rl Rg) (E:OO->Rf->Prop):Cx where
 prog:=X.prog
 w:=X.w
 K:=X.K
 mg:=X.mg
 base:=X.base
 A:=X.A
 N:=N
 s₀:=s₀
 H₀:=H₀
 env:=compEnvC scope (cD X.env scope.names []) C X.env
 outer:=X.stack
 stack:=X.stack
 ex:=ex
 fn:=λ_=>false
 calm:=X.calm
 pn:=[]
 xe:=E
def gf (X:Cx) (M':List Expr) (t:TT):Prop:=
 ∀(Mb:List (Addr×Obj)) (s:Shared) (σ:St) (H:Hp) (Q:Bool->Hp->Prop),Inv X Mb σ H s->t σ H Q->
  wpAny (model X.prog X.w) X.A (forIn M' true λc r=>if r=true then do let ok<-isTrue c X.env (eval c X.env);pure (ForInStep.yield ok) else pure (ForInStep.yield r)) (TP X Mb σ Q) X.xe s
def ky:TT:=λ_ H Q=>Q true H
def cV :gf X [] ky:=λ_ _ _ H _ I h=>wpAny_tests_nil ⟨H,I,h⟩
def sK {c:Rm}{t:TT} (h:PT X c t):gf X [c] t:=λMb s σ H Q I q=>wpAny_tests_one (h Mb s σ H Q I q)
def dk (own:Nat) (js:Rl Nat) (σ:St):St:=List.replicate own none++js.map λj=>(σ[j]?).getD none
def i6 (J:It) (own:Nat) (js:Rl Nat) (g:TG) (ti:TT) (te:TE) (σ:St) (H1:Hp) (acc:Rg) (Q:VK):Prop:=
 ∃Wq:Nat->Nat->Hp->Prop,(∃m,Wq 0 m (upd H1 acc (.lst [])))/\∀i m H2,Wq i m H2->
  (J.stop i H2/\Q (.ref acc) H2)\/(J.go i H2/\∀x H3,J.yld i H2 x H3->g x (dk own js σ) H3 λσ4 H4=>ti σ4 H4 λb H5=>
   if b=true then te σ4 H5 λy H6=>rAppend (.ref acc) [y] H6 λ_ H7=>∃m',m'<m/\Wq (i+1) m' H7 else∃m',m'<m/\Wq (i+1) m' H5)
def i7 (own:Nat) (js:Rl Nat) (wi:TI) (g:TG) (ti:TT) (te:TE):TE:=λσ H Q=>wi σ H λJ H1=>∀acc,H1 acc=none->i6 J own js g ti te σ H1 acc Q
def gg {α:Type}{t:Sem α}{Q Q':α->Rf->Prop}{M:Model}{A:Rk}(h:wpAny M A t Q (λ_ _=>False) s) (hQ:∀a s,Q a s->Q' a s):wpAny M A t Q' E s:=Bj h hQ λ_ _ f=>f.elim
theorem mS {scope:Scope}{env:Env}{x:Str}:∀{names:Rl (Str×NameKind)},((names.map fun(n,k)=>if(k==NameKind.free&&env.scope.kind== .function&&env.kindOf n==some .cell) then(n,NameKind.cell) else(n,k)).lookup x=some .cell\/
  (names.map fun(n,k)=>if(k==NameKind.free&&env.scope.kind== .function&&env.kindOf n==some .cell) then(n,NameKind.cell) else(n,k)).lookup x=some .free)->(∀y∈names,y.2≠ .cell)->(x,NameKind.free)∈names
 |[],h,_=>by simp at h
 |(n,k)::r,h,hc=>by
  have hr:∀y∈r,y.2≠ .cell:=λy hy=>hc y (AK _ hy);have h0:k≠ .cell:=hc (n,k) AD;rw[AL,CI] at h;by_cases hb:(k==NameKind.free&&env.scope.kind== .function&&env.kindOf n==some .cell)=true
  .rw [A6 hb] at h;dsimp only at h;by_cases q:x==n
   .have hk:k= .free:=by simp only[AA,D8] at hb;exact hb.1.1
    rw[D8.mp q,hk];exact AD
   .have q':(x==n)=false:=by simpa using q
    rw[q'] at h;exact AK _ (mS (scope:=scope) h hr)
  .rw [A5 hb] at h;dsimp only at h;by_cases q:x==n
   .rw [q] at h;dsimp only at h;have hk:k= .free:=by
     rcases h with h|h
     .exact absurd (Ak h) h0
     .exact Ak h
    rw[D8.mp q,hk];exact AD
   .have q':(x==n)=false:=by simpa using q
    rw[q'] at h;exact AK _ (mS (scope:=scope) h hr)
def gh (own:Nat) (g:TG):Prop:=∀v σ H (Q:St->Hp->Prop),g v σ H Q->g v σ H λσ' H'=>Q σ' H'/\σ'.length=σ.length/\∀i,own<=i->σ'[i]? =σ[i]?
theorem dm (h:i<own):gh own (cn i):=λv σ H Q q=>⟨q,By ..,λj hj=>by rw[CZ (by lia)]⟩
theorem EK (own:Nat) (js:Rl Nat) (σ:St):(dk own js σ).length=own+js.length:=by simp[dk]
theorem sL {σ:St}(h:(dk own js σ)[i]? =some (some v)):own<=i/\∃j,js[i-own]? =some j/\σ[j]? =some (some v):=by
 unfold dk at h;by_cases hi:i<own
 .rw [Bn (by simpa using hi),List.getElem?_replicate,A6 hi] at h;cases h
 .rw [BS (by simpa using hi),Am,AC] at h;refine⟨by lia, ?_⟩;cases e:js[i-own]? with
  |none=>rw[e] at h;cases h
  |some j=>
   rw[e] at h;refine⟨j,rfl, ?_⟩;have h':(σ[j]?).getD none=some v:=Ak h;cases e2:σ[j]? with
   |none=>rw[e2] at h';cases h'
   |some o=>rw[e2] at h';exact B' some h'
theorem sM {Nq aC:Rm}{M':Rl Rm}{pos ps:Pos}{wi:TI}{ti:TT}(hc:X.calm=true)
  (MB:∀y∈scope.names,y.2≠ .cell) (MM:scope.kind= .function) (Na:∀y∈scope.names,y.2= .local->scope.names.lookup y.1=some .local)
  (MX:∀y∈scope.names,y.2= .free->X.env.kindOf y.1=some .cell\/X.env.kindOf y.1=some .free) (Mg:N.length=own+js.length)
  (N7:∀(i j:Nat) (x:Str),js[i]? =some j->N[own+i]? =some x->X.N[j]? =some x/\(x,NameKind.free)∈scope.names/\(X.env.kindOf x=some .cell\/X.env.kindOf x=some .free)/\((relabel scope X.env).names.lookup x=some .cell\/(relabel scope X.env).names.lookup x=some .free))
  (hi:PI X tg aC wi) (hg:∀C s₀ H₀ ex,PG (X.comp scope C N s₀ H₀ ex λ_ _=>False) tg g) (ho:gh own g) (ht:∀C s₀ H₀ ex,gf (X.comp scope C N s₀ H₀ ex λ_ _=>False) M' ti) (he:∀C s₀ H₀ ex,PE (X.comp scope C N s₀ H₀ ex λ_ _=>False) Nq te)
  {σ:St}{Q:VK}{use:Rp (OO->Sem Unit)}{RQ:OO->Rf->Prop} (I:Inv X Mb σ H s) (h:i7 own js wi g ti te σ H Q)
  (fin:∀(acc C:Rg) (H3:Hp) (s4:Rf) (m:Str->Rp OO),Inv X Mb σ H3 s4->s4.heap.Ns C m->H3 C=none->C≠X.env.locals->C∉X.fs->X.s₀.heap.objs.size<=C->(∀x c,X.env.cells.lookup x=some c->c≠C)->(∀p∈X.pn++Mb,p.1≠C)->
   Q (.ref acc) H3->compPost (model X.prog X.w) X.A X.xe use RQ (.ref acc) C (.ok .next) s4)
  (hs:∀x,foldedSetIterable aC X.env x=pure x:=by intro _;rfl):
  wpAny (model X.prog X.w) X.A (comprehension (.ListComp Nq [⟨tg,aC,M',0⟩] scope pos) scope X.env ps (newList []) false (eval aC X.env) use) RQ X.xe s:=by
 have hcl:∀y∈scope.names,y.2= .free->∃c,X.env.cells.lookup y.1=some c:=λy hy hf=>I.ok.has y.1 (MX y hy hf);refine wpAny_comprehension_free (use:=use) rfl hs (EJ hcl) MM Na (thn (hi Mb s σ H _ I h) λv s1 h1=>thn h1 λitv s2 h2=> ?_);obtain⟨it,fp,tn,J,H2,e,I2,T,Ot,f2,q⟩:=h2;subst e;have nf:H2 s2.heap.objs.size=none:=I2.hok.fresh (AB _);obtain⟨Wq,⟨m0,w0⟩,turn⟩:=q s2.heap.objs.size nf;refine Ax (wpAny_newFunctionEnv MB (by intro y hy;simp at hy) (λh₁ Qt Pr=> ?_) MM);dsimp only at Qt Pr⊢;generalize hP2:s2.heap.push {cls:= .type "list",dict:=none,data:= .seq ([]:Rl OO).toArray}=P2 at Qt Pr⊢;have hC:P2.objs.size=s2.heap.objs.size+1:=by rw[<-hP2,B0]
 have P3:s2.heap.objs.size<P2.objs.size:=by rw[hC];exact BU _
 have kp:∀b o,s2.heap.get? b=some o->h₁.get? b=some o:=λb o e=>Pr.extBut b o (AQ (Nat.lt_trans (AM e) P3)) (A4 _ (hP2▸A4 _ e));have Mf:h₁.get? s2.heap.objs.size=some {cls:= .type "list",dict:=none,data:= .seq ([]:Rl OO).toArray}:=Pr.extBut _ _ (AQ P3) (A4 _ (hP2▸AH _ rfl));have Qu:∀x c,(cD X.env scope.names []).lookup x=some c->X.env.cells.lookup x=some c:=λx c e=>sI scope.names [] hcl (λ_ _ z=>by simp at z) e;have cne:∀x c,(cD X.env scope.names []).lookup x=some c->c<s2.heap.objs.size/\H2 c=none:=λx c e=>by
  obtain⟨v,o,ho,hd⟩:=I2.cell x c (Qu x c e);exact⟨AM ho,I2.freeC x c (Qu x c e)⟩
 have fpl:∀b∈fp,b<s2.heap.objs.size:=λb hb=>by
  obtain⟨o,e,_⟩:=T.obj 0 _ Ot b hb;exact AM e
 have hX:(X.comp scope P2.objs.size N s2 H2 fp λ_ _=>False).Ok:={
  mod:=I.ok.mod
  kind:=MM
  glob:=I.ok.glob
  blt:=I.ok.blt
  above:=AZ P3
  inj:=λx y c a b=>I.ok.inj x y c (Qu x c a) (Qu y c b)
  has:=λx hx=>mR scope.names [] (mS (scope:=scope) (env:=X.env) hx MB)
  cab:=λx c a _=>by cases (show false=true from a)
  hd:=I.ok.hd
  frames:=I.ok.frames
  stk:= .inl rfl
  exf:=λb hb=>⟨AQ (Nat.lt_trans (fpl b hb) P3),λx c a=>(f2 b hb).2.2.2.2.1 x c (Qu x c a)⟩
  bs:=I2.bs
  bsz:=BH I.ok.bsz I2.sz
  noex:=λb o e hb=>by
   rcases(f2 b hb).2.2.2.1 with z|z
   .exact I.ok.noex b o e z
   .exact absurd (Ao (Ao (AM e) I.ok.bsz) z) (CG _)
  exfs:=λb hb z=>by
   rcases AJ.mp (I2.stkSub b z) with z|z
   .exact(f2 b hb).2.1 z
   .exact(f2 b hb).2.2.1 z
  funs:=I2.stack
  frf:=I2.stkFree}
 have I3:∀tk,Inv (X.comp scope P2.objs.size N s2 H2 fp λ_ _=>False) [] (dk own js σ) (upd H2 s2.heap.objs.size (.lst [])) {s2 with heap:=h₁,toks:=tk}:=λtk=>{
  ok:=hX
  os:=rfl
  bare:=I2.bare
  base:=Un.laid kp (AB _) nf
  loc:=⟨_,Qt,λi x v a b c=>by
   obtain⟨hio,j,hj,hv⟩:=sL b;obtain⟨h3,h4,h5,h6⟩:=N7 (i-own) j x hj (by rw[show own+(i-own)=i by lia];exact a);obtain⟨m,hn,hl⟩:=I2.loc;obtain⟨u,ru,lk⟩:=hl j x v h3 hv (.inr h5);refine⟨u,ru, .inr ⟨h6, ?_⟩⟩;rcases lk with⟨z,_⟩|⟨_,c0,z1,z2⟩
   .rcases h5 with h5|h5<;>(rw[h5] at z;cases z)
   .obtain⟨c1,P4⟩:=mR (env:=X.env) scope.names [] h4;have:=Qu x c1 P4;rw[z1] at this;cases this;obtain⟨o,ho,hd⟩:=z2;exact⟨c0,P4,o,kp _ _ ho,hd⟩⟩
  cell:=λx c a=>by
   obtain⟨v,o,ho,hd⟩:=I2.cell x c (Qu x c a);exact⟨v,o,kp _ _ ho,hd⟩
  free:=by
   show upd H2 _ _ P2.objs.size=none;rw[aw (BL P3)];exact I2.hok.fresh (AZ P3)
  freeC:=λx c a=>by
   rw[aw (AQ (cne x c a).1)];exact(cne x c a).2
  pin:=λp hp=>absurd (show p∈([]:Rl (Rg×Obj)) from hp) (by simp)
  hok:=I2.hok.laid kp (AB _) ⟨AO _,[],0, .nil,Mf⟩
  len:=by rw[EK];exact Mg.symm}
 have fr0:∀b∈fp,upd H2 s2.heap.objs.size (.lst []) b=none:=λb hb=>by
  rw[aw (AQ (fpl b hb))];exact(f2 b hb).1
 have st3:tn 0 h₁:=T.keep 0 _ _ Ot λb _ o e=>kp b o e;have N6:∀{H':Hp},(∀b∈fp,H' b=none)->∀b∈fp,cp (X.comp scope P2.objs.size N s2 H2 fp λ_ _=>False) [] H' b:=λhn b hb=>
  ⟨hn b hb,(hX.exf b hb).1,hX.exfs b hb, .inl hb,λx c a=>(hX.exf b hb).2 x c a,λp hp=>absurd (show p∈([]:Rl (Rg×Obj)) from hp) (by simp)⟩
 have loop:∀s₃:Rf,s₃={s2 with heap:=h₁,toks:=s2.toks+([]:Rl (Str×OO)).length}->
   codeAny (model X.prog X.w) X.A (.compLoop (.ListComp Nq [⟨tg,aC,M',0⟩] scope pos) 0 (.ref it) (.ref s2.heap.objs.size) (compEnvC scope (cD X.env scope.names []) P2.objs.size X.env))
    (compPost (model X.prog X.w) X.A X.xe use RQ (.ref s2.heap.objs.size) P2.objs.size) s₃:=by
  rintro s₃ rfl;refine EI (λn s'=>∃i H',Inv (X.comp scope P2.objs.size N s2 H2 fp λ_ _=>False) [] (dk own js σ) H' s'/\tn i s'.heap/\(∀b∈fp,H' b=none)/\Wq i n H') ?_ m0 ⟨0,_,I3 _,st3,fr0,w0⟩;rintro n s3 ⟨i,H3,J3,t3,fr3,w3⟩;rcases turn i n H3 w3 with⟨stop,qd⟩|⟨go,step⟩
  .refine gg (T.done (X.comp scope P2.objs.size N s2 H2 fp λ_ _=>False) rfl rfl rfl hc i [] s3 _ H3 _ J3 (N6 fr3) t3 stop) λr s4 zu43=> ?_;obtain⟨hr,J4⟩:=zu43;subst hr;obtain⟨m,hn,_⟩:=J4.loc;have B:Un (frs X.stack) fp H2 H3 s2.heap s4.heap:=J4.base;have I5:Inv X Mb σ H3 s4:=I2.call' J4.os B J4.hok J4.bare λb hb=>by
    obtain⟨a1,a2,a3,a4,a5,a6⟩:=f2 b hb;exact⟨a4,a2,a5,a6⟩
   have hp:=I2.fpOk (H':=H3) (b:=P2.objs.size) (AZ P3) J4.free;obtain⟨a1,a2,a3,a4,a5,a6⟩:=hp;exact fin s2.heap.objs.size P2.objs.size H3 s4 m I5 hn a1 a2 a3 (BH I2.sz (AZ P3)) a5 a6 qd
  .refine gg (T.item (X.comp scope P2.objs.size N s2 H2 fp λ_ _=>False) rfl rfl rfl hc i [] s3 _ H3 _ J3 (N6 fr3) t3 go) λr s4 zu44=> ?_;obtain⟨u,hr,h4⟩:=zu44;subst hr;refine gg h4 λ_ s5 zu45=> ?_;obtain⟨x,H5,J5,r5,y5,t5,fr5⟩:=zu45;have J5':=J5.pinned (N6 fr5) (T.obj _ _ t5);refine gg (hg _ _ _ _ _ s5 _ H5 x u _ J5' r5 (ho _ _ _ _ (step x H5 y5))) λ_ s6 zu46=> ?_;obtain⟨σ6,H6,J6,q6,hl6,OA⟩:=zu46;have again:∀{s7:Rf}{H7:Hp},Inv (X.comp scope P2.objs.size N s2 H2 fp λ_ _=>False) ([]++iR fp s5.heap) σ6 H7 s7->(∃m',m'<n/\Wq (i+1) m' H7)->
     ∃m,m<n/\∃i H',Inv (X.comp scope P2.objs.size N s2 H2 fp λ_ _=>False) [] (dk own js σ) H' s7/\tn i s7.heap/\(∀b∈fp,H' b=none)/\Wq i m H':=fun{s7 H7} J7 z=>by
    obtain⟨m',hm,w7⟩:=z;refine⟨m',hm,i+1,H7,J7.unpinned.weak (by rw[hl6]) (λk v z=> ?_),T.keep _ _ _ t5 λb hb o e=>(J7.pin (b,o) (Al _ (Al _ (kc hb e)))).1,λb hb=> ?_,w7⟩
    .rw [OA k (sL z).1];exact z
    .obtain⟨o,e,d⟩:=T.obj _ _ t5 b hb;exact(J7.pin (b,o) (Al _ (Al _ (kc hb e)))).2.1
   refine gg (ht _ _ _ _ _ s6 σ6 H6 _ J6 q6) λok s7 zu47=> ?_;obtain⟨H7,J7,q7⟩:=zu47;cases ok with
   |false=>exact again J7 q7
   |true=>
    refine gg (he _ _ _ _ _ s7 σ6 H7 _ J7 q7) λy s8 zu48=> ?_;obtain⟨yv,H8,J8,r8,q8⟩:=zu48;exact gg (dF _ s8 σ6 H8 (.ref s2.heap.objs.size) [yv] (.ref s2.heap.objs.size) [y] _ J8 rfl (.cons r8 .nil) q8) λ_ s9 Ms=>by obtain⟨_,H9,J9,_,q9⟩:=Ms;exact again J9 q9
 exact codeAny_compStart_list (loop _ rfl) (T.self X.A 0 _ _ _ st3 (loop _ rfl))
theorem EL {Nq aC:Rm}{M':Rl Rm}{pos:Pos}{wi:TI}{ti:TT}(hc:X.calm=true)
  (MB:∀y∈scope.names,y.2≠ .cell) (MM:scope.kind= .function) (Na:∀y∈scope.names,y.2= .local->scope.names.lookup y.1=some .local)
  (MX:∀y∈scope.names,y.2= .free->X.env.kindOf y.1=some .cell\/X.env.kindOf y.1=some .free) (Mg:N.length=own+js.length)
  (N7:∀(i j:Nat) (x:Str),js[i]? =some j->N[own+i]? =some x->X.N[j]? =some x/\(x,NameKind.free)∈scope.names/\(X.env.kindOf x=some .cell\/X.env.kindOf x=some .free)/\((relabel scope X.env).names.lookup x=some .cell\/(relabel scope X.env).names.lookup x=some .free))
  (hi:PI X tg aC wi) (hg:∀C s₀ H₀ ex,PG (X.comp scope C N s₀ H₀ ex λ_ _=>False) tg g) (ho:gh own g) (ht:∀C s₀ H₀ ex,gf (X.comp scope C N s₀ H₀ ex λ_ _=>False) M' ti) (he:∀C s₀ H₀ ex,PE (X.comp scope C N s₀ H₀ ex λ_ _=>False) Nq te)
  (hs:∀x,foldedSetIterable aC X.env x=pure x:=by intro _;rfl):PE X (.ListComp Nq [⟨tg,aC,M',0⟩] scope pos) (i7 own js wi g ti te):=by
 intro Mb s σ H Q I h;rw[eval_ListComp];refine sM hc MB MM Na MX Mg N7 hi hg ho ht he I h (use:=none) (λacc C H3 s4 m I5 hn c1 c2 c3 c4 c5 c6 q=> ?_) hs;refine⟨m,hn,λh' sb=>⟨.ref acc,H3, ?_,rfl,q⟩⟩;exact I5.turned (t':=s4.toks) (it:=C) (λb o hb e=>(sb.2 b hb).trans e) c1 c2 (.inr c4) c5 c6
theorem EM {y:Str}{tg aC:Expr}{N:List Str}{js:List Nat}{wi:TI}{ti:TT}(hN:X.N.Nodup) (NN:X.N[i]? =some y) (hy:Loc X.env.scope y) (hf:X.fn y=true\/X.env.scope.names.lookup y=some .local)
  (hc:X.calm=true)
  (MB:∀y∈scope.names,y.2≠ .cell) (MM:scope.kind= .function) (Na:∀y∈scope.names,y.2= .local->scope.names.lookup y.1=some .local)
  (MX:∀y∈scope.names,y.2= .free->X.env.kindOf y.1=some .cell\/X.env.kindOf y.1=some .free) (Mg:N.length=own+js.length)
  (N7:∀(i j:Nat) (x:Str),js[i]? =some j->N[own+i]? =some x->X.N[j]? =some x/\(x,NameKind.free)∈scope.names/\(X.env.kindOf x=some .cell\/X.env.kindOf x=some .free)/\((relabel scope X.env).names.lookup x=some .cell\/(relabel scope X.env).names.lookup x=some .free))
  (hi:PI X tg aC wi) (hg:∀C s₀ H₀ ex,PG (X.comp scope C N s₀ H₀ ex λ_ _=>False) tg g) (ho:gh own g) (ht:∀C s₀ H₀ ex,gf (X.comp scope C N s₀ H₀ ex λ_ _=>False) M' ti) (he:∀C s₀ H₀ ex,PE (X.comp scope C N s₀ H₀ ex λ_ _=>False) Nq te)
  (hsw:swapsWith (.ListComp Nq [⟨tg,aC,M',0⟩] scope pos) (some (.Name y py)) OL.line X.env=pure true:=by rfl)
  (hs:∀x,foldedSetIterable aC X.env x=pure x:=by intro _;rfl):PS X (.Assign [.Name y py] (.ListComp Nq [⟨tg,aC,M',0⟩] scope pos) OL) (iQ (i7 own js wi g ti te) (cn i)):=by
 intro Mb s σ H D I h;rw[exec_Assign_Name_used _ _ _ _ hsw];refine A0 (wpAny_standAt (A0 ?_));show wpAny _ X.A (do let _<-comprehension (.ListComp Nq [⟨tg,aC,M',0⟩] scope pos) scope X.env _ (newList []) false (eval aC X.env) (some (assign (.Name y py) X.env))) _ _ s;refine A0 (Bj (sM hc MB MM Na MX Mg N7 hi hg ho ht he I h (use:=some (assign (.Name y py) X.env)) (RQ:=λ_ s'=>SP X Mb D .next s') (λacc C H3 s4 m I5 hn c1 c2 c3 c4 c5 c6 q=> ?_) hs) (λ_ s' hq=>A2 (A2 hq)) λ_ _ e=>e);show wpAny _ X.A (assign (.Name y py) X.env (.ref acc)) _ _ _;obtain⟨o,es,ep,MZ,hd,hr⟩:=hn;have I6:Inv X (Mb++[(C,o)]) σ H3 s4:=I5.pins_of λp hp=>by
  rcases B9.mp hp with z|z
  .exact I5.pin p (Al _ z)
  .rw [AR.mp z];exact⟨MZ,c1,c2,c3,λv z=>by rw[hd] at z;cases z⟩
 refine wpAny_assign_Name (jZ I6 hN NN hy (v:= .ref acc) rfl (λs' I7=> ?_) hf);have hp:=I7.pin (C,o) (Al _ (Al _ (by simp)));refine⟨m,⟨o,es,ep,hp.1,hd,hr⟩,λh' sb=>⟨_,H3, ?_,q⟩⟩;exact I7.unpinned.turned (t':=s'.toks) (it:=C) (λb o hb e=>(sb.2 b hb).trans e) c1 c2 (.inr c4) c5 c6
def kz (XN:Rl Str) (sc scope:Scope) (own:Nat) (js:Rl Nat) (N:Rl Str):Bool:=
 (scope.names.all λy=>decide (y.2≠ .cell)&&(decide (y.2≠ .local)||decide (scope.names.lookup y.1=some .local))&&(decide (y.2≠ .free)||decide (sc.names.lookup y.1=some .cell)||decide (sc.names.lookup y.1=some .free)))&&
  decide (scope.kind= .function)&&decide (N.length=own+js.length)&&
  (List.range js.length).all λi=>match js[i]?,N[own+i]? with
   |some j,some x=>decide (XN[j]? =some x)&&decide (scope.names.lookup x=some .free)&&(decide (sc.names.lookup x=some .cell)||decide (sc.names.lookup x=some .free))
   |_,_=>false
theorem mT {env:Env}:∀{names:Rl (Str×NameKind)}{x:Str},names.lookup x=some .free->
  (names.map fun(n,k)=>if(k==NameKind.free&&env.scope.kind== .function&&env.kindOf n==some .cell) then(n,NameKind.cell) else(n,k)).lookup x=some .cell\/
  (names.map fun(n,k)=>if(k==NameKind.free&&env.scope.kind== .function&&env.kindOf n==some .cell) then(n,NameKind.cell) else(n,k)).lookup x=some .free
 |[],_,h=>by simp at h
 |(n,k)::r,x,h=>by
  have ih:= @mT env r x;rw[AL,CI];rw[CI] at h;by_cases hc:(k==NameKind.free&&env.scope.kind== .function&&env.kindOf n==some .cell)=true
  .rw [A6 hc];dsimp only;cases hx:x==n with
   |true=>exact .inl rfl
   |false=>
    rw[hx] at h;exact ih h
  .rw [A5 hc];dsimp only;cases hx:x==n with
   |true=>
    rw[hx] at h;exact .inr h
   |false=>
    rw[hx] at h;exact ih h
structure CompOk (XN:Rl Str) (sc scope:Scope) (own:Nat) (js:Rl Nat) (N:Rl Str):Prop where
 cell:∀y∈scope.names,y.2≠ .cell
 names:∀y∈scope.names,y.2= .local->scope.names.lookup y.1=some .local
 free:∀y∈scope.names,y.2= .free->sc.names.lookup y.1=some .cell\/sc.names.lookup y.1=some .free
 kind:scope.kind= .function
 len:N.length=own+js.length
 cap:∀(i j:Nat) (x:Str),js[i]? =some j->N[own+i]? =some x->XN[j]? =some x/\scope.names.lookup x=some .free/\(sc.names.lookup x=some .cell\/sc.names.lookup x=some .free)
theorem sN {XN:Rl Str}{sc:Scope}(h:kz XN sc scope own js N=true):CompOk XN sc scope own js N:=by
 unfold kz at h;rw[AA,AA,AA] at h;obtain⟨⟨⟨h1,h2⟩,h3⟩,h4⟩:=h;rw[AT] at h1 h4;refine⟨λy hy=> ?_,λy hy e=> ?_,λy hy e=> ?_,B2 h2,B2 h3,λi j x a b=> ?_⟩
 .have:=h1 y hy;rw[AA,AA] at this;exact B2 this.1.1
 .have:=h1 y hy;rw[AA,AA,CA] at this;rcases this.1.2 with z|z
  .exact absurd e (B2 z)
  .exact B2 z
 .have:=h1 y hy;rw[AA,AA,CA,CA,CA] at this;rcases this.2 with(z|z)|z
  .exact absurd e (B2 z)
  .exact .inl (B2 z)
  .exact .inr (B2 z)
 .have hi:i<js.length:=(AF.mp a).1;have:=h4 i (AX.mpr hi);rw[a,b] at this;dsimp only at this;rw[AA,AA,CA] at this;exact⟨B2 this.1.1,B2 this.1.2,this.2.imp B2 B2⟩
section
variable {X:Cx}{XN:Rl Str}{sc scope:Scope}{Nq tg aC:Rm}{M':Rl Rm}{pos:Pos}{N:Rl Str}{own:Nat}{js:Rl Nat}{wi:TI}{g:TG}{ti:TT}{te:TE}
theorem dn (hc:X.calm=true) (ok:kz XN sc scope own js N=true) (hsc:X.env.scope=sc) (hXN:X.N=XN) (hi:PI X tg aC wi) (hg:∀C s₀ H₀ ex,PG (X.comp scope C N s₀ H₀ ex λ_ _=>False) tg g) (ho:gh own g)
  (ht:∀C s₀ H₀ ex,gf (X.comp scope C N s₀ H₀ ex λ_ _=>False) M' ti) (he:∀C s₀ H₀ ex,PE (X.comp scope C N s₀ H₀ ex λ_ _=>False) Nq te)
  (hs:∀x,foldedSetIterable aC X.env x=pure x:=by intro _;rfl):PE X (.ListComp Nq [⟨tg,aC,M',0⟩] scope pos) (i7 own js wi g ti te):=by
 obtain⟨h1,h2,h3,h4,h5,h6⟩:=sN ok;subst hsc hXN;refine EL hc h1 h4 h2 h3 h5 (λi j x a b=> ?_) hi hg ho ht he hs;obtain⟨z1,z2,z3⟩:=h6 i j x a b;exact⟨z1,C0 z2,z3,mT z2⟩
theorem mU {y:Str}(hN:X.N.Nodup) (NN:X.N[i]? =some y) (hy:Loc X.env.scope y) (hf:X.fn y=true\/X.env.scope.names.lookup y=some .local) (hc:X.calm=true) (ok:kz XN sc scope own js N=true) (hsc:X.env.scope=sc) (hXN:X.N=XN) (hi:PI X tg aC wi)
  (hg:∀C s₀ H₀ ex,PG (X.comp scope C N s₀ H₀ ex λ_ _=>False) tg g) (ho:gh own g)
  (ht:∀C s₀ H₀ ex,gf (X.comp scope C N s₀ H₀ ex λ_ _=>False) M' ti) (he:∀C s₀ H₀ ex,PE (X.comp scope C N s₀ H₀ ex λ_ _=>False) Nq te)
  (hsw:swapsWith (.ListComp Nq [⟨tg,aC,M',0⟩] scope pos) (some (.Name y py)) OL.line X.env=pure true:=by rfl)
  (hs:∀x,foldedSetIterable aC X.env x=pure x:=by intro _;rfl):PS X (.Assign [.Name y py] (.ListComp Nq [⟨tg,aC,M',0⟩] scope pos) OL) (iQ (i7 own js wi g ti te) (cn i)):=by
 obtain⟨h1,h2,h3,h4,h5,h6⟩:=sN ok;subst hsc hXN;refine EM hN NN hy hf hc h1 h4 h2 h3 h5 (λi j x a b=> ?_) hi hg ho ht he hsw hs;obtain⟨z1,z2,z3⟩:=h6 i j x a b;exact⟨z1,C0 z2,z3,mT z2⟩
end
theorem i8 {lo:Int}{ti:TT}{σ:St}{H1:Hp}{Q:VK} (Pv:Nat->Hp->Prop) (h0:Pv 0 (upd H1 acc (.lst [])))
  (hs:∀i H2,i<n->Pv i H2->g (.int (lo+i)) (dk own js σ) H2 λσ4 H4=>ti σ4 H4 λb H5=>if b=true then te σ4 H5 λy H6=>rAppend (.ref acc) [y] H6 λ_ H7=>Pv (i+1) H7 else Pv (i+1) H5) (hd:∀H2,Pv n H2->Q (.ref acc) H2)
  (mono:∀σ H (R R':St->Hp->Prop) x,(∀σ' H',R σ' H'->R' σ' H')->g x σ H R->g x σ H R') (Nb:∀σ H (R R':Bool->Hp->Prop),(∀b H',R b H'->R' b H')->ti σ H R->ti σ H R') (Nc:∀σ H (R R':VK),(∀v H',R v H'->R' v H')->te σ H R->te σ H R'):
  i6 (Itr lo n) own js g ti te σ H1 acc Q:=by
 refine⟨λi m H2=>m=n-i/\i<=n/\Pv i H2,⟨n,by simp,AO _,h0⟩, ?_⟩;rintro i m H2 ⟨rfl,hi,p⟩;by_cases Mh:i<n
 .refine .inr ⟨Mh,λx H3 y=> ?_⟩;obtain⟨e1,e2⟩:=y;subst e1 e2;refine mono _ _ _ _ _ (λσ4 H4 q=>Nb _ _ _ _ (λb H5 q=> ?_) q) (hs i _ Mh p);cases b with
  |true=>
   refine Nc _ _ _ _ (λv H6 q=> ?_) q;obtain⟨l,xs,y,a1,a2,a3,a4,a5⟩:=q;exact⟨l,xs,y,a1,a2,a3,a4,n-(i+1),by lia,rfl,Mh,a5⟩
  |false=>exact⟨n-(i+1),by lia,rfl,Mh,q⟩
 .have e:i=n:=by lia
  subst e;exact .inl ⟨AB _,hd H2 p⟩
theorem fy {xs:Rl V}{ti:TT}{σ:St}{H1:Hp}{Q:VK} (Pv:Nat->Hp->Prop) (h0:Pv 0 (upd H1 acc (.lst []))) (hl:∀i H2,i<=xs.length->Pv i H2->SqL K H2 a xs)
  (hs:∀i x H2,xs[i]? =some x->Pv i H2->g x (dk own js σ) H2 λσ4 H4=>ti σ4 H4 λb H5=>if b=true then te σ4 H5 λy H6=>rAppend (.ref acc) [y] H6 λ_ H7=>Pv (i+1) H7 else Pv (i+1) H5) (hd:∀H2,Pv xs.length H2->Q (.ref acc) H2)
  (mono:∀σ H (R R':St->Hp->Prop) x,(∀σ' H',R σ' H'->R' σ' H')->g x σ H R->g x σ H R') (Nb:∀σ H (R R':Bool->Hp->Prop),(∀b H',R b H'->R' b H')->ti σ H R->ti σ H R') (Nc:∀σ H (R R':VK),(∀v H',R v H'->R' v H')->te σ H R->te σ H R'):
  i6 (Itl K a) own js g ti te σ H1 acc Q:=by
 refine⟨λi m H2=>m=xs.length-i/\i<=xs.length/\Pv i H2,⟨xs.length,by simp,AO _,h0⟩, ?_⟩;rintro i m H2 ⟨rfl,hi,p⟩;have q:=hl i H2 hi p;by_cases Mh:i<xs.length
 .refine .inr ⟨⟨xs,xs[i],q,by simp[Mh]⟩,λx H3 y=> ?_⟩;obtain⟨e1,y⟩:=y;subst e1;refine mono _ _ _ _ _ (λσ4 H4 q=>Nb _ _ _ _ (λb H5 q=> ?_) q) (hs i x _ (y xs q) p);cases b with
  |true=>
   refine Nc _ _ _ _ (λv H6 q=> ?_) q;obtain⟨l,xs,y,a1,a2,a3,a4,a5⟩:=q;exact⟨l,xs,y,a1,a2,a3,a4,_,by lia,rfl,Mh,a5⟩
  |false=>exact⟨_,by lia,rfl,Mh,q⟩
 .have e:i=xs.length:=by lia
  subst e;exact .inl ⟨⟨xs,q,AB _⟩,hd H2 p⟩
def dq :∀(σ:St) (H:Hp) (R R':St->Hp->Prop) (x:V),(∀σ' H',R σ' H'->R' σ' H')->cn i x σ H R->cn i x σ H R':=λ_ _ _ _ _ k h=>k _ _ h
theorem dW {A B:St->Hp->Prop}{x:V}{σ:St}(h:A (σ.set i (some x)) H):cn i x σ H λσ4 H4=>ky σ4 H4 λb H5=>if b=true then A σ4 H5 else B σ4 H5:=by
 show if true=true then A (σ.set i (some x)) H else B (σ.set i (some x)) H
 rw[A6 rfl];exact h
theorem kA (h:i<n):ixN n (i:Int)=some i:=by
 unfold ixN;rw[A6 (by lia),A6 (by lia),Ae]
def cW:∀(σ:St) (H:Hp) (R R':Bool->Hp->Prop),(∀b H',R b H'->R' b H')->ky σ H R->ky σ H R':=λ_ _ _ _ k h=>k _ _ h
section
variable {X:Cx}{K:W.Frag}
def EN (h:X.K=K):IxR X (rIxL K):=h▸ge
end
inductive EqR (K:W.Frag) (H:Hp):Nat->V->V->Bool->Prop where
 |int (d:Nat) (i j:Int):EqR K H d (.int i) (.int j) (decide (i=j))
 |lists {d:Nat}{a b:Addr}{xs ys:List V} (es:Nat->Bool) (h1:SqL K H a xs) (h2:SqL K H b ys) (hl:xs.length=ys.length) (he:∀(j:Nat) x y,xs[j]? =some x->ys[j]? =some y->EqR K H d x y (es j)):EqR K H (d+1) (.ref a) (.ref b) ((List.range xs.length).all es)
 |lens {d:Nat}{a b:Addr}{xs ys:List V} (h1:SqL K H a xs) (h2:SqL K H b ys) (hl:xs.length≠ys.length):EqR K H (d+1) (.ref a) (.ref b) false
 |tuples {d:Nat}{a b:Addr}{xs ys:List V} (es:Nat->Bool) (h1:SqT K H a xs) (h2:SqT K H b ys) (he:∀(j:Nat) x y,xs[j]? =some x->ys[j]? =some y->EqR K H d x y (es j)):EqR K H (d+1) (.ref a) (.ref b) ((List.range (min xs.length ys.length)).all es&&xs.length==ys.length)
section
variable {X:Cx}{Mb:Rl (Rg×Obj)}{σ:St}{H:Hp}{s:Rf}
theorem EqR.same (I:Inv X Mb σ H s) {x:V}(h:EqR X.K H d x y e):x=y->e=true:=by
 induction h with
 |int d i j=>intro q;cases q;simp
 |lists es h1 h2 hl he ih=>
  intro q;cases q;have z:=I.list_inj h1 h2;subst z;rw[AT];intro j hj;rw[AX] at hj;have hx:=A3 hj;exact ih j _ _ hx hx rfl
 |lens h1 h2 hl=>
  intro q;cases q;exact absurd (B' List.length (I.list_inj h1 h2)) hl
 | @tuples d a b xs ys es h1 h2 he ih=>
  intro q;cases q;have z:=I.tuple_inj h1 h2;subst z;rw[AA];refine⟨?_,by simp⟩;rw[AT];intro j hj;rw[AX,Nat.min_self] at hj;have hx:=A3 hj;exact ih j _ _ hx hx rfl
def cb (A:Rk):A.in1.units=A.units+1:=rfl
theorem EqR.bP (I:Inv X Mb σ H s) {x:V}(h:EqR X.K H d x y e):∀{A:Rk}{u v:OO},A.units+d<cLine->av x u->av y v->SeqAt.RcAt A s u v e/\SeqAt.RcNeAt A s u v (!e)/\SeqAt.EqAt A s u v e:=by
 induction h with
 |int d i j=>
  intro A u v hu ru rv;obtain⟨t,rfl⟩:=ru;obtain⟨t',rfl⟩:=rv;have e:decide (i=j)=(i==j):=by rw[Bool.beq_eq_decide_eq]
  rw[e];exact⟨SeqAt.RcAt.int_int i t j t',SeqAt.RcNeAt.int_int i t j t',SeqAt.EqAt.int_int i t j t'⟩
 | @lists d a b xs ys es h1 h2 hl he ih=>
  intro A u v hu ru rv;obtain rfl:u=Value.ref a:=ru;obtain rfl:v=Value.ref b:=rv;obtain⟨is,r1,p1,z1⟩:=I.list h1;obtain⟨js,r2,p2,z2⟩:=I.list h2;have l1:=r1.length;have l2:=r2.length;have ln:xs.length=is.toArray.size:=by simpa using l1
  have sz:is.toArray.size=js.toArray.size:=by simp only[AG];lia
  have it:∀j (q1:j<is.toArray.size) (q2:j<js.toArray.size),SeqAt.EqAt A.in1 s is.toArray[j] js.toArray[j] (es j):=λj q1 q2=>by
   simp only[AG] at q1 q2;have hx:xs[j]? =some xs[j]:=A3 (by lia);have hy:ys[j]? =some ys[j]:=A3 (by lia);obtain⟨u1,e1,ru1⟩:=r1.get hx;obtain⟨u2,e2,ru2⟩:=r2.get hy;have g1:is.toArray[j]=u1:=by
    rw[A3 q1] at e1;simpa using Option.some.inj e1
   have g2:js.toArray[j]=u2:=by
    rw[A3 q2] at e2;simpa using Option.some.inj e2
   rw[g1,g2];exact(ih j _ _ hx hy (by rw[cb];lia) ru1 ru2).2.2
  rw[ln];have R:=SeqAt.RcAt.lists (A:=A) p1.isList p2.isList sz (by lia) it;refine⟨R,SeqAt.RcNeAt.lists p1.isList p2.isList sz (by lia) it, ?_⟩;by_cases q:a=b
  .subst q;have:=(EqR.lists es h1 h2 hl he).same I rfl;rw[ln] at this;rw[this];exact SeqAt.EqAt.same _
  .exact SeqAt.EqAt.of_refs q R
 | @lens d a b xs ys h1 h2 hl=>
  intro A u v hu ru rv;obtain rfl:u=Value.ref a:=ru;obtain rfl:v=Value.ref b:=rv;obtain⟨is,r1,p1,z1⟩:=I.list h1;obtain⟨js,r2,p2,z2⟩:=I.list h2;have l1:=r1.length;have l2:=r2.length;have sz:(is.toArray.size !=js.toArray.size)=true:=by
   simp only[AG,bne_iff_ne,ne_eq];lia
  have R:=SeqAt.RcAt.lists_lengths (A:=A) p1.isList p2.isList sz (by lia);refine⟨R,SeqAt.RcNeAt.lists_lengths p1.isList p2.isList sz (by lia), ?_⟩;by_cases q:a=b
  .subst q;exact absurd (B' List.length (I.list_inj h1 h2)) hl
  .exact SeqAt.EqAt.of_refs q R
 | @tuples d a b xs ys es h1 h2 he ih=>
  intro A u v hu ru rv;obtain rfl:u=Value.ref a:=ru;obtain rfl:v=Value.ref b:=rv;obtain⟨is,r1,p1,z1⟩:=I.tuple h1;obtain⟨js,r2,p2,z2⟩:=I.tuple h2;have l1:=r1.length;have l2:=r2.length;have ln:xs.length=is.toArray.size:=by simpa using l1
  have ln2:ys.length=js.toArray.size:=by simpa using l2
  have it:∀j (q1:j<is.toArray.size) (q2:j<js.toArray.size),SeqAt.EqAt A.in1 s is.toArray[j] js.toArray[j] (es j):=λj q1 q2=>by
   simp only[AG] at q1 q2;have hx:xs[j]? =some xs[j]:=A3 (by lia);have hy:ys[j]? =some ys[j]:=A3 (by lia);obtain⟨u1,e1,ru1⟩:=r1.get hx;obtain⟨u2,e2,ru2⟩:=r2.get hy;have g1:is.toArray[j]=u1:=by
    rw[A3 q1] at e1;simpa using Option.some.inj e1
   have g2:js.toArray[j]=u2:=by
    rw[A3 q2] at e2;simpa using Option.some.inj e2
   rw[g1,g2];exact(ih j _ _ hx hy (by rw[cb];lia) ru1 ru2).2.2
  rw[ln,ln2];have R:=SeqAt.RcAt.tuples (A:=A) (show s.heap.IsTuple a is.toArray from p1) (show s.heap.IsTuple b js.toArray from p2) (by lia) it;refine⟨R,SeqAt.RcNeAt.tuples (show s.heap.IsTuple a is.toArray from p1) (show s.heap.IsTuple b js.toArray from p2) (by lia) it, ?_⟩;by_cases q:a=b
  .subst q;have:=(EqR.tuples es h1 h2 he).same I rfl;rw[ln,ln2] at this;rw[this];exact SeqAt.EqAt.same _
  .exact SeqAt.EqAt.of_refs q R
inductive rEqS (K:W.Frag) (neg:Bool) (x:V) (y:V) (H:Hp) (Q:VK):Prop
 |mk d e:EqR K H d x y e->d<=8->(Q (.bl (if neg then !e else e)) H)->rEqS K neg x y H Q
theorem EO (hr:Room k X.A):OpR X (compareOp .Eq) (rEqS X.K false):=by
 intro Mb s σ H x y v u Q I rx ry h;obtain⟨d,e,r,hd,q⟩:=h;have hu:=hr.un;exact(r.bP I (A:=X.A) (by lia) rx ry).1 X.prog X.w X.xe _ ⟨.bl e,H,I,rfl,q⟩
theorem mV (hr:Room k X.A):OpR X (compareOp .NotEq) (rEqS X.K true):=by
 intro Mb s σ H x y v u Q I rx ry h;obtain⟨d,e,r,hd,q⟩:=h;have hu:=hr.un;exact(r.bP I (A:=X.A) (by lia) rx ry).2.1 X.prog X.w X.xe _ ⟨.bl (!e),H,I,rfl,q⟩
theorem gi (hc:X.calm=true):bW X (.builtin "sum") (λxs H Q=>∃(p:Rg) (ns:Rl Int),xs=[.ref p]/\SqL X.K H p (ns.map V.int)/\Q (.int ns.sum) H):=by
 intro Mb s σ H xs us Q I r h;obtain⟨p,ns,rfl,hq,q⟩:=h;obtain⟨u,rfl,rx⟩:=cU r;cases rx;obtain⟨Me,r',pl,hz⟩:=I.list hq;have hi:IntsAre Me ns:=mL r';obtain⟨ys,e⟩:=hi.allInts.items;have hl:=pl.isList;rw[e] at hl;refine sum_intListG (I.ok.hd hc) hl λh' tk t' hk=>⟨.int ns.sum,H,I.kept hk,⟨t', ?_⟩,q⟩;have n1:=hi.numsOf;rw[show Me=Me.toArray.toList from rfl,e,nums_intItems] at n1;rw[preSum_eq,C2 (by simp),n1]
end
theorem EQ:typeLookup (.type "list_reverseiterator") "__len__"=pure none:=by rw[typeLookup_type,DQ];kernel_rfl
theorem ER:Slot "list_reverseiterator" "__length_hint__" "list_reverseiterator.__length_hint__":=
 .of (owner:="list_reverseiterator") (n:="__length_hint__") (by rw[typeLookup_type,DQ];kernel_rfl) (by ac_nf) (by ac_nf) (by ac_nf)
  (.inr (by ac_nf)) (by rw[Dg];kernel_rfl)
section
variable {prog:Rh}{w:Rj}{A:Rk}{E:OO->Rf->Prop}{s:Rf}
theorem ES {it:Rg}{i:Int}{Q:Bool->Rf->Prop} (Mi:s.heap.IsRevIter it l i) (h:Q false s):wpAny (model prog w) A (Builtin.List.listLengthHint (.ref it)) Q E s:=by
 unfold Builtin.List.listLengthHint;refine A0 (BW Mi.typeIs EQ ?_);refine D3 (λNr=>absurd Nr (by ac_nf)) (λ_=> ?_);refine D3 (λNr=>absurd Nr (by decide)) (λ_=> ?_);refine A0 (BW Mi.typeIs ER.lookup ?_);generalize hid:("list_reverseiterator.__length_hint__":String)=id0
 wp_delta
 rw[show splitId id0=some ("list_reverseiterator","__length_hint__") from by subst hid;ac_nf];subst hid;refine A0 (BY (T:="list_reverseiterator") (b:=true) Mi.typeIs (by rw[Dg];kernel_rfl) ?_);refine D3 (λNr=>absurd Nr (by decide)) (λ_=> ?_);refine D3 (λ_=> ?_) (λNr=>absurd (by ac_nf) Nr);refine D3 (λNr=>absurd Nr (by ac_nf)) (λ_=> ?_);exact A2 h
theorem ET {it l:Addr}{items:Array Value}{Q:Value->Shared->Prop} (hh:A.handled=none) (Mi:s.heap.IsRevIter it l ((items.size:Int)-1)) (hl:s.heap.IsList l items) (MF:l≠it) (hsz:items.size<=sizeLine)
  (hQ:∀h' tk c' NE,(∀b o,b≠it->s.heap.get? b=some o->h'.get? b=some o)->h'.get? s.heap.objs.size=some {cls:= .type "list",dict:=none,data:= .seq NE c',slots:= #[]}->
   ItemsOf (λi v=>items[items.size-1-i]? =some v) NE items.size->Q (.ref s.heap.objs.size) {s with heap:=h',toks:=tk}):
  wpAny (model prog w) A (call (.type "list") [.ref it]) Q E s:=by
 have Qv:it<s.heap.objs.size:=let ⟨_,e,_⟩:=Mi;AM e;have llt:l<s.heap.objs.size:=let ⟨_,e,_⟩:=hl;AM e;refine callType_codes (Q₁:=λobj s₁=>obj= .ref s.heap.objs.size/\s₁={s with heap:=s.heap.push {cls:= .type "list",data:= .seq #[]}}) F.called_list (F.typeCall_list_1 _) F.entry_list_init
  (code_list_new _ ⟨rfl,rfl⟩) λobj s₁ h₁=> ?_
 obtain⟨rfl,rfl⟩:=h₁;have hS:(s.heap.push {cls:= .type "list",data:= .seq #[]}).get? s.heap.objs.size=some {cls:= .type "list",data:= .seq #[]}:=AH _ rfl;refine⟨⟨_,hS,rfl⟩,F.args_list_init_2 _ _, ?_⟩;have hit1:(s.heap.push {cls:= .type "list",data:= .seq #[]}).IsRevIter it l ((items.size:Int)-1):=Mi.at λo e=>A4 _ e;have M6:(s.heap.push {cls:= .type "list",data:= .seq #[]}).IsList l items:=hl.push _;have kp1:∀b o,s.heap.get? b=some o->(s.heap.push {cls:= .type "list",data:= .seq #[]}).get? b=some o:=λb o e=>A4 _ e;generalize s.heap.push {cls:= .type "list",data:= .seq #[]}=p at*
 generalize hSS:s.heap.objs.size=S at*
 have neS:∀{b o},s.heap.get? b=some o->b≠S:=λe=>AQ (hSS▸AM e);show wpAny _ _ (do let NA<-Builtin.List.listItems (.ref S);Builtin.List.listUpdate (.ref S) (λ_=> #[]);letGo NA.toList.reverse;Builtin.List.listExtendWith (.ref S) (.ref it) .none) _ _ _;refine A0 ?_;unfold Builtin.List.listItems;refine A0 (BV hS rfl (A2 ?_));show wpAny _ _ (updateSeq S (λ_=> #[])>>=λ_=>letGo (#[]:Array Value).toList.reverse>>=λ_=>Builtin.List.listExtendWith (.ref S) (.ref it) .none) _ _ _;refine A0 (wpAny_updateSeq hS rfl ?_);have Qw:=Bu (Obj.mapSeq (λ_=>(#[]:Array Value))) hS rfl;have oth:∀b o,b≠S->p.get? b=some o->(p.update S (Obj.mapSeq (λ_=>(#[]:Array Value)))).get? b=some o:=λb o hb e=>(Heap.get?_update_other _ _ (DW hb)).trans e;generalize p.update S (Obj.mapSeq (λ_=>(#[]:Array Value)))=p2 at Qw oth⊢;have Ps:p2.IsRevIter it l ((items.size:Int)-1):=hit1.at λo e=>oth it o (AQ Qv) e;have Mq:p2.IsList l items:=M6.at λo e=>oth l o (AQ llt) e;refine A0 (wpAny_letGo ?_);unfold Builtin.List.listExtendWith;refine A0 (DD (T:="list_reverseiterator") Ps.typeIs ?_);have h1:Builtin.List.listSameRef (.ref S) (.ref it)=false:=by
  have:S≠it:=BL Qv;simp[Builtin.List.listSameRef,this]
 have h2:(Value.type "list_reverseiterator"==Value.type "list")=false:=by decide
 have h3:(Value.type "list_reverseiterator"==Value.type "tuple")=false:=by decide
 simp only[h1,h2,h3,Bool.or_false,AI,An];refine A0 (wpAny_pyIter_revIter Ps ?_);refine A0 (B5 (ES Ps ?_));have Wq:=(Walks.listRev (prog:=prog) (w:=w) (A:=A.in1.in1) hh it l MF items).toS;refine D3 (λNr=>absurd Nr (by ac_nf)) (λ_=> ?_);refine A2 ⟨Cw F.plain_extend_loop _, ?_⟩;refine codeAny_extend_loopS Wq hsz S (by intro z;rcases AJ.mp z with z|z;exact absurd z (BL Qv);exact absurd (AR.mp z) (BL llt)) .none items.size 0 _ #[] _ rfl (AO _) ⟨AO _,by simpa using Ps,Mq⟩ Qw (ItemsOf.nil _) λs' NE c' hm OM Mf=> ?_;rw[Moved.eq_with hm];refine⟨rfl,hQ s'.heap s'.toks c' NE (λb o hb e=>hm.heap b o (λz=> ?_) (oth b o (neS e) (kp1 b o e))) OM Mf⟩
 .rcases AJ.mp z with z|z
  .exact neS e z
  .exact hb (AR.mp z)
end
theorem EU {items:Array OO}{acc:Array OO} (h:ItemsOf (λi v=>items[items.size-1-i]? =some v) acc items.size):acc=items.toList.reverse.toArray:=by
 obtain⟨h1,h2⟩:=h;refine Array.ext (by simp[h1]) λi p q=> ?_;have this:items[items.size-1-i]? =some acc[i]:=h2 i acc[i] (by simp[p]);simp only[List.getElem_toArray,List.getElem_reverse,B4,Array.getElem_toList];rw[Ab (by lia)] at this;exact(Ak this).symm
section
variable {X:Cx}{e:Rm}{te:TE}{p1 p2 p3 pos:Pos}
def EV (K:W.Frag) (te:TE):TE:=λσ H Q=>te σ H λx H1=>∃a xs,x= .ref a/\SqL K H1 a xs/\∀l,H1 l=none->Q (.ref l) (upd H1 l (.lst xs.reverse))
theorem sO (hc:X.calm=true) (hg1:Gl X "list") (hm1:X.mg "list"=none) (hg2:Gl X "reversed") (hm2:X.mg "reversed"=none) (ha:PE X e te)
  (he1:starEach [.Call (.Name "reversed" p2) [e] [] p3] X.env=[(false,eval (.Call (.Name "reversed" p2) [e] [] p3) X.env)]:=by rfl) (OB:starEach [e] X.env=[(false,eval e X.env)]:=by rfl):
  PE X (.Call (.Name "list" p1) [.Call (.Name "reversed" p2) [e] [] p3] [] pos) (EV X.K te):=by
 intro Mb s σ H Q I h;refine BJ (cM I hg1 hm1 boot_list ?_);refine B3 ?_ he1 (by rfl);rw[he1];show wpAny _ _ (spliced [(false,eval (.Call (.Name "reversed" p2) [e] [] p3) X.env)]) _ _ s;refine CT ?_;refine BJ (cM I hg2 hm2 boot_reversed ?_);refine B3 (thn ((ab ha ae OB) _ Mb s σ H (λvs H1=>match vs with|[x]=>(∃a xs,x= .ref a/\SqL X.K H1 a xs/\∀l,H1 l=none->Q (.ref l) (upd H1 l (.lst xs.reverse)))|_=>False) I h) λus s1 zu49=> ?_) OB (by rfl);obtain⟨vs,H1,I1,r1,q1⟩:=zu49
 .match vs,q1,r1 with
  |[x],q1,r1=>
  obtain⟨a,xs,rfl,hq,q⟩:=q1;obtain⟨u,rfl,ru⟩:=cU r1;obtain rfl:u=Value.ref a:=ru;obtain⟨Me,rv,pl,hz⟩:=I1.list hq;have lt:a<s1.heap.objs.size:=let ⟨_,e,_⟩:=pl.isList;AM e;refine call_reversed_list pl.isList ?_;refine Calls.spliced_nil ?_;refine ET (items:=Me.toArray) (I1.ok.hd hc) ⟨_,AH _ rfl,rfl,rfl⟩ (pl.isList.push _) (AQ lt) (by have:=rv.length;simp;lia) λh' tk c' NE k hn ia=> ?_;have ne:∀b o,s1.heap.get? b=some o->h'.get? b=some o:=λb o z=>k b o (AQ (AM z)) (A4 _ z);rw[EU ia] at hn;have le:s1.heap.objs.size<=(s1.heap.push (revObj a ((Me.toArray.size:Int)-1))).objs.size:=by rw[B0];exact Ct _
  exact⟨.ref _,_,I1.laid (t':=tk) ne le (show aG X.prog X.w _ h' _ (.lst xs.reverse) from⟨by simpa using hz,Me.reverse,c',rv.reverse,hn⟩),rfl,q _ (I1.hok.fresh le)⟩
end
def Ite (K:W.Frag) (a:Rg):It:=
 ⟨λi H=>∃xs x,SqL K H a xs/\xs[i]? =some x,λi H v H'=>∃x p,(∀xs,SqL K H a xs->xs[i]? =some x)/\v= .ref p/\H p=none/\H'=upd H p (.tup [.int i,x]),λi H=>∃xs,SqL K H a xs/\xs.length<=i⟩
theorem EW {M1:Rl Rm}(a e it:Rg) (MF:e≠it):
  Turn P w K (.Tuple M1 k pos) (Ite K a) [e,it] e (λi h=>(∃NA,IsEnum h e it (i:Nat) NA)/\h.IsListIter it a i) where
 mem:=by simp
 obj:=λi h st b hb=>by
  obtain⟨⟨NA,h1⟩,o,h2,h3,h4⟩:=st;rcases AJ.mp hb with z|z
  .subst z;exact⟨_,h1,λv y=>by cases y⟩
  .rw [AR.mp z];exact⟨o,h2,λv y=>by rw[h4] at y;cases y⟩
 keep:=λi h h' st kk=>⟨st.1.imp λNA z=>kk e (by simp) _ z,st.2.at λo z=>kk it (by simp) o z⟩
 item:=by
  intro X hP hw hK hc i Mb s σ H E I hf st hg;subst hP hw hK;obtain⟨xs,x,hq,hx⟩:=hg;obtain⟨Me,rv,p,hz⟩:=I.list hq;obtain⟨u,hu,ru⟩:=rv.get hx;obtain⟨⟨NA,he⟩,Mi⟩:=st;have nf:H s.heap.objs.size=none:=I.hok.fresh (AB _);have ltE:e<s.heap.objs.size:=AM he;refine wpAny_pyNext_enum_item he Mi p.isList (x:=u) (by simpa using hu) MF λh' ho N8 hT hsz hk=>⟨.ref s.heap.objs.size,rfl, ?_⟩;refine wpAny_letOwnedTupleGo_enum ho λh2 OB sb=> ?_;have k2:∀b o,b≠e->b≠it->s.heap.get? b=some o->h2.get? b=some o:=λb o n1 n2 z=>(sb.2 b n1).trans (hk b o n1 n2 z);have Qx:h2.get? s.heap.objs.size=some {cls:= .type "tuple",data:= .seq #[.int i s.toks,u]}:=(sb.2 _ (BL ltE)).trans hT;have NP:∀b,b∉[e,it]->b≠e/\b≠it:=λb z=>⟨λy=>z (by simp[y]),λy=>z (by simp[y])⟩;refine⟨.ref s.heap.objs.size,upd H s.heap.objs.size (.tup [.int i,x]), ?_,rfl,⟨x,_,λys hy=>by rw[I.list_inj hy hq];exact hx,rfl,nf,rfl⟩,⟨⟨u,by simpa using OB⟩,N8.at λo z=>(sb.2 it MF.symm).trans z⟩,λb hb=> ?_⟩
  .refine I.step (s:=s) (h':=h2) (g':=s.gens) (d':=s.drawn) (t':=s.toks+1) (ch:=[e,it]) (λb hb=> ?_) (λb o _ _ c z _=>k2 b o (NP b c).1 (NP b c).2 z) (λb o _ _ c z _=>⟨o.slots,k2 b o (NP b c).1 (NP b c).2 z⟩)
    (λb o c z n=> ?_) (λb o c z=>⟨o,k2 b o (NP b c).1 (NP b c).2 z⟩) (λb ys z=> ?_) (λb o v z=> ?_) (λb ps z=>⟨#[], ?_⟩) (λm hm=> ?_) (λb v z=> ?_) I.bare
   .obtain⟨a1,a2,a3,a4,a5,a6⟩:=hf b hb;exact⟨a4,a2,a5,a6⟩
   .rw [aw (AQ (AM z))];exact n
   .rw [aw (bj z nf)];exact z
   .rw [aw (bj z nf)];exact z
   .rw [aw (bj z nf),z];simp
   .obtain⟨o,es,ep,MZ,r⟩:=hm;exact⟨o,es,ep,k2 _ o (λy=>(hf e (by simp)).2.1 y.symm) (λy=>(hf it (by simp)).2.1 y.symm) MZ,r⟩
   .by_cases hb:b=s.heap.objs.size
    .subst hb;rw[ak] at z;cases z;exact⟨by show 2<=sizeLine;decide,[.int i s.toks,u], .cons ⟨_,rfl⟩ (.cons ru .nil),⟨_,Qx,rfl,_,rfl⟩⟩
    .rw [aw hb] at z;refine(I.hok b v z).stay (λc o hc y=>k2 c o ?_ ?_ y) (λc y=> ?_) λc ys y=> ?_
     .rcases hc with q|q
      .rw [q];exact λy=>by rw[y,(hf e (by simp)).1] at z;cases z
      .exact λy=>by rw[y,(hf e (by simp)).1] at q;cases q
     .rcases hc with q|q
      .rw [q];exact λy=>by rw[y,(hf it (by simp)).1] at z;cases z
      .exact λy=>by rw[y,(hf it (by simp)).1] at q;cases q
     .rw [aw (bj y nf)];exact y
     .rw [aw (bj y nf)];exact y
  .obtain⟨o,z,_⟩:=(show∃o,s.heap.get? b=some o/\True from by
    rcases AJ.mp hb with q|q
    .rw [q];exact⟨_,he,trivial⟩
    .rw [AR.mp q];obtain⟨o,y,_⟩:=Mi;exact⟨o,y,trivial⟩)
   rw[aw (AQ (AM z))];exact(hf b hb).1
 done:=by
  intro X hP hw hK hc i Mb s σ H E I hf st hg;subst hP hw hK;obtain⟨xs,hq,hx⟩:=hg;obtain⟨Me,rv,p,hz⟩:=I.list hq;obtain⟨⟨NA,he⟩,Mi⟩:=st;have hl:=rv.length;obtain⟨f0,f1,f2,f3,f4,f5⟩:=hf it (by simp);exact wpAny_pyNext_enum_end (I.ok.hd hc) he Mi p.isList (by simp;lia) λh' eb=>⟨rfl,I.turned (t':=s.toks) (λb o hb z=>eb b o hb z) f0 f1 f3 f4 f5⟩
 self:=λ_ _ _ _ _ st h=>let ⟨⟨_,z⟩,_⟩:=st;wpAny_pyIter_enum z h
section
variable {X:Cx}{M1:Rl Rm}{k:Nat}{Np p pos:Pos}{e:Rm}{te:TE}
def EX (K:W.Frag) (tl:TE):TI:=λσ H R=>tl σ H λx H1=>∃a,x= .ref a/\(∃xs,SqL K H1 a xs)/\R (Ite K a) H1
theorem gT (hg:Gl X "enumerate") (hm:X.mg "enumerate"=none) (hl:PE X e te) (he:starEach [e] X.env=[(false,eval e X.env)]:=by rfl):PI X (.Tuple M1 k Np) (.Call (.Name "enumerate" p) [e] [] pos) (EX X.K te):=by
 intro Mb s σ H R I h;refine BJ (cM I hg hm boot_enumerate ?_);refine B3 (thn ((ab hl ae he) _ Mb s σ H (λvs H1=>match vs with|[x]=>(∃a,x= .ref a/\(∃xs,SqL X.K H1 a xs)/\R (Ite X.K a) H1)|_=>False) I h) λus s1 zu50=> ?_) he (by rfl);obtain⟨vs,H1,I1,r1,q1⟩:=zu50
 match vs,q1,r1 with
 |[x],q1,r1=>
 obtain⟨a,rfl,⟨xs,hq⟩,q⟩:=q1;obtain⟨u,rfl,ru⟩:=cU r1;obtain rfl:u=Value.ref a:=ru;obtain⟨Me,rv,pl,hz⟩:=I1.list hq;refine call_enumerate_list pl.isList λh' hen Mi hsz hk=> ?_;refine wpAny_pyIter_enum hen ?_;refine⟨_,[_,_],_,_,H1,rfl,I1.kept (t':=s1.toks) hk,EW a _ _ (BL (BU _)),⟨⟨_,by simpa using hen⟩,Mi⟩,λb hb=> ?_,q⟩;have fr:∀b,s1.heap.objs.size<=b->cp X Mb H1 b:=λb z=>I1.fpOk z (I1.hok.fresh z);rcases AJ.mp hb with z|z
 .rw [z];exact fr _ (Ct _)
 .rw [AR.mp z];exact fr _ (AB _)
end
theorem i9 {xs:Rl V}{tb:TS}{D:Ends}{σ:St}(Pv:Nat->St->Hp->Prop) (h0:Pv 0 σ H) (hl:∀i σ H,i<=xs.length->Pv i σ H->SqL K H a xs)
  (hs:∀i x σ H p,xs[i]? =some x->Pv i σ H->H p=none->g (.ref p) σ (upd H p (.tup [.int i,x])) λσ2 H2=>tb (eLp D (Pv (i+1))) σ2 H2) (hd:∀σ H,Pv xs.length σ H->D.nx σ H):
  ∃Wq:Nat->Nat->St->Hp->Prop,(∃m,Wq 0 m σ H)/\∀i m σ H,Wq i m σ H->
   ((Ite K a).stop i H/\D.nx σ H)\/((Ite K a).go i H/\∃N:St->Hp->Prop,(∀σ' H',N σ' H'->∃m',m'<m/\Wq (i+1) m' σ' H')/\∀x H',(Ite K a).yld i H x H'->g x σ H' λσ2 H2=>tb (eLp D (N)) σ2 H2):=by
 refine⟨λi m σ H=>m=xs.length-i/\i<=xs.length/\Pv i σ H,⟨xs.length,by simp,AO _,h0⟩, ?_⟩;rintro i m σ H ⟨rfl,hi,p⟩;have q:=hl i σ H hi p;by_cases Mh:i<xs.length
 .refine .inr ⟨⟨xs,xs[i],q,by simp[Mh]⟩,Pv (i+1),λσ' H' p'=>⟨xs.length-(i+1),by lia,rfl,Mh,p'⟩,λx H' y=> ?_⟩;obtain⟨z,pp,e1,e2,e3,e4⟩:=y;subst e2 e4;exact hs i z σ H pp (e1 xs q) p e3
 .have e:i=xs.length:=by lia
  subst e;exact .inl ⟨⟨xs,q,AB _⟩,hd σ H p⟩
inductive rGetN (K:W.Frag) (o:V) (i:V) (H:Hp) (Q:VK):Prop
 |mk (p:Addr) (xs:List V) (j:Nat) (k:Int) (v:V):o= .ref p->i= .int k->k=j->SqL K H p xs->xs[j]? =some v->Q v H->rGetN K o i H Q
theorem kB :rm X (rGetN X.K):=by
 intro Mb s σ H o i ov iv Q I r1 r2 h;obtain⟨p,xs,j,k,v,rfl,rfl,e,hq,hx,q⟩:=h;cases r1;obtain⟨t,rfl⟩:=r2;obtain⟨Me,r,pl,hz⟩:=I.list hq;obtain⟨w,ew,ND⟩:=r.get hx;have hl:=r.length;have hn:=fZ;have hj:j<xs.length:=(AF.mp hx).1;exact wpAny_getItem_list pl.isList (by lia) (by lia) (by rw[e,Ae];simpa using ew) ⟨v,H,I,ND,q⟩
section
variable {X:Cx}{st:Rq}{t:TS}
def EY (t:TS):TS:=λD σ H=>∃I:St->Hp->Prop,t (eTo D (I)) σ H/\∀σ' H',I σ' H'->D.nx σ' H'
theorem EZ (h:PS X st t):PS X st (EY t):=λMb s σ H D Iv ⟨J,h1,h2⟩=>
 thn (h Mb s σ H _ Iv h1) λf s' hf=>by
  cases f with
  |next=>obtain⟨σ',H',a,b⟩:=hf;exact⟨σ',H',a,h2 _ _ b⟩
  |brk=>exact hf
  |cont=>exact hf
  |ret u=>exact hf
end
inductive D where
 |i (n:Int)|l (xs:List D)|t (xs:List D)
mutual
def Is (H:Hp):D->V->Prop
 | .i n,v=>v= .int n
 | .l xs,v=>∃a vs,v= .ref a/\H a=some (.lst vs)/\Iss H xs vs
 | .t xs,v=>∃a vs,v= .ref a/\H a=some (.tup vs)/\Iss H xs vs
def Iss (H:Hp):Rl D->Rl V->Prop
 |[],vs=>vs=[]
 |x::xs,vs=>∃u us,vs=u::us/\Is H x u/\Iss H xs us
end
theorem bz {H:Hp}{n:Int}:Is H (.i n) (.int n):=by unfold Is;rfl
theorem aD {H:Hp}{a:Rg}{xs:Rl D}{vs:Rl V} (h:H a=some (.lst vs)) (k:Iss H xs vs):Is H (.l xs) (.ref a):=by unfold Is;exact⟨a,vs,rfl,h,k⟩
theorem bA {H:Hp}{a:Rg}{xs:Rl D}{vs:Rl V} (h:H a=some (.tup vs)) (k:Iss H xs vs):Is H (.t xs) (.ref a):=by unfold Is;exact⟨a,vs,rfl,h,k⟩
theorem az {H:Hp}{n:Int}{v:V} (h:Is H (.i n) v):v= .int n:=by unfold Is at h;exact h
theorem aA {H:Hp}{xs:Rl D}{v:V} (h:Is H (.l xs) v):∃a vs,v= .ref a/\H a=some (.lst vs)/\Iss H xs vs:=by unfold Is at h;exact h
theorem bB {H:Hp}{xs:Rl D}{v:V} (h:Is H (.t xs) v):∃a vs,v= .ref a/\H a=some (.tup vs)/\Iss H xs vs:=by unfold Is at h;exact h
theorem ax {H:Hp}:Iss H [] []:=by unfold Iss;rfl
theorem au {H:Hp}{x:D}{xs:Rl D}{u:V}{us:Rl V} (h:Is H x u) (k:Iss H xs us):Iss H (x::xs) (u::us):=by unfold Iss;exact⟨u,us,rfl,h,k⟩
theorem aI {H:Hp}{x:D}{xs:Rl D}{vs:Rl V} (h:Iss H (x::xs) vs):∃u us,vs=u::us/\Is H x u/\Iss H xs us:=by unfold Iss at h;exact h
theorem bn {H:Hp}{vs:Rl V} (h:Iss H [] vs):vs=[]:=by unfold Iss at h;exact h
mutual
theorem Is.mono {H H':Hp} (s:af H H'):∀{d:D}{v:V},Is H d v->Is H' d v
 | .i _,_,h=>by rw[az h];exact bz
 | .l xs,_,h=>by
  obtain⟨a,vs,e,q,r⟩:=aA h;rw[e];exact aD (s _ _ q) (Iss.mono s r)
 | .t xs,_,h=>by
  obtain⟨a,vs,e,q,r⟩:=bB h;rw[e];exact bA (s _ _ q) (Iss.mono s r)
theorem Iss.mono {H H':Hp} (s:af H H'):∀{xs:Rl D}{vs:Rl V},Iss H xs vs->Iss H' xs vs
 |[],_,h=>by rw[bn h];exact ax
 |x::xs,_,h=>by
  obtain⟨u,us,e,q,r⟩:=aI h;rw[e];exact au (Is.mono s q) (Iss.mono s r)
end
theorem Iss.length {H:Hp}:∀{xs:Rl D}{vs:Rl V},Iss H xs vs->vs.length=xs.length
 |[],_,h=>by rw[bn h];rfl
 |x::xs,_,h=>by
  obtain⟨u,us,rfl,_,r⟩:=aI h;rw[Ad,Ad,r.length]
theorem Iss.get {H:Hp}:∀{xs:Rl D}{vs:Rl V}{j:Nat}{x:D},Iss H xs vs->xs[j]? =some x->∃v,vs[j]? =some v/\Is H x v
 |[],_,_,_,_,e=>by simp at e
 |x::xs,_,0,_,h,e=>by
  obtain⟨u,us,rfl,q,_⟩:=aI h;simp at e;subst e;exact⟨u,rfl,q⟩
 |x::xs,_,j+1,_,h,e=>by
  obtain⟨u,us,rfl,_,r⟩:=aI h;obtain⟨v,e',k⟩:=r.get (j:=j) (by simpa using e);exact⟨v,by simpa using e',k⟩
theorem Iss.of_get {H:Hp}{xs:Rl D}{vs:Rl V}{j:Nat}{v:V} (h:Iss H xs vs) (e:vs[j]? =some v):∃x,xs[j]? =some x/\Is H x v:=by
 have hj:j<vs.length:=(AF.mp e).1;have hj':j<xs.length:=by rw[<-h.length];exact hj
 obtain⟨u,e1,k⟩:=h.get (A3 hj');rw[e] at e1;cases e1;exact⟨_,A3 hj',k⟩
theorem Iss.append {H:Hp}:∀{xs ys:Rl D}{vs ws:Rl V},Iss H xs vs->Iss H ys ws->Iss H (xs++ys) (vs++ws)
 |[],_,_,_,h,k=>by rw[bn h];exact k
 |x::xs,_,_,_,h,k=>by
  obtain⟨u,us,rfl,q,r⟩:=aI h;exact au q (r.append k)
theorem Iss.take {H:Hp}:∀{xs:Rl D}{vs:Rl V} (n:Nat),Iss H xs vs->Iss H (xs.take n) (vs.take n)
 |[],_,n,h=>by rw[bn h];simp;exact ax
 |x::xs,_,0,h=>by simp;exact ax
 |x::xs,_,n+1,h=>by
  obtain⟨u,us,rfl,q,r⟩:=aI h;exact au q (r.take n)
theorem Iss.drop {H:Hp}:∀{xs:Rl D}{vs:Rl V} (n:Nat),Iss H xs vs->Iss H (xs.drop n) (vs.drop n)
 |[],_,n,h=>by rw[bn h];simp;exact ax
 |x::xs,_,0,h=>h
 |x::xs,_,n+1,h=>by
  obtain⟨u,us,rfl,q,r⟩:=aI h;exact r.drop n
theorem Iss.rep {H:Hp}{x:D}{v:V} (h:Is H x v):∀n:Nat,Iss H (List.replicate n x) (List.replicate n v)
 |0=>ax
 |n+1=>by rw[At,At];exact au h (Iss.rep h n)
mutual
def Kin:D->D->Prop
 | .i _, .i _=>True
 | .l xs, .l ys=>cr xs ys
 | .t xs, .t ys=>cr xs ys
 |_,_=>False
def cr:Rl D->Rl D->Prop
 |x::xs,y::ys=>Kin x y/\cr xs ys
 |_,_=>True
end
mutual
def eqD:D->D->Bool
 | .i a, .i b=>decide (a=b)
 | .l xs, .l ys=>cQ xs ys
 | .t xs, .t ys=>cQ xs ys
 |_,_=>false
def cQ:Rl D->Rl D->Bool
 |[],[]=>true
 |x::xs,y::ys=>eqD x y&&cQ xs ys
 |_,_=>false
end
mutual
def dep:D->Nat
 | .i _=>0
 | .l xs=>cE xs+1
 | .t xs=>cE xs+1
def cE:Rl D->Nat
 |[]=>0
 |x::xs=>max (dep x) (cE xs)
end
mutual
theorem mW:∀{a b:D},eqD a b=true↔a=b
 | .i a, .i b=>by simp[eqD]
 | .i _, .l _=>by simp[eqD]
 | .i _, .t _=>by simp[eqD]
 | .l _, .i _=>by simp[eqD]
 | .l xs, .l ys=>by simp[eqD,kC (xs:=xs) (ys:=ys)]
 | .l _, .t _=>by simp[eqD]
 | .t _, .i _=>by simp[eqD]
 | .t _, .l _=>by simp[eqD]
 | .t xs, .t ys=>by simp[eqD,kC (xs:=xs) (ys:=ys)]
theorem kC:∀{xs ys:Rl D},cQ xs ys=true↔xs=ys
 |[],[]=>by simp[cQ]
 |[],_::_=>by simp[cQ]
 |_::_,[]=>by simp[cQ]
 |x::xs,y::ys=>by simp[cQ,mW (a:=x) (b:=y),kC (xs:=xs) (ys:=ys)]
end
def sP {a:D}:eqD a a=true:=mW.mpr rfl
theorem mX:∀{xs ys:Rl D},xs.length=ys.length->cQ xs ys=(List.range xs.length).all λj=>eqD (xs.getD j (.i 0)) (ys.getD j (.i 0))
 |[],[],_=>by simp[cQ]
 |x::xs,y::ys,h=>by
  have ih:=mX (xs:=xs) (ys:=ys) (by simpa using h);rw[cQ,ih,Ad,List.range_succ_eq_map];simp[List.all_map,Function.comp_def]
theorem sQ {xs ys:Rl D} (h:xs.length≠ys.length):cQ xs ys=false:=by
 cases e:cQ xs ys with
 |false=>rfl
 |true=>exact absurd (B' List.length (kC.mp e)) h
mutual
theorem Is.eqr {K:W.Frag}{H:Hp}:∀{d e:D}{v w:V}{n:Nat},dep d<=n->Kin d e->Is H d v->Is H e w->EqR K H n v w (eqD d e)
 | .i a, .i b,_,_,n,_,_,h,k=>by
  rw[az h,az k,eqD];exact EqR.int n a b
 | .l xs, .l ys,_,_,0,hn,_,_,_=>absurd hn (by unfold dep;lia)
 | .l xs, .l ys,_,_,n+1,hn,hk,h,k=>by
  obtain⟨a,vs,rfl,ha,ra⟩:=aA h;obtain⟨b,ws,rfl,hb,rb⟩:=aA k;have PZ:cE xs<=n:=by unfold dep at hn;lia
  have N4:cr xs ys:=by unfold Kin at hk;exact hk
  have l1:=ra.length;have l2:=rb.length;rw[eqD];by_cases hl:xs.length=ys.length
  .rw [mX hl,<-l1];exact EqR.lists _ (SqL.of ha) (SqL.of hb) (by lia) λj x y hx hy=>Iss.eqr PZ N4 ra rb hx hy
  .rw [sQ hl];exact EqR.lens (SqL.of ha) (SqL.of hb) (by lia)
 | .t xs, .t ys,_,_,0,hn,_,_,_=>absurd hn (by unfold dep;lia)
 | .t xs, .t ys,_,_,n+1,hn,hk,h,k=>by
  obtain⟨a,vs,rfl,ha,ra⟩:=bB h;obtain⟨b,ws,rfl,hb,rb⟩:=bB k;have PZ:cE xs<=n:=by unfold dep at hn;lia
  have N4:cr xs ys:=by unfold Kin at hk;exact hk
  have l1:=ra.length;have l2:=rb.length;rw[eqD];have q:=EqR.tuples (d:=n) (λj=>eqD (xs.getD j (.i 0)) (ys.getD j (.i 0))) (SqT.of (K:=K) ha) (SqT.of (K:=K) hb) λj x y hx hy=>Iss.eqr PZ N4 ra rb hx hy;by_cases hl:xs.length=ys.length
  .rw [mX hl];rw[l1,l2,<-hl,Nat.min_self] at q;simpa using q
  .rw [sQ hl];have z:(vs.length==ws.length)=false:=by rw[l1,l2];simpa using hl
   rw[z,Cd] at q;exact q
 | .i _, .l _,_,_,_,_,hk,_,_=>by unfold Kin at hk;exact hk.elim
 | .i _, .t _,_,_,_,_,hk,_,_=>by unfold Kin at hk;exact hk.elim
 | .l _, .i _,_,_,_,_,hk,_,_=>by unfold Kin at hk;exact hk.elim
 | .l _, .t _,_,_,_,_,hk,_,_=>by unfold Kin at hk;exact hk.elim
 | .t _, .i _,_,_,_,_,hk,_,_=>by unfold Kin at hk;exact hk.elim
 | .t _, .l _,_,_,_,_,hk,_,_=>by unfold Kin at hk;exact hk.elim
theorem Iss.eqr {K:W.Frag}{H:Hp}:∀{xs ys:Rl D}{vs ws:Rl V}{n:Nat},cE xs<=n->cr xs ys->Iss H xs vs->Iss H ys ws->∀{j:Nat}{x y:V},vs[j]? =some x->ws[j]? =some y->
  EqR K H n x y (eqD (xs.getD j (.i 0)) (ys.getD j (.i 0)))
 |[],_,_,_,_,_,_,h,_,_,_,_,e,_=>by rw[bn h] at e;simp at e
 |_::_,[],_,_,_,_,_,_,k,_,_,_,_,e=>by rw[bn k] at e;simp at e
 |x::xs,y::ys,_,_,n,hn,hk,h,k,0,u,w,e1,e2=>by
  obtain⟨u',us,rfl,q,_⟩:=aI h;obtain⟨w',ws,rfl,q',_⟩:=aI k;simp at e1 e2;subst e1 e2;have N4:Kin x y/\cr xs ys:=by unfold cr at hk;exact hk
  have hd:dep x<=n:=by unfold cE at hn;lia
  exact Is.eqr (d:=x) (e:=y) hd N4.1 q q'
 |x::xs,y::ys,_,_,n,hn,hk,h,k,j+1,u,w,e1,e2=>by
  obtain⟨u',us,rfl,_,r⟩:=aI h;obtain⟨w',ws,rfl,_,r'⟩:=aI k;have N4:Kin x y/\cr xs ys:=by unfold cr at hk;exact hk
  have hd:cE xs<=n:=by unfold cE at hn;lia
  have:=Iss.eqr (K:=K) hd N4.2 r r' (j:=j) (by simpa using e1) (by simpa using e2);simpa using this
end
abbrev Pt:=Int×Int
def pt (p:Pt):D:= .t [.i p.1, .i p.2]
def pts (ps:Rl Pt):D:= .l (ps.map pt)
theorem E1 {p q:Pt} (h:pt p=pt q):p=q:=by
 unfold pt at h;injection h with h;injection h with h1 h2;injection h2 with h2 _;injection h1 with h1;injection h2 with h2;exact Prod.ext h1 h2
theorem E3 {p q:Pt}:eqD (pt p) (pt q)=decide (p=q):=by
 rw[DP,mW,decide_eq_true_iff];exact⟨E1,λh=>by rw[h]⟩
theorem E4 {p q:Pt}:Kin (pt p) (pt q):=by simp[pt,Kin,cr]
theorem E5 {p:Pt}:dep (pt p)=1:=by simp[pt,dep,cE]
theorem E6 {K:W.Frag}{H:Hp}{p q:Pt}{v w:V} (h:Is H (pt p) v) (k:Is H (pt q) w):EqR K H 1 v w (decide (p=q)):=by
 rw[<-E3];exact h.eqr (by rw[E5];lia) E4 k
theorem kD {H:Hp}{p:Pt}{v:V} (h:Is H (pt p) v):∃a,v= .ref a/\H a=some (.tup [.int p.1, .int p.2]):=by
 obtain⟨a,vs,e,q,r⟩:=bB h;obtain⟨u,us,rfl,h1,r⟩:=aI r;obtain⟨u',us',rfl,h2,r⟩:=aI r;rw[bn r,az h1,az h2] at q;exact⟨a,e,q⟩
def gj {H:Hp}{p:Pt}{a:Rg} (h:H a=some (.tup [.int p.1, .int p.2])):Is H (pt p) (.ref a):=bA h (au bz (au bz ax))
def ja {H:Hp}{ps:Rl Pt}{v:V} (h:Is H (pts ps) v):∃a vs,v= .ref a/\H a=some (.lst vs)/\Iss H (ps.map pt) vs:=aA h
def hid (H:Hp) (a:Rg):Hp:=λb=>if b=a then none else H b
theorem dX {H:Hp}{a b:Rg} (h:b≠a):hid H a b=H b:=by unfold hid;rw[A5 h]
theorem E7 {H:Hp}{a:Rg}:hid H a a=none:=by unfold hid;rw[A6 rfl]
theorem sR {H:Hp}{a:Rg}:af (hid H a) H:=λb o e=>by
 unfold hid at e;split at e
 .cases e
 .exact e
theorem dH {H H':Hp}{a:Rg} (s:af H H'):af (hid H a) (hid H' a):=λb o e=>by
 unfold hid at e⊢;split at e
 .cases e
 .rename_i h;rw[A5 h];exact s b o e
theorem E8 {H:Hp}{a:Rg}{o:HO}:hid (upd H a o) a=hid H a:=by
 funext b
 unfold hid;split
 .rfl
 .rename_i h;exact aw h
def cc (H:Hp) (a:Rg) (xs:Rl D):Prop:=∃vs,H a=some (.lst vs)/\Iss (hid H a) xs vs
def cc.start {H:Hp}{a:Rg}:cc (upd H a (.lst [])) a []:=⟨[],ak,ax⟩
theorem cc.mono {H H':Hp}{a:Rg}{xs:Rl D} (s:af H H') (g:cc H a xs):cc H' a xs:=by obtain⟨vs,e,h⟩:=g;exact⟨vs,s _ _ e,h.mono (dH s)⟩
theorem cc.is {H:Hp}{a:Rg}{xs:Rl D} (g:cc H a xs):Is H (.l xs) (.ref a):=by obtain⟨_,e,h⟩:=g;exact aD e (h.mono sR)
theorem jb {H:Hp}{a:Rg}{xs:Rl D}{x:D}{vs:Rl V}{v:V} (h:Iss (hid H a) xs vs) (k:Is (hid H a) x v):cc (upd H a (.lst (vs++[v]))) a (xs++[x]):=
 ⟨_,ak,by rw[E8];exact h.append (au k ax)⟩
section
variable {X:Cx}{es:Rl Rm}{t:TA}{pos:Pos}
def New (H:Hp) (o:HO) (Q:VK):Prop:=∀p H2,H p=none->af H H2->H2 p=some o->Q (.ref p) H2
def New.at {H:Hp}{o:HO}{Q:VK} (q:New H o Q) {p:Rg} (np:H p=none):Q (.ref p) (upd H p o):=q p _ np (af.new np) ak
def E9 (t:TA):TE:=λσ H Q=>t σ H λxs H1=>xs.length<=sizeLine/\New H1 (.tup xs) Q
def Fa (t:TA):TE:=λσ H Q=>t σ H λxs H1=>xs.length<=sizeLine/\New H1 (.lst xs) Q
theorem bC {x1} (h:PA X es t):PE X (.Tuple es x1 pos) (E9 t):=by
 intro Mb s σ H Q I hq;refine wpAny_Tuple_spliced (thn (h pos Mb s σ H _ I hq) λus s1 ⟨xs,H1,I1,r,z,q⟩=>⟨by rw[<-r.length];exact z, ?_⟩);refine⟨.ref s1.heap.objs.size,upd H1 s1.heap.objs.size (.tup xs),I1.laid (t':=s1.toks) (λb u e=>A4 _ e) (AB _) ?_,rfl,q.at (I1.hok.fresh (AB _))⟩;exact⟨z,us,r,⟨_,AH _ rfl,rfl,_,rfl⟩⟩
theorem aV (h:PA X es t):PE X (.List es pos) (Fa t):=by
 intro Mb s σ H Q I hq;refine wpAny_List_spliced (thn (h pos Mb s σ H _ I hq) λus s1 ⟨xs,H1,I1,r,z,q⟩=>⟨by rw[<-r.length];exact z, ?_⟩);refine⟨.ref s1.heap.objs.size,upd H1 s1.heap.objs.size (.lst xs),I1.laid (t':=s1.toks) (λb u e=>A4 _ e) (AB _) ?_,rfl,q.at (I1.hok.fresh (AB _))⟩;exact⟨z,us,0,r,AH _ rfl⟩
def OpR.imp {f:OO->OO->Sem OO}{r r':R2} (h:OpR X f r) (k:∀x y H Q,r' x y H Q->r x y H Q):OpR X f r':=λMb s σ H x y v u Q I rx ry q=>h Mb s σ H x y v u Q I rx ry (k _ _ _ _ q)
def bW.imp {f:OO}{r r':Rl V->Hp->VK->Prop} (h:bW X f r) (k:∀xs H Q,r' xs H Q->r xs H Q):bW X f r':=λMb s σ H xs us Q I rs q=>h Mb s σ H xs us Q I rs (k _ _ _ q)
theorem dI:OpR X (binaryOp .Add) (λx y H Q=>∃xs zs,Is H (.l xs) x/\Is H (.l zs) y/\xs.length+zs.length<=sizeLine/\∀p H2,H p=none->af H H2->Is H2 (.l (xs++zs)) (.ref p)->Q (.ref p) H2):=
 gP.imp λx y H Q OG=>by
  obtain⟨xs,zs,hx,hz,hl,q⟩:=OG;obtain⟨a,vs,rfl,ha,ra⟩:=aA hx;obtain⟨b,ws,rfl,hb,rb⟩:=aA hz;exact⟨a,b,vs,ws,rfl,rfl,ha,hb,by rw[ra.length,rb.length];exact hl,λp np=>q p _ np (af.new np) (aD ak ((ra.append rb).mono (af.new np)))⟩
theorem sS {α:Type}{x:α}:∀n:Nat,(List.replicate n [x]).flatten=List.replicate n x
 |0=>rfl
 |n+1=>by rw[At,CQ,sS n,At];rfl
theorem jc:OpR X (binaryOp .Mult) (λx y H Q=>∃d n,Is H (.l [d]) x/\y= .int n/\-(2^63)<=n/\n<2^63/\n.toNat<=sizeLine/\∀p H2,H p=none->af H H2->Is H2 (.l (List.replicate n.toNat d)) (.ref p)->Q (.ref p) H2):=
 iW.imp λx y H Q OG=>by
  obtain⟨d,n,hx,ey,h1,h2,hl,q⟩:=OG;obtain⟨a,vs,rfl,ha,ra⟩:=aA hx;obtain⟨u,us,rfl,hu,ru⟩:=aI ra;rw[bn ru] at ha;refine⟨a,n,_,rfl,ey,ha,h1,h2,by rw[Ba,Nat.one_mul];exact hl,λp np=>q p _ np (af.new np) ?_⟩;rw[sS];exact aD ak ((Iss.rep hu _).mono (af.new np))
theorem fz:bW X (.type "tuple") (λvs H Q=>∃v xs,vs=[v]/\Is H (.l xs) v/\∀p H2,H p=none->af H H2->Is H2 (.t xs) (.ref p)->Q (.ref p) H2):=
 Ea.imp λvs H Q OG=>by
  obtain⟨v,xs,ev,hx,q⟩:=OG;subst ev;obtain⟨a,ws,rfl,ha,ra⟩:=aA hx;exact⟨a,ws,rfl, .inl ⟨SqL.of ha,λp np=>q p _ np (af.new np) (bA ak (ra.mono (af.new np)))⟩⟩
theorem gU {α:Type}{xs:Rl α}{i:Int}{j:Nat}{x:α} (e:i=j) (h:xs[j]? =some x):atI xs i=some x:=by rw[e];exact iU h
theorem Iss.atI {H:Hp}{xs:Rl D}{vs:Rl V}{i:Int}{x:D} (h:Iss H xs vs) (e:L2.atI xs i=some x):∃u,L2.atI vs i=some u/\Is H x u:=by
 unfold L2.atI at e⊢;rw[h.length];cases q:ixN xs.length i with
 |none=>rw[q] at e;cases e
 |some j=>
  rw[q] at e;obtain⟨u,e1,k⟩:=h.get (j:=j) e;exact⟨u,e1,k⟩
theorem eX:IxR X (λx y H Q=>∃xs i d,Is H (.l xs) x/\y= .int i/\atI xs i=some d/\∀u,Is H d u->Q u H):=by
 intro value Mw Mb s σ H x y v u Q I rx ry h hs;obtain⟨xs,i,d,hx,ey,e,q⟩:=h;obtain⟨a,vs,rfl,ha,ra⟩:=aA hx;obtain⟨z,ez,hz⟩:=ra.atI e;exact ge value Mw Mb s σ H (.ref a) y v u Q I rx ry ⟨a,vs,i,z,rfl,ey,SqL.of ha,ez,q z hz⟩ hs
theorem aM:IxR X (λx y H Q=>∃xs i d,Is H (.t xs) x/\y= .int i/\atI xs i=some d/\∀u,Is H d u->Q u H):=by
 intro value Mw Mb s σ H x y v u Q I rx ry h hs;obtain⟨xs,i,d,hx,ey,e,q⟩:=h;obtain⟨a,vs,rfl,ha,ra⟩:=bB hx;obtain⟨z,ez,hz⟩:=ra.atI e;exact br value Mw Mb s σ H (.ref a) y v u Q I rx ry ⟨a,vs,i,z,rfl,ey,SqT.of ha,ez,q z hz⟩ hs
theorem kE:bW X (.builtin "len") (λvs H Q=>∃v xs,vs=[v]/\(Is H (.l xs) v\/Is H (.t xs) v)/\Q (.int xs.length) H):=
 dE.imp λvs H Q OG=>by
  obtain⟨v,xs,ev,hx,q⟩:=OG;subst ev;rcases hx with hx|hx
  .obtain⟨a,ws,rfl,ha,ra⟩:=aA hx;exact⟨a,ws,rfl, .inl (SqL.of ha),by rw[ra.length];exact q⟩
  .obtain⟨a,ws,rfl,ha,ra⟩:=bB hx;exact⟨a,ws,rfl, .inr (SqT.of ha),by rw[ra.length];exact q⟩
end
section
variable {X:Cx}{pos np Mn:Pos}{x:Str}{C:Rg}{E:XK}{e:Rm}{es:Rl Rm}{t:TA}
abbrev bmV:Rl OO:=[.type "ValueError", .type "Exception", .type "BaseException", .type "object"]
end
end L2
namespace L2
open PySem PySem.Calls PyProof.Rows PySem.W Builtin Builtin.ObjectAttr Builtin.Getset_descriptor
structure XC (K:Frag) (C:Rg):Prop where
 cl:(clsIn K C).isSome=true
 ga:findIn K (.ref C) "__getattribute__"=some (some (.builtin "BaseException.__getattribute__"))
 gt:findIn K (.ref C) "__getattr__"=some none
 ca:findIn K (.ref C) "__class__"=some (some (.builtin "object.__class__"))
 gn:specialIn K (.builtin "object.__class__") "__get__"=some (some (.builtin "getset_descriptor.__get__"))
 tk:takesIn K (.builtin "object.__class__")=some true
 ob:mroIn K C (.type "object")=some true
 be:mroIn K C (.type "BaseException")=some true
end L2
namespace L2
open PySem PySem.Spec PyProof.Rows PySem.W
variable {H:Hp}{K:W.Frag}{hi:Int}{n:Nat}
def Itd (hi:Int) (n:Nat):It:=⟨λi _=>i<n,λi H x H'=>H'=H/\x= .int (hi-i),λi _=>n<=i⟩
theorem Fc {P:Rh}{w:Rj}{tg:Rm} (it:Rg) (hi:Int) (n:Nat):Turn P w K tg (Itd hi n) [it] it (λi h=>IsRangeIter h it (hi+(i:Nat)*(-1)) ((n:Int)-(i:Nat)) (-1)) where
 mem:=by simp
 obj:=λi h st b hb=>by
  obtain rfl:b=it:=by simpa using hb
  exact⟨_,st,λv z=>by cases (show Data.fields _=Data.cell v from z)⟩
 keep:=λi h h' st k=>k it (by simp) _ st
 item:=by
  intro X hP hw hK hc i Mb s σ H E I hf st hg;subst hP hw hK;obtain⟨f0,f1,f2,f3,f4,f5⟩:=hf it (by simp);refine(Walks.range (prog:=X.prog) (w:=X.w) (I.ok.hd hc) it hi (-1) n).item i s _ _ hg st λv h' tk hv MG kk=> ?_;obtain⟨t,rfl⟩:=hv;have I1:Inv X Mb σ H {s with heap:=h',toks:=tk}:=I.turned (λb o hb e=>kk b o (by simpa using hb) e) f0 f1 f3 f4 f5;refine⟨_,rfl,go_of (s:={s with heap:=h',toks:=tk}) (n:="range_iterator") MG rfl rfl (by decide) ⟨.int (hi-i),H,I1,⟨t, ?_⟩,⟨rfl,rfl⟩,MG,λb hb=>(hf b hb).1⟩⟩;rw[show hi+(i:Int)*(-1)=hi-i by lia]
 done:=by
  intro X hP hw hK hc i Mb s σ H E I hf st hg;subst hP hw hK;obtain⟨f0,f1,f2,f3,f4,f5⟩:=hf it (by simp);exact wpAny_pyNext_range_end (I.ok.hd hc) st (by have:n<=i:=hg;lia) λh' eb=>⟨rfl,I.turned (t':=s.toks) (λb o hb e=>eb b o hb e) f0 f1 f3 f4 f5⟩
 self:=λ_ _ _ _ _ st h=>wpAny_pyIter_rangeiter st h
theorem sU (a b:Int):Builtin.Range.rangeSize a b (-1)=if a>b then a-b else 0:=by
 unfold Builtin.Range.rangeSize;rw[A5 (by decide)];split
 .rw [show -(-1:Int)=1 by decide,Int.ediv_one];lia
 .rfl
theorem Fd {a b:Int} (ha: -(2^62)<=a) (ha':a<2^62) (hb: -(2^62)<=b) (ON:b<2^62):Builtin.Range.small a b (-1)=true:=by
 unfold Builtin.Range.small;rw[sU];simp only[Builtin.Range.rangeFitsLong,AA,CA,AV,D8,show((-1:Int)>0)=False by simp,An];split<;>lia
section
variable {X:Cx}{tg:Rm}
theorem Fe {Mb:Rl (Rg×Obj)}{σ:St}{s:Rf}{R:It->Hp->Prop}{E:OO->Rf->Prop}{lo:Int}{t u v:Tok}{tk:Nat} (I:Inv X Mb σ H s) (h1: -(2^62)<=hi) (h2:hi<2^62) (h3: -(2^62)<=lo) (h4:lo<2^62)
  (q:R (Itd hi (hi-lo).toNat) H):wpAny (model X.prog X.w) X.A (pyIter (.ref s.heap.objs.size)) (PIE X Mb σ tg R) E {s with heap:=s.heap.push {cls:= .type "range",data:= .fields #[.int hi t, .int lo u, .int (-1) v]},toks:=tk}:=by
 refine wpAny_pyIter_range (IsRange.new ..) (Fd h1 h2 h3 h4) ?_;generalize hg:s.heap.push {cls:= .type "range",data:= .fields #[.int hi t, .int lo u, .int (-1) v]}=g;have I1:Inv X Mb σ H {s with heap:=g,toks:=tk}:=I.kept λb o e=>by rw[<-hg];exact A4 _ e
 refine⟨g.objs.size,[g.objs.size],_,_,H,rfl,I1.kept (t':=tk) λb o e=>A4 _ e,Fc _ hi (hi-lo).toNat, ?_,λb hb=> ?_,q⟩
 .have e1:hi+((0:Nat):Int)*(-1)=hi:=by simp
  have e2:(((hi-lo).toNat:Nat):Int)-((0:Nat):Int)=Builtin.Range.rangeSize hi lo (-1):=by rw[sU];split<;>lia
  show IsRangeIter _ _ (hi+((0:Nat):Int)*(-1)) ((((hi-lo).toNat:Nat):Int)-((0:Nat):Int)) (-1);rw[e1,e2];exact AH _ rfl
 .obtain rfl:b=g.objs.size:=by simpa using hb
  exact I1.fpOk (AB _) (I1.hok.fresh (AB _))
inductive iDown_ (R:(It->Hp->Prop)) (vs:List V) (H1:Hp):Prop
 |mk (i j:Int):vs=[.int i, .int j, .int (-1)]->(-(2^62)<=i/\i<2^62/\-(2^62)<=j/\j<2^62)->R (Itd i (i-j).toNat) H1->iDown_ R vs H1
def Ff (ta:TA):TI:=λσ H R=>ta σ H λvs H1=>iDown_ R vs H1
theorem Fh {a b c:Rm}{ta:TA}{p pos:Pos} (hg:Gl X "range") (hm:X.mg "range"=none) (ha:PA X [a,b,c] ta) (hs:starEach [a,b,c] X.env=(false,eval a X.env)::starEach [b,c] X.env:=by rfl) (hs2:(backTo pos (starEach [b,c] X.env)).any (·.1)=false:=by rfl):
  PI X tg (.Call (.Name "range" p) [a,b,c] [] pos) (Ff ta):=by
 intro Mb s σ H R I h;refine Call_ (cM I hg hm boot_range (B3 (thn (ha pos Mb s σ H _ I h) λus s1 zu51=> ?_) hs hs2));obtain⟨vs,H1,I1,r1,q1⟩:=zu51;obtain⟨i,j,e,⟨q1,q2,q3,q4⟩,q⟩:=q1;subst e;cases r1 with
 |cons r rr=>
  cases rr with
  |cons r' rr=>
   cases rr with
   |cons r2 rr=>
    cases rr;obtain⟨t,rfl⟩:=r;obtain⟨t',rfl⟩:=r';obtain⟨t2,rfl⟩:=r2;exact call_range_3 (by decide) (Fe I1 q1 q2 q3 q4 q) (.inl (PyProof.noPylong_small (by decide)))
end
theorem Fi {g:TG}{tb:TS}{D:Ends}{σ:St}(Pv:Nat->St->Hp->Prop) (h0:Pv 0 σ H)
  (hs:∀i σ H,i<n->Pv i σ H->g (.int (hi-i)) σ H λσ2 H2=>tb (eLp D (Pv (i+1))) σ2 H2) (hd:∀σ H,Pv n σ H->D.nx σ H):
  ∃Wq:Nat->Nat->St->Hp->Prop,(∃m,Wq 0 m σ H)/\∀i m σ H,Wq i m σ H->
   ((Itd hi n).stop i H/\D.nx σ H)\/((Itd hi n).go i H/\∃N:St->Hp->Prop,(∀σ' H',N σ' H'->∃m',m'<m/\Wq (i+1) m' σ' H')/\∀x H',(Itd hi n).yld i H x H'->g x σ H' λσ2 H2=>tb (eLp D (N)) σ2 H2):=by
 refine⟨λi m σ H=>m=n-i/\i<=n/\Pv i σ H,⟨n,by simp,AO _,h0⟩, ?_⟩;rintro i m σ H ⟨rfl,NN,p⟩;by_cases Mh:i<n
 .refine .inr ⟨Mh,Pv (i+1),λσ' H' p'=>⟨n-(i+1),by lia,rfl,Mh,p'⟩,λx H' y=> ?_⟩;obtain⟨e,y⟩:=y;subst e y;exact hs i σ _ Mh p
 .obtain rfl:i=n:=by lia
  exact .inl ⟨AB _,hd σ H p⟩
def Fj (H:Hp) (v:V):Prop:=(∃i,v= .int i)\/(∃b,v= .bl b)\/v= .non\/(∃x,v= .str x)\/(∃a xs,v= .ref a/\H a=some (.lst xs))\/(∃a xs,v= .ref a/\H a=some (.tup xs))
def isI (v:V):Bool:=match v with
 | .int _=>true
 |_=>false
def Within (lo hi:Int) (v:V):Prop:=∃i,v= .int i/\lo<=i/\i<=hi
theorem Fk :W.kitOne K (.type "NoneType") (.type "int")=some false:=gS (by ac_nf) (by ac_nf) (by ac_nf)
theorem Fm :W.kitOne K (.type "str") (.type "int")=some false:=gS (by ac_nf) (by ac_nf) (by ac_nf)
theorem Fn :W.kitOne K (.type "list") (.type "int")=some false:=gS (by ac_nf) (by ac_nf) (by ac_nf)
theorem Fo :W.kitOne K (.type "tuple") (.type "int")=some false:=gS (by ac_nf) (by ac_nf) (by ac_nf)
inductive sp_whole (vs:List V) (H:Hp) (Q:VK) (E':XK):Prop
 |mk v:vs=[v]->Fj H v->Q (.bl (isI v)) H->sp_whole vs H Q E'
theorem Fp {ps:Rl Pt}{i:Int}{j:Nat}{p:Pt} (e:i=j) (h:ps[j]? =some p):atI (ps.map pt) i=some (pt p):=gU e (by rw[AC,h];rfl)
section
variable {X:Cx}{Mb:Rl (Rg×Obj)}{σ:St}{H:Hp}{s:Rf}{h':Rn}{ch:Rl Rg}{t':Nat}
theorem cp.chs (hf:∀b∈ch,cp X Mb H b):∀b∈ch,(b∈X.ex\/X.s₀.heap.objs.size<=b)/\b≠X.env.locals/\(∀x c,X.env.cells.lookup x=some c->c≠b)/\∀p∈X.pn++Mb,p.1≠b:=λb hb=>by
 obtain⟨_,a2,_,a4,a5,a6⟩:=hf b hb;exact⟨a4,a2,a5,a6⟩
theorem Inv.turnAll (I:Inv X Mb σ H s) (hf:∀b∈ch,cp X Mb H b) (k:∀b o,b∉ch->s.heap.get? b=some o->h'.get? b=some o):Inv X Mb σ H {s with heap:=h',toks:=t'}:=by
 have nin:∀{b u},H b=some u->b∉ch:=λe z=>by rw[(hf _ z).1] at e;cases e
 refine I.step (g':=s.gens) (d':=s.drawn) (ch:=ch) (cp.chs hf) (λb o _ _ c e _=>k b o c e) (λb o _ _ c e _=>⟨o.slots,k b o c e⟩) (λ_ _ _ _ n=>n) (λb o c e=>⟨o,k b o c e⟩) (λ_ _ e=>e) (λ_ _ _ e=>e) (λb ps e=>⟨#[],by rw[e];simp⟩) (λm hm=> ?_) (λb u e=> ?_) I.bare
 .obtain⟨o,es,ep,ho,r⟩:=hm;exact⟨o,es,ep,k _ o (λz=>(hf _ z).2.1 rfl) ho,r⟩
 .refine(I.hok b u e).stay (λc v hc q=>k c v ?_ q) (λ_ q=>q) λ_ _ q=>q;rcases hc with z|z
  .rw [z];exact nin e
  .exact nin z
theorem Inv.turnNew {o:HO} (I:Inv X Mb σ H s) (hf:∀b∈ch,cp X Mb H b) (k:∀b ob,b∉ch->s.heap.get? b=some ob->h'.get? b=some ob) (new:aG X.prog X.w (upd H s.heap.objs.size o) h' s.heap.objs.size o):
  Inv X Mb σ (upd H s.heap.objs.size o) {s with heap:=h',toks:=t'}:=by
 have nf:H s.heap.objs.size=none:=I.hok.fresh (AB _);have nin:∀{b u},H b=some u->b∉ch:=λe z=>by rw[(hf _ z).1] at e;cases e
 refine I.step (g':=s.gens) (d':=s.drawn) (ch:=ch) (cp.chs hf) (λb o _ _ c e _=>k b o c e) (λb o _ _ c e _=>⟨o.slots,k b o c e⟩) (λb ob c e n=> ?_) (λb o c e=>⟨o,k b o c e⟩) (λb ys e=> ?_) (λb o u e=> ?_) (λb ps e=>⟨#[], ?_⟩) (λm hm=> ?_) (λb u e=> ?_) I.bare
 .rw [aw (AQ (AM e))];exact n
 .rw [aw (bj e nf)];exact e
 .rw [aw (bj e nf)];exact e
 .rw [aw (bj e nf),e];simp
 .obtain⟨o,es,ep,ho,r⟩:=hm;exact⟨o,es,ep,k _ o (λz=>(hf _ z).2.1 rfl) ho,r⟩
 .by_cases hb:b=s.heap.objs.size
  .subst hb;rw[ak] at e;cases e;exact new
  .rw [aw hb] at e;refine(I.hok b u e).stay (λc v hc q=>k c v ?_ q) (λc q=> ?_) λc ys q=> ?_
   .rcases hc with z|z
    .rw [z];exact nin e
    .exact nin z
   .rw [aw (bj q nf)];exact q
   .rw [aw (bj q nf)];exact q
end
theorem mY :gh 2 (gTup K 2 (gCons (cn 0) (gCons (cn 1) j9))):=by
 intro v σ H Q ⟨a,xs,e,hq,hl,x,r,ex,y,r2,er,en,q⟩;refine⟨a,xs,e,hq,hl,x,r,ex,y,r2,er,en,q, ?_,λi hi=> ?_⟩
 .rw [By,By]
 .rw [CZ (by lia),CZ (by lia)]
theorem mZ :∀(σ:St) (H:Hp) (R R':St->Hp->Prop) (x:V),(∀σ' H',R σ' H'->R' σ' H')->gTup K 2 (gCons (cn 0) (gCons (cn 1) j9)) x σ H R->gTup K 2 (gCons (cn 0) (gCons (cn 1) j9)) x σ H R':=
 λσ H R R' v k Ms=>by obtain⟨a,xs,e,hq,hl,x,r,ex,y,r2,er,en,q⟩:=Ms;exact⟨a,xs,e,hq,hl,x,r,ex,y,r2,er,en,k _ _ q⟩
theorem m3 {X:Cx}{es:Rl Rm}{k:Nat}{pos:Pos}{t:TGs}(hK:X.K=K) (hc:X.calm=true) (h:PGs X es t)
  (hn:(assignEach es X.env).length=n:=by rfl) (NQ:(assignEach es X.env).findIdx? (·.1)=none:=by rfl):PG X (.Tuple es k pos) (gTup K n t):=hK▸bZ hc h hn NQ
end L2
namespace PySem.SeqAt
open AutoSeq1 (wpAny_loadPart')
open MeetsSeq MeetsSeq2 MeetsSeq3 SeqRoads2
def LtAt (A:Rk) (s:Rf) (y x:OO) (b:Bool):Prop:=
 ∀(prog:Rh) (w:Rj) (E:OO->Rf->Prop) (Q:OO->Rf->Prop),Q (.bool b) s->wpAny (model prog w) A (richCompare .Lt y x) Q E s
def lex (e f:Nat->Bool) (m n:Nat):Nat->Nat->Bool
 |0,_=>decide (m<n)
 |k+1,i=>if e i=true then lex e f m n k (i+1) else f i
theorem Fq (l b:Rg) (items Md:Array OO) (n n2:Nat) (dd NS:Rp Rg) (sl NT:Array (Rp OO)) (e f:Nat->Bool) (k:Nat):
  ∀i:Nat,min items.size Md.size-i=k->Meets (Builtin.«list.__eq__.loop» ⟨[.ref l, .ref b,rawInt i,rawInt 0],[]⟩)
   (λA R s=>s.heap.get? l=some {cls:= .type "list",dict:=dd,data:= .seq items n,slots:=sl}/\s.heap.get? b=some {cls:= .type "list",dict:=NS,data:= .seq Md n2,slots:=NT}/\
    (∀j (h1:j<items.size) (h2:j<Md.size),EqAt A.in1 s items[j] Md[j] (e j))/\(∀j (h1:j<items.size) (h2:j<Md.size),e j=false->LtAt A.in1 s items[j] Md[j] (f j))/\
    R (.ok (.ret (.bool (lex e f items.size Md.size k i)))) s):=by
 induction k with
 |zero=>
  intro i hk prog w A R s h;obtain⟨hp,g,d,tk,os⟩:=s;obtain⟨hl,hb,he,hf,h⟩:=h
  wp_walk using wpAny_loadPart' hl,CV hb
  rcases(by lia:items.size<=i\/(i<items.size/\Md.size<=i)) with q|⟨q1,q2⟩
  .have hi1:items[((i:Nat):Int).toNat]? =none:=by simp;lia
   rw[hi1]
   wp_walk using wpAny_loadPart' hl,CV hb
   exact h
  .have hi1:items[((i:Nat):Int).toNat]? =some items[i]:=by simp[q1]
   have NW:Md[((i:Nat):Int).toNat]? =none:=by simp;lia
   rw[hi1,NW]
   wp_walk using wpAny_loadPart' hl,CV hb
   exact h
 |succ k ih=>
  intro i hk prog w A R s h;obtain⟨hp,g,d,tk,os⟩:=s;obtain⟨hl,hb,he,hf,h⟩:=h
  wp_walk using wpAny_loadPart' hl,CV hb
  have Mh:i<items.size:=by lia
  have MN:i<Md.size:=by lia
  have hi1:items[((i:Nat):Int).toNat]? =some items[i]:=by simp[Mh]
  have NW:Md[((i:Nat):Int).toNat]? =some Md[i]:=by simp[MN]
  have hc:((i:Int)+1)=((i+1:Nat):Int):=by push_cast;rfl
  unfold lex at h;rw[hi1,NW];refine A0 (he i Mh MN prog w _ _ ?_);cases ON:e i with
  |true=>
   rw[ON,A6 rfl] at h
   wp_walk
   rw[hc];exact⟨Cw plain_eq_loop _,CH entry_eq_loop (by
    rw[C1 plain_eq_loop _];exact ih (i+1) (by lia) prog w A R _ ⟨hl,hb,he,hf,h⟩)⟩
  |false=>
   rw[ON,A5 (by simp)] at h
   wp_walk using wpAny_loadPart' hl,CV hb
   rw[hi1,NW];refine A0 (hf i Mh MN ON prog w _ _ ?_)
   wp_walk
   exact h
theorem sV (l b:Rg) (items Md:Array OO) (n n2:Nat) (dd NS:Rp Rg) (sl NT:Array (Rp OO)) (e f:Nat->Bool):
  Meets (Builtin.«list.__lt__» ⟨[.ref l, .ref b],[]⟩)
   (λA R s=>s.heap.get? l=some {cls:= .type "list",dict:=dd,data:= .seq items n,slots:=sl}/\s.heap.get? b=some {cls:= .type "list",dict:=NS,data:= .seq Md n2,slots:=NT}/\
    (∀j (h1:j<items.size) (h2:j<Md.size),EqAt A.in1 s items[j] Md[j] (e j))/\(∀j (h1:j<items.size) (h2:j<Md.size),e j=false->LtAt A.in1 s items[j] Md[j] (f j))/\
    R (.ok (.ret (.bool (lex e f items.size Md.size (min items.size Md.size) 0)))) s):=by
 intro prog w A R s h;obtain⟨hp,g,d,tk,os⟩:=s;obtain⟨hl,hb,he,hf,h⟩:=h;have f3:=AutoSeq1.sub_list_list
 wp_walk using wpAny_loadPart' hl,CV hb
 exact⟨Cw plain_eq_loop _,CH entry_eq_loop (by
  rw[C1 plain_eq_loop _];exact Fq l b items Md n n2 dd NS sl NT e f _ 0 rfl prog w A R _ ⟨hl,hb,he,hf,by simpa using h⟩)⟩
theorem Fs (l b:Rg) (items Md:Array OO) (n n2:Nat) (dd NS:Rp Rg) (sl NT:Array (Rp OO)) (e f:Nat->Bool):
  Meets (Builtin.«tuple.__lt__» ⟨[.ref l, .ref b],[]⟩)
   (λA R s=>s.heap.get? l=some {cls:= .type "tuple",dict:=dd,data:= .seq items n,slots:=sl}/\s.heap.get? b=some {cls:= .type "tuple",dict:=NS,data:= .seq Md n2,slots:=NT}/\
    (∀j (h1:j<items.size) (h2:j<Md.size),EqAt A.in1 s items[j] Md[j] (e j))/\(∀j (h1:j<items.size) (h2:j<Md.size),e j=false->LtAt A.in1 s items[j] Md[j] (f j))/\
    R (.ok (.ret (.bool (lex e f items.size Md.size (min items.size Md.size) 0)))) s):=
 .of_wp λprog w A R s h=>by
  obtain⟨hp,g,d,tk,os⟩:=s;obtain⟨hl,hb,he,hf,h⟩:=h;have f2:=AutoSeq1.sub_tuple_tuple;have hZ:(items.toList.zip Md.toList).length=min items.size Md.size:=by simp
  wp_walk using wpAny_loadPart' hl,CV hb,BZ _ (λaJ b s'=>b.1=none/\s'=⟨hp,g,d,tk,os⟩/\∃i,aJ=(items.toList.zip Md.toList).drop i/\i<=min items.size Md.size/\
   R (.ok (.ret (.bool (lex e f items.size Md.size (min items.size Md.size-i) i)))) ⟨hp,g,d,tk,os⟩) _
  case turn=>
   rintro⟨y,x⟩ aJ b s' ⟨ON,rfl,i,hz,hile,hR⟩;have Mh:i<(items.toList.zip Md.toList).length:=by
    rcases Bd i (items.toList.zip Md.toList).length with h'|h'
    .exact h'
    .rw [CM h'] at hz;cases hz
   have hm:i<min items.size Md.size:=hZ▸Mh;have h1:i<items.size:=Ao hm (Nat.min_le_left _ _);have h2:i<Md.size:=Ao hm (Nat.min_le_right _ _);rw[As Mh] at hz;injection hz with hyx hrest;have hy:y=items[i]:=by have:=B' Prod.fst hyx;simpa using this
   have hx:x=Md[i]:=by have:=B' Prod.snd hyx;simpa using this
   subst hy hx;rw[show min items.size Md.size-i=(min items.size Md.size-(i+1))+1 by lia,lex] at hR;refine A0 (he i h1 h2 prog w _ _ ?_);cases hy:e i with
   |true=>
    rw[hy,A6 rfl] at hR
    wp_walk
    exact⟨rfl,rfl,i+1,hrest,by lia,hR⟩
   |false=>
    rw[hy,A5 (by simp)] at hR;rw[A6 (show(!false)=true from rfl)];refine A0 (Bv ?_);refine A0 (hf i h1 h2 hy prog w _ _ ?_)
    wp_walk
    exact⟨_,rfl,hR⟩
  case fin=>
   rintro⟨b1,b2⟩ s' ⟨ON,rfl,i,hz,hile,hR⟩;simp only at ON;subst ON;have hi:i=min items.size Md.size:=by
    rcases Bd i (items.toList.zip Md.toList).length with h'|h'
    .rw [As h'] at hz;cases hz
    .lia
   subst hi;rw[Nat.sub_self] at hR
   wp_walk
   exact⟨_,rfl,hR⟩
  case h=>
   exact⟨rfl,rfl,0,rfl,AO _,by simpa using h⟩
section
variable {A:Rk}{s:Rf}
def LtAt.int_int (i:Int) (t:Tok) (j:Int) (u:Tok):LtAt A s (.int i t) (.int j u) (decide (i<j)):=λprog w E Q h=>wpAny_lt_int h
theorem LtAt.lists {l b:Rg}{items Md:Array OO}{e f:Nat->Bool} (hl:s.heap.IsList l items) (hb:s.heap.IsList b Md) (hu:A.units<cLine)
  (he:∀j (h1:j<items.size) (h2:j<Md.size),EqAt A.in1 s items[j] Md[j] (e j)) (hf:∀j (h1:j<items.size) (h2:j<Md.size),e j=false->LtAt A.in1 s items[j] Md[j] (f j)):
  LtAt A s (.ref l) (.ref b) (lex e f items.size Md.size (min items.size Md.size) 0):=λprog w E Q h=>by
 obtain⟨⟨cls,dd,data,sl⟩,ho,hc,n,hd⟩:=id hl;obtain⟨⟨Pp,NS,data2,NT⟩,M9,NB,n2,Nm⟩:=id hb;simp only at hc hd NB Nm;subst hc hd NB Nm;exact richCompare_meets_room (op:= .Lt) ⟨_,ho,rfl⟩ ⟨_,M9,rfl⟩ F.slot_list_lt F.entry_list_lt (F.args_list_lt_2 _ _) (sV l b items Md n n2 dd NS sl NT e f)
  ⟨ho,M9,he,hf,show Value.bool (lex e f items.size Md.size (min items.size Md.size) 0)≠Value.notImplemented/\Q (.bool (lex e f items.size Md.size (min items.size Md.size) 0)) s from⟨(λx=>nomatch x),h⟩⟩ hu
theorem LtAt.tuples {l b:Rg}{items Md:Array OO}{e f:Nat->Bool} (hl:s.heap.IsTuple l items) (hb:s.heap.IsTuple b Md) (hu:A.units<cLine)
  (he:∀j (h1:j<items.size) (h2:j<Md.size),EqAt A.in1 s items[j] Md[j] (e j)) (hf:∀j (h1:j<items.size) (h2:j<Md.size),e j=false->LtAt A.in1 s items[j] Md[j] (f j)):
  LtAt A s (.ref l) (.ref b) (lex e f items.size Md.size (min items.size Md.size) 0):=λprog w E Q h=>by
 obtain⟨⟨cls,dd,data,sl⟩,ho,hc,n,hd⟩:=id hl;obtain⟨⟨Pp,NS,data2,NT⟩,M9,NB,n2,Nm⟩:=id hb;simp only at hc hd NB Nm;subst hc hd NB Nm;exact richCompare_meets_room (op:= .Lt) ⟨_,ho,rfl⟩ ⟨_,M9,rfl⟩ F.slot_tuple_lt F.entry_tuple_lt (F.args_tuple_lt_2 _ _) (Fs l b items Md n n2 dd NS sl NT e f)
  ⟨ho,M9,he,hf,show Value.bool (lex e f items.size Md.size (min items.size Md.size) 0)≠Value.notImplemented/\Q (.bool (lex e f items.size Md.size (min items.size Md.size) 0)) s from⟨(λx=>nomatch x),h⟩⟩ hu
theorem key_lists {prog:Rh}{w:Rj}{E:OO->Rf->Prop}{l b:Rg}{items Md:Array OO}{e f:Nat->Bool}{Q:Bool->Rf->Prop} (hl:s.heap.IsList l items) (hb:s.heap.IsList b Md) (hu:A.units<cLine)
  (he:∀j (h1:j<items.size) (h2:j<Md.size),EqAt A.in1 s items[j] Md[j] (e j)) (hf:∀j (h1:j<items.size) (h2:j<Md.size),e j=false->LtAt A.in1 s items[j] Md[j] (f j))
  (h:Q (lex e f items.size Md.size (min items.size Md.size) 0) s):wpAny (model prog w) A (PyProof.Rows.keyLt' PyProof.Rows.oneType' (.ref l) (.ref b)) Q E s:=by
 rw[PyProof.Rows.keyLt'_oneType,PyProof.Rows.oneLt'_eq];simp only[C8];refine A0 (wpAny_cRoomFor hu ?_);obtain⟨⟨cls,dd,data,sl⟩,ho,hc,n,hd⟩:=id hl;obtain⟨⟨Pp,NS,data2,NT⟩,M9,NB,n2,Nm⟩:=id hb;simp only at hc hd NB Nm;subst hc hd NB Nm;refine A0 (wpAny_callSpecialIfBound?_slot (T:="list") ⟨_,ho,rfl⟩ F.slot_list_lt (Dh F.slot_list_lt ⟨_,ho,rfl⟩ F.entry_list_lt (F.args_list_lt_2 _ _) (sV l b items Md n n2 dd NS sl NT e f) ⟨ho,M9,he,hf, ?_⟩));exact Bg h
end
end PySem.SeqAt
namespace L2
open PySem PySem.Spec PyProof.Rows
variable {A:Rk}{E:OO->Rf->Prop}{H:Hp}{Q:Bool->Rf->Prop}{a b:Rg}{p:Array Nat}{prog:Rh}{q:Rl Pt}{v:V}{vs:Rl OO}{w:Rj}{xs:Rl Int}
inductive LtR (K:W.Frag) (H:Hp):Nat->V->V->Bool->Prop where
 |int (d:Nat) (i j:Int):LtR K H d (.int i) (.int j) (decide (i<j))
 |lists {d:Nat}{a b:Addr}{xs ys:List V} (es fs:Nat->Bool) (h1:SqL K H a xs) (h2:SqL K H b ys) (he:∀(j:Nat) x y,xs[j]? =some x->ys[j]? =some y->EqR K H d x y (es j)) (hf:∀(j:Nat) x y,xs[j]? =some x->ys[j]? =some y->es j=false->LtR K H d x y (fs j)):
  LtR K H (d+1) (.ref a) (.ref b) (SeqAt.lex es fs xs.length ys.length (min xs.length ys.length) 0)
 |tuples {d:Nat}{a b:Addr}{xs ys:List V} (es fs:Nat->Bool) (h1:SqT K H a xs) (h2:SqT K H b ys) (he:∀(j:Nat) x y,xs[j]? =some x->ys[j]? =some y->EqR K H d x y (es j)) (hf:∀(j:Nat) x y,xs[j]? =some x->ys[j]? =some y->es j=false->LtR K H d x y (fs j)):
  LtR K H (d+1) (.ref a) (.ref b) (SeqAt.lex es fs xs.length ys.length (min xs.length ys.length) 0)
section
variable {X:Cx}{Mb:Rl (Rg×Obj)}{σ:St}{H:Hp}{s:Rf}
theorem dr {xs:Rl V}{is:Rl OO}{j:Nat} (r:ap xs is) (q:j<is.toArray.size):∃x,xs[j]? =some x/\av x is.toArray[j]:=by
 have l:=r.length;have q':j<is.length:=by simpa using q
 have hx:xs[j]? =some xs[j]:=A3 (by lia);obtain⟨u,e,ru⟩:=r.get hx;refine⟨_,hx, ?_⟩;have g:is.toArray[j]=u:=by
  rw[A3 q'] at e;simpa using Option.some.inj e
 rw[g];exact ru
theorem LtR.bP (I:Inv X Mb σ H s) {d:Nat}{x y:V}{b:Bool} (h:LtR X.K H d x y b):∀{A:Rk}{u v:OO},A.units+d<cLine->av x u->av y v->SeqAt.LtAt A s u v b:=by
 induction h with
 |int d i j=>
  intro A u v hu ru rv;obtain⟨t,rfl⟩:=ru;obtain⟨t',rfl⟩:=rv;exact SeqAt.LtAt.int_int i t j t'
 | @lists d a b xs ys es fs h1 h2 he hf ih=>
  intro A u v hu ru rv;obtain rfl:u=Value.ref a:=ru;obtain rfl:v=Value.ref b:=rv;obtain⟨is,r1,p1,z1⟩:=I.list h1;obtain⟨js,r2,p2,z2⟩:=I.list h2;have l1:xs.length=is.toArray.size:=by have:=r1.length;simpa using this
  have l2:ys.length=js.toArray.size:=by have:=r2.length;simpa using this
  rw[l1,l2];refine SeqAt.LtAt.lists p1.isList p2.isList (by lia) (λj q1 q2=> ?_) (λj q1 q2 z=> ?_)
  .obtain⟨x,hx,rx⟩:=dr r1 q1;obtain⟨y,hy,ry⟩:=dr r2 q2;exact((he j _ _ hx hy).bP I (by rw[cb];lia) rx ry).2.2
  .obtain⟨x,hx,rx⟩:=dr r1 q1;obtain⟨y,hy,ry⟩:=dr r2 q2;exact ih j _ _ hx hy z (by rw[cb];lia) rx ry
 | @tuples d a b xs ys es fs h1 h2 he hf ih=>
  intro A u v hu ru rv;obtain rfl:u=Value.ref a:=ru;obtain rfl:v=Value.ref b:=rv;obtain⟨is,r1,p1,z1⟩:=I.tuple h1;obtain⟨js,r2,p2,z2⟩:=I.tuple h2;have l1:xs.length=is.toArray.size:=by have:=r1.length;simpa using this
  have l2:ys.length=js.toArray.size:=by have:=r2.length;simpa using this
  rw[l1,l2];refine SeqAt.LtAt.tuples (show s.heap.IsTuple a is.toArray from p1) (show s.heap.IsTuple b js.toArray from p2) (by lia) (λj q1 q2=> ?_) (λj q1 q2 z=> ?_)
  .obtain⟨x,hx,rx⟩:=dr r1 q1;obtain⟨y,hy,ry⟩:=dr r2 q2;exact((he j _ _ hx hy).bP I (by rw[cb];lia) rx ry).2.2
  .obtain⟨x,hx,rx⟩:=dr r1 q1;obtain⟨y,hy,ry⟩:=dr r2 q2;exact ih j _ _ hx hy z (by rw[cb];lia) rx ry
theorem LtR.key (I:Inv X Mb σ H s) {d:Nat}{xs ys:Rl V}{es fs:Nat->Bool} (h1:SqL X.K H a xs) (h2:SqL X.K H b ys) (he:∀(j:Nat) x y,xs[j]? =some x->ys[j]? =some y->EqR X.K H d x y (es j)) (hf:∀(j:Nat) x y,xs[j]? =some x->ys[j]? =some y->es j=false->LtR X.K H d x y (fs j))
  (hu:A.units+(d+1)<cLine) (q:Q (SeqAt.lex es fs xs.length ys.length (min xs.length ys.length) 0) s):
  wpAny (model prog w) A (keyLt' oneType' (.ref a) (.ref b)) Q E s:=by
 obtain⟨is,r1,p1,z1⟩:=I.list h1;obtain⟨js,r2,p2,z2⟩:=I.list h2;have l1:xs.length=is.toArray.size:=by have:=r1.length;simpa using this
 have l2:ys.length=js.toArray.size:=by have:=r2.length;simpa using this
 rw[l1,l2] at q;refine SeqAt.key_lists p1.isList p2.isList (by lia) (λj q1 q2=> ?_) (λj q1 q2 z=> ?_) q
 .obtain⟨x,hx,rx⟩:=dr r1 q1;obtain⟨y,hy,ry⟩:=dr r2 q2;exact((he j _ _ hx hy).bP I (by rw[cb];lia) rx ry).2.2
 .obtain⟨x,hx,rx⟩:=dr r1 q1;obtain⟨y,hy,ry⟩:=dr r2 q2;exact(hf j _ _ hx hy z).bP I (by rw[cb];lia) rx ry
end
def jd (ns:Rl Int):Int:=ns.getD (argBest (λi j=>decide (ns.getD i 0<ns.getD j 0)) (ns.length-1)) 0
section
variable {X:Cx}
theorem sW {ys:Array (Int×Tok)}{ns:Rl Int} (h:ys.toList.map (·.1)=ns) (i:Nat):numAt ys i=ns.getD i 0:=by
 subst h;unfold numAt;rw[List.getD,AC,Bb]
theorem Ft (hc:X.calm=true):bW X (.builtin "min") (λxs H Q=>∃(p:Rg) (ns:Rl Int),xs=[.ref p]/\SqL X.K H p (ns.map V.int)/\0<ns.length/\Q (.int (jd ns)) H):=by
 intro Mb s σ H xs us Q I r h;obtain⟨p,ns,rfl,hq,h0,q⟩:=h;obtain⟨u,rfl,rx⟩:=cU r;cases rx;obtain⟨Me,r',pl,hz⟩:=I.list hq;have hi:IntsAre Me ns:=mL r';obtain⟨ys,e⟩:=hi.allInts.items;have n1:=hi.numsOf;rw[show Me=Me.toArray.toList from rfl,e,nums_intItems] at n1;have hsz:ys.size=ns.length:=by rw[<-n1];simp
 have hl:=pl.isList;rw[e] at hl;refine min_intList (I.ok.hd hc) hl (by lia) λv h' tk hv hk=> ?_;obtain⟨t,rfl⟩:=intItems_at hv;refine⟨.int (jd ns),H,I.kept hk,⟨t, ?_⟩,q⟩;unfold jd;rw[sW n1,hsz];simp only[sW n1]
inductive ipM (x:V) (y:V) (H:Hp) (Q:VK):Prop
 |mk i j:x= .int i->y= .int j->kf i j->Q (.int (i*j)) H->ipM x y H Q
theorem m4:PIp X .Mult ipM:=by
 intro Mb s σ H x y v u Q I r1 r2 h;obtain⟨i,j,e1,e2,c,q⟩:=h;subst e1;subst e2;obtain⟨t,rfl⟩:=r1;obtain⟨t',rfl⟩:=r2;exact imul_int ⟨.int _,H,I.tok _,⟨_,rfl⟩,q⟩ c.ok
end
def tI (xs:Rl Int):D:= .t (xs.map .i)
theorem gX {H:Hp}:∀{xs:Rl Int}{vs:Rl V},Iss H (xs.map .i) vs->vs=xs.map V.int
 |[],vs,h=>h
 |x::xs,vs,h=>by
  obtain⟨u,us,rfl,h1,h2⟩:=h;rw[az h1,gX h2];rfl
theorem fA {H:Hp}:∀(xs:Rl Int),Iss H (xs.map .i) (xs.map V.int)
 |[]=>rfl
 |x::xs=>⟨_,_,rfl,bz,fA xs⟩
theorem bL (h:Is H (tI xs) v):∃a,v= .ref a/\H a=some (.tup (xs.map V.int)):=by
 obtain⟨a,vs,rfl,ha,hi⟩:=bB h;rw[gX hi] at ha;exact⟨a,rfl,ha⟩
def dY (h:H a=some (.tup (xs.map V.int))):Is H (tI xs) (.ref a):=bA h (fA xs)
open PySem.W
section
variable {n:Nat}
def Ord (n:Nat) (p:Array Nat):Prop:=p.Perm (List.range n).toArray
theorem Ord.size {p:Array Nat} (h:Ord n p):p.size=n:=by
 have:=(Dc.mp h).length_eq;simpa using this
theorem Ord.lt (h:Ord n p) {i:Nat} (hi:i∈p.toList):i<n:=by
 have:=(Dc.mp h).mem_iff.mp hi;simpa using this
theorem Ord.bubble {p:Array Nat} (h:Ord n p) (i j:Nat):Ord n (PyProof.Rows.bubble p i j):=(bubble_perm p i j).trans h
def Ord.kas (h:Ord n p) (i j:Nat):Ord n (kas_rev p i j):=(mirror_perm p i j _).trans h
theorem Ord.getD {p:Array Nat} (h:Ord n p) (hn:0<n) (i:Nat):p.getD i 0<n:=by
 by_cases hi:i<p.size
 .have e:p.getD i 0=p[i]:=by simp[Array.getD,hi]
  rw[e];exact h.lt (by simp)
 .have e:p.getD i 0=0:=by simp[Array.getD,hi]
  rw[e];exact hn
def bQ (n:Nat) {α:Type} (R:α->Prop):KasT α->Prop
 | .ret a=>R a
 | .ask i j k=>i<n/\j<n/\∀b,bQ n R (k b)
theorem bQ.bind {α β:Type}{R:α->Prop}{R':β->Prop}{f:α->KasT β} (hf:∀a,R a->bQ n R' (f a)):∀{t:KasT α},bQ n R t->bQ n R' (t.bind f)
 | .ret a,h=>hf a h
 | .ask i j k,h=>⟨h.1,h.2.1,λb=>bQ.bind hf (h.2.2 b)⟩
variable (hn:0<n)
include hn
theorem m5 {p:Array Nat} (h:Ord n p):∀f m,bQ n (λ_=>True) (kas_asc p f m)
 |0,m=>trivial
 |f+1,m=>⟨h.getD hn _,h.getD hn _,λb=>by
  cases b with
  |true=>exact trivial
  |false=>exact m5 h f (m+1)⟩
theorem kF:∀(f:Nat) (p:Array Nat) (m q:Nat),Ord n p->bQ n (λr=>Ord n r.1) (kas_desc f p m q)
 |0,p,m,q,h=>h
 |f+1,p,m,q,h=>⟨h.getD hn _,h.getD hn _,λb=>by
  cases b with
  |true=>
   show bQ n _ (if q>0 then kas_desc f (kas_rev p (m-(q+1)) m) (m+1) 0 else kas_desc f p (m+1) 0);by_cases hq:q>0
   .rw [A6 hq];exact kF f _ _ _ (h.kas _ _)
   .rw [A5 hq];exact kF f _ _ _ h
  |false=>
   refine(show bQ n _ (KasT.ask (p.getD (m-1) 0) (p.getD m 0) λd=>if d=true then KasT.ret (p,m,q) else kas_desc f p (m+1) (q+1)) from⟨h.getD hn _,h.getD hn _,λb=> ?_⟩);cases b with
   |true=>exact h
   |false=>exact kF f _ _ _ h⟩
theorem sX (h:Ord n p) (m k:Nat):bQ n (λr=>Ord n r.2) (kas_tail3 m k p):=by
 unfold kas_tail3;refine bQ.bind (λa _=> ?_) (m5 hn (h.kas 0 m) _ _);exact h.kas 0 m
theorem sY (h:Ord n p) (m k:Nat):bQ n (λr=>Ord n r.2) (kas_descPart m k p):=by
 refine(kF hn _ _ _ _ h).bind λr hr=> ?_;by_cases hq:r.2.2>0
 .rw [A6 hq];exact sX hn (hr.kas _ _) _ _
 .rw [A5 hq];exact sX hn hr _ _
theorem Fu (h:Ord n p) (k:Nat):bQ n (λr=>Ord n r.2) (kas_count k p):=by
 refine(m5 hn h _ _).bind λm _=> ?_;by_cases h1:(m==k)=true
 .rw [A6 h1];exact h
 .rw [A5 h1];by_cases h2:m>1
  .rw [A6 h2];refine⟨h.getD hn _,h.getD hn _,λb=> ?_⟩;cases b with
   |true=>exact h
   |false=>exact sY hn (h.kas _ _) _ _
  .rw [A5 h2];exact sY hn h _ _
theorem m6 {p:Array Nat} (h:Ord n p) (k:Nat):∀f l r,bQ n (λ_=>True) (kas_place p k f l r)
 |0,l,r=>trivial
 |f+1,l,r=>by
  unfold kas_place;by_cases h1:l>=r
  .rw [A6 h1];exact trivial
  .rw [A5 h1];refine⟨h.getD hn _,h.getD hn _,λb=> ?_⟩;cases b with
   |true=>exact m6 h k f _ _
   |false=>exact m6 h k f _ _
theorem sZ:∀(f:Nat) (p:Array Nat) (k:Nat),Ord n p->bQ n (Ord n) (kas_bin f p k)
 |0,p,k,h=>h
 |f+1,p,k,h=>(m6 hn h k _ _ _).bind λl _=>sZ f _ _ (h.bubble _ _)
theorem Fv:bQ n (Ord n) (kas_sort n):=by
 refine(Fu hn (show Ord n (List.range n).toArray from Array.Perm.refl _) n).bind λr hr=> ?_;by_cases h:r.1<n
 .rw [A6 h];exact sZ hn _ _ _ hr
 .rw [A5 h];exact hr
end
section
variable {prog:Rh}{w:Rj}{A:Rk}{E:OO->Rf->Prop}{s:Rf}
def eY (vs:Rl OO) (i:Nat):Keyed:=(vs.getD i .none,vs.getD i .none)
abbrev bo (h:Rn) (a:Rg) (vs:Rl OO):Rn:=((h.update a (Obj.mapSeq λ_=>(#[]:Array OO))).push (seqObj "tuple" vs.toArray 0)).push (seqObj "list" #[] 0)
theorem Fw (vs:Rl OO):(List.toArray (List.range vs.length)).map (eY vs)=vs.toArray.zip vs.toArray:=by
 refine Array.ext (by simp) λi h1 h2=> ?_;have hi:i<vs.length:=by simpa using h1
 simp[eY,hi]
abbrev je (h:Rn) (vs:Rl OO):Rn:=bo (((h.push (seqObj "list" #[] 0)).update h.objs.size (Obj.mapSeq (· ++vs.toArray))).push (seqObj "list" vs.toArray 0)) (h.objs.size+1) vs
theorem Fx {h:Rn}{o:Obj} (hb:h.get? b=some o):(je h vs).get? b=some o:=by
 have Mh:b<h.objs.size:=AM hb;have sz:(((h.push (seqObj "list" #[] 0)).update h.objs.size (Obj.mapSeq (· ++vs.toArray))).push (seqObj "list" vs.toArray 0)).objs.size=h.objs.size+2:=by rw[C3,BB,C3]
 have n0:b≠h.objs.size:=AQ Mh;have n1:b≠h.objs.size+1:=AQ (Ai Mh);have n2:b≠h.objs.size+2:=AQ (Ai (Ai Mh));have n3:b≠h.objs.size+2+1:=AQ (Ai (Ai (Ai Mh)));rw[BC _ _ _ (by rw[C3,BB,sz];exact n3),BC _ _ _ (by rw[BB,sz];exact n2),Dd _ _ _ _ n1,
  BC _ _ _ (by rw[BB,C3];exact n1),Dd _ _ _ _ n0,BC _ _ _ n0]
 exact hb
end
section
variable {prog:Rh}{w:Rj}{A:Rk}{E:OO->Rf->Prop}{s:Rf}
theorem tj {n:Nat}{P:PySem.Fin->Rf->Prop} (ho:s.heap.get? a=some (seqObj "list" vs.toArray n)) (h2:vs.length<2)
  (h:P (.done (.ret .none)) {s with heap:=sortedHeap s.heap a vs vs.toArray}):wpAny (model prog w) A (Builtin.«list.sort» ⟨[.ref a],[]⟩) P E s:=by
 rw[list_sort_plain];have ha:a<s.heap.objs.size:=AM ho;refine A0 (listItems_at ho rfl ?_);refine A0 (Cp ho rfl ?_ (by rw[AG,Av];lia) (AO _));obtain⟨e1,MO⟩:∃e1,(s.heap.update a (Obj.mapSeq λ_=>(#[]:Array OO))).get? a=some (seqObj "list" #[] e1):=⟨_,Cm ho (λ_=> #[])⟩;refine A0 (seqEpoch_at MO rfl ?_);refine A0 (wpAny_newTuple ?_ (by show vs.length<=_;rw[Av];lia));refine A0 (DY ?_ (AO _));refine B5 ?_;have OA:(bo s.heap a vs).get? a=some (seqObj "list" #[] e1):=by
  rw[BC _ _ _ (by rw[C3,BB];exact AQ (Ai ha)),BC _ _ _ (by rw[BB];exact AQ ha)];exact MO
 show wpAny (model prog w) A _ P E {s with heap:=bo s.heap a vs};dsimp only;have Pb:vs.toArray.size<2:=by rw[AG];lia
 rw[A6 Pb,A6 Pb];refine A0 (A2 ?_);rw[StateT.run_pure];refine A0 (A2 ?_);dsimp only;have eo:(vs.toArray.zip vs.toArray).map (·.2)=vs.toArray:=by
  refine Array.ext (by simp) λi h1 h2=> ?_;simp
 refine A0 (seqEpoch_at OA rfl ?_);rw[eo];refine A0 (Cp OA rfl ?_ (AO _) (by rw[AG,Av];lia));simp only[Cy,AI,An];exact A2 h
theorem Fy {l:Rg}{Q:OO->Rf->Prop} (hl:s.heap.IsList l vs.toArray) (h2:vs.length<2)
  (h:Q (.ref (s.heap.objs.size+1)) {s with heap:=sortedAll s.heap vs vs.toArray}):wpAny (model prog w) A (call (.builtin "sorted") [.ref l]) Q E s:=by
 refine Calls.call_function_entry kind_sorted plain_sorted entry_sorted (args_sorted1 _) ?_;unfold Builtin.«sorted»;refine A0 (m:=checkCount "sorted" 1 1 _) (A2 ?_);refine A0 (collect_list hl ?_ (by rw[Av];lia));refine A0 (DY ?_ (by rw[Av];lia));have hsz:((s.heap.push (seqObj "list" #[] 0)).update s.heap.objs.size (Obj.mapSeq (· ++vs.toArray))).objs.size=s.heap.objs.size+1:=by
  rw[BB,C3]
 have Ql:(((s.heap.push (seqObj "list" #[] 0)).update s.heap.objs.size (Obj.mapSeq (· ++vs.toArray))).push (seqObj "list" vs.toArray 0)).get? (s.heap.objs.size+1)=some (seqObj "list" vs.toArray 0):=by
  rw[<-hsz];exact AH _ rfl
 show wpAny _ _ _ _ _ {s with heap:=((s.heap.push (seqObj "list" #[] 0)).update s.heap.objs.size (Obj.mapSeq (· ++vs.toArray))).push (seqObj "list" vs.toArray 0)};rw[hsz];refine A0 (B5 (Ah slot_list_sort ⟨_,Ql,rfl⟩ entry_list_sort (tj (s:={s with heap:=((s.heap.push (seqObj "list" #[] 0)).update s.heap.objs.size (Obj.mapSeq (· ++vs.toArray))).push (seqObj "list" vs.toArray 0)}) Ql h2 ⟨_,rfl, ?_⟩) (args_list_sort _)));exact A2 ⟨_,rfl,h⟩
end
section
variable {X:Cx}
theorem m7 {rs:Rl V}{Me:Rl OO} (r:ap rs Me):∀(l:Rl Nat),(∀i∈l,i<rs.length)->ap (l.map λi=>rs.getD i .non) (l.map λi=>Me.getD i .none)
 |[],_=> .nil
 |i::l,h=>by
  have hi:i<rs.length:=h i (by simp);have e:rs[i]? =some rs[i]:=A3 hi;obtain⟨u,hu,ru⟩:=r.get e;rw[AL,AL];refine .cons ?_ (m7 r l λj hj=>h j (by simp[hj]));rw[List.getD,List.getD,e,hu];exact ru
end
def cX (fin:Bool):Rl Int->Rl Int->Bool
 |x::xs,y::ys=>if x=y then cX fin xs ys else decide (x<y)
 |_,_=>fin
def ltI (xs ys:Rl Int):Bool:=cX (decide (xs.length<ys.length)) xs ys
section
variable {prog:Rh}{w:Rj}{A:Rk}{E:OO->Rf->Prop}{s:Rf}
theorem tq {fin:Bool}{Q:Bool->Rf->Prop}:∀{xs ys:Rl Int}{is js:Rl OO} (i:Nat),ap (xs.map V.int) is->ap (ys.map V.int) js->Q (cX fin xs ys) s->KatLex prog w A true fin Q (is.zip js) i s
 |[],ys,is,js,i,h1,h2,q=>by
  cases h1;rw[List.zip_nil_left];exact kat_nil (by cases ys<;>exact q)
 |x::xs,[],is,js,i,h1,h2,q=>by
  cases h2;rw[List.zip_nil_right];exact kat_nil q
 |x::xs,y::ys,is,js,i,h1,h2,q=>by
  cases h1 with
  |cons r1 h1=>
  cases h2 with
  |cons r2 h2=>
  obtain⟨t,rfl⟩:=r1;obtain⟨t',rfl⟩:=r2;rw[Da];refine kat_cons ?_;refine wpAny_eqBool_int ?_;unfold cX at q;by_cases e:x=y
  .rw [A6 e] at q;rw[show(x==y)=true by simp[e]];exact kat_yes (tq (i+1) h1 h2 q)
  .rw [A5 e] at q;rw[show(x==y)=false by simp[e]];refine kat_no ?_;cases hb:(true&&i==0) with
   |true=>exact oneLt_int q
   |false=>exact kat_one _ _ (SeqAt.LtAt.int_int x t y t' prog w _ _ q)
end
theorem Fz (xss:Rl (Rl Int)):(List.range xss.length).map (λi=>xss.getD i [])=xss:=by
 refine DA (by simp) λi h1 h2=> ?_;simp[List.getD,h2]
theorem tw {H:Hp}{xss:Rl (Rl Int)}{rs:Rl V} (h:Iss H (xss.map tI) rs):∀(l:Rl Nat),(∀i∈l,i<xss.length)->Iss H ((l.map λi=>xss.getD i []).map tI) (l.map λi=>rs.getD i .non)
 |[],_=>rfl
 |i::l,hl=>by
  have hi:i<xss.length:=hl i (by simp);have hr:i<rs.length:=by rw[h.length,A1];exact hi
  refine⟨_,_,rfl, ?_,tw h l λj hj=>hl j (by simp[hj])⟩;obtain⟨d,hd,h1⟩:=h.of_get (A3 hr);rw[AC,A3 hi] at hd;cases hd;show Is H (tI (xss.getD i [])) (rs.getD i .non);rw[A',A',A3 hi,A3 hr];exact h1
section
variable {X:Cx}{Mb:Rl (Rg×Obj)}{σ:St}{H:Hp}{s:Rf}
theorem tz (I:Inv X Mb σ H s):∀{xss:Rl (Rl Int)}{rs:Rl V}{Me:Rl OO},Iss H (xss.map tI) rs->ap rs Me->(∀xs∈xss,xs≠[])->∃fs:Rl OO,KatTups s.heap Me fs/\fs.length=Me.length/\∀f∈fs,∃z t,f=Value.int z t
 |[],rs,Me,h,r,_=>by
  obtain rfl:rs=[]:=h;cases r;exact⟨[],KatTups.nil,rfl,λ_ h=>nomatch h⟩
 |xs::xss,rs,Me,h,r,MF=>by
  obtain⟨u,us,rfl,h1,h2⟩:=h;cases r with
  |cons r1 r2=>
  rename_i v Me;obtain⟨fs,k1,k2,k3⟩:=tz I h2 r2 λys hy=>MF ys (by simp[hy]);obtain⟨a,rfl,ha⟩:=bL h1;obtain rfl:v=Value.ref a:=r1;obtain⟨is,q1,q2,q3⟩:=I.tuple (SqT.of (K:=X.K) ha);obtain⟨o,ho,hc,n,hd⟩:=(show s.heap.IsTuple a is.toArray from q2)
  match xs,MF xs (by simp) with
  |x::NX,_=>
  cases q1 with
  |cons q0 q1=>
  obtain⟨t,rfl⟩:=q0;refine⟨.int x t::fs,KatTups.cons ho hc hd (by simp) k1,by simp[k2],λf hf=> ?_⟩;rcases AJ.mp hf with rfl|hf
  .exact⟨_,_,rfl⟩
  .exact k3 f hf
theorem FA (I:Inv X Mb σ H s) {ys:Rl Int} (h1:SqT X.K H a (xs.map V.int)) (h2:SqT X.K H b (ys.map V.int)) (q:Q (ltI xs ys) s):
  wpAny (model prog w) A (keyLt' (tuples' true) (.ref a) (.ref b)) Q E s:=by
 obtain⟨is,r1,p1,z1⟩:=I.tuple h1;obtain⟨js,r2,p2,z2⟩:=I.tuple h2;obtain⟨o1,MO,P4,n1,P5⟩:=(show s.heap.IsTuple a is.toArray from p1);obtain⟨o2,M9,NB,n2,Nm⟩:=(show s.heap.IsTuple b js.toArray from p2);refine kat_lt MO P5 M9 Nm ?_;have l1:is.toArray.size=xs.length:=by have:=r1.length;simp at this⊢;lia
 have l2:js.toArray.size=ys.length:=by have:=r2.length;simp at this⊢;lia
 rw[l1,l2];exact tq 0 r1 r2 q
end
def kG (v:OO) (k:Int):Bool:=match v with
 | .int i _=>decide (i=k)
 |_=>false
def eZ:Rl DictEntry->Rl (Int×Int)->Bool
 |[],[]=>true
 |e::es,p::Mc=>kG e.key p.1&&decide (e.hash=hashInt p.1)&&kG e.val p.2&&eZ es Mc
 |_,_=>false
def tD (o:Obj) (Mc:Rl (Int×Int)):Bool:=match o.cls,o.dict,o.data with
 | .type c,none, .dict es _=>c=="dict"&&o.slots.isEmpty&&eZ es.toList Mc
 |_,_,_=>false
def gY (K:W.Frag) (a:Rg) (Mc:Rl (Int×Int)):Bool:=match K.lookup a with
 |some o=>tD o Mc
 |none=>false
theorem tE {v:OO}{k:Int} (h:kG v k=true):∃t,v= .int k t:=by
 unfold kG at h;split at h
 .rename_i i t;exact⟨t,by rw[B2 h]⟩
 .cases h
theorem tF {e:DictEntry}{es:Rl DictEntry}{p:Int×Int}{Mc:Rl (Int×Int)} (h:eZ (e::es) (p::Mc)=true):(∃t,e.key= .int p.1 t)/\e.hash=hashInt p.1/\(∃t,e.val= .int p.2 t)/\eZ es Mc=true:=by
 unfold eZ at h;rw[AA,AA,AA] at h;exact⟨tE h.1.1.1,B2 h.1.1.2,tE h.1.2,h.2⟩
theorem tG:∀{es:Rl DictEntry}{Mc:Rl (Int×Int)},eZ es Mc=true->∀e∈es,∃k,Value.isInt k e.key=true/\e.hash=hashInt k
 |[],_,_,e,he=>nomatch he
 |e::es,[],h,_,_=>by unfold eZ at h;cases h
 |e::es,p::Mc,h,e',he=>by
  obtain⟨⟨t,h1⟩,h2,_,h4⟩:=tF h;rcases AJ.mp he with rfl|he
  .exact⟨p.1,by rw[h1];simp[Value.isInt],h2⟩
  .exact tG h4 e' he
theorem tH {k v:Int}:∀{es:Rl DictEntry}{Mc:Rl (Int×Int)},eZ es Mc=true->Mc.lookup k=some v->∃t,(es.find? λe=>Value.isInt k e.key).map (·.val)=some (.int v t)
 |_,[],_,hv=>nomatch hv
 |[],p::Mc,h,_=>by unfold eZ at h;cases h
 |e::es,p::Mc,h,hv=>by
  obtain⟨⟨t,h1⟩,h2,⟨u,h3⟩,h4⟩:=tF h;rw[CI] at hv;rw[Bf];by_cases q:k=p.1
  .have b:(k==p.1)=true:=by simp[q]
   rw[b] at hv;have Qy:p.2=v:=Ak hv;have i:Value.isInt k e.key=true:=by rw[h1,q];simp[Value.isInt]
   rw[i];exact⟨u,by rw[<-Qy,<-h3];rfl⟩
  .have b:(k==p.1)=false:=by simp[q]
   rw[b] at hv;have i:Value.isInt k e.key=false:=by rw[h1];simp[Value.isInt];exact λz=>q z.symm
   rw[i];exact tH h4 hv
inductive tDGetM_ (K:W.Frag) (Q:VK) (x:V) (y:V) (H2:Hp):Prop
 |mk a Mc k v:x= .ref a->gY K a Mc=true->y= .int k->Mc.lookup k=some v->Q (.int v) H2->tDGetM_ K Q x y H2
def FB (K:W.Frag) (td ty:TE):TE:=λσ H Q=>td σ H λx H1=>ty σ H1 λy H2=>tDGetM_ K Q x y H2
theorem tJ {X:Cx}{o i:Rm}{pos:Pos}{td ty:TE} (ho:PE X o td) (hi:PE X i ty) (hs:gR i):PE X (.Subscript o i pos) (FB X.K td ty):=by
 intro Mb s σ H Q I h;refine mO PySem.F.slot_dict_getitem.lookup hs (thn (ho Mb s σ H _ I h) λu s1 zu52=> ?_);obtain⟨x,H1,I1,rx,q1⟩:=zu52;refine thn (hi Mb s1 σ H1 _ I1 q1) λiv s2 zu53=> ?_;obtain⟨y,H2,I2,ry,a,Mc,k,v,ex,hd,ey,hv,q2⟩:=zu53;subst ex ey;obtain rfl:u=Value.ref a:=rx;obtain⟨t,rfl⟩:=ry;unfold gY at hd;split at hd
 .rename_i ob P6;have hg:=I2.kIn a ob P6;unfold tD at hd;split at hd
  .rename_i c es ep hc NF Nx;rw[AA,AA] at hd;obtain⟨⟨d1,d2⟩,d3⟩:=hd;have hc':ob.cls= .type "dict":=by rw[hc,eq_of_beq d1]
   obtain⟨t',ht⟩:=tH d3 hv;have mp:s2.heap.MapOf (intKind X.prog X.w) a (findBy Value.isInt es):=⟨ob,es,ep,hg,⟨hc',NF,Array.isEmpty_iff.mp d2⟩,Nx,λe he=>tG d3 e (by simpa using he),λ_=>rfl⟩;refine⟨⟨ob,hg,hc'⟩,wpAny_getItem_of (knd:=intKind X.prog X.w) (k:=k) (by simp[intKind,Value.isInt]) mp (v:= .int v t') ?_ ⟨.int v,H2,I2.tok _,⟨_,rfl⟩,q2⟩⟩;show findBy Value.isInt es k=_;unfold findBy;obtain⟨l⟩:=es;simpa using ht
  .cases hd
 .cases hd
def FC (K:W.Frag) (H:Hp) (n:Nat) (xs:Rl V) (x:V) (es:Nat->Bool):Prop:=n<=8/\(∀(j:Nat) z,xs[j]? =some z->(∃a,z= .ref a)/\EqR K H n z x (es j))/\∀(i j:Nat) z,xs[i]? =some z->xs[j]? =some z->es i=es j
section
variable {X:Cx}{Mb:Rl (Rg×Obj)}{σ:St}{H:Hp}{s:Rf}
open Classical in
noncomputable def fB (Me:Rl OO) (es:Nat->Bool) (u:OO):Bool:=decide (∃j:Nat,Me[j]? =some u/\es j=true)
end
def Ask (K:W.Frag) (H:Hp) (x y:V) (b:Bool):Prop:=∃(a1 a2:Rg) (xs ys:Rl V) (d:Nat) (es fs:Nat->Bool),x= .ref a1/\y= .ref a2/\SqL K H a1 xs/\SqL K H a2 ys/\d<=4/\
 (∀(j:Nat) x y,xs[j]? =some x->ys[j]? =some y->EqR K H d x y (es j))/\(∀(j:Nat) x y,xs[j]? =some x->ys[j]? =some y->es j=false->LtR K H d x y (fs j))/\b=SeqAt.lex es fs xs.length ys.length (min xs.length ys.length) 0
def gZ (p q:Pt):Bool:=decide (p.1<q.1)||(decide (p.1=q.1)&&decide (p.2<q.2))
def gk:Rl Pt->Rl Pt->Bool
 |_,[]=>false
 |[],_::_=>true
 |x::xs,y::ys=>if x=y then gk xs ys else gZ x y
section
variable {K:W.Frag}{H:Hp}
theorem FD {p q:Pt}{w:V} (h:Is H (pt p) v) (k:Is H (pt q) w):LtR K H 1 v w (gZ p q):=by
 obtain⟨a,rfl,ha⟩:=kD h;obtain⟨b,rfl,hb⟩:=kD k;have e:=LtR.tuples (K:=K) (H:=H) (d:=0) (a:=a) (b:=b) (λj=>if j=0 then decide (p.1=q.1) else decide (p.2=q.2)) (λj=>if j=0 then decide (p.1<q.1) else decide (p.2<q.2)) (SqT.of ha) (SqT.of hb) (λj x y hx hy=> ?_) (λj x y hx hy _=> ?_)
 .have e2:SeqAt.lex (λj=>if j=0 then decide (p.1=q.1) else decide (p.2=q.2)) (λj=>if j=0 then decide (p.1<q.1) else decide (p.2<q.2)) 2 2 2 0=gZ p q:=by
   unfold gZ;by_cases e0:p.1=q.1
   .have n0:¬p.1<q.1:=by lia
    by_cases e1:p.2=q.2
    .have n1:¬p.2<q.2:=by lia
     simp[SeqAt.lex,e0,e1]
    .simp [SeqAt.lex,e0,e1]
   .simp [SeqAt.lex,e0]
  exact e2▸e
 .match j,hx,hy with
  |0,hx,hy=>cases hx;cases hy;exact EqR.int 0 _ _
  |1,hx,hy=>cases hx;cases hy;exact EqR.int 0 _ _
  |j+2,hx,_=>simp at hx
 .match j,hx,hy with
  |0,hx,hy=>cases hx;cases hy;exact LtR.int 0 _ _
  |1,hx,hy=>cases hx;cases hy;exact LtR.int 0 _ _
  |j+2,hx,_=>simp at hx
theorem tL (p q:Rl Pt):∀(k i:Nat),min p.length q.length-i=k->i<=min p.length q.length->SeqAt.lex (λj=>decide (p.getD j (0,0)=q.getD j (0,0))) (λj=>gZ (p.getD j (0,0)) (q.getD j (0,0))) p.length q.length k i=gk (p.drop i) (q.drop i)
 |0,i,hk,hi=>by
  rw[SeqAt.lex];rcases(by lia:q.length=i\/(p.length=i/\i<q.length)) with e|⟨e,e2⟩
  .rw [CM (l:=q) (by lia)];have:¬p.length<q.length:=by lia
   cases p.drop i<;>simp[gk,this]
  .rw [CM (l:=p) (by lia),As e2];have:p.length<q.length:=by lia
   simp[gk,this]
 |k+1,i,hk,hi=>by
  have h1:i<p.length:=by lia
  have h2:i<q.length:=by lia
  have g1:p.getD i (0,0)=p[i]:=by simp[List.getD,h1]
  have g2:q.getD i (0,0)=q[i]:=by simp[List.getD,h2]
  rw[SeqAt.lex,As h1,As h2,gk,g1,g2];by_cases e:p[i]=q[i]
  .rw [A6 (Ar e),A6 e];exact tL p q k (i+1) (by lia) (by lia)
  .rw [A5 (by simpa using e),A5 e]
theorem FE {p:Rl Pt}{vs ws:Rl V} (h:Iss H (p.map pt) vs) (k:Iss H (q.map pt) ws):
  (∀(j:Nat) x y,vs[j]? =some x->ws[j]? =some y->EqR K H 1 x y (decide (p.getD j (0,0)=q.getD j (0,0))))/\(∀(j:Nat) x y,vs[j]? =some x->ws[j]? =some y->decide (p.getD j (0,0)=q.getD j (0,0))=false->LtR K H 1 x y (gZ (p.getD j (0,0)) (q.getD j (0,0)))):=by
 have go:∀(j:Nat) x y,vs[j]? =some x->ws[j]? =some y->Is H (pt (p.getD j (0,0))) x/\Is H (pt (q.getD j (0,0))) y:=λj x y hx hy=>by
  obtain⟨d,hd,h1⟩:=h.of_get hx;obtain⟨e,he,h2⟩:=k.of_get hy;rw[AC] at hd he;obtain⟨d',No,rfl⟩:=A8.mp hd;obtain⟨e',Pu,rfl⟩:=A8.mp he;rw[List.getD,No,List.getD,Pu];exact⟨h1,h2⟩
 exact⟨λj x y hx hy=>E6 (go j x y hx hy).1 (go j x y hx hy).2,λj x y hx hy _=>FD (go j x y hx hy).1 (go j x y hx hy).2⟩
theorem FF {p:Rl Pt}{w:V} (h:Is H (pts p) v) (k:Is H (pts q) w):Ask K H v w (gk p q):=by
 obtain⟨a,vs,rfl,ha,h⟩:=ja h;obtain⟨b,ws,rfl,hb,k⟩:=ja k;obtain⟨e1,e2⟩:=FE (K:=K) h k;refine⟨a,b,vs,ws,1,_,_,rfl,rfl,SqL.of ha,SqL.of hb,by decide,e1,e2, ?_⟩;rw[h.length,k.length,A1,A1,tL p q _ 0 (Nat.sub_zero _) (AO _),Db,Db]
end
end L2
namespace L2
open PySem PyProof.Rows
variable {M3 MA a p p':Array Nat}{Ml base g i j k l m n x:Nat}{Q:Rp Bool->SortSt->Prop}{b left:Bool}{vs:Rl OO}{xss:Rl (Rl Int)}
def FG:Bool->Keyed->Array Keyed->Nat->Nat->Nat->StateT SortSt Sem (Rp Nat):=sortPriv%PySem.Builtin.gallop
def FH:Array Keyed->Array Keyed->StateT SortSt Sem (Array Keyed):=sortPriv%PySem.Builtin.mergeLo
def FI:Array Keyed->Array Keyed->StateT SortSt Sem (Array Keyed):=sortPriv%PySem.Builtin.mergeHi
def FJ:Nat->StateT SortSt Sem Unit:=sortPriv%PySem.Builtin.setMinGallop
def aC {γ:Type} (step:γ->Rp (Bool×γ)):Nat->γ->Rp γ
 |0,g=>some g
 |f+1,g=>(step g).bind λr=>if r.1=true then some r.2 else aC step f r.2
section
variable {M:Model}{A:Rk}{E:OO->Rf->Prop}{s:Rf}{σ:Type}
theorem cG {β γ:Type}{step:γ->Rp (Bool×γ)} (φ:γ->β) (τ:γ->σ) {f:Nat->β->StateT σ Sem (ForInStep β)}{Q:β->σ->Prop}
  (hs:∀x g r,step g=some r->∀R:ForInStep β->σ->Prop,R (if r.1=true then .done (φ r.2) else .yield (φ r.2)) (τ r.2)->wpS M A E s (f x (φ g)) R (τ g))
  {a b:Nat}{g g':γ} (h:aC step (b-a) g=some g') (hq:Q (φ g') (τ g')):wpS M A E s (forIn [a:b] (φ g) f) Q (τ g):=by
 rw[Std.Legacy.Range.forIn_eq_forIn_range'];have hsz:([a:b]:Std.Legacy.Range).size=b-a:=by simp[Std.Legacy.Range.size]
 show wpS M A E s (forIn (List.range' a ([a:b]:Std.Legacy.Range).size 1) (φ g) f) Q (τ g);rw[hsz];have go:∀(k:Nat) (l:Rl Nat) (g:γ),l.length=k->aC step k g=some g'->wpS M A E s (forIn l (φ g) f) Q (τ g):=by
  intro k;induction k with
  |zero=>
   intro l g hl h;cases l with
   |nil=>rw[List.forIn_nil];cases h;exact Aw hq
   |cons _ _=>simp at hl
  |succ k ih=>
   intro l g hl h;cases l with
   |nil=>simp at hl
   |cons x l=>
    rw[Co];unfold aC at h;obtain⟨r,hr,h⟩:=A9.mp h;refine Aa (hs x g r hr _ ?_);by_cases hd:r.1=true
    .rw [A6 hd] at h⊢;cases h;exact Aw hq
    .rw [A5 hd] at h⊢;exact ih l r.2 (by simpa using hl) h
 exact go _ _ g (by simp) h
end
section
variable {prog:Rh}{w:Rj}{A:Rk}{E:OO->Rf->Prop}{s:Rf}{item:Nat->Keyed}{c:Nat->Nat->Rp Bool}{kd:SortKind}
def cR (kd:SortKind) (prog:Rh) (w:Rj) (A:Rk) (s:Rf) (item:Nat->Keyed) (c:Nat->Nat->Rp Bool):Prop:=
 ∀i j b,c i j=some b->∀Q:Bool->Rf->Prop,Q b s->wpAny (model prog w) A (keyLt' kd (item i).1 (item j).1) Q (λ_ _=>False) s
theorem kH (hc:cR kd prog w A s item c) {st:SortSt} (hk:kindOf st=kd) (h:c i j=some b) (hq:Q (some b) st):wpS (model prog w) A E s (lt' (item i) (item j)) Q st:=by
 rw[lt'_eq];refine Aa (Df ?_);rw[hk];refine Aa (wpS_lift (CK (Bj (hc i j b h _ ⟨rfl,Aw hq⟩) (λ_ _ h=>h) λ_ _ hF=>hF.elim)))
theorem fC {st:SortSt}(h:M3[i]? =some x) {Q:Keyed->SortSt->Prop} (hq:Q (item x) st):wpS (model prog w) A E s (elem' (M3.map item) i) Q st:=by
 rw[elem'_eq,Array.getElem?_map,h];exact Aw hq
def fb (c:Nat->Nat->Rp Bool) (left:Bool) (key:Nat) (M3:Array Nat) (i:Nat):Rp Bool:=M3[i]?.bind λx=>if left=true then c x key else(c key x).map (!·)
def gUp (b:Nat->Rp Bool) (m:Nat) (g:Nat×Nat):Rp (Bool×Nat×Nat):=if g.2>=m then some (true,g) else(b g.2).map λy=>if y=true then(false,g.2,2*g.2+1) else(true,g)
def gDn (b:Nat->Rp Bool) (m:Nat) (g:Nat×Nat):Rp (Bool×Nat×Nat):=if g.2>=m then some (true,g) else(b g.2).map λy=>if y=true then(true,g) else(false,g.2,2*g.2+1)
def jf (b:Nat->Rp Bool) (g:Nat×Nat):Rp (Bool×Nat×Nat):=
 if g.1>=g.2 then some (true,g) else(b (g.1+(g.2-g.1)/2)).map λy=>if y=true then(false,g.1+(g.2-g.1)/2+1,g.2) else(false,g.1,g.1+(g.2-g.1)/2)
def gal (c:Nat->Nat->Rp Bool) (left:Bool) (key:Nat) (M3:Array Nat) (base n Ml:Nat):Rp Nat:=
 (fb c left key M3 (base+Ml)).bind λright=>
  (if right=true then(aC (gUp (λo=>fb c left key M3 (base+(Ml+o))) (n-Ml)) n (0,1)).map λg=>(Ml+g.1+1,Ml+min g.2 (n-Ml))
   else(aC (gDn (λo=>fb c left key M3 (base+(Ml-o))) (Ml+1)) n (0,1)).map λg=>(Ml+1-min g.2 (Ml+1),Ml-g.1)).bind λlh=>
   (aC (jf λi=>fb c left key M3 (base+i)) n lh).map (·.2)
theorem jg (hc:cR kd prog w A s item c) {st:SortSt} (hk:kindOf st=kd) {key:Nat}(h:fb c left key M3 i=some b) {Q:Option Bool->SortSt->Prop} (hq:Q (some b) st):
  wpS (model prog w) A E s (do
   let x<-elem' (M3.map item) i
   if left=true then lt' x (item key) else do
    let y<-lt' (item key) x
    pure (y.map (!·))) Q st:=by
 obtain⟨x,hx,h⟩:=A9.mp h;refine Aa (fC hx ?_);by_cases hl:left=true
 .rw [A6 hl] at h⊢;exact kH hc hk h hq
 .rw [A5 hl] at h⊢;obtain⟨y,hy,rfl⟩:=A8.mp h;exact Aa (kH hc hk hy (Aw hq))
theorem m8 (hc:cR kd prog w A s item c) {st:SortSt} (hk:kindOf st=kd) {key:Nat}(h:gal c left key M3 base n Ml=some k) {Q:Rp Nat->SortSt->Prop} (hq:Q (some k) st):
  wpS (model prog w) A E s (FG left (item key) (M3.map item) base n Ml) Q st:=by
 unfold wpS
 wp_delta
 wp_delta
 wp_delta
 refine(show wpS _ _ _ _ _ _ _ from ?_);dsimp only;obtain⟨right,hr,h⟩:=A9.mp h;obtain⟨lh,h1,h2⟩:=A9.mp h;obtain⟨lh2,h3,rfl⟩:=A8.mp h2;refine Aa (jg hc hk hr ?_);dsimp only;by_cases e:right=true
 .rw [A6 e] at h1⊢;obtain⟨g0,h0,rfl⟩:=A8.mp h1;refine Aa (cG (γ:=Nat×Nat) (step:=gUp (λo=>fb c left key M3 (base+(Ml+o))) (n-Ml)) (λg=>(none,g.1,g.2)) (λ_=>st) (λx g r hs R hR=> ?_) (a:=0) (b:=n) (g:=(0,1)) (g':=g0) h0 ?_)
  .unfold gUp at hs;dsimp only;by_cases e:g.2>=n-Ml
   .rw [A6 e] at hs⊢;cases hs;exact Aw hR
   .rw [A5 e] at hs⊢;obtain⟨y,hy,rfl⟩:=A8.mp hs;refine Aa (jg hc hk hy ?_);cases y<;>exact Aw hR
  .dsimp only;refine Aa (cG (γ:=Nat×Nat) (step:=jf λi=>fb c left key M3 (base+i)) (λg=>(none,g.1,g.2)) (λ_=>st) (λx g r hs R hR=> ?_) (a:=0) (b:=n) (g:=(Ml+g0.1+1,Ml+min g0.2 (n-Ml))) (g':=lh2) h3 (Aw hq));unfold jf at hs;dsimp only;by_cases e:g.1>=g.2
   .rw [A6 e] at hs⊢;cases hs;exact Aw hR
   .rw [A5 e] at hs⊢;obtain⟨y,hy,rfl⟩:=A8.mp hs;refine Aa (jg hc hk hy ?_);cases y<;>exact Aw hR
 .rw [A5 e] at h1⊢;obtain⟨g0,h0,rfl⟩:=A8.mp h1;refine Aa (cG (γ:=Nat×Nat) (step:=gDn (λo=>fb c left key M3 (base+(Ml-o))) (Ml+1)) (λg=>(none,g.1,g.2)) (λ_=>st) (λx g r hs R hR=> ?_) (a:=0) (b:=n) (g:=(0,1)) (g':=g0) h0 ?_)
  .unfold gDn at hs;dsimp only;by_cases e:g.2>=Ml+1
   .rw [A6 e] at hs⊢;cases hs;exact Aw hR
   .rw [A5 e] at hs⊢;obtain⟨y,hy,rfl⟩:=A8.mp hs;refine Aa (jg hc hk hy ?_);cases y<;>exact Aw hR
  .dsimp only;refine Aa (cG (γ:=Nat×Nat) (step:=jf λi=>fb c left key M3 (base+i)) (λg=>(none,g.1,g.2)) (λ_=>st) (λx g r hs R hR=> ?_) (a:=0) (b:=n) (g:=(Ml+1-min g0.2 (Ml+1),Ml-g0.1)) (g':=lh2) h3 (Aw hq));unfold jf at hs;dsimp only;by_cases e:g.1>=g.2
   .rw [A6 e] at hs⊢;cases hs;exact Aw hR
   .rw [A5 e] at hs⊢;obtain⟨y,hy,rfl⟩:=A8.mp hs;refine Aa (jg hc hk hy ?_);cases y<;>exact Aw hR
def m9 (a b MA:Array Nat) (ia ib:Nat):Array Nat:=MA++a.extract ia a.size++b.extract ib b.size
def ng (a b MA:Array Nat) (ia ib:Nat):Array Nat:=MA++b.extract ib b.size++a.extract ia a.size
def mLo (c:Nat->Nat->Rp Bool) (a b:Array Nat) (sg:Nat):Rp (Array Nat×Nat):=
 b[0]?.bind λy=>
  if(1==b.size)=true then some (m9 a b #[y] 0 1,sg)
  else if(0+1==a.size)=true then some (ng a b #[y] 0 1,sg)
  else none
abbrev stG (st:SortSt) (g:Nat):SortSt:=SortSt.mk' (kindOf st) (arrOf st) (pendingOf st) g (failedOf st)
theorem FK (a b MA:Array Nat) (ia ib:Nat):(m9 a b MA ia ib).map item=MA.map item++(a.map item).extract ia (a.map item).size++(b.map item).extract ib (b.map item).size:=by
 unfold m9;simp
theorem FL (a b MA:Array Nat) (ia ib:Nat):(ng a b MA ia ib).map item=MA.map item++(b.map item).extract ib (b.map item).size++(a.map item).extract ia (a.map item).size:=by
 unfold ng;simp
theorem FM {st:SortSt}{Q:PUnit->SortSt->Prop} (h:Q ⟨⟩ (stG st g)):wpS (model prog w) A E s (FJ g) Q st:=by
 unfold wpS
 wp_delta
 wp_delta
 wp_delta
 refine(show wpS _ _ _ _ _ _ _ from ?_);exact Cj h
def tM {st:SortSt}(h:M3[i]? =some x) {Q:Keyed->SortSt->Prop} (hq:Q (item x) st):wpS (model prog w) A E s ((sortPriv%PySem.Builtin.elem) (M3.map item) i) Q st:=fC h hq
def tN (hc:cR kd prog w A s item c) {st:SortSt} (hk:kindOf st=kd) (h:c i j=some b) (hq:Q (some b) st):wpS (model prog w) A E s ((sortPriv%PySem.Builtin.lt) (item i) (item j)) Q st:=kH hc hk h hq
def tO (hc:cR kd prog w A s item c) {st:SortSt} (hk:kindOf st=kd) {key:Nat}(h:gal c left key M3 base n Ml=some k) {Q:Rp Nat->SortSt->Prop} (hq:Q (some k) st):
  wpS (model prog w) A E s ((sortPriv%PySem.Builtin.gallop) left (item key) (M3.map item) base n Ml) Q st:=m8 hc hk h hq
def tP {st:SortSt}{Q:PUnit->SortSt->Prop} (h:Q ⟨⟩ (stG st g)):wpS (model prog w) A E s ((sortPriv%PySem.Builtin.setMinGallop) g) Q st:=FM h
set_option maxHeartbeats 4000000 in
theorem FN (hc:cR kd prog w A s item c) {st:SortSt} (hk:kindOf st=kd) {b:Array Nat}(h:mLo c a b (gallopOf st)=some (MA,g)) {Q:Array Keyed->SortSt->Prop} (hq:Q (MA.map item) (stG st g)):
  wpS (model prog w) A E s (FH (a.map item) (b.map item)) Q st:=by
 obtain⟨κ,ar,pd,g0,fl⟩:=st;unfold wpS
 wp_delta
 wp_delta
 wp_delta
 refine(show wpS _ _ _ _ _ _ _ from ?_);refine Aa (wpS_lift (Bv ⟨rfl, ?_⟩));unfold mLo at h;obtain⟨y,hy,h⟩:=A9.mp h;refine Aa (fC hy ?_);by_cases e1:(1==b.size)=true
 .rw [A6 e1] at h;cases h;rw[A6 (by simpa using e1)];refine Aw ?_;rw[FK] at hq;simpa using hq
 rw[A5 e1] at h;by_cases e2:(0+1==a.size)=true
 .rw [A6 e2] at h;cases h;rw[A5 (by simpa using e1),A6 (by simpa using e2)];refine Aw ?_;rw[FL] at hq;simpa using hq
 rw[A5 e2] at h;cases h
end
section
variable {prog:Rh}{w:Rj}{A:Rk}{E:OO->Rf->Prop}{s:Rf}{item:Nat->Keyed}{c:Nat->Nat->Rp Bool}{kd:SortKind}
def nh (a b MA:Array Nat) (na nb:Nat):Array Nat:=a.extract 0 na++b.extract 0 nb++MA.reverse
def tQ (a b MA:Array Nat) (na nb:Nat):Array Nat:=b.extract 0 nb++a.extract 0 na++MA.reverse
abbrev H1:=Rp (Array Nat)×Nat×Nat×Array Nat×Nat×Nat
abbrev H3:=(Rp (Array Nat)×Nat×Nat×Array Nat×Nat×Nat×Nat)×Nat
abbrev H0:=(Rp (Array Nat)×Nat×Nat×Array Nat×Nat)×Nat
def hi1 (c:Nat->Nat->Rp Bool) (a b:Array Nat) (mg:Nat) (g:H1):Rp (Bool×H1):=
 b[g.2.2.1-1]?.bind λy=>a[g.2.1-1]?.bind λx=>(c y x).bind λq=>
  if q=true then
   if(g.2.1-1==0)=true then none
   else if g.2.2.2.2.1+1>=mg then some (true,none,g.2.1-1,g.2.2.1,g.2.2.2.1.push x,g.2.2.2.2.1+1,0)
   else some (false,none,g.2.1-1,g.2.2.1,g.2.2.2.1.push x,g.2.2.2.2.1+1,0)
  else
   if(g.2.2.1-1==1)=true then none
   else if g.2.2.2.2.2+1>=mg then some (true,none,g.2.1,g.2.2.1-1,g.2.2.2.1.push y,0,g.2.2.2.2.2+1)
   else some (false,none,g.2.1,g.2.2.1-1,g.2.2.2.1.push y,0,g.2.2.2.2.2+1)
def tR (c:Nat->Nat->Rp Bool) (a b MA:Array Nat) (na nb mg bc:Nat):Rp (Bool×H3):=
 b[nb-1]?.bind λy=>(gal c false y a 0 na (na-1)).bind λQz=>
  if na-Qz>0 then
   if(Qz==0)=true then some (true,(some (nh a b (MA++(a.extract Qz na).reverse) Qz nb),Qz,nb,MA++(a.extract Qz na).reverse,mg,na-Qz,bc),mg)
   else none
  else none
def hi3 (c:Nat->Nat->Rp Bool) (a b:Array Nat) (g:H3):Rp (Bool×H3):=
 if g.1.2.2.2.2.1>1 then tR c a b g.1.2.2.2.1 g.1.2.1 g.1.2.2.1 (g.1.2.2.2.2.1-1) g.1.2.2.2.2.2.2
 else none
def hi0 (c:Nat->Nat->Rp Bool) (a b:Array Nat) (g:H0):Rp (Bool×H0):=
 (aC (hi1 c a b g.1.2.2.2.2) (a.size+b.size) (none,g.1.2.1,g.1.2.2.1,g.1.2.2.2.1,0,0)).bind λt=>
  match t.1 with
  |some r=>some (true,(some r,t.2.1,t.2.2.1,t.2.2.2.1,g.1.2.2.2.2),g.2)
  |none=>(aC (hi3 c a b) (a.size+b.size) ((none,t.2.1,t.2.2.1,t.2.2.2.1,g.1.2.2.2.2+1,t.2.2.2.2.1,t.2.2.2.2.2),g.2)).bind λu=>
   match u.1.1 with
   |some r=>some (true,(some r,u.1.2.1,u.1.2.2.1,u.1.2.2.2.1,u.1.2.2.2.2.1),u.2)
   |none=>none
def mHi (c:Nat->Nat->Rp Bool) (a b:Array Nat) (sg:Nat):Rp (Array Nat×Nat):=
 a[a.size-1]?.bind λx=>
  if(a.size-1==0)=true then none
  else if(b.size==1)=true then none
  else(aC (hi0 c a b) (a.size+b.size) ((none,a.size-1,b.size, #[x],sg),sg)).bind λt=>t.1.1.map λr=>(r,t.2)
theorem tS (a b MA:Array Nat) (na nb:Nat):(nh a b MA na nb).map item=(a.map item).extract 0 na++(b.map item).extract 0 nb++(MA.map item).reverse:=by
 unfold nh;simp
theorem tT (a b MA:Array Nat) (na nb:Nat):(tQ a b MA na nb).map item=(b.map item).extract 0 nb++(a.map item).extract 0 na++(MA.map item).reverse:=by
 unfold tQ;simp
set_option maxHeartbeats 4000000 in
theorem FO (hc:cR kd prog w A s item c) {st:SortSt} (hk:kindOf st=kd) {b:Array Nat}(h:mHi c a b (gallopOf st)=some (MA,g)) {Q:Array Keyed->SortSt->Prop} (hq:Q (MA.map item) (stG st g)):
  wpS (model prog w) A E s (FI (a.map item) (b.map item)) Q st:=by
 obtain⟨κ,ar,pd,g0,fl⟩:=st;unfold wpS
 wp_delta
 wp_delta
 wp_delta
 refine(show wpS _ _ _ _ _ _ _ from ?_);dsimp only;refine Aa (wpS_lift (Bv ⟨rfl, ?_⟩));unfold mHi at h;obtain⟨y,hy,h⟩:=A9.mp h;simp only[Array.size_map];refine Aa (fC hy ?_);have ey:(#[item y]:Array Keyed)=(#[y]:Array Nat).map item:=by simp
 simp only[ey];by_cases e1:(a.size-1==0)=true
 .rw [A6 e1] at h;cases h
 rw[A5 e1] at h⊢;by_cases e2:(b.size==1)=true
 .rw [A6 e2] at h;cases h
 rw[A5 e2] at h⊢;refine Aa (Df ?_);obtain⟨t,h0,h⟩:=A9.mp h;obtain⟨r,hr,h⟩:=A8.mp h;cases h;refine Aa (cG (γ:=H0) (step:=hi0 c a b) (λg=>(g.1.1.map (·.map item),g.1.2.1,g.1.2.2.1,g.1.2.2.2.1.map item,g.1.2.2.2.2)) (λg=>SortSt.mk' κ ar pd g.2 fl) (λx g r hs R hR=> ?_) (a:=0) (b:=a.size+b.size) (g:=((none,a.size-1,b.size, #[y],g0),g0)) (g':=t) h0 ?_)
 .unfold hi0 at hs;obtain⟨t1,h1,hs⟩:=A9.mp hs;dsimp only;refine Aa (cG (γ:=H1) (step:=hi1 c a b g.1.2.2.2.2) (λg=>(g.1.map (·.map item),g.2.1,g.2.2.1,g.2.2.2.1.map item,g.2.2.2.2.1,g.2.2.2.2.2)) (λ_=>SortSt.mk' κ ar pd g.2 fl) (λx u r hs R hR=> ?_) (a:=0) (b:=a.size+b.size) (g:=(none,g.1.2.1,g.1.2.2.1,g.1.2.2.2.1,0,0)) (g':=t1) h1 ?_)
  .unfold hi1 at hs;dsimp only;have hk2:kindOf (SortSt.mk' κ ar pd g.2 fl)=kd:=hk
   repeat' (first|(rw[A9] at hs;obtain⟨_,_,hs⟩:=hs)|split at hs)
   all_goals
    cases hs<;>(simp only[Option.map_some,Option.map_none,tS,tT,Array.map_push,Array.map_append,Array.map_extract,Array.map_reverse,Array.size_map,if_true,Bool.false_eq_true,if_false] at hR;repeat (first|with_reducible refine wpS_bind (tM (by assumption) ?_)|with_reducible refine wpS_bind (tN (by assumption) (by assumption) (by assumption) ?_)|with_reducible refine wpS_bind (tO (by assumption) (by assumption) (by assumption) ?_)|with_reducible refine wpS_bind (tP ?_)|rw[if_pos (by assumption)]|rw[if_neg (by assumption)]|exact wpS_pure (by assumption)|dsimp only))
  .dsimp only;cases e:t1.1 with
   |some r=>
    rw[e] at hs;cases hs;exact Aw hR
   |none=>
    rw[e] at hs;obtain⟨t3,h3,hs⟩:=A9.mp hs;simp only[Option.map_none];refine Aa (wpS_lift (Bv ⟨rfl, ?_⟩));refine Aa (cG (γ:=H3) (step:=hi3 c a b) (λg=>(g.1.1.map (·.map item),g.1.2.1,g.1.2.2.1,g.1.2.2.2.1.map item,g.1.2.2.2.2.1,g.1.2.2.2.2.2.1,g.1.2.2.2.2.2.2)) (λg=>SortSt.mk' κ ar pd g.2 fl) (λx u r hs R hR=> ?_) (a:=0) (b:=a.size+b.size) (g:=((none,t1.2.1,t1.2.2.1,t1.2.2.2.1,g.1.2.2.2.2+1,t1.2.2.2.2.1,t1.2.2.2.2.2),g.2)) (g':=t3) h3 ?_)
    .have hk2:∀g,kindOf (SortSt.mk' κ ar pd g fl)=kd:=λ_=>hk;unfold hi3 tR at hs;dsimp only;by_cases m:u.1.2.2.2.2.1>1
     .rw [A6 m] at hs⊢;have Pf:=hk2 (u.1.2.2.2.2.1-1)
      repeat' (first|(rw[A9] at hs;obtain⟨_,_,hs⟩:=hs)|split at hs)
      all_goals
       cases hs<;>(simp only[Option.map_some,Option.map_none,tS,tT,Array.map_push,Array.map_append,Array.map_extract,Array.map_reverse,Array.size_map,if_true,Bool.false_eq_true,if_false] at hR;repeat (first|with_reducible refine wpS_bind (tM (by assumption) ?_)|with_reducible refine wpS_bind (tN (by assumption) (by assumption) (by assumption) ?_)|with_reducible refine wpS_bind (tO (by assumption) (by assumption) (by assumption) ?_)|with_reducible refine wpS_bind (tP ?_)|rw[if_pos (by assumption)]|rw[if_neg (by assumption)]|exact wpS_pure (by assumption)|dsimp only))
     .rw [A5 m] at hs;cases hs
    .dsimp only;cases e:t3.1.1 with
     |some r=>
      rw[e] at hs;cases hs;exact Aw hR
     |none=>
      rw[e] at hs;cases hs
 .dsimp only;rw[hr];exact Aw hq
end
def jh {γ:Type} (step:Nat->γ->Rp (Bool×γ)):Nat->Nat->γ->Rp γ
 |0,_,g=>some g
 |f+1,i,g=>(step i g).bind λr=>if r.1=true then some r.2 else jh step f (i+1) r.2
section
variable {M:Model}{A:Rk}{E:OO->Rf->Prop}{s:Rf}{σ:Type}
theorem FP {β γ:Type}{step:Nat->γ->Rp (Bool×γ)} (φ:γ->β) (τ:γ->σ) {f:Nat->β->StateT σ Sem (ForInStep β)}{Q:β->σ->Prop}
  (hs:∀x g r,step x g=some r->∀R:ForInStep β->σ->Prop,R (if r.1=true then .done (φ r.2) else .yield (φ r.2)) (τ r.2)->wpS M A E s (f x (φ g)) R (τ g))
  {a b:Nat}{g g':γ} (h:jh step (b-a) a g=some g') (hq:Q (φ g') (τ g')):wpS M A E s (forIn [a:b] (φ g) f) Q (τ g):=by
 rw[Std.Legacy.Range.forIn_eq_forIn_range'];have hsz:([a:b]:Std.Legacy.Range).size=b-a:=by simp[Std.Legacy.Range.size]
 show wpS M A E s (forIn (List.range' a ([a:b]:Std.Legacy.Range).size 1) (φ g) f) Q (τ g);rw[hsz];have go:∀(k i:Nat) (g:γ),jh step k i g=some g'->wpS M A E s (forIn (List.range' i k 1) (φ g) f) Q (τ g):=by
  intro k;induction k with
  |zero=>
   intro i g h;cases h;rw[List.range'_zero,List.forIn_nil];exact Aw hq
  |succ k ih=>
   intro i g h;rw[List.range'_succ,Co];unfold jh at h;obtain⟨r,hr,h⟩:=A9.mp h;refine Aa (hs i g r hr _ ?_);by_cases hd:r.1=true
   .rw [A6 hd] at h⊢;cases h;exact Aw hq
   .rw [A5 hd] at h⊢;exact ih (i+1) r.2 h
 exact go _ a g h
end
section
variable {prog:Rh}{w:Rj}{A:Rk}{E:OO->Rf->Prop}{s:Rf}{item:Nat->Keyed}{c:Nat->Nat->Rp Bool}{kd:SortKind}{pd:Array (Nat×Nat×Nat)}{g:Nat}
abbrev sst (kd:SortKind) (item:Nat->Keyed) (p:Array Nat) (pd:Array (Nat×Nat×Nat)) (g:Nat):SortSt:=SortSt.mk' kd (p.map item) pd g none
def cAt (c:Nat->Nat->Rp Bool) (p:Array Nat) (i j:Nat):Rp Bool:=p[i]?.bind λx=>p[j]?.bind λy=>c x y
theorem g7 (hc:cR kd prog w A s item c) (h:cAt c p i j=some b) (hq:Q (some b) (sst kd item p pd g)):wpS (model prog w) A E s (ltAt' i j) Q (sst kd item p pd g):=by
 obtain⟨x,hx,h⟩:=A9.mp h;obtain⟨y,hy,h⟩:=A9.mp h;rw[ltAt'_eq];refine Aa (Df ?_);dsimp only;exact Aa (fC hx (Aa (fC hy (kH hc rfl h hq))))
def rev (p:Array Nat) (i j:Nat):Array Nat:=mirror p i j ((j-i)/2)
theorem FQ {Q:Unit->SortSt->Prop} (h:Q () (sst kd item (rev p i j) pd g)):wpS (model prog w) A E s (reverseSlice' i j) Q (sst kd item p pd g):=by
 rw[reverseSlice'_eq];refine Cj ?_;have e1:mirror (p.map item) i j ((j-i)/2)=(rev p i j).map item:=W.kas_swaps_map item (λk=>i+k) (λk=>j-1-k) _ p;show Q () (SortSt.mk' kd (mirror (p.map item) i j ((j-i)/2)) pd g none);rw[e1];exact h
theorem FR {Q:Unit->SortSt->Prop} (h:Q () (sst kd item (bubble p k (k-l)) pd g)):wpS (model prog w) A E s (moveDown' k l) Q (sst kd item p pd g):=by
 rw[moveDown'_eq];refine Cj ?_;have e1:bubble (p.map item) k (k-l)=(bubble p k (k-l)).map item:=W.kas_swaps_map item (λi=>k-i) (λi=>k-i-1) _ p;show Q () (SortSt.mk' kd (bubble (p.map item) k (k-l)) pd g none);rw[e1];exact h
def kI (c:Nat->Nat->Rp Bool) (p:Array Nat) (l:Nat) (m:Nat):Rp (Bool×Nat):=(cAt c p (l+m) (l+m-1)).map λq=>if q=true then(true,m) else(false,m+1)
def ni (c:Nat->Nat->Rp Bool) (l:Nat) (t:Array Nat×Nat×Nat):Rp (Bool×Array Nat×Nat×Nat):=
 (cAt c t.1 (l+t.2.1) (l+t.2.1-1)).bind λq=>
  if q=true then if t.2.2>0 then none else some (false,t.1,t.2.1+1,0)
  else(cAt c t.1 (l+t.2.1-1) (l+t.2.1)).bind λr=>if r=true then some (true,t.1,t.2.1,t.2.2) else none
def tU (c:Nat->Nat->Rp Bool) (l n:Nat) (p:Array Nat) (m:Nat):Rp (Nat×Array Nat):=(aC (kI c (rev p l (l+m)) l) (n-m) m).map λk=>(k,rev p l (l+m))
def tV (c:Nat->Nat->Rp Bool) (l n:Nat) (p:Array Nat) (m:Nat):Rp (Nat×Array Nat):=
 (aC (ni c l) (n-(m+1)) (p,m+1,0)).bind λt=>if t.2.2>0 then none else tU c l n t.1 t.2.1
def nj (c:Nat->Nat->Rp Bool) (l n:Nat) (p:Array Nat):Rp (Nat×Array Nat):=
 (aC (kI c p l) (n-1) 1).bind λm=>if(m==n)=true then some (m,p) else if m>1 then(cAt c p l (l+m-1)).bind λq=>if q=true then some (m,p) else none else tV c l n p m
set_option maxHeartbeats 2000000 in
theorem FS (hc:cR kd prog w A s item c) (h:nj c l n p=some (k,p')) {Q:Rp Nat->SortSt->Prop} (hq:Q (some k) (sst kd item p' pd g)):wpS (model prog w) A E s (countRun' l n) Q (sst kd item p pd g):=by
 unfold wpS
 wp_delta
 wp_delta
 wp_delta
 refine(show wpS _ _ _ _ _ _ _ from ?_);dsimp only;unfold nj at h;obtain⟨m,h0,h⟩:=A9.mp h;have hz:=h0;refine Aa (cG (γ:=Nat) (step:=kI c _ l) (λm=>(none,m)) (λ_=>sst kd item _ pd g) (λx m r hs R hR=> ?_) hz ?_)
 .obtain⟨q,OP,rfl⟩:=A8.mp hs;refine Aa (g7 hc OP ?_);cases q<;>exact Aw hR
 dsimp only;by_cases e1:(m==n)=true
 .rw [A6 e1] at h⊢;cases h;exact Aw hq
 rw[A5 e1] at h⊢;by_cases e2:m>1
 .rw [A6 e2] at h⊢;obtain⟨q,OP,h⟩:=A9.mp h;refine Aa (g7 hc OP ?_);dsimp only;by_cases e3:q=true
  .rw [A6 e3] at h⊢;cases h;exact Aw hq
  rw[A5 e3] at h;cases h
 .rw [A5 e2] at h⊢;unfold tV tU at h;refine Aa (wpS_lift (Bv ⟨rfl, ?_⟩));obtain⟨t,h1,h2⟩:=A9.mp h;refine Aa (cG (γ:=Array Nat×Nat×Nat) (step:=ni c l) (λt=>(none,t.2.1,t.2.2)) (λt=>sst kd item t.1 pd g) (λx t r hs R hR=> ?_) h1 ?_)
  .unfold ni at hs;obtain⟨q,OP,hs⟩:=A9.mp hs;refine Aa (g7 hc OP ?_);cases q with
   |true=>
    dsimp only;rw[A6 rfl] at hs⊢;split at hs
    .rename_i z;cases hs
    .rename_i z;rw[A5 z];cases hs;exact Aw hR
   |false=>
    dsimp only;rw[A5 (by simp)] at hs⊢;obtain⟨r,hr1,hs⟩:=A9.mp hs;refine Aa (g7 hc hr1 ?_);cases r<;>(cases hs<;>exact Aw hR)
  .dsimp only;split at h2
   .cases h2
   .rename_i z;rw[A5 z];refine Aa (FQ ?_);obtain⟨k2,h3,h4⟩:=A8.mp h2;cases h4;have hz:=h3;refine Aa (cG (γ:=Nat) (step:=kI c _ l) (λm=>(none,m)) (λ_=>sst kd item _ pd g) (λx m r hs R hR=> ?_) hz ?_)
    .obtain⟨q,OP,rfl⟩:=A8.mp hs;refine Aa (g7 hc OP ?_);cases q<;>exact Aw hR
    exact Aw hq
def bPl (c:Nat->Nat->Rp Bool) (p:Array Nat) (l k:Nat) (t:Nat×Nat):Rp (Bool×Nat×Nat):=
 if t.1>=t.2 then some (true,t.1,t.2) else(cAt c p (l+k) (l+(t.1+t.2)/2)).bind λq=>if q=true then some (false,t.1,(t.1+t.2)/2) else some (false,(t.1+t.2)/2+1,t.2)
def tW (c:Nat->Nat->Rp Bool) (l k:Nat) (p:Array Nat):Rp (Bool×Array Nat):=(aC (bPl c p l k) k (0,k)).map λt=>(false,bubble p (l+k) (l+k-(l+t.1)))
def tX (c:Nat->Nat->Rp Bool) (l n ok:Nat) (p:Array Nat):Rp (Array Nat):=jh (tW c l) (n-max ok 1) (max ok 1) p
theorem FT (hc:cR kd prog w A s item c) {ok:Nat}(h:tX c l n ok p=some p') {Q:Bool->SortSt->Prop} (hq:Q true (sst kd item p' pd g)):wpS (model prog w) A E s (binarySort' l n ok) Q (sst kd item p pd g):=by
 unfold wpS
 wp_delta
 wp_delta
 wp_delta
 refine(show wpS _ _ _ _ _ _ _ from ?_);dsimp only;refine Aa (FP (γ:=Array Nat) (step:=tW c l) (λ_=>(none,())) (λp=>sst kd item p pd g) (λk p r hs R hR=> ?_) h (Aw hq));obtain⟨t,ht,rfl⟩:=A8.mp hs;refine Aa (cG (γ:=Nat×Nat) (step:=bPl c p l k) (λt=>(none,t.1,t.2)) (λ_=>sst kd item p pd g) (λx t r hs R hR=> ?_) (a:=0) (b:=k) ht ?_)
 .unfold bPl at hs;dsimp only;by_cases e:t.1>=t.2
  .rw [A6 e] at hs⊢;cases hs;exact Aw hR
  .rw [A5 e] at hs⊢;obtain⟨q,OP,hs⟩:=A9.mp hs;refine Aa (g7 hc OP ?_);cases q<;>(cases hs;exact Aw hR)
 .exact Aa (FR (Aw hR))
end
section
variable {prog:Rh}{w:Rj}{A:Rk}{E:OO->Rf->Prop}{s:Rf}{item:Nat->Keyed}{c:Nat->Nat->Rp Bool}{kd:SortKind}
abbrev Pd:=Array (Nat×Nat×Nat)
def lay (p:Array Nat) (o:Nat) (xs:Array Nat):Array Nat:=xs.toList.zipIdx.foldl (λa x=>a.setIfInBounds (o+x.2) x.1) p
theorem tY (p:Array Nat) (o:Nat) (xs:Array Nat):(xs.map item).toList.zipIdx.foldl (λa x=>a.setIfInBounds (o+x.2) x.1) (p.map item)=(lay p o xs).map item:=by
 have go:∀(l:Rl Nat) (k:Nat) (p:Array Nat),((l.map item).zipIdx k).foldl (λa x=>a.setIfInBounds (o+x.2) x.1) (p.map item)=((l.zipIdx k).foldl (λa x=>a.setIfInBounds (o+x.2) x.1) p).map item:=by
  intro l;induction l with
  |nil=>intro k p;rfl
  |cons x l ih=>
   intro k p;rw[AL,List.zipIdx_cons,List.zipIdx_cons,Bz,Bz];rw[show(p.map item).setIfInBounds (o+k) (item x)=(p.setIfInBounds (o+k) x).map item from(Array.map_setIfInBounds ..).symm];exact ih _ _
 rw[Array.toList_map];exact go _ 0 p
abbrev Ts:=Array Nat×Pd×Nat
def mAt (c:Nat->Nat->Rp Bool) (i:Nat) (t:Ts):Rp Ts:=
 t.2.1[i]?.bind λu=>t.2.1[i+1]?.bind λv=>t.1[v.1]?.bind λy=>(gal c false y t.1 u.1 u.2.1 0).bind λk=>
  if(u.2.1-k==0)=true then none
  else t.1[u.1+k+(u.2.1-k)-1]?.bind λx=>(gal c true x t.1 v.1 v.2.1 (v.2.1-1)).bind λnb=>
   if(nb==0)=true then none
   else if u.2.1-k<=nb then(mLo c (t.1.extract (u.1+k) v.1) (t.1.extract v.1 (v.1+nb)) t.2.2).bind λr=>some (lay t.1 (u.1+k) r.1,(t.2.1.setIfInBounds i (u.1,u.2.1+v.2.1,u.2.2)).eraseIdxIfInBounds (i+1),r.2)
   else(mHi c (t.1.extract (u.1+k) v.1) (t.1.extract v.1 (v.1+nb)) t.2.2).bind λr=>some (lay t.1 (u.1+k) r.1,(t.2.1.setIfInBounds i (u.1,u.2.1+v.2.1,u.2.2)).eraseIdxIfInBounds (i+1),r.2)
theorem FU {M:Model}{σ:Type}{x:σ}{Q:PUnit->σ->Prop}{st:σ} (h:Q ⟨⟩ x):wpS M A E s (set x:StateT σ Sem PUnit) Q st:=by
 unfold wpS;show wpAny M A (pure ((),x)) _ E s;exact A2 ⟨rfl,h⟩
set_option maxHeartbeats 2000000 in
theorem FV (hc:cR kd prog w A s item c) {t t':Ts} (h:mAt c i t=some t') {Q:Bool->SortSt->Prop} (hq:Q true (sst kd item t'.1 t'.2.1 t'.2.2)):wpS (model prog w) A E s (mergeAt' i) Q (sst kd item t.1 t.2.1 t.2.2):=by
 unfold wpS
 wp_delta
 wp_delta
 wp_delta
 refine(show wpS _ _ _ _ _ _ _ from ?_);dsimp only;refine Aa (Df ?_);unfold mAt at h;obtain⟨⟨sa,na,pw⟩,hu,h⟩:=A9.mp h;obtain⟨⟨sb,nb,pw2⟩,hv,h⟩:=A9.mp h;obtain⟨y,hy,h⟩:=A9.mp h;obtain⟨k,hk,h⟩:=A9.mp h;dsimp only at*
 rw[hu,hv];dsimp only;refine Aa (FU ?_);refine Aa (fC hy ?_);refine Aa (m8 hc rfl hk ?_);dsimp only;by_cases e1:(na-k==0)=true
 .rw [A6 e1] at h;cases h
 rw[A5 e1] at h⊢;obtain⟨x,hx,h⟩:=A9.mp h;obtain⟨nb2,hk2,h⟩:=A9.mp h;refine Aa (fC hx ?_);refine Aa (m8 hc rfl hk2 ?_);dsimp only;by_cases e2:(nb2==0)=true
 .rw [A6 e2] at h;cases h
 rw[A5 e2] at h⊢;have x1:(t.1.map item).extract (sa+k) sb=(t.1.extract (sa+k) sb).map item:=by simp
 have x2:(t.1.map item).extract sb (sb+nb2)=(t.1.extract sb (sb+nb2)).map item:=by simp
 rw[x1,x2];by_cases e3:na-k<=nb2
 .rw [A6 e3] at h⊢;obtain⟨r,hr,h⟩:=A9.mp h;cases h;refine Aa (FN hc rfl hr ?_);refine Aa (Cj ?_);refine Aa (Df (Aw ?_));dsimp only;rw[tY];exact hq
 .rw [A5 e3] at h⊢;obtain⟨r,hr,h⟩:=A9.mp h;cases h;refine Aa (FO hc rfl hr ?_);refine Aa (Cj ?_);refine Aa (Df (Aw ?_));dsimp only;rw[tY];exact hq
end
section
variable {prog:Rh}{w:Rj}{A:Rk}{E:OO->Rf->Prop}{s:Rf}{item:Nat->Keyed}{c:Nat->Nat->Rp Bool}{kd:SortKind}
def ji (c:Nat->Nat->Rp Bool) (pw:Nat) (t:Ts):Rp (Bool×Ts):=
 match(if t.2.1.size>1 then t.2.1[t.2.1.size-2]? else none) with
 |some u=>if u.2.2<=pw then some (true,t) else none
 |none=>some (true,t)
def kJ (c:Nat->Nat->Rp Bool) (size lo n:Nat) (t:Ts):Rp (Bool×Nat×Ts):=
 match t.2.1.back? with
 |some u=>(aC (ji c (power' size (2*u.1+u.2.1) (2*u.1+u.2.1+u.2.1+n) size)) size t).bind λt'=>
  some (false,lo+n,t'.1,(t'.2.1.modify (t'.2.1.size-1) λx=>(x.1,x.2.1,power' size (2*u.1+u.2.1) (2*u.1+u.2.1+u.2.1+n) size)).push (lo,n,0),t'.2.2)
 |none=>some (false,lo+n,t.1,t.2.1.push (lo,n,0),t.2.2)
def nu (c:Nat->Nat->Rp Bool) (size:Nat) (g:Nat×Ts):Rp (Bool×Nat×Ts):=
 if g.1>=size then some (true,g) else(nj c g.1 (size-g.1) g.2.1).bind λr=>
  if r.1<minRun' size size 0 then(tX c g.1 (min (size-g.1) (minRun' size size 0)) r.1 r.2).bind λp2=>kJ c size g.1 (min (size-g.1) (minRun' size size 0)) (p2,g.2.2)
  else kJ c size g.1 r.1 (r.2,g.2.2)
def nv (c:Nat->Nat->Rp Bool) (t:Ts):Rp (Bool×Ts):=
 if t.2.1.size<=1 then some (true,t)
 else(mAt c (if Option.any (λx=>decide (x<t.2.1[t.2.1.size-2+1]?.elim 0 λx=>x.2.1)) (if t.2.1.size-2>0 then Option.map (λx=>x.2.1) t.2.1[t.2.1.size-2-1]? else none)=true then t.2.1.size-2-1 else t.2.1.size-2) t).bind λt'=>some (false,t')
def gm (c:Nat->Nat->Rp Bool) (n:Nat):Rp (Array Nat):=
 (aC (nu c n) n (0,List.toArray (List.range n), #[],7)).bind λg=>(aC (nv c) n g.2).map (·.1)
set_option maxHeartbeats 2000000 in
theorem FW (hc:cR kd prog w A s item c) (h:gm c n=some p) {Q:Unit->SortSt->Prop} (hq:∀pd g,Q () (sst kd item p pd g)):wpS (model prog w) A E s sortRuns' Q (sst kd item (List.toArray (List.range n)) #[] 7):=by
 rw[sortRuns'_eq];try dsimp only
 refine Aa (Df ?_);have hz:(arrOf (sst kd item (List.toArray (List.range n)) #[] 7)).size=n:=by
  show((List.toArray (List.range n)).map item).size=n;simp
 rw[hz];unfold gm at h;obtain⟨g,h1,h⟩:=A9.mp h;obtain⟨t,h2,rfl⟩:=A8.mp h;refine Aa (cG (γ:=Nat×Ts) (step:=nu c n) (λg=>(none,g.1)) (λg=>sst kd item g.2.1 g.2.2.1 g.2.2.2) (λx g r hs R hR=> ?_) (a:=0) (b:=n) (g:=(0,List.toArray (List.range n), #[],7)) h1 ?_)
 .unfold nu at hs;try dsimp only
  by_cases e1:g.1>=n
  .rw [A6 e1] at hs⊢;cases hs;exact Aw hR
  rw[A5 e1] at hs⊢;obtain⟨k,hk,hs⟩:=A9.mp hs;refine Aa (FS hc hk ?_);try dsimp only
  by_cases e2:k.1<minRun' n n 0
  .rw [A6 e2] at hs⊢;obtain⟨p2,hp,hs⟩:=A9.mp hs;refine Aa (wpS_lift (Bv ⟨rfl, ?_⟩));refine Aa (FT hc hp ?_);simp only[B8,AI,An];unfold kJ at hs;refine Aa (Df ?_);try dsimp only at hs⊢
   split at hs
   .rename_i u hu;rw[hu];try dsimp only
    obtain⟨t',ht,hs⟩:=A9.mp hs;cases hs;refine Aa (cG (γ:=Ts) (step:=ji c _) (λ_=>(none,())) (λt=>sst kd item t.1 t.2.1 t.2.2) (λx t r hs R hR=> ?_) (a:=0) ht ?_)
    .unfold ji at hs;refine Aa (Df ?_);try dsimp only
     split at hs
     .rename_i v hv;rw[hv];try dsimp only
      split at hs
      .rename_i z;rw[A6 z];cases hs;exact Aw hR
      .rename_i z;cases hs
     .rename_i hv;rw[hv];cases hs;exact Aw hR
    .try dsimp only
     exact Aa (Cj (Aa (Cj (Aw hR))))
   .rename_i hu;rw[hu];cases hs;exact Aa (Cj (Aw hR))
  .rw [A5 e2] at hs⊢;unfold kJ at hs;refine Aa (Df ?_);try dsimp only at hs⊢
   split at hs
   .rename_i u hu;rw[hu];try dsimp only
    obtain⟨t',ht,hs⟩:=A9.mp hs;cases hs;refine Aa (cG (γ:=Ts) (step:=ji c _) (λ_=>(none,())) (λt=>sst kd item t.1 t.2.1 t.2.2) (λx t r hs R hR=> ?_) (a:=0) ht ?_)
    .unfold ji at hs;refine Aa (Df ?_);try dsimp only
     split at hs
     .rename_i v hv;rw[hv];try dsimp only
      split at hs
      .rename_i z;rw[A6 z];cases hs;exact Aw hR
      .rename_i z;cases hs
     .rename_i hv;rw[hv];cases hs;exact Aw hR
    .try dsimp only
     exact Aa (Cj (Aa (Cj (Aw hR))))
   .rename_i hu;rw[hu];cases hs;exact Aa (Cj (Aw hR))
 .try dsimp only
  refine Aa (cG (γ:=Ts) (step:=nv c) (λ_=>(none,())) (λt=>sst kd item t.1 t.2.1 t.2.2) (λx t r hs R hR=> ?_) (a:=0) (b:=n) (g:=g.2) h2 (Aw (hq _ _)));unfold nv at hs;refine Aa (Df ?_);try dsimp only
  by_cases e1:t.2.1.size<=1
  .rw [A6 e1] at hs⊢;cases hs;exact Aw hR
  rw[A5 e1] at hs⊢;obtain⟨t',hm,hs⟩:=A9.mp hs;cases hs;exact Aa (FV hc hm (Aw hR))
end
open PySem.Spec PySem.W
section
variable {prog:Rh}{w:Rj}{A:Rk}{E:OO->Rf->Prop}{s:Rf}
theorem FX {kd:SortKind}{a:Rg}{c:Nat->Nat->Rp Bool}{P:PySem.Fin->Rf->Prop} (ho:s.heap.get? a=some (seqObj "list" vs.toArray n)) (h2:2<=vs.length) (hL:vs.length<=1000) (hp:p.size<=1000)
  (Pg:∀(R:SortKind->Rf->Prop),R kd {s with heap:=bo s.heap a vs}->wpAny (model prog w) A (keyKind' vs.toArray) R E {s with heap:=bo s.heap a vs}) (hc:cR kd prog w A {s with heap:=bo s.heap a vs} (eY vs) c) (hs:gm c vs.length=some p)
  (h:P (.done (.ret .none)) {s with heap:=sortedHeap s.heap a vs (p.map λi=>vs.getD i .none)}):wpAny (model prog w) A (Builtin.«list.sort» ⟨[.ref a],[]⟩) P E s:=by
 rw[list_sort_plain];have ha:a<s.heap.objs.size:=AM ho;refine A0 (listItems_at ho rfl ?_);refine A0 (Cp ho rfl ?_ (by rw[AG,Av];lia) (AO _));obtain⟨e1,MO⟩:∃e1,(s.heap.update a (Obj.mapSeq λ_=>(#[]:Array OO))).get? a=some (seqObj "list" #[] e1):=⟨_,Cm ho (λ_=> #[])⟩;refine A0 (seqEpoch_at MO rfl ?_);refine A0 (wpAny_newTuple ?_ (by show vs.length<=_;rw[Av];lia));refine A0 (DY ?_ (AO _));refine B5 ?_;have OA:(bo s.heap a vs).get? a=some (seqObj "list" #[] e1):=by
  rw[BC _ _ _ (by rw[C3,BB];exact AQ (Ai ha)),BC _ _ _ (by rw[BB];exact AQ ha)];exact MO
 show wpAny (model prog w) A _ P E {s with heap:=bo s.heap a vs};dsimp only;have Pb:¬vs.toArray.size<2:=by rw[AG];lia
 rw[A5 Pb,A5 Pb];refine A0 (Pg _ ?_);have run:=FW (E:=E) hc hs (Q:=λ_ MG=>arrOf MG=p.map (eY vs)/\failedOf MG=none) λpd g=>⟨rfl,rfl⟩;have est:sst kd (eY vs) (List.toArray (List.range vs.length)) #[] 7=SortSt.mk' kd (vs.toArray.zip vs.toArray) #[] 7 none:=by
  show SortSt.mk' kd ((List.toArray (List.range vs.length)).map (eY vs)) #[] 7 none=_;rw[Fw]
 rw[est] at run;refine A0 (Bj run ?_ λ_ _ e=>e);rintro⟨⟨⟩,MG⟩ s' ⟨rfl,har,hf⟩;dsimp only at har hf⊢;have eo:(arrOf MG).map (·.2)=p.map λi=>vs.getD i .none:=by
  rw[har,Array.map_map];rfl
 rw[eo];refine A0 (seqEpoch_at OA rfl ?_);refine A0 (Cp OA rfl ?_ (AO _) (by rw[Array.size_map,Av];lia));rw[hf];simp only[Cy,AI,An];exact A2 h
theorem FY {kd:SortKind}{l:Rg}{c:Nat->Nat->Rp Bool}{Q:OO->Rf->Prop} (hl:s.heap.IsList l vs.toArray) (h2:2<=vs.length) (hL:vs.length<=1000) (hp:p.size<=1000)
  (Pg:∀(R:SortKind->Rf->Prop) (E:OO->Rf->Prop),R kd {s with heap:=je s.heap vs}->wpAny (model prog w) A.in1.in1 (keyKind' vs.toArray) R E {s with heap:=je s.heap vs}) (hc:cR kd prog w A.in1.in1 {s with heap:=je s.heap vs} (eY vs) c) (hs:gm c vs.length=some p)
  (h:Q (.ref (s.heap.objs.size+1)) {s with heap:=sortedAll s.heap vs (p.map λi=>vs.getD i .none)}):wpAny (model prog w) A (call (.builtin "sorted") [.ref l]) Q E s:=by
 refine Calls.call_function_entry kind_sorted plain_sorted entry_sorted (args_sorted1 _) ?_;unfold Builtin.«sorted»;refine A0 (m:=checkCount "sorted" 1 1 _) (A2 ?_);refine A0 (collect_list hl ?_ (by rw[Av];lia));refine A0 (DY ?_ (by rw[Av];lia));have hsz:((s.heap.push (seqObj "list" #[] 0)).update s.heap.objs.size (Obj.mapSeq (· ++vs.toArray))).objs.size=s.heap.objs.size+1:=by
  rw[BB,C3]
 have Ql:(((s.heap.push (seqObj "list" #[] 0)).update s.heap.objs.size (Obj.mapSeq (· ++vs.toArray))).push (seqObj "list" vs.toArray 0)).get? (s.heap.objs.size+1)=some (seqObj "list" vs.toArray 0):=by
  rw[<-hsz];exact AH _ rfl
 show wpAny _ _ _ _ _ {s with heap:=((s.heap.push (seqObj "list" #[] 0)).update s.heap.objs.size (Obj.mapSeq (· ++vs.toArray))).push (seqObj "list" vs.toArray 0)};rw[hsz];refine A0 (B5 (Ah slot_list_sort ⟨_,Ql,rfl⟩ entry_list_sort (FX (s:={s with heap:=((s.heap.push (seqObj "list" #[] 0)).update s.heap.objs.size (Obj.mapSeq (· ++vs.toArray))).push (seqObj "list" vs.toArray 0)}) Ql h2 hL hp (λR=>Pg R _) hc hs ⟨_,rfl, ?_⟩) (args_list_sort _)));exact A2 ⟨_,rfl,h⟩
end
inductive rSorted (K:W.Frag) (vs:List V) (H:Hp) (Q:VK):Prop
 |mk (l:Addr) (rs:List V) (c:Nat->Nat->Option Bool) (p:Array Nat):vs=[.ref l]->SqL K H l rs->2<=rs.length->rs.length<=1000->p.size<=1000->((∀r∈rs,∃a ys,r= .ref a/\SqL K H a ys))->((∀i j b,c i j=some b->∃x y,rs[i]? =some x/\rs[j]? =some y/\Ask K H x y b))->gm c rs.length=some p->((∀i∈p.toList,i<rs.length))->(∀q,H q=none->Q (.ref q) (upd H q (.lst (p.toList.map λi=>rs.getD i .non))))->rSorted K vs H Q
section
variable {X:Cx}
theorem FZ (hr:Room k X.A):bW X (.builtin "sorted") (rSorted X.K):=by
 intro Mb s σ H xs us Q I r h;obtain⟨l,rs,c,p,rfl,hq,h2,hL,hps,hty,QA,hs,Ov,q⟩:=h;obtain⟨u,rfl,rx⟩:=cU r;cases rx;obtain⟨Me,r',pl,hz⟩:=I.list hq;have ln:=r'.length;have hu:=hr.un;have I2:Inv X Mb σ H {s with heap:=je s.heap Me}:=I.kept (t':=s.toks) λb o e=>Fx e;refine FY (kd:=oneType') (vs:=Me) (c:=c) (p:=p) pl.isList (by lia) (by lia) hps (λR E hR=>kas_kind (T:= .type "list") (by lia) (λv hv=> ?_) rfl rfl hR) (λi j b hb Q' hq'=> ?_) (by rw[<-ln];exact hs) ?_
 .obtain⟨i,hi,rfl⟩:=DH.mp hv;have NN:i<rs.length:=by lia
  obtain⟨a,ys,e1,hy⟩:=hty rs[i] (D' NN);obtain⟨u,MH,ru⟩:=r'.get (A3 NN);rw[A3 hi] at MH;rw[e1] at ru;obtain rfl:u=Value.ref a:=ru;rw[Ak MH];obtain⟨js,r2,p2,z2⟩:=I2.list hy;obtain⟨o,ho,hc,_⟩:=p2.isList;exact hc▸(Looks.ld ho).andThen .now
 .obtain⟨x,y,hx,hy,a1,a2,xs,ys,d,es,fs,rfl,rfl,h1,h2,hd,he,hf,rfl⟩:=QA i j b hb;obtain⟨u,MH,ru⟩:=r'.get hx;obtain⟨v,NO,rv⟩:=r'.get hy;obtain rfl:u=Value.ref a1:=ru;obtain rfl:v=Value.ref a2:=rv;have g1:(eY Me i).1= .ref a1:=by show Me.getD i .none=_;rw[List.getD,MH];rfl
  have g2:(eY Me j).1= .ref a2:=by show Me.getD j .none=_;rw[List.getD,NO];rfl
  rw[g1,g2];exact LtR.key I2 h1 h2 he hf (by rw[cb,cb];lia) hq'
 .obtain⟨e,he⟩:=sortedAll_at s.heap Me (p.map λi=>Me.getD i .none);have en:(p.map λi=>Me.getD i .none)=List.toArray (p.toList.map λi=>Me.getD i .none):=by
   apply Array.toList_inj.mp;simp
  rw[en] at he⊢;refine⟨.ref (s.heap.objs.size+1),_,I.laid (t':=s.toks) (λ_ _=>sortedAll_old) (Ct _) (show aG X.prog X.w _ _ _ (.lst (p.toList.map λi=>rs.getD i .non)) from⟨?_,_,e,m7 r' p.toList Ov,he⟩),rfl,q _ (I.hok.fresh (Ct _))⟩;rw[A1,B4,Av];lia
end
section
variable {X:Cx}
def tZ (K:W.Frag):Rl V->Hp->VK->Prop:=λvs H Q=>(∃(l:Rg) (rs:Rl V),vs=[.ref l]/\SqL K H l rs/\rs.length<2/\∀q,H q=none->Q (.ref q) (upd H q (.lst rs)))\/rSorted K vs H Q
theorem ud (hr:Room k X.A):bW X (.builtin "sorted") (tZ X.K):=by
 intro Mb s σ H xs us Q I r h;rcases h with h|h
 .obtain⟨l,rs,rfl,hq,h2,q⟩:=h;obtain⟨u,rfl,rx⟩:=cU r;cases rx;obtain⟨Me,r',pl,hz⟩:=I.list hq;have ln:=r'.length;refine Fy (vs:=Me) pl.isList (by lia) ?_;obtain⟨e,he⟩:=sortedAll_at s.heap Me Me.toArray;exact⟨.ref (s.heap.objs.size+1),_,I.laid (t':=s.toks) (λ_ _=>sortedAll_old) (Ct _) (show aG X.prog X.w _ _ _ (.lst rs) from⟨hz,Me,e,r',he⟩),rfl,q _ (I.hok.fresh (Ct _))⟩
 .exact FZ hr Mb s σ H xs us Q I r h
end
def aS (c:Nat->Nat->Bool) {α:Type}:KasT α->α
 | .ret a=>a
 | .ask i j k=>aS c (k (c i j))
theorem g8 {c:Nat->Nat->Bool}{α β:Type}{f:α->KasT β}:∀(t:KasT α),aS c (t.bind f)=aS c (f (aS c t))
 | .ret _=>rfl
 | .ask i j k=>g8 (k (c i j))
structure Ordr (c:Nat->Nat->Bool):Prop where
 asym:∀a b,c a b=true->c b a=false
 tr:∀a b d,c b a=false->c d b=false->c d a=false
section
variable {c:Nat->Nat->Bool}
abbrev at0 (p:Array Nat) (i:Nat):Nat:=p.getD i 0
def Up (c:Nat->Nat->Bool) (p:Array Nat) (m:Nat):Prop:=∀i j,i<j->j<m->c (at0 p j) (at0 p i)=false
def Dn (c:Nat->Nat->Bool) (p:Array Nat) (m:Nat):Prop:=∀i j,i<j->j<m->c (at0 p i) (at0 p j)=false
theorem Up.more (O:Ordr c) (h:Up c p m) (hm:0<m) (e:c (at0 p m) (at0 p (m-1))=false):Up c p (m+1):=by
 intro i j NY hj;by_cases hjm:j<m
 .exact h i j NY hjm
 .obtain rfl:j=m:=by lia
  by_cases hi:i=j-1
  .subst hi;exact e
  .exact O.tr _ _ _ (h i (j-1) (by lia) (by lia)) e
theorem Dn.more (O:Ordr c) (h:Dn c p m) (hm:0<m) (e:c (at0 p (m-1)) (at0 p m)=false):Dn c p (m+1):=by
 intro i j NY hj;by_cases hjm:j<m
 .exact h i j NY hjm
 .obtain rfl:j=m:=by lia
  by_cases hi:i=j-1
  .subst hi;exact e
  .exact O.tr _ _ _ e (h i (j-1) (by lia) (by lia))
theorem ny (O:Ordr c) {p:Array Nat}:∀(f m:Nat),0<m->Up c p m->m<=aS c (kas_asc p f m)/\aS c (kas_asc p f m)<=m+f/\Up c p (aS c (kas_asc p f m))/\(aS c (kas_asc p f m)<m+f->c (at0 p (aS c (kas_asc p f m))) (at0 p (aS c (kas_asc p f m)-1))=true)
 |0,m,hm,h=>⟨AB _,AB _,h,λz=>absurd z (CG _)⟩
 |f+1,m,hm,h=>by
  unfold kas_asc aS;cases e:c (p.getD m 0) (p.getD (m-1) 0) with
  |true=>
   dsimp only;rw[A6 rfl];exact⟨AB _,by show m<=_;lia,h,λ_=>e⟩
  |false=>
   dsimp only;rw[A5 (by decide)];obtain⟨h1,h2,h3,h4⟩:=ny O f (m+1) (by lia) (h.more O hm e);exact⟨by lia,by lia,h3,λz=>h4 (by lia)⟩
theorem dZ (hj:j<=p.size) (k:Nat):at0 (kas_rev p i j) k=if i<=k/\k<j then at0 p (i+j-1-k) else at0 p k:=by
 have h:=getElem?_mirror_all (xs:=p) (i:=i) hj k;have e:∀q:Array Nat,∀k,at0 q k=(q[k]?).getD 0:=λq k=>by simp[at0,Array.getD];split<;>simp[*]
 rw[e,e,e];unfold kas_rev;rw[h];split<;>rfl
def gp (p:Array Nat) (i j:Nat):(kas_rev p i j).size=p.size:=mirror_size _ _ _ _
theorem Dn.rev_all (h:Dn c p m) (hm:m<=p.size):Up c (kas_rev p 0 m) m:=by
 intro i j NY hj;rw[dZ hm,dZ hm,A6 ⟨by lia,hj⟩,A6 ⟨by lia,by lia⟩];exact h _ _ (by lia) (by lia)
theorem Up.rev_all (h:Up c p m) (hm:m<=p.size):Dn c (kas_rev p 0 m) m:=by
 intro i j NY hj;rw[dZ hm,dZ hm,A6 ⟨by lia,by lia⟩,A6 ⟨by lia,hj⟩];exact h _ _ (by lia) (by lia)
theorem Dn.rev_blk {q:Nat} (h:Dn c p m) (hm:m<=p.size) (hq:q+1<=m) (hb:∀i j,m-(q+1)<=i->i<m->m-(q+1)<=j->j<m->c (at0 p i) (at0 p j)=false):Dn c (kas_rev p (m-(q+1)) m) m:=by
 intro i j NY hj;rw[dZ hm,dZ hm];by_cases h1:m-(q+1)<=i
 .rw [A6 ⟨h1,by lia⟩,A6 ⟨by lia,hj⟩];exact hb _ _ (by lia) (by lia) (by lia) (by lia)
 .rw [A5 (by lia)];by_cases h2:m-(q+1)<=j
  .rw [A6 ⟨h2,hj⟩];exact h _ _ (by lia) (by lia)
  .rw [A5 (by lia)];exact h _ _ NY hj
def Blk (c:Nat->Nat->Bool) (p:Array Nat) (m q:Nat):Prop:=q+1<=m/\∀i j,m-(q+1)<=i->i<m->m-(q+1)<=j->j<m->c (at0 p i) (at0 p j)=false
theorem kK (O:Ordr c):∀(f:Nat) (p:Array Nat) (m q:Nat),m+f<=p.size->0<m->Dn c p m->Blk c p m q->∀r,r=aS c (kas_desc f p m q)->r.1.size=p.size/\m<=r.2.1/\r.2.1<=m+f/\Dn c r.1 r.2.1/\Blk c r.1 r.2.1 r.2.2
 |0,p,m,q,_,_,hd,hb,r,e=>by
  subst e;exact⟨rfl,AB _,AB _,hd,hb⟩
 |f+1,p,m,q,hs,hm,hd,hb,r,e=>by
  unfold kas_desc aS at e;cases e1:c (p.getD m 0) (p.getD (m-1) 0) with
  |true=>
   rw[e1] at e;dsimp only at e;rw[A6 rfl] at e;have e2:=O.asym _ _ e1;by_cases hq:q>0
   .rw [A6 hq] at e;have Nm:=hd.rev_blk (by lia) hb.1 hb.2;have at_m:at0 (kas_rev p (m-(q+1)) m) m=at0 p m:=by rw[dZ (by lia),A5 (by lia)]
    have at_m1:at0 (kas_rev p (m-(q+1)) m) (m-1)=at0 p (m-(q+1)+m-1-(m-1)):=by rw[dZ (by lia),A6 ⟨by have:=hb.1;lia,by lia⟩]
    have e3:c (at0 (kas_rev p (m-(q+1)) m) (m-1)) (at0 (kas_rev p (m-(q+1)) m) m)=false:=by
     rw[at_m,at_m1];have b1:=hb.1;exact O.tr _ _ _ e2 (hb.2 _ (m-1) (by lia) (by lia) (by lia) (by lia))
    have QB:=Nm.more O hm e3;have hb3:Blk c (kas_rev p (m-(q+1)) m) (m+1) 0:=⟨by lia,λi j h1 h2 h3 h4=>by
     obtain rfl:i=m:=by lia
     obtain rfl:j=i:=by lia
     cases h:c (at0 (kas_rev p (j-(q+1)) j) j) (at0 (kas_rev p (j-(q+1)) j) j) with
     |false=>rfl
     |true=>have:=O.asym _ _ h;rw[h] at this;cases this⟩
    obtain⟨r1,r2,r3,r4,r5⟩:=kK O f _ (m+1) 0 (by rw[gp];lia) (by lia) QB hb3 r e;exact⟨by rw[r1,gp],by lia,by lia,r4,r5⟩
   .rw [A5 hq] at e;have QB:=hd.more O hm e2;have hb3:Blk c p (m+1) 0:=⟨by lia,λi j h1 h2 h3 h4=>by
     obtain rfl:i=m:=by lia
     obtain rfl:j=i:=by lia
     cases h:c (at0 p j) (at0 p j) with
     |false=>rfl
     |true=>have:=O.asym _ _ h;rw[h] at this;cases this⟩
    obtain⟨r1,r2,r3,r4,r5⟩:=kK O f _ (m+1) 0 (by lia) (by lia) QB hb3 r e;exact⟨r1,by lia,by lia,r4,r5⟩
  |false=>
   rw[e1] at e;dsimp only at e;rw[A5 (by decide)] at e;unfold aS at e;cases e2:c (p.getD (m-1) 0) (p.getD m 0) with
   |true=>
    rw[e2] at e;dsimp only at e;rw[A6 rfl] at e;subst e;exact⟨rfl,AB _,by show m<=_;lia,hd,hb⟩
   |false=>
    rw[e2] at e;dsimp only at e;rw[A5 (by decide)] at e;have QB:=hd.more O hm e2;have b1:=hb.1;have hb3:Blk c p (m+1) (q+1):=⟨by lia,λi j h1 h2 h3 h4=>by
     by_cases hi:i=m
     .by_cases hj:j=m
      .subst hi;subst hj;cases h:c (at0 p j) (at0 p j) with
       |false=>rfl
       |true=>have:=O.asym _ _ h;rw[h] at this;cases this
      .subst hi;exact O.tr _ _ _ (hb.2 _ _ (by lia) (by lia) (by lia) (by lia)) e1
     .by_cases hj:j=m
      .subst hj;exact O.tr _ _ _ e2 (hb.2 _ _ (by lia) (by lia) (by lia) (by lia))
      .exact hb.2 _ _ (by lia) (by lia) (by lia) (by lia)⟩
    obtain⟨r1,r2,r3,r4,r5⟩:=kK O f _ (m+1) (q+1) (by lia) (by lia) QB hb3 r e;exact⟨r1,by lia,by lia,r4,r5⟩
theorem ue (O:Ordr c) (hn:n<=p.size) (hm:m<=n) (h0:0<m) (hd:Dn c p m):∀r,r=aS c (kas_tail3 m n p)->r.2.size=p.size/\0<r.1/\r.1<=n/\Up c r.2 r.1:=by
 intro r e;unfold kas_tail3 at e;rw[g8] at e;subst e;obtain⟨h1,h2,h3,_⟩:=ny O (n-m) m h0 (hd.rev_all (by lia));exact⟨gp _ _ _,by show 0<aS c _;lia,by show aS c _<=n;lia,h3⟩
theorem uf (O:Ordr c) (hn:n<=p.size) (hm:m<n) (h0:0<m) (hd:Dn c p m) (e:c (at0 p m) (at0 p (m-1))=true):∀r,r=aS c (kas_descPart m n p)->r.2.size=p.size/\0<r.1/\r.1<=n/\Up c r.2 r.1:=by
 intro r er;unfold kas_descPart at er;rw[g8] at er;have P5:=hd.more O h0 (O.asym _ _ e);have hb1:Blk c p (m+1) 0:=⟨by lia,λi j h1 h2 h3 h4=>by
  obtain rfl:i=m:=by lia
  obtain rfl:j=i:=by lia
  cases h:c (at0 p j) (at0 p j) with
  |false=>rfl
  |true=>have:=O.asym _ _ h;rw[h] at this;cases this⟩
 obtain⟨r1,r2,r3,r4,r5⟩:=kK O (n-(m+1)) p (m+1) 0 (by lia) (by lia) P5 hb1 _ rfl;generalize aS c (kas_desc (n-(m+1)) p (m+1) 0)=d at*
 split at er
 .obtain⟨t1,t2,t3,t4⟩:=ue O (p:=kas_rev d.1 (d.2.1-(d.2.2+1)) d.2.1) (m:=d.2.1) (n:=n) (by rw[gp];lia) (by lia) (by lia) (r4.rev_blk (by lia) r5.1 r5.2) r er;exact⟨by rw[t1,gp,r1],t2,t3,t4⟩
 .obtain⟨t1,t2,t3,t4⟩:=ue O (p:=d.1) (m:=d.2.1) (n:=n) (by lia) (by lia) (by lia) r4 r er;exact⟨by rw[t1,r1],t2,t3,t4⟩
theorem F' (O:Ordr c) (hn:n<=p.size) (h0:0<n):∀r,r=aS c (kas_count n p)->r.2.size=p.size/\0<r.1/\r.1<=n/\Up c r.2 r.1:=by
 intro r er;unfold kas_count at er;rw[g8] at er;obtain⟨h1,h2,h3,h4⟩:=ny O (p:=p) (n-1) 1 (by decide) (λi j a b=>absurd b (by lia));generalize aS c (kas_asc p (n-1) 1)=m at*
 by_cases hm:m=n
 .subst hm;rw[A6 (by simp)] at er;subst er;exact⟨rfl,h0,AB _,h3⟩
 .rw [A5 (by simp[hm])] at er;have st:=h4 (by lia);by_cases h5:m>1
  .rw [A6 h5] at er;unfold aS at er;cases e1:c (p.getD 0 0) (p.getD (m-1) 0) with
   |true=>
    rw[e1] at er;dsimp only at er;rw[A6 rfl] at er;subst er;exact⟨rfl,by show 0<m;lia,by show m<=n;lia,h3⟩
   |false=>
    rw[e1] at er;dsimp only at er;rw[A5 (by decide)] at er;have hd:=h3.rev_all (by lia:m<=p.size);obtain⟨t1,t2,t3,t4⟩:=uf O (p:=kas_rev p 0 m) (m:=m) (n:=n) (by rw[gp];exact hn) (by lia) (by lia) hd (by
     rw[dZ (by lia),dZ (by lia),A5 (by lia),A6 ⟨by lia,by lia⟩,show 0+m-1-(m-1)=0 by lia];cases h:c (at0 p m) (at0 p 0) with
     |true=>rfl
     |false=>have:=O.tr _ _ _ e1 h;rw[st] at this;cases this) r er
    exact⟨by rw[t1,gp],t2,t3,t4⟩
  .rw [A5 h5] at er;obtain rfl:m=1:=by lia
   exact uf O hn (by lia) (by decide) (λi j a b=>absurd b (by lia)) st r er
theorem nz (O:Ordr c) {p:Array Nat}{k:Nat} (hu:Up c p k):∀(f l r:Nat),r-l<=f->l<=r->r<=k->(∀i,i<l->c (at0 p k) (at0 p i)=false)->(∀i,r<=i->i<k->c (at0 p k) (at0 p i)=true)->
  aS c (kas_place p k f l r)<=k/\(∀i,i<aS c (kas_place p k f l r)->c (at0 p k) (at0 p i)=false)/\(∀i,aS c (kas_place p k f l r)<=i->i<k->c (at0 p k) (at0 p i)=true)
 |0,l,r,hf,hl,hr,h1,h2=>by
  obtain rfl:l=r:=by lia
  exact⟨hr,h1,h2⟩
 |f+1,l,r,hf,hl,hr,h1,h2=>by
  unfold kas_place;by_cases h:l>=r
  .rw [A6 h];obtain rfl:l=r:=by lia
   exact⟨hr,h1,h2⟩
  .rw [A5 h];unfold aS;cases e:c (p.getD k 0) (p.getD ((l+r)/2) 0) with
   |true=>
    dsimp only;rw[A6 rfl];refine nz O hu f l ((l+r)/2) (by lia) (by lia) (by lia) h1 λi a b=> ?_;by_cases hi:i=(l+r)/2
    .subst hi;exact e
    .cases q:c (at0 p k) (at0 p i) with
     |true=>rfl
     |false=>have:=O.tr _ _ _ (hu ((l+r)/2) i (by lia) b) q;rw[e] at this;cases this
   |false=>
    dsimp only;rw[A5 (by decide)];refine nz O hu f ((l+r)/2+1) r (by lia) (by lia) hr (λi a=> ?_) h2;by_cases hi:i=(l+r)/2
    .subst hi;exact e
    .exact O.tr _ _ _ (hu i ((l+r)/2) (by lia) (by lia)) e
theorem ug {d:Nat} (hk:k<p.size) (hd:d<=k) (i:Nat):at0 (bubble p k d) i=if i=k-d then at0 p k else if k-d<i/\i<=k then at0 p (i-1) else at0 p i:=by
 have h:=getElem?_bubble hk d hd i;have e:∀q:Array Nat,∀k,at0 q k=(q[k]?).getD 0:=λq k=>by simp[at0,Array.getD];split<;>simp[*]
 rw[e,e,e,e,h];split
 .rfl
 .split<;>rfl
theorem uh (O:Ordr c):∀(f:Nat) (p:Array Nat) (k:Nat),0<k->k+f<=p.size->Up c p k->Up c (aS c (kas_bin f p k)) (k+f)
 |0,p,k,_,_,h=>h
 |f+1,p,k,h0,hs,hu=>by
  unfold kas_bin;rw[g8];obtain⟨a1,a2,a3⟩:=nz O hu k 0 k (by lia) (by lia) (AB _) (λi z=>absurd z (by lia)) (λi z1 z2=>absurd z2 (by lia));generalize aS c (kas_place p k k 0 k)=l at*
  have MY:Up c (bubble p k (k-l)) (k+1):=by
   intro i j NY hj;rw[ug (by lia) (by lia),ug (by lia) (by lia),show k-(k-l)=l by lia];by_cases j1:j=l
   .rw [A6 j1,A5 (by lia),A5 (by lia)];exact a2 i (by lia)
   .rw [A5 j1];by_cases j2:l<j/\j<=k
    .rw [A6 j2];by_cases i1:i=l
     .rw [A6 i1];exact O.asym _ _ (a3 (j-1) (by lia) (by lia))
     .rw [A5 i1];by_cases i2:l<i/\i<=k
      .rw [A6 i2];exact hu _ _ (by lia) (by lia)
      .rw [A5 i2];exact hu _ _ (by lia) (by lia)
    .rw [A5 j2,A5 (by lia),A5 (by lia)];exact hu _ _ NY (by lia)
  have:=uh O f (bubble p k (k-l)) (k+1) (by lia) (by rw[bubble_size];lia) MY;rw[show k+(f+1)=k+1+f by lia];exact this
theorem Ga (O:Ordr c) (h0:0<n):Up c (aS c (kas_sort n)) n:=by
 unfold kas_sort;rw[g8];obtain⟨r1,r2,r3,r4⟩:=F' O (p:=List.toArray (List.range n)) (n:=n) (by simp) h0 _ rfl;generalize aS c (kas_count n (List.toArray (List.range n)))=r at*
 have sz:r.2.size=n:=by rw[r1];simp
 by_cases h:r.1<n
 .rw [A6 h];have em:max r.1 1=r.1:=by lia
  rw[em];have:=uh O (n-r.1) r.2 r.1 r2 (by lia) r4;rw[show r.1+(n-r.1)=n by lia] at this;exact this
 .rw [A5 h];have:r.1=n:=by lia
  rw[this] at r4;exact r4
end
theorem bQ.wpc {n:Nat}{c:Nat->Nat->Bool}{α:Type}{R:α->Prop}{cmp:Nat->Nat->(Bool->Rf->Prop)->Rf->Prop}{Q:α->Rf->Prop}{s:Rf} (hc:∀i j,i<n->j<n->∀C:Bool->Rf->Prop,C (c i j) s->cmp i j C s):∀{t:KasT α},(R (aS c t)->Q (aS c t) s)->bQ n R t->t.kasWp cmp Q s
 | .ret a,hq,h=>hq h
 | .ask i j k,hq,h=>hc i j h.1 h.2.1 _ (bQ.wpc hc (t:=k (c i j)) hq (h.2.2 (c i j)))
theorem ui:∀{xs ys zs:Rl Int},xs.length=ys.length->ys.length=zs.length->cX false ys xs=false->cX false zs ys=false->cX false zs xs=false
 |[],[],[],_,_,_,_=>rfl
 |x::xs,y::ys,z::zs,h1,h2,a,b=>by
  unfold cX at a b⊢;by_cases e1:y=x
  .rw [A6 e1] at a;by_cases e2:z=y
   .rw [A6 e2] at b;rw[A6 (e2.trans e1)];exact ui (by simpa using h1) (by simpa using h2) a b
   .rw [A5 e2] at b;have:=of_decide_eq_false b;rw[A5 (by lia)];exact Aj (by lia)
  .rw [A5 e1] at a;have a:=of_decide_eq_false a;by_cases e2:z=y
   .rw [A5 (by lia)];exact Aj (by lia)
   .rw [A5 e2] at b;have:=of_decide_eq_false b;rw[A5 (by lia)];exact Aj (by lia)
theorem uj:∀{xs ys:Rl Int},xs.length=ys.length->cX false xs ys=true->cX false ys xs=false
 |[],[],_,h=>nomatch h
 |x::xs,y::ys,hl,h=>by
  unfold cX at h⊢;by_cases e:x=y
  .rw [A6 e] at h;rw[A6 e.symm];exact uj (by simpa using hl) h
  .rw [A5 e] at h;have:=B2 h;rw[A5 (by lia)];exact Aj (by lia)
theorem uk {xs ys:Rl Int} (h:xs.length=ys.length):ltI xs ys=cX false xs ys:=by
 unfold ltI;rw[Aj (by lia)]
def g9 (xss:Rl (Rl Int)) (i:Nat):Rl Int:=xss.getD i (xss.headD [])
def hG (xss:Rl (Rl Int)) (i j:Nat):Bool:=ltI (g9 xss i) (g9 xss j)
theorem um (h:i<xss.length):g9 xss i=xss.getD i []:=by
 unfold g9;rw[A',A',A3 h];rfl
theorem uo (hi:i<xss.length) (hj:j<xss.length):hG xss i j=ltI (xss.getD i []) (xss.getD j []):=by
 unfold hG;rw[um hi,um hj]
theorem Gb (h0:0<xss.length) (h:∀xs∈xss,xs.length=m) (i:Nat):(g9 xss i).length=m:=by
 unfold g9;rw[A'];cases e:xss[i]? with
 |some x=>exact h x (AU e)
 |none=>
  cases xss with
  |nil=>cases h0
  |cons x xs=>exact h x (by simp)
theorem Gc (h0:0<xss.length) (h:∀xs∈xss,xs.length=m):Ordr (hG xss):=by
 have k:=Gb h0 h;refine⟨λa b e=> ?_,λa b d e1 e2=> ?_⟩
 .unfold hG at e⊢;rw[uk (by rw[k,k])] at e⊢;exact uj (by rw[k,k]) e
 .unfold hG at e1 e2⊢;rw[uk (by rw[k,k])] at e1 e2⊢;exact ui (by rw[k,k]) (by rw[k,k]) e1 e2
section
variable {prog:Rh}{w:Rj}{A:Rk}{E:OO->Rf->Prop}{s:Rf}
theorem Gd {c:Nat->Nat->Bool}{kd:SortKind}{a:Rg}{P:PySem.Fin->Rf->Prop} (ho:s.heap.get? a=some (seqObj "list" vs.toArray n)) (h2:2<=vs.length) (h64:vs.length<64)
  (Pg:∀(R:SortKind->Rf->Prop),R kd {s with heap:=bo s.heap a vs}->wpAny (model prog w) A (keyKind' vs.toArray) R E {s with heap:=bo s.heap a vs})
  (hc:∀i j,i<vs.length->j<vs.length->∀C:Bool->Rf->Prop,C (c i j) {s with heap:=bo s.heap a vs}->wpAny (model prog w) A (keyLt' kd (vs.getD i .none) (vs.getD j .none)) C (λ_ _=>False) {s with heap:=bo s.heap a vs})
  (h:∀p,Ord vs.length p->p=aS c (kas_sort vs.length)->P (.done (.ret .none)) {s with heap:=sortedHeap s.heap a vs (p.map λi=>vs.getD i .none)}):wpAny (model prog w) A (Builtin.«list.sort» ⟨[.ref a],[]⟩) P E s:=by
 rw[list_sort_plain];have ha:a<s.heap.objs.size:=AM ho;refine A0 (listItems_at ho rfl ?_);refine A0 (Cp ho rfl ?_ (by rw[AG,Av];lia) (AO _));obtain⟨e1,MO⟩:∃e1,(s.heap.update a (Obj.mapSeq λ_=>(#[]:Array OO))).get? a=some (seqObj "list" #[] e1):=⟨_,Cm ho (λ_=> #[])⟩;refine A0 (seqEpoch_at MO rfl ?_);refine A0 (wpAny_newTuple ?_ (by show vs.length<=_;rw[Av];lia));refine A0 (DY ?_ (AO _));refine B5 ?_;have OA:(bo s.heap a vs).get? a=some (seqObj "list" #[] e1):=by
  rw[BC _ _ _ (by rw[C3,BB];exact AQ (Ai ha)),BC _ _ _ (by rw[BB];exact AQ ha)];exact MO
 show wpAny (model prog w) A _ P E {s with heap:=bo s.heap a vs};dsimp only;have Pb:¬vs.toArray.size<2:=by rw[AG];lia
 rw[A5 Pb,A5 Pb];refine A0 (Pg _ ?_);have est:kas_st kd (pairsOf vs) (List.toArray (List.range vs.length))=SortSt.mk' kd (vs.toArray.zip vs.toArray) #[] 7 none:=by
  have e:=kas_range (pairsOf vs);rw[pairsOf_size] at e;show SortSt.mk' kd ((List.toArray (List.range vs.length)).map (kas_item (pairsOf vs))) #[] 7 none=SortSt.mk' kd (pairsOf vs) #[] 7 none;rw[e]
 have ask:(kas_sort vs.length).kasWp (kas_cmp prog w A kd (pairsOf vs)) (λp s'=>s'={s with heap:=bo s.heap a vs}/\Ord vs.length p/\p=aS c (kas_sort vs.length)) {s with heap:=bo s.heap a vs}:=by
  refine bQ.wpc (c:=c) (λi j hi hj C hC=> ?_) (λhp=>⟨rfl,hp,rfl⟩) (Fv (by lia));rw[<-kas_ask_eq];exact hc i j hi hj C hC
 have run:=kas_runs (E:=E) (Q:=λ_ MG s'=>∃p,s'={s with heap:=bo s.heap a vs}/\(Ord vs.length p/\p=aS c (kas_sort vs.length))/\arrOf MG=p.map (kas_item (pairsOf vs))/\failedOf MG=none) h2 h64 (λp' MG s' _ a2 a3 a4=>⟨p',a4.1,a4.2,a2,a3⟩) ask;rw[est] at run;refine A0 (Bj run ?_ λ_ _ e=>e);rintro⟨⟨⟩,MG⟩ s' ⟨p,rfl,⟨hp,hpc⟩,har,hf⟩;dsimp only at har hf⊢;have eo:(arrOf MG).map (·.2)=p.map λi=>vs.getD i .none:=by
  rw[har,Array.map_map];refine Array.map_congr_left λi _=> ?_;show(kas_item (pairsOf vs) i).2=_;rw[kas_item_eq]
 rw[eo];refine A0 (seqEpoch_at OA rfl ?_);refine A0 (Cp OA rfl ?_ (AO _) (by rw[Array.size_map,Av,hp.size];lia));rw[hf];simp only[Cy,AI,An];exact A2 (h p hp hpc)
end
end L2
namespace HT
open PySem PySem.Spec PyProof.Rows
section
variable {prog:Rh}{w:Rj}{A:Rk}{E:OO->Rf->Prop}{s:Rf}
theorem getItem_tuple_all {t sl:Rg}{items:Array OO}{vl vu:OO}{lo hi:Rp Int}{Q:OO->Rf->Prop} (ht:IsTup s.heap t items) (hs:s.heap.IsSliceOf sl vl vu .none) (pl:IsPart vl lo) (pu:IsPart vu hi)
  (hw:sIx items.size 0 lo=0/\sIx items.size items.size hi=items.size) (h:Q (.ref t) s):wpAny (model prog w) A (getItem (.ref t) (.ref sl)) Q E s:=by
 obtain⟨os,Qn,Qo,hds⟩:=id hs;have hTs:s.TypeIs (.ref sl) "slice":=⟨os,Qn,Qo⟩;unfold getItem;try with_reducible refine B5 ?_
 first|refine A0 (A2 ?_)|skip
 refine A0 (wpAny_sequenceKey ht.typeIs (by decide) ?_);refine A0 (B1 (name:=Str.ofString "__getitem__") ht.typeIs BQ
  (Ah BQ ht.typeIs entry_tuple_getitem ?_ (args_tuple_getitem _ _)))
 show wpAny _ _ (Builtin.Tuple.tupleItemsOf (.ref t)>>=_) _ _ s;refine A0 (tupleItemsOf_ ht ?_);refine A0 (DD hTs ?_);rw[A6 (by decide)];refine A0 (rX hs pl pu ?_);have hyes:(((sIx items.size 0 lo:Nat):Int)==0&&(1:Int)==1&&(sIx items.size items.size hi-sIx items.size 0 lo)==items.size)=true:=by
  rw[hw.1,hw.2];simp
 show wpAny _ _ (if(((sIx items.size 0 lo:Nat):Int)==0&&(1:Int)==1&&(sIx items.size items.size hi-sIx items.size 0 lo)==items.size)=true then _ else _) _ _ s;rw[A6 hyes];unfold Builtin.Tuple.tupleIsExact;refine A0 (A0 (DD ht.typeIs (A2 ?_)));rw[A6 (by decide)];refine A0 (Bv ?_);exact A2 ⟨_,rfl,A2 h⟩
end
end HT
namespace L2
open PySem PySem.Spec PyProof.Rows
variable {n:Nat}{x:V}
section
variable {X:Cx}
inductive rSlA (K:W.Frag) (x:V) (lo:Option Int) (hi:Option Int) (H:Hp) (Q:VK):Prop
 |mk a xs:x= .ref a->SqT K H a xs->(((HT.sIx xs.length 0 lo=0/\HT.sIx xs.length xs.length hi=xs.length)->Q (.ref a) H))->((¬(HT.sIx xs.length 0 lo=0/\HT.sIx xs.length xs.length hi=xs.length)->∀p,H p=none->Q (.ref p) (upd H p (.tup (bT xs lo hi)))))->rSlA K x lo hi H Q
theorem Ge:SlR X (rSlA X.K):=by
 intro Mb s σ H x v vl vu lo hi sl Q I rx hs pl pu h;obtain⟨a,xs,rfl,hx,q1,q2⟩:=h;by_cases hw:HT.sIx xs.length 0 lo=0/\HT.sIx xs.length xs.length hi=xs.length
 .cases rx;obtain⟨Me,r,ht,hz⟩:=I.tuple hx;have Mg:Me.toArray.size=xs.length:=by rw[AG];exact r.length.symm
  refine⟨"tuple",_,BQ.lookup,ht.typeIs, ?_⟩;exact HT.getItem_tuple_all ht hs pl pu (by rw[Mg];exact hw) ⟨.ref a,H,I,rfl,q1 hw⟩
 .exact Dt Mb s σ H _ v vl vu lo hi sl Q I rx hs pl pu ⟨a,xs,rfl,hx,hw,q2 hw⟩
end
open PySem.W
section
variable {X:Cx}{Mb:Rl (Rg×Obj)}{σ:St}{H:Hp}{s:Rf}
def bvs (bs:Rl Bool):Array OO:=(bs.map Value.bool).toArray
def EqT (K:W.Frag) (H:Hp) (n:Nat) (x y:V) (e:Bool):Prop:=∀(X:Cx) (Mb:Rl (Rg×Obj)) (σ:St) (s:Rf),X.K=K->Inv X Mb σ H s->∀(A:Rk) (u v:OO),A.units+n<cLine->av x u->av y v->SeqAt.EqAt A s u v e
theorem EqR.told {K:W.Frag}{y:V}{e:Bool} (h:EqR K H n x y e):EqT K H n x y e:=λX Mb σ s hk I A u v hu ru rv=>by
 subst hk;exact(h.bP I (A:=A) hu ru rv).2.2
def nA (K:W.Frag) (H:Hp) (n:Nat) (xs:Rl V) (x:V) (es:Nat->Bool):Prop:=n<=8/\(∀(j:Nat) z,xs[j]? =some z->(∃a,z= .ref a)/\EqT K H n z x (es j))/\∀(i j:Nat) z,xs[i]? =some z->xs[j]? =some z->es i=es j
open Classical in
theorem uq {xs:Rl V}{es:Nat->Bool}{Me:Rl OO} (t:nA X.K H n xs x es) (r:ap xs Me) {j:Nat}{u:OO} (hu:Me[j]? =some u):fB Me es u=es j:=by
 have same:∀i:Nat,Me[i]? =some u->es i=es j:=λi hi=>by
  have li:=(AF.mp hi).1;have lj:=(AF.mp hu).1;have ln:=r.length;have xi:xs[i]? =some xs[i]:=A3 (by lia);have xj:xs[j]? =some xs[j]:=A3 (by lia);obtain⟨u1,e1,r1⟩:=r.get xi;obtain⟨u2,e2,r2⟩:=r.get xj;rw[hi] at e1;rw[hu] at e2;cases e1;cases e2;obtain⟨⟨a,ea⟩,_⟩:=t.2.1 i _ xi;obtain⟨⟨b,eb⟩,_⟩:=t.2.1 j _ xj;rw[ea] at r1 xi;rw[eb] at r2 xj;obtain rfl:u=Value.ref a:=r1;have:Value.ref a=Value.ref b:=r2;cases this;exact t.2.2 i j _ xi xj
 unfold fB;cases h:es j with
 |true=>exact Ar ⟨j,hu,h⟩
 |false=>exact Aj λ⟨i,hi,e⟩=>by rw[same i hi,h] at e;cases e
inductive rCountD (K:W.Frag) (o:V) (vs:List V) (H:Hp) (Q:VK):Prop
 |mk (p:Addr) (xs:List V) (x:V) (n:Nat) (es:Nat->Bool):o= .ref p->vs=[x]->SqL K H p xs->nA K H n xs x es->Q (.int (((List.range xs.length).countP es:Nat):Int)) H->rCountD K o vs H Q
theorem Gf {k:Nat} (hr:Room k X.A):MtM X "list.count" (rCountD X.K):=by
 intro Mb s σ H o vs v us Q I ro rv h;obtain⟨p,xs,x,n,es,rfl,rfl,hq,t,q⟩:=h;cases ro;obtain⟨u,rfl,ru⟩:=ap.one rv;have hu:=hr.un;have t8:=t.1;obtain⟨Me,r,pl,hz⟩:=I.list hq;have ln:=r.length;obtain⟨⟨cls,dd,data,sl⟩,ho,hc,m,hd⟩:=pl.isList;simp only at hc hd;subst hc hd;have ec:Me.toArray.toList.countP (fB Me es)=(List.range xs.length).countP es:=by
  have e1:Me=(List.range Me.length).map λi=>Me.getD i .none:=by
   refine DA (by simp) λi h1 h2=> ?_;simp[h1]
  have e2:Me.countP (fB Me es)=((List.range Me.length).map λi=>Me.getD i .none).countP (fB Me es):=by rw[<-e1]
  show Me.countP (fB Me es)=_;rw[e2,List.countP_map,ln];refine List.countP_congr λi hi=> ?_;have NN:i<Me.length:=by simpa using hi
  have:fB Me es (Me.getD i .none)=es i:=uq t r (by rw[A',A3 NN];rfl);simp only[Function.comp_apply,this]
 refine Dh F.slot_list_count ⟨_,ho,rfl⟩ F.entry_list_count (F.args_list_count_2 _ _) (SeqAt.list_countAt p Me.toArray m dd sl u (fB Me es)) ⟨ho,λy hy=> ?_, ?_⟩
 .obtain⟨j,hj,e⟩:=DH.mp (by simpa using hy);have ej:Me[j]? =some y:=by rw[A3 hj,e]
  have xj:xs[j]? =some xs[j]:=A3 (by lia);obtain⟨u2,e2,r2⟩:=r.get xj;rw[ej] at e2;cases e2;rw[uq t r ej];exact(t.2.1 j _ xj).2 X Mb σ s rfl I _ _ _ (by rw[cb];lia) r2 ru
 rw[ec];exact⟨.int _,H,I.tok _,⟨_,rfl⟩,q⟩
end
end L2
namespace L2
open PySem PySem.SetTable PySem.Spec PyProof.Rows
variable {Q:Bool->Rf->Prop}{S a b it x:Rg}{ad:Nat->Rg}{ep i m n p slot:Nat}{es:Array (Int×OO)}{h h':Rn}{k:Rl Int}{kk:Nat->Rl Int}{ks:Array (Rl Int)}{o:Obj}{vs:Rl OO}{xs:Array Nat}{xss:Rl (Rl Int)}
def Ris (xs:Array Nat):Prop:=∀i j,i<j->j<xs.size->xs.getD i 0<xs.getD j 0
theorem ur (h:i<xs.size) (a b:Nat):xs.getD i a=xs.getD i b:=by simp[Array.getD,h]
theorem nB {xs:Array Nat}{j:Nat} (r:Ris xs):∀(f lo hi:Nat),hi-lo<=f->lo<=hi->hi<=xs.size->(∀i,i<lo->xs.getD i 0<j)->(∀i,hi<=i->i<xs.size->j<=xs.getD i 0)->
  lo<=below.go xs j f lo hi/\below.go xs j f lo hi<=hi/\(∀i,i<below.go xs j f lo hi->xs.getD i 0<j)/\(∀i,below.go xs j f lo hi<=i->i<xs.size->j<=xs.getD i 0)
 |0,lo,hi,hf,hl,hh,h1,h2=>by
  unfold below.go;have:lo=hi:=by lia
  subst this;exact⟨AB _,AB _,h1,h2⟩
 |f+1,lo,hi,hf,hl,hh,h1,h2=>by
  unfold below.go;by_cases c:lo<hi
  .rw [A6 c];dsimp only;have hm:(lo+hi)/2<xs.size:=by lia
   by_cases c2:xs.getD ((lo+hi)/2) j<j
   .rw [A6 c2];rw[ur hm j 0] at c2;obtain⟨a,b,c,d⟩:=nB r f ((lo+hi)/2+1) hi (by lia) (by lia) hh (λi NN=>by
     by_cases e:i=(lo+hi)/2
     .rw [e];exact c2
     .exact Nat.lt_trans (r i _ (by lia) hm) c2) h2
    exact⟨by lia,b,c,d⟩
   .rw [A5 c2];rw[ur hm j 0] at c2;obtain⟨a,b,c,d⟩:=nB r f lo ((lo+hi)/2) (by lia) (by lia) (by lia) h1 (λi h3 h4=>by
     by_cases e:i=(lo+hi)/2
     .rw [e];lia
     .have:=r ((lo+hi)/2) i (by lia) h4;lia)
    exact⟨a,by lia,c,d⟩
  .rw [A5 c];have:lo=hi:=by lia
   subst this;exact⟨AB _,AB _,h1,h2⟩
theorem Gg (r:Ris xs) (j:Nat):below xs j<=xs.size/\(∀i,i<below xs j->xs.getD i 0<j)/\(∀i,below xs j<=i->i<xs.size->j<=xs.getD i 0):=by
 obtain⟨_,b,c,d⟩:=nB (j:=j) r xs.size 0 xs.size (by lia) (AO _) (AB _) (λi h=>absurd h (by lia)) (λi h1 h2=>by lia);exact⟨b,c,d⟩
def hAt (es:Array (Int×OO)) (i:Nat):Int:=(es[i]?.map (·.1)).getD 0
structure Tb (t:SetTable) (es:Array (Int×OO)):Prop where
 size:t.place.size=es.size
 dum:t.dummies= #[]
 ris:Ris t.place
 few:es.size<64
theorem ut {α:Type}{xs:Array α}{a:α} (h:xs[i]? =some a):i<xs.size:=by
 rcases Bd i xs.size with c|c
 .exact c
 .rw [BO c] at h;exact nomatch h
theorem kL {t:SetTable} (b:Tb t es) (hs:es.size<=t.mask):t.fits es.size=true:=by
 have h1:t.fill<=t.mask:=by
  unfold SetTable.fill;rw[b.dum,b.size];exact hs
 unfold SetTable.fits;rw[b.size,Ar h1];simp
def hK (k:Rl Int):Int:=reduceHash (Builtin.Tuple.tupleHashOf (k.map hashInt))
def okT (t:SetTable) (n:Nat):Bool:=t.fits n&& !t.gaveWay&&t.plain
def srE (t:SetTable) (ks:Array (Rl Int)) (k:Rl Int):Nat->Probe->Rp (Rp Nat)
 |0,_=>none
 |f+1,p=>match t.probe (λi=>(ks[i]?.map hK).getD 0) (hK k) p with
  |some (.empty j none)=>some (some j)
  |some (.candidate j i next)=>match ks[i]? with
   |some k'=>if k'=k then some none else if t.slot j= .live i then srE t ks k f next else none
   |none=>none
  |_=>none
abbrev Ks:=SetTable×Array (Rl Int)
variable {y:Ks}
def reE (t:SetTable) (ks:Array (Rl Int)):Rp Ks:=(t.relaid (ks.map hK) (grown ks.size)).bind λr=>
 if(r.2.filterMap (ks[·]?)).size=ks.size/\sizeAbove (grown ks.size)<=4096 then some (r.1,r.2.filterMap (ks[·]?)) else none
def puE (t:SetTable) (ks:Array (Rl Int)) (k:Rl Int) (j:Nat):Rp Ks:=
 if(t.put j).2<=ks.size/\ks.size<64/\okT (t.put j).1 (ks.size+1)=true then
  if(t.put j).1.tooFull=true then reE (t.put j).1 (insertAt ks (t.put j).2 k) else some ((t.put j).1,insertAt ks (t.put j).2 k)
 else none
def adE (x:Ks) (k:Rl Int):Rp Ks:=if okT x.1 x.2.size=true then(srE x.1 x.2 k 300 (x.1.probeStart (hK k))).bind λr=>match r with
  |none=>some x
  |some j=>puE x.1 x.2 k j
 else none
def stE (x:Ks):Rl (Rl Int)->Rp Ks
 |[]=>some x
 |k::r=>(adE x k).bind λy=>stE y r
theorem uu {x y:Ks}:∀{l:Rl (Rl Int)}{i:Nat}{k:Rl Int},stE x (l.take i)=some y->l[i]? =some k->stE x (l.take (i+1))=adE y k
 |[],i,k,_,h=>by simp at h
 |a::l,0,k,h,hk=>by
  cases hk;cases h;show(adE x a).bind (λy=>stE y [])=_;cases adE x a<;>rfl
 |a::l,i+1,k,h,hk=>by
  rw[BP,stE] at h⊢;obtain⟨z,hz,h⟩:=A9.mp h;rw[hz,Option.bind_some];exact uu (l:=l) h hk
theorem uv {x y:Ks}:∀{l:Rl (Rl Int)},stE x l=some y->∀i,∃z,stE x (l.take i)=some z
 |[],_,i=>⟨x,by simp[stE]⟩
 |a::l,h,0=>⟨x,rfl⟩
 |a::l,h,i+1=>by
  rw[stE] at h;obtain⟨z,hz,h⟩:=A9.mp h;obtain⟨u,hu⟩:=uv (l:=l) h i;exact⟨u,by rw[BP,stE,hz];exact hu⟩
structure EsK (kk:Nat->Rl Int) (ad:Nat->Rg) (n:Nat) (es:Array (Int×OO)) (ks:Array (Rl Int)):Prop where
 size:es.size=ks.size
 bP:∀(i:Nat) (k:List Int),ks[i]? =some k->∃j,j<n/\kk j=k/\es[i]? =some (hK k, .ref (ad j))
theorem EsK.hash (e:EsK kk ad n es ks):hAt es=λi=>(ks[i]?.map hK).getD 0:=by
 funext i
 unfold hAt;cases h:ks[i]? with
 |none=>
  have:es[i]? =none:=by rw[C6,e.size,<-C6];exact h
  rw[this];rfl
 |some k=>
  obtain⟨j,_,_,h2⟩:=e.bP i k h;rw[h2];rfl
theorem EsK.of (e:EsK kk ad n es ks) {v:Int×OO} (h:es[i]? =some v):∃j,j<n/\ks[i]? =some (kk j)/\v=(hK (kk j), .ref (ad j)):=by
 have hi:i<ks.size:=by rw[<-e.size];exact ut h
 obtain⟨j,h1,h2,h3⟩:=e.bP i _ (Ab hi);rw[h] at h3;cases h3;exact⟨j,h1,by rw[Ab hi,h2],by rw[h2]⟩
def EsK.mono (e:EsK kk ad n es ks) (h:n<=m):EsK kk ad m es ks:=⟨e.size,λi k hk=>let ⟨j,h1,h2⟩:=e.bP i k hk;⟨j,Ao h1 h,h2⟩⟩
theorem uw {α:Type}{xs:Array α}(hp:p<=xs.size) (x:α) (i:Nat):(insertAt xs p x)[i]? =if i<p then xs[i]? else if i=p then some x else xs[i-1]? :=by
 unfold insertAt;have s1:(xs.extract 0 p).size=p:=by simp;lia
 have s2:((xs.extract 0 p).push x).size=p+1:=by simp;lia
 by_cases h1:i<p
 .rw [A6 h1,Array.getElem?_append_left (by rw[s2];lia),Array.getElem?_push,A5 (by rw[s1];lia)];simp[Array.getElem?_extract];lia
 .rw [A5 h1];by_cases h2:i=p
  .rw [A6 h2,Array.getElem?_append_left (by rw[s2];lia),Array.getElem?_push,A6 (by rw[s1];exact h2)]
  .rw [A5 h2,Array.getElem?_append_right (by rw[s2];lia),s2];simp only[Array.getElem?_extract];by_cases h3:i-(p+1)<xs.size-p
   .rw [A6 (by lia)];congr 1
    lia
   .rw [A5 (by lia)];symm;rw[C6];lia
theorem nC {α:Type}{xs:Array α}(hp:p<=xs.size) (x:α):(insertAt xs p x).size=xs.size+1:=by
 unfold insertAt;simp;lia
section
variable {prog:Rh}{w:Rj}{A:Rk}{E:OO->Rf->Prop}{s:Rf}
theorem ux (h:ItemsAre (intKind prog w) k vs):∀v∈vs,∃n t,v= .int n t:=by
 induction h with
 |nil=>intro v hv;simp at hv
 | @cons k v' ks vs h1 _ ih=>
  intro v hv;rcases AJ.mp hv with rfl|hv
  .cases v with
   |int n t=>exact⟨n,t,rfl⟩
   |_=>exact absurd h1 (by simp[intKind,Value.isInt])
  .exact ih v hv
theorem uy (hx:IsTupleKey (intKind prog w) s.heap k x) (h:Q false s):
  wpAny (model prog w) A (ofAClassStatement 8 (.ref x)) Q E s:=by
 have hT:=hx.typeIs;obtain⟨o,items,n,ho,hc,hd,hi⟩:=hx;unfold ofAClassStatement;refine A0 (DD hT ?_);show wpAny _ _ ((if("tuple"=="tuple")=true then pure true else isSubtype (.type "tuple") (.type "tuple"))>>=_) _ _ s;refine A0 (A2 ?_);simp only[B8,AI,An];refine A0 (BV ho hd ?_);refine A0 ?_;show wpAny _ _ (forIn items _ _) _ _ s;rw[<-C7];refine BZ _ (λaJ r s'=>r.1=none/\s'=s/\∀v∈aJ,∃n t,v=Value.int n t) _ ?_ ?_ _ _ ⟨rfl,rfl,ux hi⟩
 .rintro v aJ r s' ⟨hr,rfl,MC⟩;obtain⟨n,t,rfl⟩:=MC v AD;refine A0 (DZ (show ofAClassStatement 7 (.int n t)=pure false from by unfold ofAClassStatement;rfl) (A2 ?_));simp only[AI,An];exact⟨trivial,trivial,λu QC=>MC u (AK _ QC)⟩
 .rintro⟨r1,r2⟩ s' ⟨hr,rfl,_⟩;simp only at hr;subst hr;exact A2 h
theorem Gh (hx:IsTupleKey (intKind prog w) s.heap k x) (ys:Rl OO)
  (hy:∀y∈ys,∃b j,y= .ref b/\IsTupleKey (intKind prog w) s.heap j b) (h:Q false s):
  wpAny (model prog w) A (searchCouldBeSeen (.ref x) ys) Q E s:=by
 unfold searchCouldBeSeen;refine A0 ?_;refine BZ _ (λaJ r s'=>r.1=none/\s'=s/\∀v∈aJ,∃b j,v=Value.ref b/\IsTupleKey (intKind prog w) s.heap j b) _ ?_ ?_ _ _ ⟨rfl,rfl,hy⟩
 .rintro v aJ r s' ⟨hr,rfl,MC⟩;obtain⟨b,j,rfl,hj⟩:=MC v AD;have P7:∀u∈aJ,∃b j,u=Value.ref b/\IsTupleKey (intKind prog w) s'.heap j b:=λu QC=>MC u (AK _ QC);dsimp only;split
  .exact A2 ⟨rfl,rfl,P7⟩
  .refine A0 (wpAny_eqIsQuiet_tuple hx ?_);simp only[B8,AI,An];refine A0 (wpAny_eqIsQuiet_tuple hj ?_);simp only[B8,AI,An];refine A0 (uy hx ?_);simp only[AI,An];refine A0 (uy hj ?_);simp only[AI,An];exact A2 ⟨rfl,rfl,P7⟩
 .rintro⟨r1,r2⟩ s' ⟨hr,rfl,_⟩;simp only at hr;subst hr;exact A2 h
def Gi (a:Addr) (x:Value) (h:Int) (MT:Bool) (fuel:Nat) (Nd:Option Probe):setSearchFrom a x h MT (fuel+1) Nd=(do
  let (es,_,t)<-setState a
  if t.gaveWay then unsupported "set:on-a-table-that-gave-way"
  let some met:=t.probe (hAt es) h (Nd.getD (t.probeStart h))|unsupported "internal:set-table-without-an-empty-slot"
  match met with
  | .empty j dummy=>
   match dummy with
   |none=>return .free j false
   |some d=>
    if MT&&t.slot d != .dummy then rule "set.search.the-dummy-was-taken";return<-setSearchFrom a x h MT fuel none
    return .free d true
  | .candidate j i next=>
   if !t.led then
    if<-searchCouldBeSeen x ((es.filter (·.1==h)).toList.map (·.2)) then unsupported "set:the-search-would-show-the-table"
   let some (_,y):=es[i]? |unsupported "internal:set-entry"
   let NZ<-holding [y] (eqBool y x)
   let (ML,_,t')<-setState a
   if MT&&NZ then return .there none
   let some same:=t'.sameMemory t.moves t.mask|unsupported "set.changed-during-lookup:is-the-new-block-at-the-old-address"
   let OQ<-match(if same then t'.slot j else .empty) with
    | .live i'=>match ML[i']? with
     |some (_,y')=>do pure (if<-isSame y' y then some i' else none)
     |none=>pure none
    |_=>pure none
   match OQ with
   |none=>rule "set.search.anew";setSearchFrom a x h MT fuel none
   |some i'=>if NZ then return .there (some i') else setSearchFrom a x h MT fuel (some next)):=rfl
theorem uz {a:Addr}{o:Obj}{es:Array (Int×Value)}{ks:Array (List Int)}{ep:Nat}{t:SetTable}{kk:Nat->List Int}{ad:Nat->Addr}{n:Nat} (ho:s.heap.get? a=some o) (hd:o.data= .set es ep t) (hf:t.fits es.size=true) (hw:t.gaveWay=false)
  (hu:A.units<cLine) (ek:EsK kk ad n es ks) (hkk:∀j,j<n->IsTupleKey (intKind prog w) s.heap (kk j) (ad j)) {k:List Int}{x:Addr} (hx:IsTupleKey (intKind prog w) s.heap k x) {Q:SetFound->Shared->Prop}{r:Option Nat}
  (hQ:Q (match r with|none=> .there none|some j=> .free j false) s):
  ∀(m fuel:Nat) (Nd:Option Probe),srE t ks k m (Nd.getD (t.probeStart (hK k)))=some r->m<=fuel->
   wpAny (model prog w) A (setSearchFrom a (.ref x) (hK k) true fuel Nd) Q E s
 |0,_,_,h,_=>nomatch h
 |m+1,0,_,_,h=>absurd h (by lia)
 |m+1,fuel+1,Nd,h,hm=>by
  rw[Gi];refine A0 (BR ho hd hf ?_);dsimp only;rw[hw];simp only[AI,An];rw[srE] at h;rw[ek.hash];generalize hp:t.probe (λi=>(ks[i]?.map hK).getD 0) (hK k) (Nd.getD (t.probeStart (hK k)))=met at h⊢
  match met,h with
  |some (.empty j none),h=>
   cases h;exact A2 hQ
  |some (.candidate j i next),h=>
   dsimp only at h⊢;cases hk:ks[i]? with
   |none=>rw[hk] at h;cases h
   |some k'=>
    rw[hk] at h;dsimp only at h;obtain⟨jj,j1,rfl,ey⟩:=ek.bP i k' hk;have hy:=hkk jj j1;have hSeen:∀y∈(es.filter (λe=>e.1==hK k)).toList.map (·.2),∃b j,y=Value.ref b/\IsTupleKey (intKind prog w) s.heap j b:=by
     intro y hy;obtain⟨e,he,rfl⟩:=Ac.mp hy;have Pu:e∈es:=(Array.mem_filter.mp (Array.mem_toList_iff.mp he)).1;obtain⟨i,hi,ei⟩:=Array.mem_iff_getElem.mp Pu;obtain⟨q,q1,_,q3⟩:=ek.of (Ab hi);rw[ei] at q3;subst q3;exact⟨_,_,rfl,hkk q q1⟩
    have P8:wpAny (model prog w) A (do
      let some (_,y):=es[i]? |unsupported "internal:set-entry"
      let NZ<-holding [y] (eqBool y (.ref x))
      let (ML,_,t')<-setState a
      if true&&NZ then return SetFound.there none
      let some same:=t'.sameMemory t.moves t.mask|unsupported "set.changed-during-lookup:is-the-new-block-at-the-old-address"
      let OQ<-match(if same then t'.slot j else .empty) with
       | .live i'=>match ML[i']? with
        |some (_,y')=>do pure (if<-isSame y' y then some i' else none)
        |none=>pure none
       |_=>pure none
      match OQ with
      |none=>rule "set.search.anew";setSearchFrom a (.ref x) (hK k) true fuel none
      |some i'=>if NZ then return SetFound.there (some i') else setSearchFrom a (.ref x) (hK k) true fuel (some next)) Q E s:=by
     rw[ey];dsimp only;refine A0 (B5 (wpAny_eqBool_tuple hu hy hx ?_));refine A0 (BR ho hd hf ?_);dsimp only;by_cases NG:kk jj=k
     .rw [A6 NG] at h;cases h;rw[Ar NG];simp only[Bool.true_and,C8];exact A2 hQ
     .rw [A5 NG] at h;rw[Aj NG];simp only[Cd,AI,An];have hsm:t.sameMemory t.moves t.mask=some true:=by unfold SetTable.sameMemory;simp
      rw[hsm];dsimp only;by_cases hs:t.slot j= .live i
      .rw [A6 hs] at h;rw[A6 rfl,hs];dsimp only;rw[ey];dsimp only;refine A0 ?_;refine wpAny_isSame_ref_self ?_;simp only[C8];exact uz ho hd hf hw hu ek hkk hx hQ m fuel (some next) h (by lia)
      .rw [A5 hs] at h;cases h
    cases hl:t.led with
    |true=>simpa only[B8,AI,An] using P8
    |false=>
     simp only[Cc,C8];refine A0 (Gh hx _ hSeen ?_);simp only[AI,An];exact P8
theorem uA {es:Array (Int×OO)}{ep:Nat}{t:SetTable} (ho:h.get? a=some {cls:= .type "set",dict:=none,data:= .set es ep t}) (ML:Array (Int×OO)) (t':SetTable):
  (h.update a (Obj.putSet ML t')).get? a=some {cls:= .type "set",dict:=none,data:= .set ML (ep+1) t'}:=by
 have:=Bu (Obj.putSet ML t') ho (by rw[putSet_of ML t' rfl];rfl);rw[putSet_of ML t' rfl] at this;exact this
theorem Gj (hx:IsTupleKey (intKind prog w) s.heap k x) (h:Q true s):
  wpAny (model prog w) A (hashByValue 8 (.ref x)) Q E s:=by
 have hT:=hx.typeIs;obtain⟨o,items,n,ho,hc,hd,hi⟩:=hx;unfold hashByValue;refine A0 (BW hT Bq.lookup ?_);dsimp only;refine A0 (BV ho hd ?_);refine A0 ?_;show wpAny _ _ (forIn items _ _) _ _ s;rw[<-C7];refine BZ _ (λaJ r s'=>r.1=none/\s'=s/\∀v∈aJ,∃n t,v=Value.int n t) _ ?_ ?_ _ _ ⟨rfl,rfl,ux hi⟩
 .rintro v aJ r s' ⟨hr,rfl,MC⟩;obtain⟨n,t,rfl⟩:=MC v AD;refine A0 (DZ (show hashByValue 7 (.int n t)=pure true from by unfold hashByValue;rfl) (A2 ?_));simp only[B8,AI,An];exact⟨trivial,trivial,λu QC=>MC u (AK _ QC)⟩
 .rintro⟨r1,r2⟩ s' ⟨hr,rfl,_⟩;simp only at hr;subst hr;exact A2 h
def Gk (a:Addr) (N9:Nat):setRelay a N9=(do
  let (es,_,t)<-setState a
  if SetTable.sizeAbove N9>sizeLine then unsupported "set:memory"
  let (es,t)<-(do
   let some (t,order):=t.relaid (es.map (·.1)) N9|unsupported "internal:set-table-without-room"
   let ML:=order.filterMap (es[·]?)
   if ML.size !=es.size then unsupported "internal:set-table-lost-an-element"
   pure (ML,t):Sem (Array (Int×Value)×SetTable))
  storeSet a es t):=rfl
def ee (h:Rn) (S:Rg) (t:SetTable) (es:Array (Int×OO)):Prop:=∃ep,h.get? S=some {cls:= .type "set",dict:=none,data:= .set es ep t}
theorem EsK.ins {kk:Nat->Rl Int}{ad:Nat->Rg}{n:Nat}{es:Array (Int×OO)}{ks:Array (Rl Int)} (e:EsK kk ad n es ks) {p:Nat} (hp:p<=ks.size):EsK kk ad (n+1) (insertAt es p (hK (kk n), .ref (ad n))) (insertAt ks p (kk n)):=by
 have M4:p<=es.size:=by rw[e.size];exact hp
 refine⟨by rw[nC M4,nC hp,e.size],λi k h=> ?_⟩;rw[uw hp] at h;rw[uw M4];have NA:∀i,ks[i]? =some k->∃j,j<n+1/\kk j=k/\es[i]? =some (hK k,Value.ref (ad j)):=λi h=>let ⟨j,h1,h2⟩:=e.bP i k h;⟨j,by lia,h2⟩;split at h
 .rename_i c;rw[A6 c];exact NA _ h
 .rename_i c;rw[A5 c];split at h
  .rename_i c2;rw[A6 c2];cases h;exact⟨n,by lia,rfl,rfl⟩
  .rename_i c2;rw[A5 c2];exact NA _ h
theorem uB {α β:Type}{xs:Array α}{ys:Array β} (e:xs.size=ys.size):∀(l:Rl Nat),(l.filterMap (xs[·]?)).length=(l.filterMap (ys[·]?)).length/\∀(i:Nat) (v:β),(l.filterMap (ys[·]?))[i]? =some v->∃q:Nat,ys[q]? =some v/\(l.filterMap (xs[·]?))[i]? =xs[q]?
 |[]=>⟨rfl,λi v h=>by simp at h⟩
 |q::l=>by
  obtain⟨h1,h2⟩:=uB e l;rw[Ci,Ci];rcases Bd q xs.size with c|c
  .rw [Ab c,Ab (by lia:q<ys.size)];refine⟨by simp only[Ad];lia,λi v h=> ?_⟩;cases i with
   |zero=>exact⟨q,by rw[Ab (by lia:q<ys.size)];simpa using h,by rw[Ab c];rfl⟩
   |succ i=>exact h2 i v (by simpa using h)
  .rw [BO c,BO (by lia)];exact⟨h1,h2⟩
theorem EsK.re (e:EsK kk ad n es ks) (od:Array Nat):EsK kk ad n (od.filterMap (es[·]?)) (od.filterMap (ks[·]?)):=by
 obtain⟨h1,h2⟩:=uB e.size od.toList;rw[<-Array.toList_filterMap,<-Array.toList_filterMap] at h1;refine⟨by rw[<-B4,<-B4];exact h1,λi k h=> ?_⟩;rw[<-Bb,Array.toList_filterMap] at h⊢;obtain⟨q,q1,q2⟩:=h2 i k h;rw[q2];exact e.bP q k q1
theorem Gm {t:SetTable}(hS:ee s.heap S t es) (ek:EsK kk ad n es ks)
  (hkk:∀j,j<n+1->IsTupleKey (intKind prog w) s.heap (kk j) (ad j)) (hu:A.units<cLine) (h:adE (t,ks) (kk n)=some y) 
  (k:∀b h' ML,Heap.SameBut S s.heap h'->ee h' S y.1 ML->EsK kk ad (n+1) ML y.2->Q b {s with heap:=h'}):
  wpAny (model prog w) A (setAddHashed S (.ref (ad n)) (hK (kk n))) Q E s:=by
 have hS0:=hS;obtain⟨ep,ho⟩:=hS;have hx:=hkk n (by lia);unfold adE at h;split at h
 .rename_i hok;unfold okT at hok;simp only[AA,Bool.not_eq_true'] at hok;obtain⟨⟨hf,hw⟩,hp⟩:=hok;have hf:t.fits es.size=true:=by rw[ek.size];exact hf
  obtain⟨r,hr,h⟩:=A9.mp h;unfold setAddHashed setAddHashedIn;refine B5 (A0 (BR ho rfl hf ?_));dsimp only;have hsc:byScan (.ref (ad n)) es=false:=by unfold byScan;rfl
  rw[hsc];simp only[AI,An];unfold setSearch;refine A0 (uz ho rfl hf hw hu ek (λj hj=>hkk j (by lia)) hx (r:=r) ?_ 300 100000 none hr (by lia));cases r with
  |none=>
   cases h;exact A2 (k false s.heap es (Heap.SameBut.refl _ _) hS0 (ek.mono (by lia)))
  |some j=>
   dsimp only at h⊢;unfold puE at h;split at h
   .rename_i c;obtain⟨c1,c2,c3⟩:=c;unfold okT at c3;simp only[AA,Bool.not_eq_true'] at c3;obtain⟨⟨f1,w1⟩,p1⟩:=c3;refine A0 (BR ho rfl hf ?_);dsimp only;generalize t.put j=tp at c1 f1 w1 p1 h⊢;obtain⟨t1,p⟩:=tp;dsimp only at c1 f1 w1 p1 h⊢;rw[A6 p1];refine A0 (Gj hx ?_);simp only[C8];have QD:=ek.ins c1;have z1:(insertAt es p (hK (kk n),Value.ref (ad n))).size=es.size+1:=nC (by rw[ek.size];exact c1) _;have e64:es.size<64:=by rw[ek.size];exact c2
    have hsl:sizeLine>=4096:=by rw[Av];decide
    have f1':t1.fits (insertAt es p (hK (kk n),Value.ref (ad n))).size=true:=by rw[z1,ek.size];exact f1
    refine A0 (wpAny_storeSet_of ho rfl ?_ (by rw[z1];lia));have MO:=uA ho (insertAt es p (hK (kk n),Value.ref (ad n))) t1;have sb1:=BF s.heap S (Obj.putSet (insertAt es p (hK (kk n),Value.ref (ad n))) t1);generalize s.heap.update S (Obj.putSet (insertAt es p (hK (kk n),Value.ref (ad n))) t1)=h1 at MO sb1⊢;rw[<-z1];generalize insertAt es p (hK (kk n),Value.ref (ad n))=es1 at QD f1' MO z1⊢;generalize insertAt ks p (kk n)=ks1 at QD h;cases full:t1.tooFull with
    |true=>
     rw[full,A6 rfl] at h;simp only[Cc,Bool.and_self,C8];unfold reE at h;obtain⟨q,hq,h⟩:=A9.mp h;split at h
     .rename_i c4;cases h;have eh:es1.map (·.1)=ks1.map hK:=by
       refine Array.ext_getElem? λi=> ?_;rw[Array.getElem?_map,Array.getElem?_map];cases e:ks1[i]? with
       |none=>
        have:es1[i]? =none:=by rw[C6,QD.size,<-C6];exact e
        rw[this];rfl
       |some k0=>
        obtain⟨_,_,_,e2⟩:=QD.bP i k0 e;rw[e2];rfl
      rw[Gk];refine A0 ?_;refine A0 (BR (s:={s with heap:=h1}) MO rfl f1' ?_);dsimp only;have zk:es1.size=ks1.size:=QD.size;rw[A5 (by rw[zk];lia),eh,zk,hq];dsimp only;have ek2:=QD.re q.2;rw[show((q.2.filterMap (es1[·]?)).size !=ks1.size)=false from by rw[ek2.size,c4.1];simp];simp only[AI,An];refine A0 (A2 ?_);refine wpAny_storeSet_of (s:={s with heap:=h1}) MO rfl ?_ (by rw[ek2.size,c4.1,<-zk,z1];lia);have M9:=uA MO (q.2.filterMap (es1[·]?)) q.1;have P9:=BF h1 S (Obj.putSet (q.2.filterMap (es1[·]?)) q.1);generalize h1.update S _=h2 at M9 P9⊢;exact A2 (k true h2 _ (sb1.trans P9) ⟨_,M9⟩ ek2)
     .cases h
    |false=>
     rw[full,A5 (by simp)] at h;cases h;simp only[Cc,Cd,AI,An];exact A2 (k true h1 _ sb1 ⟨_,MO⟩ QD)
   .cases h
 .cases h
theorem ee.mv {t:SetTable}(a:ee h S t es) (e:∀o,h.get? S=some o->h'.get? S=some o):ee h' S t es:=by obtain⟨ep,ho⟩:=a;exact⟨ep,e _ ho⟩
theorem nD (q:IsTupleKey (intKind prog w) h k x) (e:∀o,h.get? x=some o->h'.get? x=some o):IsTupleKey (intKind prog w) h' k x:=by
 obtain⟨o,items,n,ho,r⟩:=q;exact⟨o,items,n,e _ ho,r⟩
theorem Gn {R:Result->Rf->Prop}{I:Rg}{fp wr:Rl Rg}{G:Array GenState->Array GenState->Prop}{P:Nat->OO->Prop}{St:Nat->Rf->Prop}
  (Wq:WalksS prog w A.in1 I fp wr G n P St) (S:Rg) (hSf:S∉fp) (hu:A.in1.units<cLine)
  (kk:Nat->Rl Int) (ad:Nat->Rg) (hval:∀i v,P i v->v= .ref (ad i)) (hwr:∀i,i<n->ad i∉wr) {x0:Ks}{l:Rl (Rl Int)} (hlk:∀i,i<n->l[i]? =some (kk i)) (hse:∀i,∃y,stE x0 (l.take i)=some y):
  ∀(k i:Nat) (s:Rf) (es:Array (Int×OO)) (y:Ks),n-i=k->i<=n->St i s->ee s.heap S y.1 es->EsK kk ad i es y.2->stE x0 (l.take i)=some y->(∀j,j<n->IsTupleKey (intKind prog w) s.heap (kk j) (ad j))->
   (∀s' ML y',Moved (S::wr) G s s'->ee s'.heap S y'.1 ML->EsK kk ad n ML y'.2->stE x0 (l.take n)=some y'->R (.ok (.ret .none)) s')->
   codeAny (model prog w) A (.builtin "set.update.loop" ⟨[.ref S, .ref I],[]⟩) R s:=by
 have hSw:S∉wr:=λh=>hSf (Wq.sub _ h);have Ow:∀b∈wr,b∈S::wr:=λb hb=>AK _ hb;intro k;induction k with
 |zero=>
  intro i s es y hk hi NQ hS ek hy hkk hR;have NH:i=n:=by lia
  subst NH;refine CH F.entry_set_update_loop ?_;rw[C1 F.plain_set_update_loop _];show wpAny _ A.in1 (pyNext (.ref I)>>=_) _ _ s;refine A0 (Wq.done s _ _ NQ λs' hm=> ?_);show wpAny _ A.in1 (ret Value.none) _ _ s';exact A2 (hR s' es y (hm.mono Ow) (hS.mv λo e=>hm.heap S o hSw e) ek hy)
 |succ k ih=>
  intro i s es y hk hi NQ hS ek hy hkk hR;have Mh:i<n:=by lia
  refine CH F.entry_set_update_loop ?_;rw[C1 F.plain_set_update_loop _];show wpAny _ A.in1 (pyNext (.ref I)>>=_) _ _ s;refine A0 (Wq.item i s _ _ Mh NQ λv s' hP hst' hm=> ?_);obtain rfl:=hval i v hP;have OM:ee s'.heap S y.1 es:=hS.mv λo e=>hm.heap S o hSw e;have NG:∀j,j<n->IsTupleKey (intKind prog w) s'.heap (kk j) (ad j):=λj hj=>nD (hkk j hj) λo e=>hm.heap _ o (hwr j hj) e;obtain⟨y2,hy2⟩:=hse (i+1);have OR:=hy2;rw[uu hy (hlk i Mh)] at OR;show wpAny _ A.in1 (holding [Value.ref (ad i)] (setAdd S (.ref (ad i)))>>=_) _ _ s';refine A0 (B5 ?_);unfold setAdd;refine B5 ?_;refine A0 (wpAny_pyHash_tuple hu (NG i Mh) ?_);refine Gm (s:={s' with toks:=s'.toks+((kk i).length+1)}) OM ek (λj hj=>NG j (by lia)) hu (y:=y2) OR λb h' ML hsb Qw ek2=> ?_;have hkS:∀j,j<n->ad j≠S:=by
   intro j hj e;obtain⟨o,items,m,ho,_,hd,_⟩:=NG j hj;obtain⟨ep,MZ⟩:=OM;rw[e,MZ,Option.some.injEq] at ho;subst ho;exact nomatch hd
  refine A2 ⟨Cw F.plain_set_update_loop _,ih (i+1) _ ML y2 (by lia) Mh (Wq.frame _ s' _ _ hst' (Nat.le_add_right _ _) λb hb o e=> ?_) Qw ek2 hy2 (λj hj=>nD (NG j hj) λo e=> ?_) λs'' es'' Ph hm'' hS'' ek'' N'=> ?_⟩
  .rw [hsb.2 b (λh:b=S=>hSf (by rw[<-h];exact hb))];exact e
  .show h'.get? _=_;rw[hsb.2 _ (hkS j hj)];exact e
  .refine hR s'' es'' Ph (Moved.trans Wq.gtrans ((hm.mono Ow).then_heap (Nat.le_add_right _ _) λb o hb e=> ?_) hm'') hS'' ek'' N';rw[hsb.2 b (λh:b=S=>hb (by rw[h];exact AD))];exact e
theorem Go (a:OO) {Q₁:OO->Rf->Prop}
  (h:Q₁ (.ref s.heap.objs.size) {s with heap:=s.heap.push {cls:= .type "set",dict:=none,data:= .set #[] 0 (.fresh 0 0 (!w.params.followText "set-order"))}}):
  codeAny (model prog w) A (.call (.builtin "set.__new__") ⟨[.type "set",a],[]⟩) (wants Q₁ E) s:=by
 refine codeAny_of_tree ?_;show wpAny _ A.in1 (do checkBuiltinCall "set.__new__" ⟨[.type "set",a],[]⟩;again (.builtin "set.__new__" ⟨[.type "set",a],[]⟩)) _ _ s;refine A0 (DZ (F.newCall_set_1 a) (A2 ⟨Cw F.plain_set_new _,CH F.entry_set_new ?_⟩));rw[C1 F.plain_set_new _];unfold Builtin.«set.__new__» Builtin.Frozenset.newClass;have Ow:=sub_set_self;obtain⟨hp,g,d,tk,os⟩:=s;dsimp only
 wp_walk
 refine DV (A2 ?_);dsimp only;simp only[newObj];refine A0 (wpAny_alloc (A2 ?_));exact A2 h
set_option maxHeartbeats 3200000 in
theorem Gp {l:Rg}{items:Array OO}{Q:OO->Rf->Prop}
  (hh:A.handled=none) (hu:A.units+8<cLine) (hl:s.heap.IsList l items) {xs:Rl (Rl Int)} (hxs:∀i,i<items.size->xs[i]? =some (kk i)) (hxl:xs.length=items.size) (NQ:stE (.fresh 0 0 (!w.params.followText "set-order"), #[]) xs=some y)
  (hk:∀i,i<items.size->items[i]? =some (.ref (ad i))/\IsTupleKey (intKind prog w) s.heap (kk i) (ad i))
  (h:∀(h':Rn) (tk:Nat) (es:Array (Int×OO)),ee h' s.heap.objs.size y.1 es->EsK kk ad items.size es y.2->
   (∀b o,b<s.heap.objs.size->s.heap.get? b=some o->h'.get? b=some o)->Q (.ref s.heap.objs.size) {s with heap:=h',toks:=tk}):
  wpAny (model prog w) A (call (.type "set") [.ref l]) Q E s:=by
 obtain⟨c,tl,hmro⟩:=Cs.mro;have hmade:=Cs.made;have Ow:=Cs.sub;refine wpAny_call (codeAny_of_tree ?_);show wpAny _ _ (callAny (.type "set") _) _ _ _;refine A2 ⟨Code.quiet_builtin _ (by ac_nf),CH F.entry_type_call ?_⟩;rw[Around.under_plain (weight_type_call_type "set" [.ref l] []) rfl];have h1:=Cs.notType;have h2:=Cs.canCreate;have hct:=F.typeCall_set_1 (.ref l)
 repeat (any_goals (first|assumption|wp_step))
 refine codeAny_mono (Go (.ref l) (E:=E) (Q₁:=λobj s₁=>obj= .ref s.heap.objs.size/\s₁={s with heap:=s.heap.push {cls:= .type "set",dict:=none,data:= .set #[] 0 (.fresh 0 0 (!w.params.followText "set-order"))}}) ⟨rfl,rfl⟩) λr s₁ hr=> ?_;generalize (!w.params.followText "set-order")=led at NQ hr;cases r with
 |error e=>exact hr
 |ok fl=>
  cases fl with
  |ret obj=>
   obtain⟨rfl,rfl⟩:=hr;have hS:(s.heap.push {cls:= .type "set",dict:=none,data:= .set #[] 0 (.fresh 0 0 led)}).get? s.heap.objs.size=some {cls:= .type "set",dict:=none,data:= .set #[] 0 (.fresh 0 0 led)}:=AH _ rfl;have hT:Shared.TypeIs {s with heap:=s.heap.push {cls:= .type "set",dict:=none,data:= .set #[] 0 (.fresh 0 0 led)}} (.ref s.heap.objs.size) "set":=⟨_,hS,rfl⟩;have MP:=Cs.init.lookup;have hbi:=Cs.init.bind (.ref s.heap.objs.size)
   repeat (any_goals (first|assumption|wp_step))
   refine codeAny_mono (codeAny_call_builtin (R:=wants (λr s₂=>r= .none/\∃h' tk es,s₂={s with heap:=h',toks:=tk}/\
     ee h' s.heap.objs.size y.1 es/\EsK kk ad items.size es y.2/\
     (∀b o,b<s.heap.objs.size->s.heap.get? b=some o->h'.get? b=some o)) E) Cs.init.plain F.entry_set_init (check_set_init_1 hT ?_)) λr₂ s₂ hr₂=> ?_
   .obtain⟨ol,hol,hcl,nl,hdl⟩:=hl;obtain⟨ocls,odict,odata,QE⟩:=ol;simp only at hcl hdl;subst hcl;subst hdl;have hol':(s.heap.push {cls:= .type "set",dict:=none,data:= .set #[] 0 (.fresh 0 0 led)}).get? l=some {cls:= .type "list",dict:=odict,data:= .seq items nl,slots:=QE}:=A4 _ hol;have hsls:=F.sub_list_set;have hslf:=F.sub_list_frozenset;have MF:(Value.type "list"==Value.type "dict")=false:=by decide
    have M6:(s.heap.push {cls:= .type "set",dict:=none,data:= .set #[] 0 (.fresh 0 0 led)}).IsList l items:=⟨_,hol',rfl,nl,rfl⟩;unfold Builtin.«set.__init__» noKeywords Builtin.Frozenset.updateFrom;generalize hPI:pyIter=PI
    wp_walk
    subst hPI;refine wpAny_pyIter_list M6 ?_;refine A0 (wpAny_runValue ?_);have hlS:l<s.heap.objs.size:=AM hol;have hh3:A.in1.in1.in1.handled=none:=by simp[hh]
    have hneI:l≠(s.heap.push {cls:= .type "set",dict:=none,data:= .set #[] 0 (.fresh 0 0 led)}).objs.size:=by
     rw[B0];exact AQ (Ai hlS)
    have hSf:s.heap.objs.size∉[(s.heap.push {cls:= .type "set",dict:=none,data:= .set #[] 0 (.fresh 0 0 led)}).objs.size,l]:=by
     rw[B0];simp only[AJ,AR,Au,Bo,not_or];exact⟨AQ (BU _),BL hlS⟩
    refine Gn ((Walks.list hh3 _ l hneI items).toS) s.heap.objs.size
     hSf ?hu kk ad ?hval ?hwr hxs (uv NQ) (items.size-0) 0 _ #[] _ (by lia) (AO _)
     ⟨⟨_,AH _ rfl,rfl,rfl⟩,(M6.push _)⟩ ?hS0 ?hE0 rfl ?hkk ?hR
    case hu=>show A.units+3<cLine;lia
    case hval=>
     intro i v hv;have hi:i<items.size:=ut hv;rw[(hk i hi).1,Option.some.injEq] at hv;exact hv.symm
    case hwr=>
     intro i hi;obtain⟨o,_,_,ho,_⟩:=(hk i hi).2;have:=AM ho;rw[B0];simp only[AJ,Au,Bo];exact AQ (Ai this)
    case hS0=>exact⟨_,A4 _ hS⟩
    case hE0=>exact⟨rfl,λi k e=>by simp at e⟩
    case hkk=>exact λj hj=>nD (hk j hj).2 λo e=>A4 _ (A4 _ e)
    case hR=>
     intro s' ML y' hm OM ek' M0;rw[<-hxl,AS,NQ] at M0;cases M0;obtain⟨h',g',d',tk',Qm⟩:=s';have eg:g'=s.gens:=hm.gens;have ed:d'=s.drawn:=hm.drawn;have eo:Qm=s.os:=hm.os;subst eg;subst ed;subst eo;show wpAny _ _ _ _ _ _;refine A2 ?_;show wpAny _ _ (ret Value.none) _ _ _;refine A2 ⟨rfl,h',tk',ML,rfl,OM,ek',λb o hb e=> ?_⟩;have hb1:b≠s.heap.objs.size:=AQ hb;have hb2:b≠(s.heap.push {cls:= .type "set",dict:=none,data:= .set #[] 0 (.fresh 0 0 led)}).objs.size:=by
      rw[B0];exact AQ (Ai hb)
     exact hm.heap b o (by simp only[AJ,AR,Au,Bo,not_or];exact⟨hb1,hb2⟩) (A4 _ (A4 _ e))
   .cases r₂ with
    |error e=>exact hr₂
    |ok fl₂=>
     cases fl₂ with
     |ret r=>
      obtain⟨rfl,h',tk,es,rfl,OM,ek',N4⟩:=hr₂
      repeat (any_goals (first|assumption|wp_step))
      exact h _ _ _ OM ek' N4
     |_=>exact hr₂.elim
  |_=>exact hr.elim
end
theorem Gq:entryFor table "set.__iter__"=some Builtin.«frozenset.__iter__»:=
 entryFor_alias (id':="frozenset.__iter__") (by kernel_rfl) rfl (by ac_nf) (by kernel_rfl)
theorem uC:Slot "set_iterator" "__iter__" "set_iterator.__iter__":=
 .of (owner:="set_iterator") (n:="__iter__") (by rw[typeLookup_type,DQ];kernel_rfl) (by ac_nf) (by ac_nf) (by ac_nf)
  (by first|exact .inl (by ac_nf)|exact .inr (by ac_nf)) (by rw[Dg];kernel_rfl)
theorem Gr:entryFor table "set_iterator.__iter__"=some Builtin.«dict_keyiterator.__iter__»:=
 entryFor_alias (id':="dict_keyiterator.__iter__") (by kernel_rfl) rfl (by ac_nf) (by kernel_rfl)
theorem Gs (a:OO):argsOk "set_iterator.__iter__" ⟨[a],[]⟩:=by unfold argsOk;kernel_rfl
theorem hJ:Slot "set_iterator" "__next__" "set_iterator.__next__":=
 .of (owner:="set_iterator") (n:="__next__") (by rw[typeLookup_type,DQ];kernel_rfl) (by ac_nf) (by ac_nf) (by ac_nf)
  (by first|exact .inl (by ac_nf)|exact .inr (by ac_nf)) (by rw[Dg];kernel_rfl)
theorem uD:entryFor table "set_iterator.__next__"=some Builtin.«set_iterator.__next__»:=entryFor_of_tree (by kernel_rfl)
theorem uE (a:OO):argsOk "set_iterator.__next__" ⟨[a],[]⟩:=by unfold argsOk;kernel_rfl
theorem uF {α:Type}:∀(l:Rl α) (i:Nat) (h:i<l.length),([l[i]]++l.eraseIdx i).Perm l
 |[],i,h=>absurd h (by simp)
 |a::l,0,h=>by simp
 |a::l,i+1,h=>by
  have hi:i<l.length:=by simpa using h
  have:=uF l i hi;simp only[List.getElem_cons_succ,List.eraseIdx_cons_succ,List.singleton_append] at this⊢;exact(List.Perm.swap a l[i] _).trans (this.cons a)
theorem uG {α:Type} (next:Nat->Nat):∀(f k:Nat) (left:Rl α) (MA:Array α),left.length=f->(pickOrder.go next f k left MA).toList.Perm (MA.toList++left)
 |0,k,left,MA,e=>by
  have:left=[]:=CJ.mp e;subst this;unfold pickOrder.go;simp
 |f+1,k,left,MA,e=>by
  have hp:next k%left.length<left.length:=Nat.mod_lt _ (by lia);unfold pickOrder.go;rw[A3 hp];dsimp only;refine(uG next f (k+1) _ _ (by rw[List.length_eraseIdx_of_lt hp];lia)).trans ?_;rw[Array.toList_push,BG];refine List.Perm.append_left _ ?_;exact uF left _ hp
theorem Gu {α:Type} (next:Nat->Nat) (xs:Array α):(pickOrder next xs).toList.Perm xs.toList:=by
 unfold pickOrder;simpa using uG next xs.size 0 xs.toList #[] (by simp)
def fc (w:Rj) (a:Rg) (ep:Nat) (es:Array (Int×OO)):Array (Int×OO):=if w.params.followText "set-order" then pickOrder (w.params.setOrder a ep) es else es
theorem uH (w:Rj) (a:Rg) (ep:Nat) (es:Array (Int×OO)):(fc w a ep es).toList.Perm es.toList:=by
 unfold fc;split
 .exact Gu _ _
 .exact List.Perm.refl _
theorem nE (w:Rj) (a:Rg) (ep:Nat) (es:Array (Int×OO)):(fc w a ep es).size=es.size:=by
 have:=(uH w a ep es).length_eq;simpa using this
def bM (w:Rj) (t:SetTable) (i:Nat):Nat:=if w.params.followText "set-order" then 0 else if i=0 then 0 else t.place.getD (i-1) 0+1
theorem uI (r:Ris xs) {j:Nat} (hp:p<=xs.size) (h1:∀i,i<p->xs.getD i 0<j) (h2:∀i,p<=i->i<xs.size->j<=xs.getD i 0):below xs j=p:=by
 obtain⟨a1,a2,a3⟩:=Gg r j;rcases Nat.lt_trichotomy (below xs j) p with c|c|c
 .have:=h1 _ c;have:=a3 _ (AB _) (by lia);lia
 .exact c
 .have:=a2 _ c;have:=h2 p (AB _) (by lia);lia
theorem Gv {t:SetTable} (r:Ris t.place) (hi:i<=t.place.size):below t.place (if i=0 then 0 else t.place.getD (i-1) 0+1)=i:=by
 by_cases z:i=0
 .subst z;exact uI r (AO _) (λi h=>absurd h (by lia)) λi _ _=>AO _
 .rw [A5 z];refine uI r hi (λj hj=> ?_) λj h1 h2=> ?_
  .rcases Bd j (i-1) with c|c
   .have:=r j (i-1) c (by lia);lia
   .have:j=i-1:=by lia
    subst this;lia
  .have:=r (i-1) j (by lia) h2;lia
section
variable {prog:Rh}{w:Rj}{A:Rk}{E:OO->Rf->Prop}{s:Rf}
def Gw (a:Addr) (slot given epochThen:Nat):setNext a slot given epochThen=(do
  let (es,epoch,t)<-setState a
  if<-setsByText then
   if epoch !=epochThen then unsupported "set_iterator.__next__:elements-changed"
   return ((<-setWalk a)[given]?).map λe=>(e.2,slot)
  if !t.plain&&es.size>1 then unsupported "set_iterator.__next__:the-table-is-plain-no-more"
  (do if !t.led&& !es.isEmpty then unsupported "set:maker-not-led":Sem Unit)
  let i:=SetTable.below t.place slot
  return match es[i]?,t.place[i]? with
   |some (_,x),some j=>some (x,j+1)
   |_,_=>none):=rfl
theorem uJ {es:Array (Int×OO)}{ep:Nat}{t:SetTable}{i:Nat}{Q:Rp (OO×Nat)->Rf->Prop}
  (ho:s.heap.get? S=some {cls:= .type "set",dict:=none,data:= .set es ep t}) (b:Tb t es) (hs:es.size<=t.mask) (hl:t.led= !w.params.followText "set-order") (hp:t.plain=true) (hi:i<=es.size)
  (h:Q (((fc w S ep es)[i]?).map λe=>(e.2,bM w t (i+1))) s):wpAny (model prog w) A (setNext S (bM w t i) i ep) Q E s:=by
 have hf:=kL b hs;rw[Gw];refine A0 (BR ho rfl hf ?_);dsimp only;unfold setsByText;refine A0 (A0 (DV (A2 ?_)));show wpAny _ _ (if(w.params.followText "set-order")=true then _ else _) _ _ s;unfold fc bM at h;unfold bM;cases ht:w.params.followText "set-order" with
 |true=>
  rw[ht] at h;simp only[C8] at h⊢;simp only[Cy,AI,An];unfold setWalk;refine A0 (A0 (BR ho rfl hf ?_));dsimp only;unfold setsByText;refine A0 (A0 (DV (A2 ?_)));show wpAny _ _ (if(w.params.followText "set-order")=true then _ else _) _ _ s;rw[ht];simp only[C8];refine A0 (DV (A2 ?_));exact A2 h
 |false=>
  rw[ht] at h hl;simp only[AI,An] at h⊢;rw[hp,hl];simp only[B8,Cc,D2,AI,An];refine A0 (A2 ?_);rw[Gv b.ris (by rw[b.size];exact hi)];refine A2 ?_;rcases Bd i es.size with c|c
  .have c':i<t.place.size:=by rw[b.size];exact c
   have e2:t.place.getD (i+1-1) 0=t.place[i]:=by simp[Array.getD,c']
   rw[Ab c] at h⊢;rw[Ab c'];rw[A5 (by lia),e2] at h;exact h
  .rw [BO c] at h⊢;exact h
def eu (h:Rn) (it S:Rg) (slot i n ep:Nat):Prop:=∃o,h.get? it=some o/\o.cls= .type "set_iterator"/\o.data= .fields #[.int slot 0, .int i 0, .ref S, .int n 0, .int ep 0]
theorem eu.typeIs (x:eu s.heap it S slot i n ep):s.TypeIs (.ref it) "set_iterator":=by obtain⟨o,ho,hc,_⟩:=x;exact⟨o,ho,hc⟩
theorem eu.mv (x:eu h it S slot i n ep) (e:∀o,h.get? it=some o->h'.get? it=some o):eu h' it S slot i n ep:=by obtain⟨o,ho,r⟩:=x;exact⟨o,e _ ho,r⟩
theorem Gx {es:Array (Int×OO)}{ep:Nat}{t:SetTable}{Q:OO->Rf->Prop}
  (ho:s.heap.get? S=some {cls:= .type "set",dict:=none,data:= .set es ep t}) (b:Tb t es) (hs:es.size<=t.mask) (hp:t.plain=true)
  (h:Q (.ref s.heap.objs.size) {s with heap:=s.heap.push {cls:= .type "set_iterator",data:= .fields #[.int (bM w t 0:Nat) 0, .int (0:Nat) 0, .ref S, .int es.size 0, .int ep 0]}}):
  wpAny (model prog w) A (pyIter (.ref S)) Q E s:=by
 have hT:s.TypeIs (.ref S) "set":=⟨_,ho,rfl⟩;have hf:=kL b hs;refine wpAny_pyIter_slot hT F.slot_set_iter (Ah F.slot_set_iter hT Gq ?_ (F.args_set_iter_1 _));unfold Builtin.«frozenset.__iter__» Builtin.Frozenset.slot0 slotArgs;simp only[List.isEmpty_nil,B8,AI,↓reduceIte,bind_assoc,DO,Cy];unfold Builtin.Frozenset.addrOf Builtin.Frozenset.sizeOf setEntries;refine A0 (A2 ?_);try dsimp only
 refine A0 (A2 ?_);refine A0 (A0 (A0 (BR ho rfl hf (A2 (A2 ?_)))));have hdr:∀{Q':Bool->Rf->Prop},Q' false s->wpAny (model prog w) A.in1 (setDrawn S) Q' E s:=by
  intro Q' q;unfold setDrawn;refine A0 (BR ho rfl hf ?_);dsimp only;unfold setsByText;refine A0 (A0 (DV (A2 ?_)));refine A2 ?_;have:(!t.plain&&decide (es.size>1))=false:=by rw[hp];rfl
  show Q' (!w.params.followText "set-order"&&(!t.plain&&decide (es.size>1))) s;rw[this,Cd];exact q
 refine A0 (hdr ?_);simp only[AI,An];refine A0 (A2 ?_);refine A0 (wpAny_setEpoch_of ho rfl hf ?_);unfold newFields;refine A0 (Ax (A2 ⟨_,rfl,"set_iterator",_,⟨_,AH _ rfl,rfl⟩,hJ.lookup, ?_⟩));have e0:bM w t 0=0:=by unfold bM;split<;>rfl
 rw[e0] at h;simpa[rawInt] using h
def uK {vs:Array OO} (ho:h.get? a=some o) (hd:o.data= .fields vs) (f:Array OO->Array OO):
  ∃o',(h.update a (Obj.mapFields f)).get? a=some o'/\o'.cls=o.cls/\o'.data= .fields (f vs):=
 ⟨_,Bu _ ho (DS (Bw hd _)),Obj.cls_mapFields ..,Bw hd _⟩
theorem Gy {t:SetTable}{e:Int×OO}{Q:Rp OO->Rf->Prop} (Mi:eu s.heap it S (bM w t i) i es.size ep)
  (ho:s.heap.get? S=some {cls:= .type "set",dict:=none,data:= .set es ep t}) (b:Tb t es) (hs:es.size<=t.mask) (hl:t.led= !w.params.followText "set-order") (hp:t.plain=true) (hi:i<es.size)
  (he:(fc w S ep es)[i]? =some e) (hQ:∀h',eu h' it S (bM w t (i+1)) (i+1) es.size ep->Heap.SameBut it s.heap h'->Q (some e.2) {s with heap:=h'}):
  wpAny (model prog w) A (pyNext (.ref it)) Q E s:=by
 obtain⟨o,hoi,hc,hd⟩:=id Mi;have hf:=kL b hs;unfold pyNext;refine A0 (CK (B1 (name:=Str.ofString "__next__") Mi.typeIs hJ
  (Ah hJ Mi.typeIs uD ?_ (uE _))))
 show wpAny _ _ (fieldsOf (.ref it)>>=_) _ _ s;refine A0 (DE hoi hd ?_);dsimp only;unfold setEntries;refine A0 (A0 (BR ho rfl hf (A2 ?_)));dsimp only;rw[A5 (by simp)];simp only[Ae];refine A0 (uJ ho b hs hl hp (AZ hi) ?_);rw[he];dsimp only[Option.map_some];refine A0 (CC hoi hd (by simp) ?_);obtain⟨o1,MO,P4,P5⟩:=uK hoi hd (·.setIfInBounds 0 (rawInt (bM w t (i+1):Nat)));have sb1:=BF s.heap it (Obj.mapFields (·.setIfInBounds 0 (rawInt (bM w t (i+1):Nat))));generalize s.heap.update it (Obj.mapFields (·.setIfInBounds 0 (rawInt (bM w t (i+1):Nat))))=h1 at MO sb1⊢;refine A0 (CC (s:={s with heap:=h1}) MO P5 (by simp) ?_);obtain⟨o2,M9,NB,Nm⟩:=uK MO P5 (·.setIfInBounds 1 (rawInt ((i:Int)+1)));have P9:=BF h1 it (Obj.mapFields (·.setIfInBounds 1 (rawInt ((i:Int)+1))));dsimp only;generalize h1.update it (Obj.mapFields (·.setIfInBounds 1 (rawInt ((i:Int)+1))))=h2 at M9 P9⊢;refine A2 ⟨_,rfl,A2 (hQ _ ⟨o2,M9,by rw[NB,P4,hc], ?_⟩ (sb1.trans P9))⟩;rw[Nm];simp[rawInt]
theorem Gz {t:SetTable}{Q:Rp OO->Rf->Prop} (hh:A.handled=none) (Mi:eu s.heap it S (bM w t es.size) es.size es.size ep)
  (ho:s.heap.get? S=some {cls:= .type "set",dict:=none,data:= .set es ep t}) (b:Tb t es) (hs:es.size<=t.mask) (hl:t.led= !w.params.followText "set-order") (hp:t.plain=true)
  (hQ:∀h',Heap.ExtBut it s.heap h'->Q none {s with heap:=h'}):
  wpAny (model prog w) A (pyNext (.ref it)) Q E s:=by
 obtain⟨o,hoi,hc,hd⟩:=id Mi;have hf:=kL b hs;unfold pyNext;refine A0 (CK (B1 (name:=Str.ofString "__next__") Mi.typeIs hJ
  (Ah hJ Mi.typeIs uD ?_ (uE _))))
 show wpAny _ _ (fieldsOf (.ref it)>>=_) _ _ s;refine A0 (DE hoi hd ?_);dsimp only;unfold setEntries;refine A0 (A0 (BR ho rfl hf (A2 ?_)));dsimp only;rw[A5 (by simp)];simp only[Ae];refine A0 (uJ ho b hs hl hp (AB _) ?_);rw[BO (by rw[nE];exact AB _)];dsimp only[Option.map_none];refine A0 (CC hoi hd (by simp) ?_);show wpAny _ _ (newExc (.type "StopIteration") []>>=_) _ _ _;refine A0 ?_;simp only[newExc,newTuple];refine A0 (Ax ?_ (by size_fits));refine A0 (m:=firstArgMember _ _) (DZ (a:=Value.none) (by first|rfl|(simp only[firstArgMember];rfl)) ?_);refine Ax ?_ (by size_fits);simp -iota only[raiseNew];refine A0 (wpAny_handled ?_);rw[show A.in1.handled=none from hh];refine A0 (A2 (wpAny_throw ?_));refine A0 (BY (T:="StopIteration") (b:=true) ⟨_,AH _ rfl,rfl⟩ isSubtype_stop ?_);exact A2 (hQ _ (((BF ..).extBut.push _).push _))
theorem GA (hh:A.handled=none) (I S:Rg) (MF:S≠I) {t:SetTable} (b:Tb t es) (hs:es.size<=t.mask) (hl:t.led= !w.params.followText "set-order") (hp:t.plain=true):
  Walks prog w A I [I,S] [I] es.size (λi v=>∃e,(fc w S ep es)[i]? =some e/\v=e.2) (λi h=>eu h I S (bM w t i) i es.size ep/\h.get? S=some {cls:= .type "set",dict:=none,data:= .set es ep t}) where
 sub:=λb hb=>by simp at hb;simp[hb]
 frame:=λ_ _ _ st hk=>⟨st.1.mv λo e=>hk I (by simp) o e,hk S (by simp) _ st.2⟩
 item:=λi s Q E hi st hQ=>by
  have NN:i<(fc w S ep es).size:=by rw[nE];exact hi
  refine Gy st.1 st.2 b hs hl hp hi (Ab NN) λh' N8 hs'=> ?_;exact hQ _ h' s.toks ⟨_,Ab NN,rfl⟩ ⟨N8,hs'.extBut S _ MF st.2⟩ λb o hb e=>hs'.extBut b o (λh=>hb (by simp[h])) e
 done:=λs Q E st hQ=>Gz hh st.1 st.2 b hs hl hp λh' Pu=>hQ h' s.toks λb o hb e=>Pu b o (λh=>hb (by simp[h])) e
 self:=λ_ s _ _ st hQ=>by
  refine wpAny_pyIter_slot st.1.typeIs uC (Ah uC st.1.typeIs Gr ?_ (Gs _));show wpAny _ _ (ret (.ref I)) _ _ s;exact A2 ⟨_,rfl,"set_iterator",_,st.1.typeIs,hJ.lookup,hQ⟩
end
open PySem.W
section
variable {prog:Rh}{w:Rj}{A:Rk}{E:OO->Rf->Prop}{s:Rf}
theorem GB {es:Array (Int×OO)}{ep:Nat}{t:SetTable}{Q:Rl OO->Rf->Prop} (hh:A.handled=none)
  (ho:s.heap.get? S=some {cls:= .type "set",dict:=none,data:= .set es ep t}) (b:Tb t es) (hs:es.size<=t.mask) (hl:t.led= !w.params.followText "set-order") (hp:t.plain=true)
  (hQ:∀h' tk vs,(∀b o,s.heap.get? b=some o->h'.get? b=some o)->s.heap.objs.size<=h'.objs.size->vs.Perm (es.toList.map (·.2))->Q vs {s with heap:=h',toks:=tk}):
  wpAny (model prog w) A (collect (.ref S)) Q E s:=by
 unfold collect;refine A0 (wpAny_runValue (CH F.entry_proto_collect ?_));rw[C1 F.plain_proto_collect _];show wpAny _ A.in1 (newList []>>=λl=>again (.builtin "list.__iadd__" ⟨[l, .ref S],[]⟩)) _ _ s;refine A0 (Ax ?_);refine A2 ⟨Cw F.plain_list_iadd _,CH F.entry_list_iadd ?_⟩;rw[C1 F.plain_list_iadd _];show wpAny _ A.in1 (Builtin.List.listExtendWith (.ref s.heap.objs.size) (.ref S) (.ref s.heap.objs.size)) _ _ _;have hS:S<s.heap.objs.size:=AM ho;have MO:(s.heap.push {cls:= .type "list",data:= .seq ([]:Rl OO).toArray}).get? S=some {cls:= .type "set",dict:=none,data:= .set es ep t}:=A4 _ ho;have hT:Shared.TypeIs {s with heap:=s.heap.push {cls:= .type "list",data:= .seq ([]:Rl OO).toArray}} (.ref S) "set":=⟨_,MO,rfl⟩;unfold Builtin.List.listExtendWith;refine A0 (DD hT ?_);have h1:Builtin.List.listSameRef (.ref s.heap.objs.size) (.ref S)=false:=by
  show(s.heap.objs.size==S)=false;exact DR.mpr (BL hS)
 have h2:(Value.type "set"==Value.type "list")=false:=by decide
 have h3:(Value.type "set"==Value.type "tuple")=false:=by decide
 simp only[h1,h2,h3,Bool.or_false,AI,An];refine A0 (Gx MO b hs hp ?_);refine A0 (B5 ?_);unfold Builtin.List.listLengthHint;generalize hH:s.heap.push {cls:= .type "list",data:= .seq ([]:Rl OO).toArray}=H at MO hT⊢;have hHs:H.objs.size=s.heap.objs.size+1:=by rw[<-hH,B0]
 have Qx:Shared.TypeIs {s with heap:=H.push {cls:= .type "set_iterator",data:= .fields #[.int (bM w t 0:Nat) 0, .int (0:Nat) 0, .ref S, .int es.size 0, .int ep 0]}} (.ref S) "set":=⟨_,A4 _ MO,rfl⟩;refine A0 (BW Qx F.slot_set_len.lookup ?_)
 wp_delta
 refine A0 (BY (b:=true) Qx (by rw[Dg];kernel_rfl) ?_);show wpAny _ A.in1 (typeOf (.ref S)>>=_) _ _ _;refine A0 (DD Qx ?_);refine A2 ?_;rw[A6 (by decide)];refine A0 (Bv ?_);unfold Builtin.List.listTouch;have MF:S≠H.objs.size:=by rw[hHs];exact AQ (Ai hS)
 have hI0:eu (H.push {cls:= .type "set_iterator",data:= .fields #[.int (bM w t 0:Nat) 0, .int (0:Nat) 0, .ref S, .int es.size 0, .int ep 0]}) H.objs.size S (bM w t 0) 0 es.size ep:=⟨_,AH _ rfl,rfl,rfl⟩;have hL:(H.push {cls:= .type "set_iterator",data:= .fields #[.int (bM w t 0:Nat) 0, .int (0:Nat) 0, .ref S, .int es.size 0, .int ep 0]}).get? s.heap.objs.size=some (seqObj "list" #[] 0):=A4 _ (hH▸AH _ rfl);have Qw:(H.push {cls:= .type "set_iterator",data:= .fields #[.int (bM w t 0:Nat) 0, .int (0:Nat) 0, .ref S, .int es.size 0, .int ep 0]}).get? S=some {cls:= .type "set",dict:=none,data:= .set es ep t}:=A4 _ MO;have hold:∀b o,s.heap.get? b=some o->(H.push {cls:= .type "set_iterator",data:= .fields #[.int (bM w t 0:Nat) 0, .int (0:Nat) 0, .ref S, .int es.size 0, .int ep 0]}).get? b=some o:=λb o e=>A4 _ (hH▸A4 _ e);have hsz:(H.push {cls:= .type "set_iterator",data:= .fields #[.int (bM w t 0:Nat) 0, .int (0:Nat) 0, .ref S, .int es.size 0, .int ep 0]}).objs.size=s.heap.objs.size+2:=by rw[B0,hHs]
 generalize H.push {cls:= .type "set_iterator",data:= .fields #[.int (bM w t 0:Nat) 0, .int (0:Nat) 0, .ref S, .int es.size 0, .int ep 0]}=H1 at hI0 hL Qw hold hsz⊢;refine A0 (A0 (Cp (s:={s with heap:=H1}) hL rfl ?_ (AO _) (by decide)));have hL1:=Cm hL (λx=>x.push Value.none);have MH:∀b,b≠s.heap.objs.size->(H1.update s.heap.objs.size (Obj.mapSeq λx=>x.push Value.none)).get? b=H1.get? b:=(BF H1 s.heap.objs.size _).2;dsimp only;generalize H1.update s.heap.objs.size (Obj.mapSeq λx=>x.push Value.none)=H2 at hL1 MH⊢;refine Cp (s:={s with heap:=H2}) hL1 rfl ?_ (by simp[Av]) (by simp);have hL2:=Cm hL1 (λx=>x.pop);have MY:∀b,b≠s.heap.objs.size->(H2.update s.heap.objs.size (Obj.mapSeq λx=>x.pop)).get? b=H2.get? b:=(BF H2 s.heap.objs.size _).2;dsimp only;generalize H2.update s.heap.objs.size (Obj.mapSeq λx=>x.pop)=H3 at hL2 MY⊢;have Pf:∀b o,b≠s.heap.objs.size->H1.get? b=some o->H3.get? b=some o:=λb o hb e=>by rw[MY b hb,MH b hb];exact e
 have hSf:s.heap.objs.size∉[H.objs.size,S]:=by
  rw[hHs];simp only[AJ,Au,Bo,not_or];exact⟨AQ (BU _),BL hS⟩
 have hSn:S≠s.heap.objs.size:=AQ hS;have hHn:H.objs.size≠s.heap.objs.size:=by rw[hHs];exact BL (BU _)
 refine A2 ⟨Cw F.plain_extend_loop _,codeAny_extend_loopS (GA (A:=A.in1) (ep:=ep) hh H.objs.size S MF b hs hl hp).toS ?_ _ hSf _ es.size 0 _ _ _ rfl (AO _) ⟨hI0.mv λo e=>Pf _ o hHn e,Pf S _ hSn Qw⟩ hL2 (ItemsOf.nil _) λs' NE c' hm OM Mf=> ?_⟩
 .have:=b.few;rw[Av];lia
 show wpAny _ A (load s.heap.objs.size>>=_) _ _ s';refine A0 (wpAny_load OM ?_);obtain⟨h',g',d',tk',Qm⟩:=s';have eg:g'=s.gens:=hm.gens;have ed:d'=s.drawn:=hm.drawn;have eo:Qm=s.os:=hm.os;subst eg;subst ed;subst eo;refine A2 (hQ h' tk' NE.toList (λb o e=> ?_) (AZ (AM OM)) ?_)
 .have Mh:=AM e;refine hm.heap b o (λhb=> ?_) (Pf b o (AQ Mh) (hold b o e));simp only[AJ,Au,Bo] at hb;rcases hb with hb|hb
  .exact absurd Mh (by rw[hb];exact CG _)
  .rw [hb,hHs] at Mh;exact absurd Mh (Nat.not_lt.mpr (Ct _))
 .have:NE.toList=(fc w S ep es).toList.map (·.2):=by
   apply List.ext_getElem?;intro i;rw[AC,Bb,Bb];rcases Bd i es.size with c|c
   .have hi:i<NE.size:=by rw[Mf.1];exact c
    obtain⟨e,he,hv⟩:=Mf.2 i _ (Ab hi);rw[Ab hi,hv,he];rfl
   .rw [BO (by rw[Mf.1];exact c),BO (by rw[nE];exact c)];rfl
  rw[this];exact(uH w S ep es).map _
abbrev lsH (h:Rn) (vs:Rl OO):Rn:=h.push (seqObj "list" vs.toArray 0)
def jk (h:Rn) (vs:Rl OO):(lsH h vs).get? h.objs.size=some (seqObj "list" vs.toArray 0):=AH _ rfl
theorem nF (hb:h.get? b=some o):(bo (lsH h vs) h.objs.size vs).get? b=some o:=by
 have Mh:b<h.objs.size:=AM hb;have n0:b≠h.objs.size:=AQ Mh;have n1:b≠h.objs.size+1:=AQ (Ai Mh);have n2:b≠h.objs.size+1+1:=AQ (Ai (Ai Mh));rw[BC _ _ _ (by rw[C3,BB,C3];exact n2),BC _ _ _ (by rw[BB,C3];exact n1),Dd _ _ _ _ n0,BC _ _ _ n0];exact hb
theorem uL {MA:Array OO}(hb:h.get? b=some o):(sortedHeap (lsH h vs) h.objs.size vs MA).get? b=some o:=by
 unfold sortedHeap;rw[Dd _ _ _ _ (AQ (AM hb))];exact nF hb
theorem uM (h:Rn) (vs:Rl OO) (MA:Array OO):∃e,(sortedHeap (lsH h vs) h.objs.size vs MA).get? h.objs.size=some (seqObj "list" MA e):=by
 obtain⟨e1,MO⟩:∃e1,((lsH h vs).update h.objs.size (Obj.mapSeq λ_=>(#[]:Array OO))).get? h.objs.size=some (seqObj "list" #[] e1):=⟨_,Cm (jk h vs) (λ_=> #[])⟩;have OA:(bo (lsH h vs) h.objs.size vs).get? h.objs.size=some (seqObj "list" #[] e1):=by
  rw[BC _ _ _ (by rw[C3,BB,C3];exact AQ (Ai (BU _))),BC _ _ _ (by rw[BB,C3];exact AQ (BU _))];exact MO
 exact⟨_,Cm OA (λ_=>MA)⟩
theorem GC {v:OO}{hU:Rl OO->Rf->Prop}{Q:OO->Rf->Prop} (hcol:wpAny (model prog w) A.in1 (collect v) hU E s)
  (h:∀vs s1,hU vs s1->vs.length<64/\(vs.length<2->Q (.ref s1.heap.objs.size) {s1 with heap:=sortedHeap (lsH s1.heap vs) s1.heap.objs.size vs vs.toArray})/\
   (2<=vs.length->∃(c:Nat->Nat->Bool) (kd:SortKind),
    (∀(R:SortKind->Rf->Prop) (E:OO->Rf->Prop),R kd {s1 with heap:=bo (lsH s1.heap vs) s1.heap.objs.size vs}->wpAny (model prog w) A.in1.in1 (keyKind' vs.toArray) R E {s1 with heap:=bo (lsH s1.heap vs) s1.heap.objs.size vs})/\
    (∀i j,i<vs.length->j<vs.length->∀C:Bool->Rf->Prop,C (c i j) {s1 with heap:=bo (lsH s1.heap vs) s1.heap.objs.size vs}->wpAny (model prog w) A.in1.in1 (keyLt' kd (vs.getD i .none) (vs.getD j .none)) C (λ_ _=>False) {s1 with heap:=bo (lsH s1.heap vs) s1.heap.objs.size vs})/\
    ∀p,Ord vs.length p->p=aS c (kas_sort vs.length)->Q (.ref s1.heap.objs.size) {s1 with heap:=sortedHeap (lsH s1.heap vs) s1.heap.objs.size vs (p.map λi=>vs.getD i .none)})):
  wpAny (model prog w) A (call (.builtin "sorted") [v]) Q E s:=by
 refine Calls.call_function_entry kind_sorted plain_sorted entry_sorted (args_sorted1 _) ?_;unfold Builtin.«sorted»;refine A0 (m:=checkCount "sorted" 1 1 _) (A2 ?_);refine A0 (thn hcol λvs s1 g=> ?_);obtain⟨h64,few,many⟩:=h vs s1 g;refine A0 (DY ?_ (by rw[Av];lia));show wpAny _ _ _ _ _ {s1 with heap:=lsH s1.heap vs};by_cases h2:vs.length<2
 .refine A0 (B5 (Ah slot_list_sort ⟨_,jk s1.heap vs,rfl⟩ entry_list_sort (tj (s:={s1 with heap:=lsH s1.heap vs}) (jk s1.heap vs) h2 ⟨_,rfl, ?_⟩) (args_list_sort _)));exact A2 ⟨_,rfl,few h2⟩
 .obtain⟨c,kd,Pg,hc,hq⟩:=many (by lia);refine A0 (B5 (Ah slot_list_sort ⟨_,jk s1.heap vs,rfl⟩ entry_list_sort (Gd (c:=c) (s:={s1 with heap:=lsH s1.heap vs}) (jk s1.heap vs) (by lia) h64 (λR=>Pg R _) hc λp hp hpc=>⟨_,rfl, ?_⟩) (args_list_sort _)));exact A2 ⟨_,rfl,hq p hp hpc⟩
end
section
variable {X:Cx}{Mb:Rl (Rg×Obj)}{σ:St}{H:Hp}{s:Rf}
theorem uN:∀{xs:Rl Int}{vs:Rl OO},ap (xs.map V.int) vs->∀(prog:Rh) (w:Rj),ItemsAre (intKind prog w) xs vs
 |[],_, .nil,_,_=> .nil
 |x::xs,_, .cons r1 r2,prog,w=>by
  obtain⟨t,rfl⟩:=r1;exact .cons (intKind_is prog w x t) (uN r2 prog w)
theorem GD (I:Inv X Mb σ H s) {xs:Rl Int} (h:SqT X.K H a (xs.map V.int)):IsTupleKey (intKind X.prog X.w) s.heap xs a:=by
 obtain⟨Me,r,p,z⟩:=I.tuple h;obtain⟨o,ho,hc,n,hd⟩:=p;exact⟨o,_,n,ho,hc,hd,uN r _ _⟩
theorem GE {A:Rk}{k:Nat} (hr:Room k A):A.units+8<cLine:=Nat.lt_of_le_of_lt (Nat.add_le_add_left (by decide:8<=64) _) hr.units
def ssB (xss:Rl (Rl Int)):Bool:=[true,false].all λled=>match stE (.fresh 0 0 led, #[]) xss with
 |some y=>y.1.fits y.2.size&&decide (y.1.dummies= #[])&&decide (y.1.place.toList.Pairwise (· < ·))&&(y.1.led==led)&&y.1.plain&&decide (y.2.size<=y.1.mask)&&decide (y.2.size<64)&&decide y.2.toList.Nodup&&y.2.toList.all (xss.contains ·)&&xss.all (y.2.toList.contains ·)
 |none=>false
theorem GF (h:ssB xss=true) (led:Bool):∃y,stE (.fresh 0 0 led, #[]) xss=some y/\(∀es:Array (Int×OO),es.size=y.2.size->Tb y.1 es)/\y.1.led=led/\y.1.plain=true/\y.2.size<=y.1.mask/\y.2.size<64/\y.2.toList.Nodup/\∀z,z∈y.2.toList↔z∈xss:=by
 have h:=AT.mp h led (by cases led<;>simp)
 generalize stE (.fresh 0 0 led, #[]) xss=r at h⊢;cases r with
 |none=>cases h
 |some y=>
  simp only[AA,AV,AT,List.contains_iff_mem,D8] at h;obtain⟨⟨⟨⟨⟨⟨⟨⟨⟨h1,h2⟩,h3⟩,h4⟩,h5⟩,h6⟩,h7⟩,h8⟩,h9⟩,h10⟩:=h;refine⟨y,rfl,λes e=>⟨?_,h2,λi j NY hj=> ?_,by lia⟩,h4,h5,h6,h7,h8,λz=>⟨h9 z,h10 z⟩⟩
  .unfold SetTable.fits at h1;simp only[AA,D8] at h1;rw[h1.1,e]
  .have:=List.pairwise_iff_getElem.mp h3 i j (by simp;lia) (by simpa using hj) NY;simpa[Array.getD,hj,Nat.lt_trans NY hj] using this
inductive rSSet (vs:List V) (H:Hp) (Q:VK):Prop
 |mk (v:V) (xss:List (List Int)) (m:Nat):vs=[v]->Is H (.l (xss.map tI)) v->0<m->((∀xs∈xss,xs.length=m))->ssB xss=true->(∀(Nf:List (List Int)) (q:Addr) (H':Hp),Nf.Nodup->(∀z,z∈Nf↔z∈xss)->(∀i j,i<j->j<Nf.length->ltI (Nf.getD j []) (Nf.getD i [])=false)->H q=none->af H H'->Is H' (.l (Nf.map tI)) (.ref q)->Q (.ref q) H')->rSSet vs H Q
theorem GG (I:Inv X Mb σ H s) {rs:Rl V}(hi:Iss H (xss.map tI) rs) (r':ap rs vs) (hm:0<m) (Pw:∀xs∈xss,xs.length=m) (Mg:xss.length<64) {Q:VK}
  (q:∀(Nf:Rl (Rl Int)) (q:Rg) (H':Hp),Nf.Perm xss->(∀i j,i<j->j<Nf.length->ltI (Nf.getD j []) (Nf.getD i [])=false)->H q=none->af H H'->Is H' (.l (Nf.map tI)) (.ref q)->Q (.ref q) H') (A:Rk):
  vs.length<64/\(vs.length<2->EP X Mb σ Q (.ref s.heap.objs.size) {s with heap:=sortedHeap (lsH s.heap vs) s.heap.objs.size vs vs.toArray})/\
   (2<=vs.length->∃(c:Nat->Nat->Bool) (kd:SortKind),
    (∀(R:SortKind->Rf->Prop) (E:OO->Rf->Prop),R kd {s with heap:=bo (lsH s.heap vs) s.heap.objs.size vs}->wpAny (model X.prog X.w) A.in1.in1 (keyKind' vs.toArray) R E {s with heap:=bo (lsH s.heap vs) s.heap.objs.size vs})/\
    (∀i j,i<vs.length->j<vs.length->∀C:Bool->Rf->Prop,C (c i j) {s with heap:=bo (lsH s.heap vs) s.heap.objs.size vs}->wpAny (model X.prog X.w) A.in1.in1 (keyLt' kd (vs.getD i .none) (vs.getD j .none)) C (λ_ _=>False) {s with heap:=bo (lsH s.heap vs) s.heap.objs.size vs})/\
    ∀p,Ord vs.length p->p=aS c (kas_sort vs.length)->EP X Mb σ Q (.ref s.heap.objs.size) {s with heap:=sortedHeap (lsH s.heap vs) s.heap.objs.size vs (p.map λi=>vs.getD i .none)}):=by
 have MF:∀xs∈xss,xs≠[]:=λxs hx z=>by have:=Pw xs hx;rw[z] at this;exact absurd this (by show¬0=m;lia)
 have QF:rs.length=xss.length:=by rw[hi.length,A1]
 have ln:=r'.length;have lns:vs.length=xss.length:=by lia
 refine⟨by lia,λh2=> ?_,λh2=>⟨hG xss,tuples' true,λR E hR=> ?_,λi j NN hj' C hC=> ?_,λp ho hpc=> ?_⟩⟩
 .obtain⟨e,he⟩:=uM s.heap vs vs.toArray;have fr:=I.hok.fresh (a:=s.heap.objs.size) (AB _);exact⟨.ref s.heap.objs.size,_,I.laid (t':=s.toks) (λ_ _=>uL) (AB _) (show aG X.prog X.w _ _ _ (.lst rs) from⟨by rw[Av];lia,vs,e,r',he⟩),rfl,q xss _ _ (List.Perm.refl _) (λi j a b=>absurd b (by lia)) fr (af.new fr) (aD ak (hi.mono (af.new fr)))⟩
 .have I2:Inv X Mb σ H {s with heap:=bo (lsH s.heap vs) s.heap.objs.size vs}:=I.kept (t':=s.toks) λb o e=>nF e;obtain⟨fs,k1,k2,k3⟩:=tz I2 hi r' MF;exact kat_kind (T:= .type "int") k1 (by lia) (λf hf=>by obtain⟨z,t,rfl⟩:=k3 f hf;exact .now) rfl hR
 .have I2:Inv X Mb σ H {s with heap:=bo (lsH s.heap vs) s.heap.objs.size vs}:=I.kept (t':=s.toks) λb o e=>nF e;have g:∀i,i<xss.length->∃a,vs.getD i .none= .ref a/\SqT X.K H a ((xss.getD i []).map V.int):=λi h=>by
   have hr:i<rs.length:=by lia
   obtain⟨d,hd,h1⟩:=hi.of_get (A3 hr);rw[AC,A3 h] at hd;cases hd;obtain⟨a,ea,ha⟩:=bL h1;obtain⟨u,MH,ru⟩:=r'.get (A3 hr);rw[ea] at ru;obtain rfl:u=Value.ref a:=ru;refine⟨a, ?_, ?_⟩
   .rw [A',MH];rfl
   .rw [A',A3 h];exact SqT.of ha
  obtain⟨a1,e1,s1⟩:=g i (by lia);obtain⟨a2,e2,s2⟩:=g j (by lia);rw[e1,e2];rw[uo (by lia) (by lia)] at hC;exact FA I2 s1 s2 hC
 .rw [lns] at ho hpc;have Ov:∀i∈p.toList,i<xss.length:=λi hi=>ho.lt hi;obtain⟨e,he⟩:=uM s.heap vs (p.map λi=>vs.getD i .none);have en:(p.map λi=>vs.getD i .none)=List.toArray (p.toList.map λi=>vs.getD i .none):=by
   apply Array.toList_inj.mp;simp
  rw[en] at he⊢;have fr:=I.hok.fresh (a:=s.heap.objs.size) (AB _);refine⟨.ref s.heap.objs.size,_,I.laid (t':=s.toks) (λ_ _=>uL) (AB _) (show aG X.prog X.w _ _ _ (.lst (p.toList.map λi=>rs.getD i .non)) from⟨?_,_,e,m7 r' p.toList (λi hi=>by rw[QF];exact Ov i hi),he⟩),rfl,q (p.toList.map λi=>xss.getD i []) _ _ ?_ ?_ fr (af.new fr) (aD ak ((tw hi p.toList Ov).mono (af.new fr)))⟩
  .rw [A1,B4,Av,ho.size];lia
  .have pp:=(Dc.mp ho).map λi=>xss.getD i [];rw[show(List.range xss.length).toArray.toList=List.range xss.length from rfl,Fz] at pp;exact pp
  .intro i j NY hj;rw[A1,B4,ho.size] at hj;have up:=Ga (Gc (xss:=xss) (m:=m) (by lia) Pw) (n:=xss.length) (by lia) i j NY hj;rw[<-hpc] at up;have g:∀i,i<xss.length->(p.toList.map λi=>xss.getD i []).getD i []=xss.getD (at0 p i) []/\at0 p i<xss.length:=λi h=>by
    have hs:i<p.size:=by rw[ho.size];exact h
    have e:at0 p i=p[i]:=by simp[at0,Array.getD,hs]
    rw[e];refine⟨?_,ho.lt (by simp)⟩;rw[A',AC];simp[hs]
   obtain⟨g1,g2⟩:=g i (by lia);obtain⟨g3,g4⟩:=g j hj;rw[g1,g3];rw[uo g4 g2] at up;exact up
theorem nG {α β:Type}{f:β->α}{P:β->Prop}:∀(vs:Rl α),(∀v∈vs,∃j,P j/\v=f j)->∃js:Rl β,vs=js.map f/\∀j∈js,P j
 |[],_=>⟨[],rfl,λ_ h=>nomatch h⟩
 |v::vs,h=>by
  obtain⟨j,pj,e⟩:=h v (by simp);obtain⟨js,es,ps⟩:=nG vs λu hu=>h u (by simp[hu]);exact⟨j::js,by rw[e,es];rfl,λi hi=>by rcases AJ.mp hi with rfl|hi;exact pj;exact ps i hi⟩
theorem uO (ad:Nat->Rg):∀js:Rl Nat,ap (js.map λj=>V.ref (ad j)) (js.map λj=>Value.ref (ad j))
 |[]=> .nil
 |j::js=> .cons rfl (uO ad js)
theorem uP {H:Hp} (kk:Nat->Rl Int) (ad:Nat->Rg):∀js:Rl Nat,(∀j∈js,H (ad j)=some (.tup ((kk j).map V.int)))->Iss H ((js.map kk).map tI) (js.map λj=>V.ref (ad j))
 |[],_=>ax
 |j::js,h=>au (dY (h j (by simp))) (uP kk ad js λi hi=>h i (by simp[hi]))
theorem GH {α β:Type}{f:α->β}{L:Rl α}{vs:Rl β} (h:vs.Perm (L.map f)):∃js:Rl α,js.Perm L/\vs=js.map f:=by
 generalize hm:L.map f=ms at h;induction h generalizing L with
 |nil=>exact⟨[],by rw[List.map_eq_nil_iff.mp hm],rfl⟩
 | @cons x l1 l2 p ih=>
  cases L with
  |nil=>cases hm
  |cons a L=>
   rw[AL] at hm;injection hm with h1 h2;obtain⟨js,p,e⟩:=ih h2;exact⟨a::js,p.cons a,by rw[AL,h1,e]⟩
 |swap x y l=>
  match L,hm with
  |a::b::L,hm=>
   simp only[AL,C'] at hm;obtain⟨rfl,rfl,rfl⟩:=hm;exact⟨b::a::L,List.Perm.swap ..,rfl⟩
 |trans p1 p2 ih1 ih2=>
  obtain⟨js,q1,e1⟩:=ih2 hm;obtain⟨ks,q2,e2⟩:=ih1 e1.symm;exact⟨ks,q2.trans q1,e2⟩
theorem GI (ek:EsK kk ad n es ks) (hp:vs.Perm (es.toList.map (·.2))):
  ∃js:Rl Nat,vs=js.map (λj=>Value.ref (ad j))/\(∀j∈js,j<n)/\(js.map kk).Perm ks.toList:=by
 have hl:es.toList.length=ks.toList.length:=by simp[ek.size]
 obtain⟨L,eL,pL⟩:=nG (f:=λj=>((hK (kk j),Value.ref (ad j)),kk j)) (P:=λj=>j<n) (es.toList.zip ks.toList) λv hv=>by
  obtain⟨i,hi,e⟩:=DH.mp hv;rw[List.getElem_zip] at e;rw[List.length_zip] at hi;have hi1:i<es.size:=by simp at hi;lia
  obtain⟨j,j1,j2,j3⟩:=ek.of (Ab hi1);have hk:ks[i]? =some ks.toList[i]:=by rw[<-Bb,A3]
  rw[hk,Option.some.injEq] at j2;refine⟨j,j1, ?_⟩;rw[<-e,j2];exact Prod.ext (by simpa using j3) rfl
 have e1:es.toList=L.map λj=>(hK (kk j),Value.ref (ad j)):=by
  have:=B' (List.map Prod.fst) eL;rw[List.map_fst_zip (by lia),BM] at this;exact this
 have e2:ks.toList=L.map kk:=by
  have:=B' (List.map Prod.snd) eL;rw[List.map_snd_zip (by lia),BM] at this;exact this
 rw[e1,BM] at hp;obtain⟨js,p,e⟩:=GH hp;exact⟨js,e,λj hj=>pL j (p.mem_iff.mp hj),by rw[e2];exact p.map kk⟩
theorem GJ {e:Rm}{ta:TA}{p p2 pos OS:Pos} (hu:X.A.units+8<cLine) (hh:X.A.handled=none) (hg:Gl X "sorted") (hm:X.mg "sorted"=none) (hg2:Gl X "set") (hm2:X.mg "set"=none)
  (ha:PA X [e] ta) (he:starEach [e] X.env=(false,eval e X.env)::starEach [] X.env:=by rfl)
  (OB:starEach [Expr.Call (.Name "set" p2) [e] [] OS] X.env=(false,eval (Expr.Call (.Name "set" p2) [e] [] OS) X.env)::starEach [] X.env:=by rfl):
  PE X (.Call (.Name "sorted" p) [.Call (.Name "set" p2) [e] [] OS] [] pos) (tCB rSSet ta):=by
 intro Mb s σ H Q I h;refine BJ (cM I hg hm (by first|exact boot_sorted|rfl|ac_nf) ?_ (by decide) (by decide));refine D9 ?_ OB (by rfl);rw[OB];show wpAny _ _ (spliced ((false,eval (Expr.Call (.Name "set" p2) [e] [] OS) X.env)::backTo pos (starEach [] X.env))) _ _ s;refine CT ?_;refine BJ (cM I hg2 hm2 (by first|rfl|ac_nf) ?_ (by decide) (by decide));refine B3 (thn (ha OS Mb s σ H _ I h) λus s1 zu54=> ?_) he (by rfl);obtain⟨vs,H1,I1,r1,q1⟩:=zu54;obtain⟨v,xss,m,rfl,hv,hm',Pw,QG,q⟩:=q1;obtain⟨y,NQ,htb,tl,tp,tm,t64,knd,Px⟩:=GF QG (!X.w.params.followText "set-order");obtain⟨l,rs,rfl,hl,hi⟩:=aA hv;have QF:rs.length=xss.length:=by rw[hi.length,A1]
 obtain⟨u,rfl,rx⟩:=cU r1;cases rx;obtain⟨Me,r',pl,hz⟩:=I1.list (SqL.of (K:=X.K) hl);have ln:=r'.length;have g:∀i,∃a,i<xss.length->Me[i]? =some (.ref a)/\rs[i]? =some (.ref a)/\H1 a=some (.tup ((xss.getD i []).map V.int)):=λi=>by
  by_cases h:i<xss.length
  .have hr:i<rs.length:=by lia
   obtain⟨d,hd,h1⟩:=hi.of_get (A3 hr);rw[AC,A3 h] at hd;cases hd;obtain⟨a,ea,ha⟩:=bL h1;obtain⟨u,MH,ru⟩:=r'.get (A3 hr);rw[ea] at ru;obtain rfl:u=Value.ref a:=ru;refine⟨a,λ_=>⟨MH,by rw[A3 hr,ea], ?_⟩⟩;rw[A',A3 h];exact ha
  .exact⟨0,λc=>absurd c h⟩
 let ad:Nat->Rg:=λi=>Classical.choose (g i)
 have hg:∀i,i<xss.length->Me[i]? =some (.ref (ad i))/\rs[i]? =some (.ref (ad i))/\H1 (ad i)=some (.tup ((xss.getD i []).map V.int)):=λi hi=>Classical.choose_spec (g i) hi;generalize ad=ad at hg;refine Gp (kk:=λi=>xss.getD i []) (ad:=ad) (items:=Me.toArray) hh (by lia) pl.isList (xs:=xss) (λi hi=> ?_) (by rw[AG];lia) NQ (λi hi=> ?_) λh' tk es hS ek hk=> ?_
 .rw [AG] at hi;rw[A',A3 (by lia)];rfl
 .rw [AG] at hi;have hg':=hg i (by lia);exact⟨by rw[List.getElem?_toArray];exact hg'.1,GD I1 (SqT.of hg'.2.2)⟩
 .have I2:Inv X Mb σ H1 {s1 with heap:=h',toks:=tk}:=I1.kept λb o e=>hk b o (AM e) e;refine A2 ?_;show wpAny _ _ (call (.builtin "sorted") [.ref s1.heap.objs.size]) _ _ {s1 with heap:=h',toks:=tk};obtain⟨ep,ho⟩:=hS;have ez:=ek.size;refine GC (GB (s:={s1 with heap:=h',toks:=tk}) (A:=X.A.in1) hh ho (htb es ez) (by lia) tl tp λh'' tk' vs N4 hsz hp=> ?_) λvs s' g=>g;obtain⟨js,ev,lt,pk⟩:=GI ek hp;have I3:Inv X Mb σ H1 {s1 with heap:=h'',toks:=tk'}:=I2.kept N4;have lt':∀j∈js,j<xss.length:=λj hj=>by have:=lt j hj;rw[AG] at this;lia
  subst ev;have mem:∀z,z∈js.map (λi=>xss.getD i [])↔z∈xss:=λz=>by rw[pk.mem_iff];exact Px z
  have bound:(js.map λi=>xss.getD i []).length=y.2.size:=by rw[pk.length_eq,B4]
  have nd:=pk.nodup_iff.mpr knd;refine GG I3 (rs:=js.map λj=>V.ref (ad j)) (xss:=js.map λi=>xss.getD i []) (uP _ ad js λj hj=>(hg j (lt' j hj)).2.2) (uO ad js) hm' (λxs hx=>Pw xs ((mem xs).mp hx)) (by lia) (λNf q' H' pm srt hq sm his=> ?_) X.A;exact q Nf q' H' (pm.nodup_iff.mpr nd) (λz=>by rw[pm.mem_iff];exact mem z) srt hq sm his
end
end L2
namespace L2
open PySem PySem.Spec PyProof.Rows PySem.W
variable {H H':Hp}{Mc:Rl (Rl Key×V)}{P:Rh}{Q:Rp OO->Rf->Prop}{d it:Rg}{e:DictEntry}{ep i:Nat}{es:Array DictEntry}{o:Obj}{w:Rj}
section
variable {prog:Rh}{w:Rj}{A:Rk}{E:OO->Rf->Prop}{s:Rf}
theorem GK {Q:OO->Rf->Prop} (hd:(d==sysModules)=false) (ho:s.heap.get? d=some o) (hc:o.ExactDict) (N0:o.data= .dict es ep)
  (hQ:Q (.ref s.heap.objs.size) {s with heap:=s.heap.push {cls:= .type "dict_keyiterator",data:= .fields #[.ref d, .int 0 0, .int es.size 0, .int ep 0]}}):
  wpAny (model prog w) A (pyIter (.ref d)) Q E s:=by
 have hT:s.TypeIs (.ref d) "dict":=⟨o,ho,hc.1⟩;refine wpAny_pyIter_slot hT PySem.F.slot_dict_iter (Ah PySem.F.slot_dict_iter hT PySem.F.entry_dict_iter ?_ (PySem.F.args_dict_iter_1 _));unfold Builtin.«dict.__iter__»;refine A0 ?_;unfold Builtin.Dict.dictSlotNone;refine A0 (wpAny_notOrdered_dict hT ?_);show wpAny _ _ (pure (Value.ref d)) _ _ s;refine A2 ?_;show wpAny _ _ (Builtin.Dict.showsAll d>>=_) _ _ s;unfold Builtin.Dict.showsAll;rw[A5 (by rw[hd];exact AY)];refine A0 (A2 ?_);refine A0 (Ch ho N0 ?_);refine A0 (D4 ho N0 ?_);refine A0 (Ax (A2 ⟨_,rfl,"dict_keyiterator",_,⟨_,AH _ rfl,rfl⟩,Bi.lookup, ?_⟩));simpa[rawInt] using hQ
theorem GL (Mi:s.heap.IsKeyIter it d i es.size ep) (OT:s.heap.get? d=some o) (OU:o.data= .dict es ep) (he:es[i]? =some e)
  (hQ:∀h',h'.IsKeyIter it d (i+1) es.size ep->Heap.SameBut it s.heap h'->Q (some e.key) {s with heap:=h'}):wpAny (model prog w) A (pyNext (.ref it)) Q E s:=by
 obtain⟨oi,ho,hc,hd⟩:=id Mi;have Mh:i<es.size:=(Array.getElem?_eq_some_iff.mp he).1;unfold pyNext;refine A0 (CK (B1 (name:=Str.ofString "__next__") Mi.typeIs Bi (Ah Bi Mi.typeIs PySem.F.entry_dict_keyiterator_next ?_ (PySem.F.args_dict_keyiterator_next_1 _))));refine A0 (A2 ?_);refine A0 ?_;refine A0 ?_;first|refine A0 (CP Mi.typeIs (A2 ?_));skip|refine A0 (Cv Mi.typeIs (A2 ?_));skip
 refine A0 (DE ho hd ?_);have NI:Builtin.Dict_items.ownsTuple "dict_keyiterator"=false:=by decide
 simp -iota only[NI,AI,An];show wpAny _ _ (if(Value.ref d==Value.none)=true then _ else _) _ _ s;rw[A5 (show¬((Value.ref d==Value.none)=true) from AY)];refine A0 (A2 ?_);refine A0 (Ch OT OU ?_);rw[A5 (by simp)];refine A0 (A2 ?_);refine A0 (D4 OT OU ?_);rw[A5 (by simp)];refine A2 ?_;simp only[show¬((i:Int)<0) from by lia,An,Ae,he];refine A0 ?_;first|refine A0 (CP Mi.typeIs (A2 ?_));skip|refine A0 (Cv Mi.typeIs (A2 ?_));skip
 refine A0 (wpAny_isOneOf_keyiter Mi.typeIs ?_);show wpAny _ _ (setField (.ref it) 1 (rawInt ((i:Int)+1))>>=_) _ _ s;refine A0 (CC ho hd (by simp) ?_);have MG:(s.heap.update it (Obj.mapFields (·.setIfInBounds 1 (rawInt ((i:Int)+1))))).IsKeyIter it d (i+1) es.size ep:=⟨_,Bu _ ho (DS (Bw hd _)),(Obj.cls_mapFields ..).trans hc,by rw[Bw hd];simp[rawInt]⟩;refine A0 (B5 ?_);refine A0 (wpAny_isOneOf_keyiter (s:={s with heap:=s.heap.update it (Obj.mapFields (·.setIfInBounds 1 (rawInt ((i:Int)+1))))}) MG.typeIs ?_);show wpAny _ _ (pure e.key) _ _ _;exact A2 (A2 ⟨_,rfl,A2 (hQ _ MG (BF ..))⟩)
theorem GM (hh:A.handled=none) (Mi:s.heap.IsKeyIter it d i es.size ep) (OT:s.heap.get? d=some o) (OU:o.data= .dict es ep) (he:es.size<=i)
  (hQ:∀h',Heap.ExtBut it s.heap h'->Q none {s with heap:=h'}):wpAny (model prog w) A (pyNext (.ref it)) Q E s:=by
 obtain⟨oi,ho,hc,hd⟩:=id Mi;unfold pyNext;refine A0 (CK (B1 (name:=Str.ofString "__next__") Mi.typeIs Bi (Ah Bi Mi.typeIs PySem.F.entry_dict_keyiterator_next ?_ (PySem.F.args_dict_keyiterator_next_1 _))));refine A0 (A2 ?_);refine A0 ?_;refine A0 ?_;first|refine A0 (CP Mi.typeIs (A2 ?_));skip|refine A0 (Cv Mi.typeIs (A2 ?_));skip
 refine A0 (DE ho hd ?_);have NI:Builtin.Dict_items.ownsTuple "dict_keyiterator"=false:=by decide
 simp -iota only[NI,AI,An];show wpAny _ _ (if(Value.ref d==Value.none)=true then _ else _) _ _ s;rw[A5 (show¬((Value.ref d==Value.none)=true) from AY)];refine A0 (A2 ?_);refine A0 (Ch OT OU ?_);rw[A5 (by simp)];refine A0 (A2 ?_);refine A0 (D4 OT OU ?_);rw[A5 (by simp)];refine A2 ?_;simp only[show¬((i:Int)<0) from by lia,An,Ae,BO he];refine A0 ?_;first|refine A0 (CP Mi.typeIs (A2 ?_));skip|refine A0 (Cv Mi.typeIs (A2 ?_));skip
 show wpAny _ _ (setField (.ref it) 0 .none>>=_) _ _ s;refine A0 (CC ho hd (by simp) ?_);show wpAny _ _ (newExc (.type "StopIteration") []>>=_) _ _ _;refine A0 ?_;simp only[newExc,newTuple];refine A0 (Ax ?_ (by size_fits));refine A0 (m:=firstArgMember _ _) (DZ (a:=Value.none) (by first|rfl|(simp only[firstArgMember];rfl)) ?_);refine Ax ?_ (by size_fits);simp -iota only[raiseNew];refine A0 (wpAny_handled ?_);rw[show A.in1.handled=none from hh];refine A0 (A2 (wpAny_throw ?_));refine A0 (BY (T:="StopIteration") (b:=true) ⟨_,AH _ rfl,rfl⟩ isSubtype_stop ?_);exact A2 (hQ _ (((BF ..).extBut.push _).push _))
end
section
variable {prog:Rh}{w:Rj}{A:Rk}{E:OO->Rf->Prop}{s:Rf}
theorem GN {Q:OO->Rf->Prop} (hd:(d==sysModules)=false) (ho:s.heap.get? d=some o) (hc:o.ExactDict)
  (hQ:Q (.ref s.heap.objs.size) {s with heap:=s.heap.push {cls:= .type "dict_values",data:= .fields #[.ref d]}}):wpAny (model prog w) A (call (.builtin "dict.values") [.ref d]) Q E s:=by
 have hT:s.TypeIs (.ref d) "dict":=⟨o,ho,hc.1⟩;refine Ah PySem.F.slot_dict_values hT PySem.F.entry_dict_values ?_ (PySem.F.args_dict_values_1 _);refine A0 ?_;unfold Builtin.Dict.noArgs;refine A0 (wpAny_notOrdered_dict hT ?_);show wpAny _ _ (pure d) _ _ s;refine A2 ?_;show wpAny _ _ (Builtin.Dict.showsAll d>>=_) _ _ s;unfold Builtin.Dict.showsAll;rw[A5 (by rw[hd];exact AY)];refine A0 (A2 ?_);exact A0 (Ax (A2 ⟨_,rfl,hQ⟩))
theorem GO {v:Rg}{Q:OO->Rf->Prop} (hv:s.heap.IsValuesView v d) (ho:s.heap.get? d=some o) (N0:o.data= .dict es ep)
  (hQ:Q (.ref s.heap.objs.size) {s with heap:=s.heap.push {cls:= .type "dict_valueiterator",data:= .fields #[.ref d, .int 0 0, .int es.size 0, .int ep 0]}}):
  wpAny (model prog w) A (pyIter (.ref v)) Q E s:=by
 obtain⟨ov,hov,hcv,hdv⟩:=id hv;refine wpAny_pyIter_slot hv.typeIs PySem.F.slot_dict_values_iter (Ah PySem.F.slot_dict_values_iter hv.typeIs PySem.F.entry_dict_values_iter ?_ (PySem.F.args_dict_values_iter_1 _));unfold Builtin.«dict_values.__iter__»;refine A0 (A2 ?_);refine A0 ?_;unfold Builtin.Dict_items.dictOf;refine A0 (Bh hov hdv (x:= .ref d) rfl (A2 ?_));refine A0 ?_;unfold Builtin.Dict_items.newIterator;refine A0 (Ch ho N0 ?_);refine A0 (D4 ho N0 ?_);have NI:Builtin.Dict_items.ownsTuple "dict_valueiterator"=false:=by decide
 simp -iota only[NI,AI,An];refine Ax (A2 ⟨_,rfl,"dict_valueiterator",_,⟨_,AH _ rfl,rfl⟩,BX.lookup, ?_⟩);simpa[rawInt] using hQ
theorem GP (Mi:s.heap.IsValIter it d i es.size ep) (OT:s.heap.get? d=some o) (OU:o.data= .dict es ep) (he:es[i]? =some e)
  (hQ:∀h',h'.IsValIter it d (i+1) es.size ep->Heap.SameBut it s.heap h'->Q (some e.val) {s with heap:=h'}):wpAny (model prog w) A (pyNext (.ref it)) Q E s:=by
 obtain⟨oi,ho,hc,hd⟩:=id Mi;have Mh:i<es.size:=(Array.getElem?_eq_some_iff.mp he).1;unfold pyNext;refine A0 (CK (B1 (name:=Str.ofString "__next__") Mi.typeIs BX (Ah BX Mi.typeIs PySem.F.entry_dict_valueiterator_next ?_ (PySem.F.args_dict_valueiterator_next_1 _))));refine A0 (A2 ?_);refine A0 ?_;refine A0 ?_;first|refine A0 (CO Mi.typeIs (A2 ?_));skip|refine A0 (Cu Mi.typeIs (A2 ?_));skip
 refine A0 (DE ho hd ?_);have NI:Builtin.Dict_items.ownsTuple "dict_valueiterator"=false:=by decide
 simp -iota only[NI,AI,An];show wpAny _ _ (if(Value.ref d==Value.none)=true then _ else _) _ _ s;rw[A5 (show¬((Value.ref d==Value.none)=true) from AY)];refine A0 (A2 ?_);refine A0 (Ch OT OU ?_);rw[A5 (by simp)];refine A0 (A2 ?_);refine A0 (D4 OT OU ?_);rw[A5 (by simp)];refine A2 ?_;simp only[show¬((i:Int)<0) from by lia,An,Ae,he];refine A0 ?_;first|refine A0 (CO Mi.typeIs (A2 ?_));skip|refine A0 (Cu Mi.typeIs (A2 ?_));skip
 refine A0 (wpAny_isOneOf_valiter Mi.typeIs ?_);show wpAny _ _ (setField (.ref it) 1 (rawInt ((i:Int)+1))>>=_) _ _ s;refine A0 (CC ho hd (by simp) ?_);have MG:(s.heap.update it (Obj.mapFields (·.setIfInBounds 1 (rawInt ((i:Int)+1))))).IsValIter it d (i+1) es.size ep:=⟨_,Bu _ ho (DS (Bw hd _)),(Obj.cls_mapFields ..).trans hc,by rw[Bw hd];simp[rawInt]⟩;refine A0 (B5 ?_);refine A0 (wpAny_isOneOf_valiter (s:={s with heap:=s.heap.update it (Obj.mapFields (·.setIfInBounds 1 (rawInt ((i:Int)+1))))}) MG.typeIs ?_);refine A0 (wpAny_isOneOf_valiter (s:={s with heap:=s.heap.update it (Obj.mapFields (·.setIfInBounds 1 (rawInt ((i:Int)+1))))}) MG.typeIs ?_);show wpAny _ _ (pure e.val) _ _ _;exact A2 (A2 ⟨_,rfl,A2 (hQ _ MG (BF ..))⟩)
theorem GQ (hh:A.handled=none) (Mi:s.heap.IsValIter it d i es.size ep) (OT:s.heap.get? d=some o) (OU:o.data= .dict es ep) (he:es.size<=i)
  (hQ:∀h',Heap.ExtBut it s.heap h'->Q none {s with heap:=h'}):wpAny (model prog w) A (pyNext (.ref it)) Q E s:=by
 obtain⟨oi,ho,hc,hd⟩:=id Mi;unfold pyNext;refine A0 (CK (B1 (name:=Str.ofString "__next__") Mi.typeIs BX (Ah BX Mi.typeIs PySem.F.entry_dict_valueiterator_next ?_ (PySem.F.args_dict_valueiterator_next_1 _))));refine A0 (A2 ?_);refine A0 ?_;refine A0 ?_;first|refine A0 (CO Mi.typeIs (A2 ?_));skip|refine A0 (Cu Mi.typeIs (A2 ?_));skip
 refine A0 (DE ho hd ?_);have NI:Builtin.Dict_items.ownsTuple "dict_valueiterator"=false:=by decide
 simp -iota only[NI,AI,An];show wpAny _ _ (if(Value.ref d==Value.none)=true then _ else _) _ _ s;rw[A5 (show¬((Value.ref d==Value.none)=true) from AY)];refine A0 (A2 ?_);refine A0 (Ch OT OU ?_);rw[A5 (by simp)];refine A0 (A2 ?_);refine A0 (D4 OT OU ?_);rw[A5 (by simp)];refine A2 ?_;simp only[show¬((i:Int)<0) from by lia,An,Ae,BO he];refine A0 ?_;first|refine A0 (CO Mi.typeIs (A2 ?_));skip|refine A0 (Cu Mi.typeIs (A2 ?_));skip
 show wpAny _ _ (setField (.ref it) 0 .none>>=_) _ _ s;refine A0 (CC ho hd (by simp) ?_);show wpAny _ _ (newExc (.type "StopIteration") []>>=_) _ _ _;refine A0 ?_;simp only[newExc,newTuple];refine A0 (Ax ?_ (by size_fits));refine A0 (m:=firstArgMember _ _) (DZ (a:=Value.none) (by first|rfl|(simp only[firstArgMember];rfl)) ?_);refine Ax ?_ (by size_fits);simp -iota only[raiseNew];refine A0 (wpAny_handled ?_);rw[show A.in1.handled=none from hh];refine A0 (A2 (wpAny_throw ?_));refine A0 (BY (T:="StopIteration") (b:=true) ⟨_,AH _ rfl,rfl⟩ isSubtype_stop ?_);exact A2 (hQ _ (((BF ..).extBut.push _).push _))
theorem GR (hh:A.handled=none) (I d:Rg) (MF:d≠I) (N0:o.data= .dict es ep):
  Walks prog w A I [I,d] [I] es.size (λi v=>∃e,es[i]? =some e/\v=e.val) (λi h=>h.IsValIter I d i es.size ep/\h.get? d=some o) where
 sub:=λb hb=>by simp at hb;simp[hb]
 frame:=λ_ _ _ st hk=>⟨st.1.at λo e=>hk I (by simp) o e,hk d (by simp) _ st.2⟩
 item:=λi s Q E hi st hQ=>GP st.1 st.2 N0 (Ab hi) λh' N8 hs'=>hQ _ h' s.toks ⟨_,Ab hi,rfl⟩ ⟨N8,hs'.extBut d _ MF st.2⟩ λb o hb e=>hs'.extBut b o (λh=>hb (by simp[h])) e
 done:=λs Q E st hQ=>GQ hh st.1 st.2 N0 (AB _) λh' Pu=>hQ h' s.toks λb o hb e=>Pu b o (λh=>hb (by simp[h])) e
 self:=λ_ _ _ _ st hQ=>wpAny_pyIter_valiter st.1 hQ
theorem uQ (ns:Rl Int):∀k,k<=ns.length->preSum (λi=>ns.getD i 0) k=(ns.take k).sum
 |0,_=>by simp[preSum]
 |k+1,h=>by
  have hk:k<ns.length:=by lia
  have g:ns.getD k 0=ns[k]:=by simp[List.getD,hk]
  rw[preSum,uQ ns k (by lia),AW,A3 hk,CN];show _+ns.getD k 0=_+[ns[k]].sum;rw[g];simp
end
theorem nH {α β:Type}{R:α->β->Prop}:∀{xs:Rl α}{ys:Rl β}{i:Nat}{x:α},Paired R xs ys->xs[i]? =some x->∃y,ys[i]? =some y/\R x y
 |_,_,i,x, .nil,h=>by simp at h
 |_,_,0,x, .cons r _,h=>by simp at h;subst h;exact⟨_,rfl,r⟩
 |_,_,i+1,x, .cons _ t,h=>by simp at h;obtain⟨y,e,r⟩:=nH t h;exact⟨y,by simpa using e,r⟩
def Itk (d:Rg) (o:Obj) (Mc:Rl (Rl Key×V)):It:=
 ⟨λi H=>H d=some (.frz o (.dT Mc))/\i<Mc.length,λi H x H'=>H'=H/\∃b k v,x= .ref b/\Mc[i]? =some (k,v)/\H b=some (.tup (k.map kV)),λi H=>H d=some (.frz o (.dT Mc))/\Mc.length<=i⟩
inductive iDict_ (R:(It->Hp->Prop)) (x:V) (H1:Hp):Prop
 |mk (d:Addr) (Mc:List (List Key×V)):x= .ref d->Rd H1 d (.dT Mc)->(∀(o:Obj) (H2:Hp),H2 d=some (.frz o (.dT Mc))->(∀b,b≠d->H2 b=H1 b)->R (Itk d o Mc) H2)->iDict_ R x H1
def GS (td:TE):TI:=λσ H R=>td σ H λx H1=>iDict_ R x H1
theorem GU {K:W.Frag}{tg:Rm} (d it:Rg) (o:Obj) (Mc:Rl (Rl Key×V)) (ep:Nat) (hep:∀ML OH,o.data= .dict ML OH->OH=ep):Turn P w K tg (Itk d o Mc) [it] it (λi h=>h.IsKeyIter it d i Mc.length ep) where
 mem:=by simp
 obj:=λi h st b hb=>by
  have e:b=it:=by simpa using hb
  subst e;obtain⟨o,e,c,d⟩:=st;exact⟨o,e,λv z=>by rw[d] at z;cases z⟩
 keep:=λi h h' st k=>st.at λo e=>k it (by simp) o e
 item:=by
  intro X hP hw hK hc i Mb s σ H E I hf st hg;subst hP hw hK;obtain⟨hq,hi⟩:=hg;obtain⟨ho,z,y,xs,Mz,o',es,OH,h1,h2,h3,h4,h5⟩:=(show aG X.prog X.w H s.heap d (.frz o (.dT Mc)) from I.hok d _ hq);obtain rfl:o=o':=Ak (ho.symm.trans h1);obtain rfl:OH=ep:=hep _ _ h3;have hx:Mc[i]? =some Mc[i]:=A3 hi;obtain⟨q,OP,e1,e2,e3⟩:=nH Mz hx;have hsz:es.size=Mc.length:=by rw[<-B4,h4,A1,<-C9 Mz]
  have he:es[i]? =some (entryOfKey (tupleKind (bY X.prog X.w)) q):=by rw[<-Bb,h4,AC,OP];rfl
  obtain⟨f0,f1,f2,f3,f4,f5⟩:=hf it (by simp);rw[<-hsz] at st;refine GL st ho h3 he λh' MG sb=> ?_;have I1:Inv X Mb σ H {s with heap:=h'}:=I.turned (t':=s.toks) (λb o hb e=>(sb.2 b hb).trans e) f0 f1 f3 f4 f5;obtain⟨oo,e,c,d'⟩:=id MG;rw[hsz] at MG;exact⟨_,rfl,go_of (s:={s with heap:=h'}) e c d' (by decide) ⟨.ref q.2.1,H,I1,rfl,⟨rfl,q.2.1,Mc[i].1,Mc[i].2,rfl,hx,e2⟩,MG,λb hb=>(hf b hb).1⟩⟩
 done:=by
  intro X hP hw hK hc i Mb s σ H E I hf st hg;subst hP hw hK;obtain⟨hq,hi⟩:=hg;obtain⟨ho,z,y,xs,Mz,o',es,OH,h1,h2,h3,h4,h5⟩:=(show aG X.prog X.w H s.heap d (.frz o (.dT Mc)) from I.hok d _ hq);obtain rfl:o=o':=Ak (ho.symm.trans h1);obtain rfl:OH=ep:=hep _ _ h3;have hsz:es.size=Mc.length:=by rw[<-B4,h4,A1,<-C9 Mz]
  obtain⟨f0,f1,f2,f3,f4,f5⟩:=hf it (by simp);rw[<-hsz] at st;exact GM (I.ok.hd hc) st ho h3 (by lia) λh' eb=>⟨rfl,I.turned (t':=s.toks) (λb o hb e=>eb b o hb e) f0 f1 f3 f4 f5⟩
 self:=λ_ _ _ _ _ st h=>wpAny_pyIter_keyiter st h
section
variable {X:Cx}{tg:Rm}
theorem GV {h:Rn}(q:aG P w H h d (.dT Mc)) (k:∀b ys,H b=some (.tup ys)->H' b=some (.tup ys)):aG P w H' h d (.dT Mc):=by
 obtain⟨z,y,xs,Mz,r⟩:=q;exact⟨z,y,xs,KT.keeps Mz λc ys ec=>k c ys ec,r⟩
theorem GW {l:Rm}{tl:TE} (hl:PE X l tl):PI X tg l (GS tl):=by
 intro Mb s σ H R I h;refine thn (hl Mb s σ H _ I h) λv s1 zu55=> ?_;obtain⟨x,H1,I1,r1,q1⟩:=zu55;obtain⟨d,Mc,rfl,hq,q⟩:=q1;cases r1;have P6:aG X.prog X.w H1 s1.heap d (.dT Mc):=kx I1.hok hq;obtain⟨z,y,xs,Mz,o,es,ep,h1,h2,h3,h4,h5⟩:=id P6;have hsz:es.size=Mc.length:=by rw[<-B4,h4,A1,<-C9 Mz]
 obtain⟨H2,I2,e2,k2⟩:∃H2,Inv X Mb σ H2 s1/\H2 d=some (.frz o (.dT Mc))/\∀b,b≠d->H2 b=H1 b:=by
  rcases hq with hq|⟨o',hq⟩
  .exact⟨_,gQ (t':=s1.toks) I1 (by rw[hq];exact True.intro) (Heap.SameBut.refl _ _) ⟨o,h1⟩ (show aG X.prog X.w (upd H1 d (.frz o (.dT Mc))) s1.heap d (.frz o (.dT Mc)) from⟨h1,GV P6 λb ys e=>by rw[aw (jY e hq (λz=>nomatch z))];exact e⟩),ak,λb hb=>aw hb⟩
  .obtain⟨MZ,_⟩:=(show aG X.prog X.w H1 s1.heap d (.frz o' (.dT Mc)) from I1.hok d _ hq);obtain rfl:o'=o:=Ak (MZ.symm.trans h1);exact⟨H1,I1,hq,λ_ _=>rfl⟩
 refine GK y h1 h2 h3 ?_;rw[hsz];refine⟨s1.heap.objs.size,[s1.heap.objs.size],_,_,_,rfl,I2.kept (t':=s1.toks) λb o e=>A4 _ e,GU d _ o Mc ep (λML OH e=>by rw[h3] at e;cases e;rfl),⟨_,AH _ rfl,rfl,rfl⟩,λb hb=> ?_,q o H2 e2 k2⟩;have e:b=s1.heap.objs.size:=by simpa using hb
 subst e;exact I2.fpOk (AB _) (I2.hok.fresh (AB _))
theorem GX {g:TG}{tb:TS}{D:Ends}{σ:St}(Pv:Nat->St->Hp->Prop) (h0:Pv 0 σ H) (hl:∀i σ H,i<=Mc.length->Pv i σ H->H d=some (.frz o (.dT Mc)))
  (hs:∀i k v b σ H,Mc[i]? =some (k,v)->Pv i σ H->H b=some (.tup (k.map kV))->g (.ref b) σ H λσ2 H2=>tb (eLp D (Pv (i+1))) σ2 H2) (hd:∀σ H,Pv Mc.length σ H->D.nx σ H):
  ∃Wq:Nat->Nat->St->Hp->Prop,(∃m,Wq 0 m σ H)/\∀i m σ H,Wq i m σ H->
   ((Itk d o Mc).stop i H/\D.nx σ H)\/((Itk d o Mc).go i H/\∃N:St->Hp->Prop,(∀σ' H',N σ' H'->∃m',m'<m/\Wq (i+1) m' σ' H')/\∀x H',(Itk d o Mc).yld i H x H'->g x σ H' λσ2 H2=>tb (eLp D (N)) σ2 H2):=by
 refine⟨λi m σ H=>m=Mc.length-i/\i<=Mc.length/\Pv i σ H,⟨Mc.length,by simp,AO _,h0⟩, ?_⟩;rintro i m σ H ⟨rfl,hi,p⟩;have q:=hl i σ H hi p;by_cases Mh:i<Mc.length
 .refine .inr ⟨⟨q,Mh⟩,Pv (i+1),λσ' H' p'=>⟨Mc.length-(i+1),by lia,rfl,Mh,p'⟩, ?_⟩;rintro x H' ⟨rfl,b,k,v,rfl,e,hb⟩;exact hs i k v b σ _ e p hb
 .obtain rfl:i=Mc.length:=by lia
  exact .inl ⟨⟨q,AB _⟩,hd σ H p⟩
def GY (tk tv:TE):TE:=λσ H Q=>∀p,H p=none->tk σ (upd H p (.dT [])) λx H1=>tv σ H1 λy H2=>H2 p=some (.dT [])/\∃k b,x= .ref b/\H2 b=some (.tup (k.map kV))/\Q (.ref p) (upd H2 p (.dT (aZ [] k y)))
theorem GZ {ek ev:Rm}{tk tv:TE}{pos:Pos} (hu:X.A.units+1<cLine) (hk:PE X ek tk) (hv:PE X ev tv):PE X (.Dict [some ek] [ev] pos) (GY tk tv):=by
 intro Mb s σ H Q I q;have hn:=I.hok.fresh (AB s.heap.objs.size);have I1:=I.laid (a:=s.heap.objs.size) (o:= .dT []) (h':=s.heap.push {cls:= .type "dict",data:= .dict #[]}) (t':=s.toks) (λ_ _ q=>A4 _ q) (AB _) (sw s.heap I.big);rw[arm_eval_Dict,zip_pairTrees [some ek] [ev] X.env pos rfl rfl,dictDisplay_pairs (pairTrees [some ek] [ev] X.env pos) (by intro z;cases z) (show 1<17 by decide)];refine A0 (wpAny_standAt (A0 ?_));unfold subDict;refine A0 (wpAny_alloc ?_);refine A0 (B5 ?_);rw[A6 (show(pairTrees [some ek] [ev] X.env pos).length<=15 from(by decide:1<=15))];refine A0 (pairTrees_cons_walk (thn (hk Mb _ σ _ _ I1 (q _ hn)) λu s1 zu56=> ?_));obtain⟨x,H1,I2,rx,q1⟩:=zu56;refine thn (hv Mb s1 σ H1 _ I2 q1) λw2 s2 zu57=> ?_;obtain⟨y,H2,I3,ry,e,k,b,ex,eb,q2⟩:=zu57;refine pairTrees_nil_walk ?_;subst ex;cases (show u=Value.ref b from rx);obtain⟨z,hd,xs,Mz,dd⟩:=sv I3.hok e;cases Mz;refine wpAny_holding (wpAny_bind ?_);rw[List.forIn_cons];dsimp only;refine A0 (A0 (wpAny_dictSet_heap (knd:=tupleKind (bY X.prog X.w)) (show X.A.units<cLine by lia) (iZ I3.hok eb) dd (λh' Pe hs=>A2 ?_) (AO _)));dsimp only;rw[List.forIn_nil];refine wpAny_pure (wpAny_pure (wpAny_pure (wpAny_pure ?_)));obtain⟨o,es,ep,hq,h2,h3,h4,_,h5⟩:=Pe;refine⟨.ref s.heap.objs.size,_,gQ I3 (by rw[e];exact True.intro) hs ⟨o,hq⟩ (show aG X.prog X.w (upd H2 s.heap.objs.size (.dT (aZ [] k y))) h' s.heap.objs.size (.dT (aZ [] k y)) from⟨(by show 1<=sizeLine;decide),hd,_,KT.keeps (KT.put .nil k eb ry) λc ys ec=> ?_,o,es,ep,hq,h2,h3,h4,h5⟩),rfl,q2⟩;rw[aw (jY ec e (λz=>nomatch z))];exact ec
inductive tSumV_ (Q:VK) (x:V) (H1:Hp):Prop
 |mk (d:Addr) (Mc:List (List Key×V)) (ns:List Int):x= .ref d->Rd H1 d (.dT Mc)->Mc.map (·.2)=ns.map V.int->Q (.int ns.sum) H1->tSumV_ Q x H1
def G0 (td:TE):TE:=λσ H Q=>td σ H λx H1=>tSumV_ Q x H1
theorem G1 {e:Rm}{td:TE}{p Mv Mn pos:Pos} (hc:X.calm=true) (hg:Gl X "sum") (hm:X.mg "sum"=none) (he:PE X e td)
  (OB:starEach [Expr.Call (.Attribute e "values" Mv) [] [] Mn] X.env=(false,eval (Expr.Call (.Attribute e "values" Mv) [] [] Mn) X.env)::starEach [] X.env:=by rfl)
  (NU:attributeBase e "values" X.env (eval e X.env)=eval e X.env:=by rfl) (NV:(Mv.endLine==Mn.line)=true:=by rfl):
  PE X (.Call (.Name "sum" p) [.Call (.Attribute e "values" Mv) [] [] Mn] [] pos) (G0 td):=by
 intro Mb s σ H Q I h;refine BJ (cM I hg hm (by first|exact Di|rfl|ac_nf) ?_ (by decide) (by decide));refine D9 ?_ OB (by rfl);rw[OB];show wpAny _ _ (spliced ((false,eval (Expr.Call (.Attribute e "values" Mv) [] [] Mn) X.env)::backTo pos (starEach [] X.env))) _ _ s;refine CT ?_;refine wpAny_Call_method0_late NU NV (thn (he Mb s σ H _ I h) λv s1 zu58=> ?_);obtain⟨x,H1,I1,r1,q1⟩:=zu58;obtain⟨d,Mc,ns,rfl,hrd,hns,q⟩:=q1;cases r1;obtain⟨hT,NF,hsys⟩:=sD I1 (.inr ⟨Mc,hrd⟩);obtain⟨z,y,xs,Mz,o,es,ep,h1,h2,h3,h4,h5⟩:=(show aG X.prog X.w H1 s1.heap d (.dT Mc) from kx I1.hok hrd);refine⟨"dict","dict.values",PySem.F.plainAttrs_dict,PySem.F.slot_dict_values,PySem.F.type_dict_values,hT,NF,DJ rfl (PySem.evalArgs_none (GN hsys h1 h2 (A2 ?_)))⟩;show wpAny _ _ (call (.builtin "sum") [.ref s1.heap.objs.size]) _ _ _;have h1':(s1.heap.push {cls:= .type "dict_values",data:= .fields #[.ref d]}).get? d=some o:=A4 _ h1;have hdl:d<s1.heap.objs.size:=AM h1;have hsz:es.size=Mc.length:=by rw[<-B4,h4,A1,<-C9 Mz]
 have hnl:ns.length=Mc.length:=by have:=B' List.length hns;simpa using this.symm
 refine call_sum_walkAnyS (GO (s:={s1 with heap:=s1.heap.push {cls:= .type "dict_values",data:= .fields #[.ref d]}}) ⟨_,AH _ rfl,rfl,rfl⟩ h1' h3 ?_);refine⟨_,_,_,_,_,_,_,λi=>ns.getD i 0,rfl,(GR (A:=X.A.in1) (I.ok.hd hc) (s1.heap.push {cls:= .type "dict_values",data:= .fields #[.ref d]}).objs.size d (by rw[B0];exact AQ (Ai hdl)) h3).toS,⟨⟨_,AH _ rfl,rfl,rfl⟩,A4 _ h1'⟩, ?_, ?_, ?_⟩
 .intro b hb;simp only[AJ,Au,Bo] at hb;rcases hb with rfl|rfl
  .show _<(Heap.push (s1.heap.push _) _).objs.size;rw[B0 (s1.heap.push _)];exact BU _
  .show _<(Heap.push (s1.heap.push _) _).objs.size;rw[B0,B0];exact Ai (Ai hdl)
 .rintro i v ⟨e,hei,rfl⟩;rw[<-Bb,h4,AC] at hei;obtain⟨q',hq',rfl⟩:=A8.mp hei;have hi:i<Mc.length:=by rw[C9 Mz];exact(AF.mp hq').1
  obtain⟨q2,hq2,e1,e2,e3⟩:=nH Mz (A3 hi);rw[hq'] at hq2;cases hq2;have:Mc[i].2=V.int (ns.getD i 0):=by
   have z1:(Mc.map (·.2))[i]? =some Mc[i].2:=by rw[AC,A3 hi];rfl
   rw[hns,AC,A3 (by lia)] at z1;simp only[Cn,Option.some.injEq] at z1;rw[<-z1,A',A3 (by lia)];rfl
  rw[this] at e3;exact e3
 .intro s' t' hm';obtain⟨h',g',d',tk',Qm⟩:=s';have eg:g'=s1.gens:=hm'.gens;have ed:d'=s1.drawn:=hm'.drawn;have eo:Qm=s1.os:=hm'.os;subst eg;subst ed;subst eo;have es:preSum (λi=>ns.getD i 0) es.size=ns.sum:=by rw[hsz,<-hnl,uQ ns ns.length (AB _),AS]
  rw[es];refine⟨.int ns.sum,H1,I1.kept λb o e=>hm'.heap b o (λhb=> ?_) (A4 _ (A4 _ e)),⟨t',rfl⟩,q⟩;simp only[AJ,Au,Bo] at hb;have:=AM e;rw[hb,B0] at this;exact absurd this (Nat.not_lt.mpr (Ct _))
end
section
variable {X:Cx}
theorem nI:OpR X (binaryOp .Add) (λx y H Q=>∃xs ys,Is H (.t xs) x/\Is H (.t ys) y/\xs.length+ys.length<=sizeLine/\∀v H2,af H H2->Is H2 (.t (xs++ys)) v->Q v H2):=by
 intro Mb s σ H x y v u Q I rx ry h;obtain⟨xs,ys,hx,hy,hz,q⟩:=h;obtain⟨a,vs,rfl,ha,ra⟩:=bB hx;obtain⟨b,ws,rfl,hb,rb⟩:=bB hy;have l1:=ra.length;have l2:=rb.length;by_cases h1:vs=[]
 .subst h1;have hx0:xs=[]:=CJ.mp (by rw[<-l1];rfl);subst hx0;cases rx;cases ry;obtain⟨Me,r1,p1,_⟩:=I.tuple (SqT.of (K:=X.K) ha);obtain⟨NC,r2,p2,_⟩:=I.tuple (SqT.of (K:=X.K) hb);cases r1;obtain⟨⟨cls,dd,data,sl⟩,ho,hc,n,hd⟩:=p1;obtain⟨⟨Pp,NS,data2,NT⟩,M9,NB,n2,Nm⟩:=p2;simp only at hc hd NB Nm;subst hc hd NB Nm;exact concat_meets ⟨_,ho,rfl⟩ ⟨_,M9,rfl⟩ noFill_tuple_add seq_tuple_add PySem.F.slot_tuple_add PySem.F.entry_tuple_add (PySem.F.args_tuple_add_2 _ _) (tuple_addW0 a b _ _ n n2 dd NS sl NT (by simp)) ⟨ho,M9,⟨.ref b,H,I,rfl,q _ H (af.refl H) hy⟩⟩
 .refine Du Mb s σ H (.ref a) (.ref b) v u Q I rx ry ⟨a,b,vs,ws,rfl,rfl,SqT.of ha,SqT.of hb,h1,by lia,λe=> ?_,λ_ p np=> ?_⟩
  .have:ys=[]:=CJ.mp (by rw[<-l2,e];rfl);subst this;exact q _ H (af.refl H) (by rw[BK];exact hx)
  .exact q _ _ (af.new np) (bA ak ((ra.append rb).mono (af.new np)))
theorem uR:SlR X (λx lo hi H Q=>∃xs NX,Is H (.t xs) x/\(∀(H':Hp) (vs:Rl V),Iss H' xs vs->Iss H' NX (bT vs lo hi))/\(∀vs:Rl V,vs.length=xs.length->(HT.sIx vs.length 0 lo=0/\HT.sIx vs.length vs.length hi=vs.length)->NX=xs)/\∀v H2,af H H2->Is H2 (.t NX) v->Q v H2):=by
 intro Mb s σ H x v vl vu lo hi sl Q I rx hs pl pu h;obtain⟨xs,NX,hx,hc,hw,q⟩:=h;obtain⟨a,vs,rfl,ha,ra⟩:=bB hx;refine Ge Mb s σ H (.ref a) v vl vu lo hi sl Q I rx hs pl pu ⟨a,vs,rfl,SqT.of ha,λe=> ?_,λe p np=> ?_⟩
 .have:=hw vs ra.length e;subst this;exact q _ H (af.refl H) hx
 .exact q _ _ (af.new np) (bA ak ((hc _ _ ra).mono (af.new np)))
end
def LTS (H H':Hp):Prop:=(∀b xs,H b=some (.lst xs)->H' b=some (.lst xs))/\∀b xs,H b=some (.tup xs)->H' b=some (.tup xs)
theorem LTS.dict {o:HO} (h:H d=some (.dT Mc)):LTS H (upd H d o):=
 ⟨λb xs e=>by rw[aw (by rintro rfl;rw[h] at e;cases e)];exact e,λb xs e=>by rw[aw (by rintro rfl;rw[h] at e;cases e)];exact e⟩
theorem LTS.rd (h:Rd H d (.dT Mc)) (k:∀b,b≠d->H' b=H b):LTS H H':=by
 have nd:∀b o,H b=some o->(∀Mc,o≠ .dT Mc)->(∀ob u,o≠ .frz ob u)->b≠d:=by
  rintro b o e n1 n2 rfl;rcases h with h|⟨ob,h⟩
  .rw [h] at e;cases e;exact n1 _ rfl
  .rw [h] at e;cases e;exact n2 _ _ rfl
 exact⟨λb xs e=>by rw[k b (nd b _ e (λ_ z=>nomatch z) λ_ _ z=>nomatch z)];exact e,λb xs e=>by rw[k b (nd b _ e (λ_ z=>nomatch z) λ_ _ z=>nomatch z)];exact e⟩
mutual
theorem Is.lts {H H':Hp} (s:LTS H H'):∀{d:D}{v:V},Is H d v->Is H' d v
 | .i _,_,h=>by rw[az h];exact bz
 | .l xs,_,h=>by
  obtain⟨a,vs,e,q,r⟩:=aA h;rw[e];exact aD (s.1 _ _ q) (Iss.lts s r)
 | .t xs,_,h=>by
  obtain⟨a,vs,e,q,r⟩:=bB h;rw[e];exact bA (s.2 _ _ q) (Iss.lts s r)
theorem Iss.lts {H H':Hp} (s:LTS H H'):∀{xs:Rl D}{vs:Rl V},Iss H xs vs->Iss H' xs vs
 |[],_,h=>by rw[bn h];exact ax
 |x::xs,_,h=>by
  obtain⟨u,us,e,q,r⟩:=aI h;rw[e];exact au (Is.lts s q) (Iss.lts s r)
end
section
variable {prog:Rh}{w:Rj}{K:Type} [DecidableEq K] {knd:KeyKind prog w K}
inductive ItemsT (knd:KeyKind prog w K) (h:Heap):List (List K)->List Value->Prop
 |nil:ItemsT knd h [] []
 |cons {k:List K}{a:Addr}{ks:List (List K)}{vs:List Value}:IsTupleKey knd h k a->ItemsT knd h ks vs->ItemsT knd h (k::ks) (.ref a::vs)
def cH (knd:KeyKind prog w K) (h:Rn) (ks:Rl (Rl K)) (a:Rg):Prop:=∃o items n,h.get? a=some o/\o.cls= .type "tuple"/\o.data= .seq items n/\ItemsT knd h ks items.toList
theorem ItemsT.inj {h:Rn}{x y:Rl (Rl K)}{vs:Rl OO} (hx:ItemsT knd h x vs) (hy:ItemsT knd h y vs):x=y:=by
 induction hx generalizing y with
 |nil=>cases hy;rfl
 |cons h1 _ ih=>
  cases hy with
  |cons h2 t2=>rw[h1.inj h2,ih t2]
theorem ItemsT.keeps {h h':Rn}{x:Rl (Rl K)}{vs:Rl OO}{d:Rg}{o:Obj}{es ep} (hx:ItemsT knd h x vs) (ho:h.get? d=some o) (hd:o.data= .dict es ep) (hs:Heap.SameBut d h h'):ItemsT knd h' x vs:=by
 induction hx with
 |nil=>exact .nil
 |cons h1 _ ih=>exact .cons (h1.keeps ho hd hs) ih
theorem cH.typeIs {s:Rf}{ks:Rl (Rl K)}{a:Rg} (x:cH knd s.heap ks a):s.TypeIs (.ref a) "tuple":=by obtain⟨o,_,_,ho,hc,_⟩:=x;exact⟨o,ho,hc⟩
theorem cH.inj {h:Rn}{a:Rg}{x y:Rl (Rl K)} (hx:cH knd h x a) (hy:cH knd h y a):x=y:=by
 obtain⟨o,items,n,ho,_,hd,hi⟩:=hx;obtain⟨o',QH,n',MZ,_,No,NN⟩:=hy;obtain rfl:o=o':=Ak (ho.symm.trans MZ);rw[hd] at No;injection No with h1 _;subst h1;exact hi.inj NN
theorem cH.keeps {h h':Rn}{ks:Rl (Rl K)}{a d:Rg}{o:Obj}{es ep} (x:cH knd h ks a) (ho:h.get? d=some o) (hd:o.data= .dict es ep) (hs:Heap.SameBut d h h'):cH knd h' ks a:=by
 obtain⟨o',items,n,MZ,hc,No,hi⟩:=x;have MF:a≠d:=by
  rintro rfl;obtain rfl:o'=o:=Ak (MZ.symm.trans ho);rw[hd] at No;exact nomatch No
 exact⟨o',items,n,(hs.2 a MF).trans MZ,hc,No,hi.keeps ho hd hs⟩
def nJ (knd:KeyKind prog w K) (ks:Rl (Rl K)):Int:=reduceHash (Builtin.Tuple.tupleHashOf (ks.map (tupleKeyHash knd)))
def nL (ks:Rl (Rl K)):Nat:=(ks.map λk=>k.length+1).sum+1
variable {A:Rk}{E:OO->Rf->Prop}{s:Rf}
theorem G2 {ks:Rl (Rl K)}{a:Rg}{Q:Int->Rf->Prop} (hu:A.units+1<cLine) (hk:cH knd s.heap ks a) (h:Q (nJ knd ks) {s with toks:=s.toks+nL ks}):
  wpAny (model prog w) A (pyHash (.ref a)) Q E s:=by
 have hT:=hk.typeIs;obtain⟨o,items,n,ho,_,hd,hi⟩:=hk;unfold pyHash;first|unfold pyHashByItsType|skip
 first|refine A0 (wpAny_cRoomFor_or (.inr (by lia)) ?_)|skip
 refine A0 (BW hT Bq.lookup ?_);show wpAny _ _ (if(some (Value.builtin "tuple.__hash__")==some Value.none)=true then _ else _) Q E s;rw[A5 (by rw[beq_builtin_none];exact AY)];refine A0 (BW hT Bq.lookup ?_);show wpAny _ _ (callSpecialIfBoundUnlessNone? (.ref a) "__hash__" _>>=_) Q E s;refine A0 (wpAny_callSpecialIfBoundUnlessNone?_slot hT Bq (Ah Bq hT F.entry_tuple_hash ?_ (F.args_tuple_hash_1 _)));show wpAny _ _ (Builtin.Tuple.tupleItemsOf (.ref a)>>=_) _ _ s;refine A0 (CS ho hd ?_);refine A0 ?_;rw[<-C7];refine BZ _
  (λaJ (b:Array Int) s'=>∃done left,ks=done++left/\ItemsT knd s.heap left aJ/\b.toList=done.map (tupleKeyHash knd)/\s'={s with toks:=s.toks+(done.map λk=>k.length+1).sum})
  _ ?_ ?_ _ _ ⟨[],ks,rfl,hi,rfl,rfl⟩
 .rintro x aJ b s' ⟨done,left,rfl,hl,hb,rfl⟩;cases hl with
  | @cons k a1 ks' _ h1 MJ=>
   refine A0 (wpAny_pyHash_tuple (knd:=knd) (ks:=k) (by first|exact hu|(rw[cb];lia)|(simp;lia)) h1 ?_);first
    |exact A2 ⟨done++[k],ks',by simp,MJ,by simp[hb],by simp[C4]⟩
    |exact A0 (A2 (A2 ⟨done++[k],ks',by simp,MJ,by simp[hb],by simp[C4]⟩))
 .rintro b s' ⟨done,left,rfl,hl,hb,rfl⟩;cases hl;rw[BK] at h;show wpAny _ _ (retInt (Builtin.Tuple.tupleHashOf b.toList)) _ _ _;rw[hb];refine wpAny_ret_mkInt ?_;show wpAny _ _ (if(decide (-(2:Int)^63<=Builtin.Tuple.tupleHashOf (done.map (tupleKeyHash knd)))&&decide (Builtin.Tuple.tupleHashOf (done.map (tupleKeyHash knd))<2^63))=true then _ else _) Q E _;unfold nJ reduceHash nL at h;by_cases hr:(decide (-(2:Int)^63<=Builtin.Tuple.tupleHashOf (done.map (tupleKeyHash knd)))&&decide (Builtin.Tuple.tupleHashOf (done.map (tupleKeyHash knd))<2^63))=true
  .rw [A6 hr];rw[A6 hr] at h;exact A2 (by simpa[C4] using h)
  .rw [A5 hr];rw[A5 hr] at h;exact A0 (Bv (A2 (by simpa[C4] using h)))
theorem G3 {x y:Rl (Rl K)}{a b:Rg}{P:Fin->Rf->Prop} (hu:A.units<cLine) (hx:cH knd s.heap x a) (hy:cH knd s.heap y b) (h:P (.done (.ret (.bool (decide (x=y))))) s):
  wpAny (model prog w) A (Builtin.«tuple.__eq__» ⟨[.ref a, .ref b],[]⟩) P E s:=by
 have hTb:=hy.typeIs;obtain⟨oa,xs,na,hoa,_,Nx,hia⟩:=hx;obtain⟨ob,ys,nb,P6,_,Ou,hib⟩:=hy;show wpAny _ _ (isInstance (.ref b) (.type "tuple")>>=_) _ _ s;refine A0 (BY hTb Ce ?_);simp only[B8,AI,An];refine A0 (CS hoa Nx ?_);refine A0 (CS P6 Ou ?_);refine A0 ?_;refine BZ _
  (λaJ r s'=>r.1=none/\s'=s/\∃x' y' NX OV,aJ=List.zip NX OV/\ItemsT knd s.heap x' NX/\ItemsT knd s.heap y' OV/\decide (x'=y')=decide (x=y)/\(NX.length==OV.length)=(xs.size==ys.size))
  _ ?_ ?_ _ _ ⟨rfl,rfl,x,y,xs.toList,ys.toList,rfl,hia,hib,rfl,by simp⟩
 .rintro⟨u,v⟩ aJ r s' ⟨hr,rfl,x',y',NX,OV,hz,Mm,M0,Ng,Mg⟩;cases Mm with
  |nil=>simp at hz
  | @cons k1 a1 x'' xs'' h1 hx''=>
   cases M0 with
   |nil=>simp at hz
   | @cons k2 a2 Ph ys'' h2 N'=>
    simp only[Da,C',DB] at hz;obtain⟨⟨rfl,rfl⟩,rfl⟩:=hz;refine A0 (wpAny_eqBool_tuple (knd:=knd) (x:=k1) (y:=k2) (by first|exact hu|(rw[cb];lia)|(simp;lia)) h1 h2 ?_);by_cases hk:k1=k2
    .subst hk;rw[Ar rfl];simp only[B8,AI,An];refine A2 ⟨rfl,rfl,x'',Ph,xs'',ys'',rfl,hx'',N', ?_,by simpa using Mg⟩;rw[<-Ng];by_cases P':x''=Ph
     .simp [P']
     .simp [P']
    .rw [Aj hk];simp only[Cc,C8];have hf:decide (x=y)=false:=by rw[<-Ng];simp[hk]
     rw[hf] at h;exact A0 (A2 (A2 (A2 h)))
 .rintro⟨r1,r2⟩ s' ⟨hr,rfl,x',y',NX,OV,hz,Mm,M0,Ng,Mg⟩;simp only at hr;subst hr;refine A2 ?_;have QI:(xs.size==ys.size)=decide (x=y):=by
   rw[<-Ng,<-Mg];cases Mm with
   |nil=>
    cases M0 with
    |nil=>simp
    |cons _ _=>simp
   |cons _ _=>
    cases M0 with
    |nil=>simp
    |cons _ _=>simp at hz
  show P (.done (.ret (.bool (xs.size==ys.size)))) s';rw[QI];exact h
theorem G4 {x y:Rl (Rl K)}{a b:Rg}{Q:Bool->Rf->Prop} (hu:A.units+1<cLine) (hx:cH knd s.heap x a) (hy:cH knd s.heap y b) (h:Q (decide (x=y)) s):
  wpAny (model prog w) A (eqBool (.ref a) (.ref b)) Q E s:=by
 unfold eqBool;try with_reducible refine B5 ?_
 show wpAny _ _ (if(Value.ref a==Value.ref b)=true then _ else _) Q E s;by_cases Nr:(Value.ref a==Value.ref b)=true
 .rw [A6 Nr];have e:a=b:=by have:=eq_of_beq Nr;injection this
  subst e;obtain rfl:=hx.inj hy;exact A0 (Bv (A2 (by simpa using h)))
 .rw [A5 Nr];exact A0 (wpAny_richCompare_same_room (op:= .Eq) hx.typeIs hy.typeIs Cb
   (Ah Cb hx.typeIs F.entry_tuple_eq (G3 (by first|lia|(rw[cb];lia)|(simp;lia)) hx hy ⟨_,rfl,(λe=>nomatch e),Bg h⟩) (F.args_tuple_eq_2 _ _)) (by lia))
theorem uS {ks:Rl K}{a:Rg}{n:Nat}{Q:Bool->Rf->Prop} (hk:IsTupleKey knd s.heap ks a) (h:Q true s):wpAny (model prog w) A (eqIsQuiet (n+1) (.ref a)) Q E s:=by
 have hT:=hk.typeIs;obtain⟨o,items,n,ho,_,hd,hi⟩:=hk;unfold eqIsQuiet;refine A0 (BW hT Cb.lookup ?_);show wpAny _ _ (isInstance (.ref a) (.type "tuple")>>=_) _ _ s;refine A0 (BY hT Ce ?_);simp only[B8,AI,An];refine A0 (BV ho hd ?_);refine A0 ?_;show wpAny _ _ (forIn items _ _) _ _ s;rw[<-C7];refine BZ _ (λaJ r s'=>r.1=none/\s'=s/\∀v∈aJ,carriedByValue v=true) _ ?_ ?_ _ _ ⟨rfl,rfl,hi.byValue⟩
 .rintro v aJ r s' ⟨hr,rfl,MC⟩;rw[eqIsQuiet_byValue _ (MC v AD)];refine A0 (A2 ?_);simp only[B8,AI,An];exact A2 ⟨rfl,rfl,λu QC=>MC u (AK _ QC)⟩
 .rintro⟨r1,r2⟩ s' ⟨hr,rfl,_⟩;simp only at hr;subst hr;exact A2 h
theorem G5 {ks:Rl (Rl K)}{a:Rg}{Q:Bool->Rf->Prop} (hk:cH knd s.heap ks a) (h:Q true s):wpAny (model prog w) A (eqIsQuiet 8 (.ref a)) Q E s:=by
 have hT:=hk.typeIs;obtain⟨o,items,n,ho,_,hd,hi⟩:=hk;unfold eqIsQuiet;refine A0 (BW hT Cb.lookup ?_);show wpAny _ _ (isInstance (.ref a) (.type "tuple")>>=_) _ _ s;refine A0 (BY hT Ce ?_);simp only[B8,AI,An];refine A0 (BV ho hd ?_);refine A0 ?_;show wpAny _ _ (forIn items _ _) _ _ s;rw[<-C7];refine BZ _ (λaJ r s'=>r.1=none/\s'=s/\∃x,ItemsT knd s.heap x aJ) _ ?_ ?_ _ _ ⟨rfl,rfl,ks,hi⟩
 .rintro v aJ r s' ⟨hr,rfl,x,MC⟩;cases MC with
  |cons h1 ht=>
   refine A0 (uS h1 ?_);simp only[B8,AI,An];exact A2 ⟨rfl,rfl,_,ht⟩
 .rintro⟨r1,r2⟩ s' ⟨hr,rfl,_⟩;simp only at hr;subst hr;exact A2 h
end
def uT {prog:Rh}{w:Rj}{K:Type} [DecidableEq K] (knd:KeyKind prog w K):HeapKind prog w (Rl (Rl K)) where
 is:=cH knd
 hash:=nJ knd
 draws:=nL
 room:=λA=>A.units+1<cLine
 inj:=λhx hy=>hx.inj hy
 keeps:=λx ho hd hs=>x.keeps ho hd hs
 pyHash:=λhu hk h=>G2 hu hk h
 eqBool:=λhu hx hy h=>G4 hu hx hy h
 quiet:=λhk h=>G5 hk h
theorem cu {A:Rk}{k:Nat} (hr:Room k A):A.units+2<cLine:=by have:=hr.un;lia
class KOk {P:Rh}{w:Rj}{κ:Type} [DecidableEq κ] (hk:HeapKind P w κ) (IK:Hp->κ->V->Prop):Prop where
 of:∀{H:Hp}{h:Rn}{k:κ}{a:Rg},HOk P w H h->IK H k (.ref a)->hk.is h k a
 ref:∀{H:Hp}{k:κ}{y:V},IK H k y->∃b,y= .ref b
 keeps:∀{H H':Hp},(∀b ys,H b=some (.tup ys)->H' b=some (.tup ys))->∀{k:κ}{v:V},IK H k v->IK H' k v
 room1:∀{A:Rk},A.units+1<cLine->hk.room A
section
variable {P:Rh}{w:Rj}{κ:Type} [DecidableEq κ] {hk:HeapKind P w κ}{IK:Hp->κ->V->Prop}{H:Hp}{h:Rn}{a:Rg}
theorem KOk.room (F:KOk hk IK) {A:Rk} (hu:A.units+2<cLine):hk.room A.in1:=F.room1 (by rw[cb];lia)
theorem KOk.rf (F:KOk hk IK) {k:κ}{y:V}{u:OO} (h:IK H k y) (r:av y u):∃b,y= .ref b/\u= .ref b:=by
 obtain⟨b,rfl⟩:=F.ref h;exact⟨b,rfl,r⟩
def gE (hk:HeapKind P w κ) (xs:Rl (κ×Rg×OO)) (a:Rg) (h:Rn):Prop:=
 ∃o es ep,h.get? a=some o/\o.ExactDict/\o.data= .dict es ep/\es.toList=xs.map (entryOfKey hk)/\(xs.map (·.1)).Nodup
abbrev GT (IK:Hp->κ->V->Prop) (H:Hp):Rl (κ×V)->Rl (κ×Rg×OO)->Prop:=Paired λp q=>p.1=q.1/\IK H p.1 (.ref q.2.1)/\av p.2 q.2.2
def DG (hk:HeapKind P w κ) (IK:Hp->κ->V->Prop) (H:Hp) (a:Rg) (Mc:Rl (κ×V)):Prop:=Mc.length<=sizeLine/\(a==sysModules)=false/\∃xs,GT IK H Mc xs/\H a=some (.ext (gE hk xs a))
theorem jm [F:KOk hk IK] {Mc:Rl (κ×V)} (ok:HOk P w H h) (e:DG hk IK H a Mc):Mc.length<=sizeLine/\(a==sysModules)=false/\∃xs,GT IK H Mc xs/\H a=some (.ext (gE hk xs a))/\h.DictOfH hk a xs:=by
 obtain⟨z,y,xs,r,e⟩:=e;obtain⟨⟨o,es,ep,h1,h2,h3,h4,h5⟩,_,_⟩:=(show aG P w H h a (.ext (gE hk xs a)) from ok a _ e);refine⟨z,y,xs,r,e,o,es,ep,h1,h2,h3,h4,λx hx=> ?_,h5⟩;have all:∀{l:Rl (κ×V)}{m:Rl (κ×Rg×OO)},GT IK H l m->∀x∈m,hk.is h x.1 x.2.1:=by
  intro l m q;induction q with
  |nil=>intro x hx;exact nomatch hx
  | @cons p q ps qs hq t ih=>
   intro x hx;rcases AJ.mp hx with e|hx
   .subst e;exact F.of ok (by rw[<-hq.1];exact hq.2.1)
   .exact ih x hx
 exact all r x hx
theorem nM {xs:Rl (κ×Rg×OO)}{H':Hp} (d:∃o es ep,h.get? a=some o/\o.ExactDict/\o.data= .dict es ep/\es.toList=xs.map (entryOfKey hk)/\(xs.map (·.1)).Nodup):aG P w H' h a (.ext (gE hk xs a)):=by
 refine⟨d,let ⟨o,_,_,h1,_⟩:=d;⟨o,h1⟩,λh1 h2 f k=> ?_⟩;obtain⟨o,es,ep,e1,r⟩:=f;exact⟨o,es,ep,k o e1,r⟩
theorem GT.val {Mc:Rl (κ×V)}{xs:Rl (κ×Rg×OO)} (r:GT IK H Mc xs) (k:κ):cA (aR Mc k) ((atKey xs k).map (·.2)):=by
 induction r with
 |nil=>exact True.intro
 | @cons p q ps qs h t ih=>
  obtain⟨h1,_,h2⟩:=h;by_cases e:p.1=k
  .have e':q.1=k:=h1.symm.trans e;have b:atKey (q::qs) k=some q.2:=by simp[atKey,Bf,e']
   rw[cC e,b];exact h2
  .have e':¬q.1=k:=λz=>e (h1.trans z);have b:atKey (q::qs) k=atKey qs k:=by simp[atKey,Bf,e']
   rw[cO e,b];exact ih
theorem GT.repl {Mc:Rl (κ×V)}{xs:Rl (κ×Rg×OO)} (r:GT IK H Mc xs) (k:κ) {y:V}{u:OO} (ry:av y u):
  GT IK H (Mc.map λkv=>if kv.1=k then(kv.1,y) else kv) (xs.map (putAt k u)):=by
 induction r with
 |nil=>exact .nil
 | @cons p q ps qs h t ih=>
  rw[AL,AL];refine .cons ?_ ih;obtain⟨h1,h2,h3⟩:=h;unfold putAt;by_cases e:p.1=k
  .rw [A6 e,A6 (h1.symm.trans e)];exact⟨h1,h2,ry⟩
  .rw [A5 e,A5 (λz=>e (h1.trans z))];exact⟨h1,h2,h3⟩
theorem GT.put {Mc:Rl (κ×V)}{xs:Rl (κ×Rg×OO)} (r:GT IK H Mc xs) (k:κ) {b:Rg}{y:V}{u:OO} (hb:IK H k (.ref b)) (ry:av y u):
  GT IK H (aZ Mc k y) (storedH xs k b u):=by
 have e:(Mc.any λkv=>decide (kv.1=k))=(atKey xs k).isSome:=by
  rw[fw,(r.val k).isSome_eq,Option.isSome_map]
 unfold aZ storedH;rw[e];by_cases q:(atKey xs k).isSome=true
 .rw [A6 q,A6 q];exact r.repl k ry
 .rw [A5 q,A5 q];exact Paired.snoc r ⟨rfl,hb,ry⟩
theorem GT.keeps (F:KOk hk IK) {H':Hp}{Mc:Rl (κ×V)}{xs:Rl (κ×Rg×OO)} (r:GT IK H Mc xs) (ht:∀b ys,H b=some (.tup ys)->H' b=some (.tup ys)):GT IK H' Mc xs:=
 Paired.mapP r λ_ _ z=>⟨z.1,F.keeps ht z.2.1,z.2.2⟩
theorem DG.keeps [F:KOk hk IK] {H':Hp}{Mc:Rl (κ×V)} (d:DG hk IK H a Mc) (ha:H' a=H a) (ht:∀b ys,H b=some (.tup ys)->H' b=some (.tup ys)):DG hk IK H' a Mc:=by
 obtain⟨z,y,xs,r,e⟩:=d;exact⟨z,y,xs,r.keeps F ht,ha.trans e⟩
theorem DG.mono [F:KOk hk IK] {H':Hp}{Mc:Rl (κ×V)} (s:af H H') (d:DG hk IK H a Mc):DG hk IK H' a Mc:=by
 obtain⟨z,y,xs,r,e⟩:=d;exact⟨z,y,xs,r.keeps F λb ys=>s b _,s _ _ e⟩
theorem DG.mut {Mc:Rl (κ×V)} (d:DG hk IK H a Mc):Mut (H a):=by
 obtain⟨_,_,xs,_,e⟩:=d;rw[e];exact True.intro
theorem DG.ntup {Mc:Rl (κ×V)} (d:DG hk IK H a Mc) {b:Rg}{ys:Rl V} (e:H b=some (.tup ys)):b≠a:=by
 obtain⟨_,_,xs,_,e2⟩:=d;rintro rfl;rw[e2] at e;cases e
theorem uU {p:Rg} (hp:p=h.objs.size) (hb:sysModules<h.objs.size):DG hk IK (upd H p (.ext (gE hk [] p))) p []:=by
 subst hp;exact⟨AO _,DR.mpr (DW (AQ hb)),[], .nil,ak⟩
def uV (h:Rn):aG P w H (h.push {cls:= .type "dict",data:= .dict #[]}) h.objs.size (.ext (gE hk [] h.objs.size)):=
 nM ⟨_, #[],0,AH _ rfl,⟨rfl,rfl,rfl⟩,rfl,rfl,List.nodup_nil⟩
end
section
variable {X:Cx}{κ:Type} [DecidableEq κ] {hk:HeapKind X.prog X.w κ}{IK:Hp->κ->V->Prop}{Mb:Rl (Rg×Obj)}{σ:St}{H:Hp}{s:Rf}{a b:Rg}{v:V}{r:OO}{A:Rk}{E:OO->Rf->Prop}{Mc:Rl (κ×V)}{ks:κ}
theorem G6 [F:KOk hk IK] {Q:OO->Rf->Prop} (hu:A.units+2<cLine) (I:Inv X Mb σ H s) (d:DG hk IK H a Mc) (k:IK H ks (.ref b)) (l:aR Mc ks=some v) (h:∀w' s',Inv X Mb σ H s'->av v w'->Q w' s'):
  wpAny (model X.prog X.w) A (getItem (.ref a) (.ref b)) Q E s:=by
 obtain⟨z,hd,xs,Mz,_,dd⟩:=jm I.hok d;obtain⟨w',hw,ND⟩:=cA.some_of (v:=v) (o:=(atKey xs ks).map (·.2)) (by rw[<-l];exact Mz.val ks);obtain⟨p,hp,hp2⟩:=A8.mp hw;refine wpAny_getItem_heap (F.room hu) (F.of I.hok k) dd hp ?_;rw[hp2];exact h w' _ (I.tok _) ND
theorem G7 [F:KOk hk IK] {Q:OO->Rf->Prop} (hu:A.units+2<cLine) (I:Inv X Mb σ H s) (d:DG hk IK H a Mc) (k:IK H ks (.ref b)) (h:∀s',Inv X Mb σ H s'->Q (.bool (!(aR Mc ks).isSome)) s'):
  wpAny (model X.prog X.w) A (compareOp .NotIn (.ref b) (.ref a)) Q E s:=by
 obtain⟨z,hd,xs,Mz,_,dd⟩:=jm I.hok d;refine wpAny_notIn_heap (F.room hu) (F.of I.hok k) hd dd ?_;have q:=(Mz.val ks).isSome_eq;rw[Option.isSome_map] at q;rw[<-q];exact h _ (I.tok _)
theorem G8 [F:KOk hk IK] {Q:Unit->Rf->Prop} (hu:A.units+2<cLine) (I:Inv X Mb σ H s) (d:DG hk IK H a Mc) (k:IK H ks (.ref b)) (hl:Mc.length<sizeLine) (rv:av v r)
  (h:∀H' s',DG hk IK H' a (aZ Mc ks v)->(∀b,b≠a->H' b=H b)->Inv X Mb σ H' s'->Q () s'):wpAny (model X.prog X.w) A (setItem (.ref a) (.ref b) r) Q E s:=by
 obtain⟨z,hd,xs,Mz,e,dd⟩:=jm I.hok d;have hz:xs.length<=sizeLine:=by rw[<-C9 Mz];exact z
 have MJ:(aZ Mc ks v).length<=sizeLine:=by have:=mN Mc ks v;lia
 refine wpAny_setItem_heap (hsz:=hz) (F.room hu) (F.of I.hok k) dd λh' Pe hs=> ?_;obtain⟨q,es,ep,hq,h2,h3,h4,_,h5⟩:=Pe;refine h (upd H a (.ext (gE hk (storedH xs ks b r) a))) _ ⟨MJ,hd,_,(Mz.put ks k rv).keeps F λc ys ec=> ?_,ak⟩ (λc hc=>aw hc) (gQ I d.mut hs ⟨q,hq⟩ (nM ⟨q,es,ep,hq,h2,h3,h4,h5⟩));rw[aw (d.ntup ec)];exact ec
theorem G9 [F:KOk hk IK] (I:Inv X Mb σ H s) (d:DG hk IK H a Mc):s.TypeIs (.ref a) "dict"/\(∀b,Value.ref a= .ref b->∃ob,s.heap.get? b=some ob/\ob.dict=none)/\(a==sysModules)=false:=by
 obtain⟨_,hd,xs,_,_,dd⟩:=jm I.hok d;refine⟨dd.typeIs,λb q=> ?_,hd⟩;cases q;obtain⟨ob,_,_,h1,h2,_⟩:=dd;exact⟨ob,h1,h2.2.1⟩
end
section
variable {P:Rh}{w:Rj}{κ:Type} [DecidableEq κ]
inductive tGGet_ (hk:HeapKind P w κ) (IK:Hp->κ->V->Prop) (Q:VK) (x:V) (y:V) (H2:Hp):Prop
 |mk a Mc ks v:x= .ref a->DG hk IK H2 a Mc->IK H2 ks y->aR Mc ks=some v->Q v H2->tGGet_ hk IK Q x y H2
def nN (hk:HeapKind P w κ) (IK:Hp->κ->V->Prop) (td ty:TE):TE:=λσ H Q=>td σ H λx H1=>ty σ H1 λy H2=>tGGet_ hk IK Q x y H2
inductive tGNotIn_ (hk:HeapKind P w κ) (IK:Hp->κ->V->Prop) (Q:VK) (y:V) (x:V) (H2:Hp):Prop
 |mk a Mc ks:x= .ref a->DG hk IK H2 a Mc->IK H2 ks y->Q (.bl (!(aR Mc ks).isSome)) H2->tGNotIn_ hk IK Q y x H2
def nO (hk:HeapKind P w κ) (IK:Hp->κ->V->Prop) (ty td:TE):TE:=λσ H Q=>ty σ H λy H1=>td σ H1 λx H2=>tGNotIn_ hk IK Q y x H2
inductive sGPut_ (hk:HeapKind P w κ) (IK:Hp->κ->V->Prop) (D:Ends) (σ:St) (v:V) (x:V) (y:V) (H3:Hp):Prop
 |mk a Mc ks:x= .ref a->DG hk IK H3 a Mc->IK H3 ks y->Mc.length<sizeLine->(∀H4,DG hk IK H4 a (aZ Mc ks v)->(∀b,b≠a->H4 b=H3 b)->D.nx σ H4)->sGPut_ hk IK D σ v x y H3
def nP (hk:HeapKind P w κ) (IK:Hp->κ->V->Prop) (td ty tv:TE):TS:=λD σ H=>tv σ H λv H1=>td σ H1 λx H2=>ty σ H2 λy H3=>sGPut_ hk IK D σ v x y H3
def uW (hk:HeapKind P w κ) (IK:Hp->κ->V->Prop):TE:=λ_ H Q=>∀p H',H p=none->DG hk IK H' p []->(∀b,b≠p->H' b=H b)->Q (.ref p) H'
def uX (hk:HeapKind P w κ) (IK:Hp->κ->V->Prop) (tk tv:TE):TE:=λσ H Q=>∀p H0,H p=none->DG hk IK H0 p []->(∀b,b≠p->H0 b=H b)->tk σ H0 λx H1=>tv σ H1 λy H2=>DG hk IK H2 p []/\∃ks,IK H2 ks x/\∀H3,DG hk IK H3 p [(ks,y)]->(∀b,b≠p->H3 b=H2 b)->Q (.ref p) H3
end
section
variable {X:Cx}{κ:Type} [DecidableEq κ] {hk:HeapKind X.prog X.w κ}{IK:Hp->κ->V->Prop}{o i e f value ek ev:Rm}{pos Mu Mv Mn:Pos}{td ty tv tx tk:TE}
theorem uY [F:KOk hk IK] (hu:X.A.units+2<cLine) (ho:PE X o td) (hi:PE X i ty) (hs:gR i):PE X (.Subscript o i pos) (nN hk IK td ty):=by
 intro Mb s σ H Q I h;refine mO PySem.F.slot_dict_getitem.lookup hs (thn (ho Mb s σ H _ I h) λu s1 zu59=> ?_);obtain⟨x,H1,I1,rx,q1⟩:=zu59;refine thn (hi Mb s1 σ H1 _ I1 q1) λiv s2 zu60=> ?_;obtain⟨y,H2,I2,ry,a,Mc,ks,v,ex,d,k,l,q2⟩:=zu60;subst ex;obtain rfl:u=Value.ref a:=rx;obtain⟨b,rfl,rfl⟩:=F.rf k ry;exact⟨(G9 I2 d).1,G6 hu I2 d k l λw' s3 I3 ND=>⟨v,H2,I3,ND,q2⟩⟩
theorem uZ [F:KOk hk IK] (hu:X.A.units+2<cLine) (hi:PE X i ty) (ho:PE X o td):PC X .NotIn i o (nO hk IK ty td):=by
 intro Mb s σ H Q I h;refine thn (hi Mb s σ H _ I h) λiv s1 zu61=> ?_;obtain⟨y,H1,I1,ry,q1⟩:=zu61;refine thn (ho Mb s1 σ H1 _ I1 q1) λu s2 zu62=> ?_;obtain⟨x,H2,I2,rx,a,Mc,ks,ex,d,k,q2⟩:=zu62;subst ex;obtain rfl:u=Value.ref a:=rx;obtain⟨b,rfl,rfl⟩:=F.rf k ry;exact G7 hu I2 d k λs3 I3=>⟨.bl _,H2,I3,rfl,q2⟩
theorem u7 [F:KOk hk IK] (hu:X.A.units+2<cLine) (ho:PE X o td) (hi:PE X i ty) (hv:PE X value tv) (hs:swapsWith value (some (.Subscript o i Mu)) pos.line X.env=pure false):
  PS X (.Assign [.Subscript o i Mu] value pos) (nP hk IK td ty tv):=by
 intro Mb s σ H D I h;refine wpAny_Assign_Subscript (thn (hv Mb s σ H _ I h) λr s1 zu63=> ?_) hs;obtain⟨v,H1,I1,rv,q1⟩:=zu63;refine thn (ho Mb s1 σ H1 _ I1 q1) λu s2 zu64=> ?_;obtain⟨x,H2,I2,rx,q2⟩:=zu64;refine thn (hi Mb s2 σ H2 _ I2 q2) λiv s3 zu65=> ?_;obtain⟨y,H3,I3,ry,a,Mc,ks,ex,d,k,hl,q3⟩:=zu65;subst ex;obtain rfl:u=Value.ref a:=rx;obtain⟨b,rfl,rfl⟩:=F.rf k ry;exact G8 hu I3 d k hl rv λH4 s4 d4 k4 I4=>⟨σ,H4,I4,q3 H4 d4 k4⟩
def G':PE X (.Dict [] [] pos) (uW hk IK):=λMb s σ H Q I h=>
 wpAny_Dict_empty ⟨.ref s.heap.objs.size,_,I.laid (a:=s.heap.objs.size) (o:= .ext (gE hk [] s.heap.objs.size)) (t':=s.toks) (λ_ _ q=>A4 _ q) (AB _) (uV s.heap),rfl,h _ _ (I.hok.fresh (AB _)) (uU rfl I.big) (λb hb=>aw hb)⟩
theorem Hg [F:KOk hk IK] (hu:X.A.units+2<cLine) (hek:PE X ek tk) (hv:PE X ev tv):PE X (.Dict [some ek] [ev] pos) (uX hk IK tk tv):=by
 intro Mb s σ H Q I q;have hn:=I.hok.fresh (AB s.heap.objs.size);have I1:=I.laid (a:=s.heap.objs.size) (o:= .ext (gE hk [] s.heap.objs.size)) (h':=s.heap.push {cls:= .type "dict",data:= .dict #[]}) (t':=s.toks) (λ_ _ q=>A4 _ q) (AB _) (uV s.heap);rw[arm_eval_Dict,zip_pairTrees [some ek] [ev] X.env pos rfl rfl,dictDisplay_pairs (pairTrees [some ek] [ev] X.env pos) (by intro z;cases z) (show 1<17 by decide)];refine A0 (wpAny_standAt (A0 ?_));unfold subDict;refine A0 (wpAny_alloc ?_);refine A0 (B5 ?_);rw[A6 (show(pairTrees [some ek] [ev] X.env pos).length<=15 from(by decide:1<=15))];refine A0 (pairTrees_cons_walk (thn (hek Mb _ σ _ _ I1 (q _ _ hn (uU rfl I.big) (λb hb=>aw hb))) λu s1 zu66=> ?_));obtain⟨x,H1,I2,rx,q1⟩:=zu66;refine thn (hv Mb s1 σ H1 _ I2 q1) λw2 s2 zu67=> ?_;obtain⟨y,H2,I3,ry,d,ks,k,q2⟩:=zu67;refine pairTrees_nil_walk ?_;obtain⟨b,rfl,rfl⟩:=F.rf k rx;obtain⟨z,hd,xs,Mz,e,dd⟩:=jm I3.hok d;cases Mz;refine wpAny_holding (wpAny_bind ?_);rw[List.forIn_cons];dsimp only;refine A0 (A0 (wpAny_dictSet_heap (knd:=hk) (F.room1 (by lia)) (F.of I3.hok k) dd (λh' Pe hs=>A2 ?_) (AO _)));dsimp only;rw[List.forIn_nil];refine wpAny_pure (wpAny_pure (wpAny_pure (wpAny_pure ?_)));obtain⟨o,es,ep,hq,h2,h3,h4,_,h5⟩:=Pe;refine⟨.ref s.heap.objs.size,upd H2 s.heap.objs.size (.ext (gE hk (storedH [] ks b w2) s.heap.objs.size)),gQ I3 d.mut hs ⟨o,hq⟩ (nM ⟨o,es,ep,hq,h2,h3,h4,h5⟩),rfl,q2 _ ⟨(by show 1<=sizeLine;decide),hd,_,(GT.put .nil ks k ry).keeps F λc ys ec=> ?_,ak⟩ (λc hc=>aw hc)⟩;rw[aw (d.ntup ec)];exact ec
end
def nK (ks:Rl (Rl Int)):D:= .t (ks.map tI)
section
variable {P:Rh}{w:Rj}{H:Hp}{h:Rn}{a:Rg}
theorem u8:∀{ks:Rl Int}{us:Rl OO},ap (ks.map V.int) us->ItemsAre (intKind P w) ks us
 |[],_,r=>by rw[DX] at r;cases r;exact .nil
 |k::ks,_,r=>by
  rw[AL] at r;cases r with
  |cons h t=>
   obtain⟨t',rfl⟩:=h;exact .cons (show Value.isInt k (.int k t')=true by simp[Value.isInt]) (u8 t)
theorem u9 {ks:Rl Int} (ok:HOk P w H h) (e:H a=some (.tup (ks.map V.int))):IsTupleKey (intKind P w) h ks a:=by
 obtain⟨_,Me,r,o,h1,h2,n,h3⟩:=(show aG P w H h a (.tup (ks.map V.int)) from ok a _ e);exact⟨o,Me.toArray,n,h1,h2,h3,by simpa using u8 r⟩
theorem vb (ok:HOk P w H h):∀{ks:Rl (Rl Int)}{vs:Rl V}{us:Rl OO},Iss H (ks.map tI) vs->ap vs us->ItemsT (intKind P w) h ks us
 |[],_,_,i,r=>by rw[bn i] at r;cases r;exact .nil
 |k::ks,_,_,i,r=>by
  obtain⟨u,us,rfl,q,i2⟩:=aI i;obtain⟨b,rfl,hb⟩:=bL q;cases r with
  |cons h t=>
   cases h;exact .cons (u9 ok hb) (vb ok i2 t)
theorem Hh {ks:Rl (Rl Int)} (ok:HOk P w H h) (e:Is H (nK ks) (.ref a)):(uT (intKind P w)).is h ks a:=by
 obtain⟨b,vs,eb,hb,hi⟩:=bB e;cases eb;obtain⟨_,Me,r,o,h1,h2,n,h3⟩:=(show aG P w H h a (.tup vs) from ok a _ hb);exact⟨o,Me.toArray,n,h1,h2,h3,by simpa using vb ok hi r⟩
theorem Hi {H':Hp} (ht:∀b ys,H b=some (.tup ys)->H' b=some (.tup ys)) {ks:Rl (Rl Int)}{v:V} (h:Is H (nK ks) v):Is H' (nK ks) v:=by
 obtain⟨b,vs,rfl,hb,hi⟩:=bB h;have go:∀{xs:Rl (Rl Int)}{vs:Rl V},Iss H (xs.map tI) vs->Iss H' (xs.map tI) vs:=by
  intro xs;induction xs with
  |nil=>intro vs h;rw[bn h];exact ax
  |cons x xs ih=>
   intro vs h;obtain⟨u,us,rfl,q,r⟩:=aI h;obtain⟨c,rfl,hc⟩:=bL q;exact au (dY (ht _ _ hc)) (ih r)
 exact bA (ht _ _ hb) (go hi)
abbrev hkN (P:Rh) (w:Rj):=uT (intKind P w)
instance nOk:KOk (hkN P w) (λH ks v=>Is H (nK ks) v):=⟨Hh,λh=>let ⟨b,_,e,_⟩:=bB h;⟨b,e⟩,λht _ _=>Hi ht,λh=>h⟩
abbrev DN (P:Rh) (w:Rj):Hp->Rg->Rl (Rl (Rl Int)×V)->Prop:=DG (hkN P w) (λH ks v=>Is H (nK ks) v)
end
abbrev Hj (P:Rh) (w:Rj):TE->TE->TE:=nN (hkN P w) (λH ks v=>Is H (nK ks) v)
abbrev Hk (P:Rh) (w:Rj):TE->TE->TE:=nO (hkN P w) (λH ks v=>Is H (nK ks) v)
abbrev Hl (P:Rh) (w:Rj):TE->TE->TE->TS:=nP (hkN P w) (λH ks v=>Is H (nK ks) v)
abbrev Hm (P:Rh) (w:Rj):TE->TE->TE:=uX (hkN P w) (λH ks v=>Is H (nK ks) v)
section
variable {X:Cx}{o i e f value ek ev:Rm}{pos Mu Mv Mn:Pos}{td ty tv tx tk:TE}
def vc (hu:X.A.units+2<cLine) (ho:PE X o td) (hi:PE X i ty) (hs:gR i):PE X (.Subscript o i pos) (Hj X.prog X.w td ty):=uY hu ho hi hs
def vd (hu:X.A.units+2<cLine) (hi:PE X i ty) (ho:PE X o td):PC X .NotIn i o (Hk X.prog X.w ty td):=uZ hu hi ho
def vg (hu:X.A.units+2<cLine) (ho:PE X o td) (hi:PE X i ty) (hv:PE X value tv) (hs:swapsWith value (some (.Subscript o i Mu)) pos.line X.env=pure false):
  PS X (.Assign [.Subscript o i Mu] value pos) (Hl X.prog X.w td ty tv):=u7 hu ho hi hv hs
def kM (hu:X.A.units+2<cLine) (hk:PE X ek tk) (hv:PE X ev tv):PE X (.Dict [some ek] [ev] pos) (Hm X.prog X.w tk tv):=Hg hu hk hv
end
end L2
namespace PySem.SeqAt
open AutoSeq1 (wpAny_loadPart')
open MeetsSeq MeetsSeq2 MeetsSeq3 SeqRoads2
end PySem.SeqAt
namespace L2
open PySem PySem.Spec PyProof.Rows
variable {H:Hp}{K:W.Frag}{M1:Rl Rm}{P:Rh}{Q:OO->Rf->Prop}{X:Cx}{a acc b i1 i2 it l1 l2 z:Rg}{g:TG}{i k k1 own:Nat}{js:Rl Nat}{pos:Pos}{tb:TS}{te:TE}{vs ys:Array OO}{w:Rj}{x:OO}{xs:Rl V}
variable {X:Cx}
open PySem.W
abbrev Mx (K:Type):=Sum K (Rl K)
variable {ks:Rl (Mx Int)}
def isL {K:Type}:Mx K->Bool
 | .inl _=>true
 | .inr _=>false
section
variable {prog:Rh}{w:Rj}{K:Type} [DecidableEq K] {knd:KeyKind prog w K}
inductive ItemsM (knd:KeyKind prog w K) (h:Heap):List (Mx K)->List Value->Prop
 |nil:ItemsM knd h [] []
 |val {k:K}{v:Value}{ks:List (Mx K)}{vs:List Value}:knd.is k v=true->ItemsM knd h ks vs->ItemsM knd h (.inl k::ks) (v::vs)
 |tup {k:List K}{a:Addr}{ks:List (Mx K)}{vs:List Value}:IsTupleKey knd h k a->ItemsM knd h ks vs->ItemsM knd h (.inr k::ks) (.ref a::vs)
def cI (knd:KeyKind prog w K) (sh:Rl Bool) (h:Rn) (ks:Rl (Mx K)) (a:Rg):Prop:=ks.map isL=sh/\∃o items n,h.get? a=some o/\o.cls= .type "tuple"/\o.data= .seq items n/\ItemsM knd h ks items.toList
theorem ItemsM.inj {h:Rn}{x y:Rl (Mx K)}{vs:Rl OO} (hx:ItemsM knd h x vs) (hy:ItemsM knd h y vs) (e:x.map isL=y.map isL):x=y:=by
 induction hx generalizing y with
 |nil=>cases hy;rfl
 |val h1 _ ih=>
  cases hy with
  |val h2 t2=>rw[knd.inj _ _ _ h1 h2,ih t2 (by simpa[isL] using e)]
  |tup h2 t2=>simp[isL] at e
 |tup h1 _ ih=>
  cases hy with
  |val h2 t2=>simp[isL] at e
  |tup h2 t2=>rw[h1.inj h2,ih t2 (by simpa[isL] using e)]
theorem ItemsM.keeps {h h':Rn}{x:Rl (Mx K)}{vs:Rl OO}{d:Rg}{o:Obj}{es ep} (hx:ItemsM knd h x vs) (ho:h.get? d=some o) (hd:o.data= .dict es ep) (hs:Heap.SameBut d h h'):ItemsM knd h' x vs:=by
 induction hx with
 |nil=>exact .nil
 |val h1 _ ih=>exact .val h1 ih
 |tup h1 _ ih=>exact .tup (h1.keeps ho hd hs) ih
variable {sh:Rl Bool}
theorem cI.typeIs {s:Rf}{ks:Rl (Mx K)}(x:cI knd sh s.heap ks a):s.TypeIs (.ref a) "tuple":=by obtain⟨_,o,_,_,ho,hc,_⟩:=x;exact⟨o,ho,hc⟩
theorem cI.inj {h:Rn}{a:Rg}{x y:Rl (Mx K)} (hx:cI knd sh h x a) (hy:cI knd sh h y a):x=y:=by
 obtain⟨e1,o,items,n,ho,_,hd,hi⟩:=hx;obtain⟨e2,o',QH,n',MZ,_,No,NN⟩:=hy;obtain rfl:o=o':=Ak (ho.symm.trans MZ);rw[hd] at No;injection No with h1 _;subst h1;exact hi.inj NN (e1.trans e2.symm)
theorem cI.keeps {h h':Rn}{ks:Rl (Mx K)}{a d:Rg}{o:Obj}{es ep} (x:cI knd sh h ks a) (ho:h.get? d=some o) (hd:o.data= .dict es ep) (hs:Heap.SameBut d h h'):cI knd sh h' ks a:=by
 obtain⟨e,o',items,n,MZ,hc,No,hi⟩:=x;have MF:a≠d:=by
  rintro rfl;obtain rfl:o'=o:=Ak (MZ.symm.trans ho);rw[hd] at No;exact nomatch No
 exact⟨e,o',items,n,(hs.2 a MF).trans MZ,hc,No,hi.keeps ho hd hs⟩
def eB (knd:KeyKind prog w K):Mx K->Int
 | .inl k=>knd.hash k
 | .inr ks=>tupleKeyHash knd ks
def hV {K:Type}:Mx K->Nat
 | .inl _=>1
 | .inr ks=>ks.length+1
def nQ (knd:KeyKind prog w K) (ks:Rl (Mx K)):Int:=reduceHash (Builtin.Tuple.tupleHashOf (ks.map (eB knd)))
def nR (ks:Rl (Mx K)):Nat:=(ks.map hV).sum+1
variable {A:Rk}{E:OO->Rf->Prop}{s:Rf}
theorem Hn {ks:Rl (Mx K)}{Q:Int->Rf->Prop} (hu:A.units+1<cLine) (hk:cI knd sh s.heap ks a) (h:Q (nQ knd ks) {s with toks:=s.toks+nR ks}):
  wpAny (model prog w) A (pyHash (.ref a)) Q E s:=by
 have hT:=hk.typeIs;obtain⟨_,o,items,n,ho,_,hd,hi⟩:=hk;unfold pyHash;first|unfold pyHashByItsType|skip
 first|refine A0 (wpAny_cRoomFor_or (.inr (by lia)) ?_)|skip
 refine A0 (BW hT Bq.lookup ?_);show wpAny _ _ (if(some (Value.builtin "tuple.__hash__")==some Value.none)=true then _ else _) Q E s;rw[A5 (by rw[beq_builtin_none];exact AY)];refine A0 (BW hT Bq.lookup ?_);show wpAny _ _ (callSpecialIfBoundUnlessNone? (.ref a) "__hash__" _>>=_) Q E s;refine A0 (wpAny_callSpecialIfBoundUnlessNone?_slot hT Bq (Ah Bq hT F.entry_tuple_hash ?_ (F.args_tuple_hash_1 _)));show wpAny _ _ (Builtin.Tuple.tupleItemsOf (.ref a)>>=_) _ _ s;refine A0 (CS ho hd ?_);refine A0 ?_;rw[<-C7];refine BZ _
  (λaJ (b:Array Int) s'=>∃done left,ks=done++left/\ItemsM knd s.heap left aJ/\b.toList=done.map (eB knd)/\s'={s with toks:=s.toks+(done.map hV).sum})
  _ ?_ ?_ _ _ ⟨[],ks,rfl,hi,rfl,rfl⟩
 .rintro x aJ b s' ⟨done,left,rfl,hl,hb,rfl⟩;cases hl with
  | @val k v1 ks' _ h1 MJ=>
   refine A0 (knd.pyHash h1 ?_);first
    |exact A2 ⟨done++[.inl k],ks',by simp,MJ,by simp[hb,eB],by simp[C4,hV]⟩
    |exact A0 (A2 (A2 ⟨done++[.inl k],ks',by simp,MJ,by simp[hb,eB],by simp[C4,hV]⟩))
  | @tup k a1 ks' _ h1 MJ=>
   refine A0 (wpAny_pyHash_tuple (knd:=knd) (ks:=k) (by first|exact hu|(rw[cb];lia)|(simp;lia)) h1 ?_);first
    |exact A2 ⟨done++[.inr k],ks',by simp,MJ,by simp[hb,eB],by simp[C4,hV]⟩
    |exact A0 (A2 (A2 ⟨done++[.inr k],ks',by simp,MJ,by simp[hb,eB],by simp[C4,hV]⟩))
 .rintro b s' ⟨done,left,rfl,hl,hb,rfl⟩;cases hl;rw[BK] at h;show wpAny _ _ (retInt (Builtin.Tuple.tupleHashOf b.toList)) _ _ _;rw[hb];refine wpAny_ret_mkInt ?_;show wpAny _ _ (if(decide (-(2:Int)^63<=Builtin.Tuple.tupleHashOf (done.map (eB knd)))&&decide (Builtin.Tuple.tupleHashOf (done.map (eB knd))<2^63))=true then _ else _) Q E _;unfold nQ reduceHash nR at h;by_cases hr:(decide (-(2:Int)^63<=Builtin.Tuple.tupleHashOf (done.map (eB knd)))&&decide (Builtin.Tuple.tupleHashOf (done.map (eB knd))<2^63))=true
  .rw [A6 hr];rw[A6 hr] at h;exact A2 (by simpa[C4] using h)
  .rw [A5 hr];rw[A5 hr] at h;exact A0 (Bv (A2 (by simpa[C4] using h)))
theorem Ho {x y:Rl (Mx K)}{P:Fin->Rf->Prop} (hu:A.units<cLine) (hx:cI knd sh s.heap x a) (hy:cI knd sh s.heap y b) (h:P (.done (.ret (.bool (decide (x=y))))) s):
  wpAny (model prog w) A (Builtin.«tuple.__eq__» ⟨[.ref a, .ref b],[]⟩) P E s:=by
 have hTb:=hy.typeIs;obtain⟨sx,oa,xs,na,hoa,_,Nx,hia⟩:=hx;obtain⟨sy,ob,ys,nb,P6,_,Ou,hib⟩:=hy;show wpAny _ _ (isInstance (.ref b) (.type "tuple")>>=_) _ _ s;refine A0 (BY hTb Ce ?_);simp only[B8,AI,An];refine A0 (CS hoa Nx ?_);refine A0 (CS P6 Ou ?_);refine A0 ?_;refine BZ _
  (λaJ r s'=>r.1=none/\s'=s/\∃x' y' NX OV,aJ=List.zip NX OV/\ItemsM knd s.heap x' NX/\ItemsM knd s.heap y' OV/\decide (x'=y')=decide (x=y)/\x'.map isL=y'.map isL/\(NX.length==OV.length)=(xs.size==ys.size))
  _ ?_ ?_ _ _ ⟨rfl,rfl,x,y,xs.toList,ys.toList,rfl,hia,hib,rfl,sx.trans sy.symm,by simp⟩
 .rintro⟨u,v⟩ aJ r s' ⟨hr,rfl,x',y',NX,OV,hz,Mm,M0,Ng,Qr,Mg⟩;cases Mm with
  |nil=>simp at hz
  | @val k1 v1 x'' xs'' h1 hx''=>
   cases M0 with
   |nil=>simp at hz
   |tup _ _=>simp[isL] at Qr
   | @val k2 v2 Ph ys'' h2 N'=>
    simp only[Da,C',DB] at hz;obtain⟨⟨rfl,rfl⟩,rfl⟩:=hz;refine A0 (knd.eqBool h1 h2 ?_);by_cases hk:k1=k2
    .subst hk;rw[Ar rfl];simp only[B8,AI,An];refine A2 ⟨rfl,rfl,x'',Ph,xs'',ys'',rfl,hx'',N', ?_,by simpa using Qr,by simpa using Mg⟩;rw[<-Ng];by_cases P':x''=Ph
     .simp [P']
     .simp [P']
    .rw [Aj hk];simp only[Cc,C8];have hf:decide (x=y)=false:=by rw[<-Ng];simp[hk]
     rw[hf] at h;exact A0 (A2 (A2 (A2 h)))
  | @tup k1 a1 x'' xs'' h1 hx''=>
   cases M0 with
   |nil=>simp at hz
   |val _ _=>simp[isL] at Qr
   | @tup k2 a2 Ph ys'' h2 N'=>
    simp only[Da,C',DB] at hz;obtain⟨⟨rfl,rfl⟩,rfl⟩:=hz;refine A0 (wpAny_eqBool_tuple (knd:=knd) (x:=k1) (y:=k2) (by first|exact hu|(rw[cb];lia)|(simp;lia)) h1 h2 ?_);by_cases hk:k1=k2
    .subst hk;rw[Ar rfl];simp only[B8,AI,An];refine A2 ⟨rfl,rfl,x'',Ph,xs'',ys'',rfl,hx'',N', ?_,by simpa using Qr,by simpa using Mg⟩;rw[<-Ng];by_cases P':x''=Ph
     .simp [P']
     .simp [P']
    .rw [Aj hk];simp only[Cc,C8];have hf:decide (x=y)=false:=by rw[<-Ng];simp[hk]
     rw[hf] at h;exact A0 (A2 (A2 (A2 h)))
 .rintro⟨r1,r2⟩ s' ⟨hr,rfl,x',y',NX,OV,hz,Mm,M0,Ng,Qr,Mg⟩;simp only at hr;subst hr;refine A2 ?_;have QI:(xs.size==ys.size)=decide (x=y):=by
   rw[<-Ng,<-Mg];cases Mm with
   |nil=>
    cases M0 with
    |nil=>simp
    |val _ _=>simp
    |tup _ _=>simp
   |val _ _=>
    cases M0 with
    |nil=>simp
    |val _ _=>simp at hz
    |tup _ _=>simp at hz
   |tup _ _=>
    cases M0 with
    |nil=>simp
    |val _ _=>simp at hz
    |tup _ _=>simp at hz
  show P (.done (.ret (.bool (xs.size==ys.size)))) s';rw[QI];exact h
theorem Hq {x y:Rl (Mx K)}{Q:Bool->Rf->Prop} (hu:A.units+1<cLine) (hx:cI knd sh s.heap x a) (hy:cI knd sh s.heap y b) (h:Q (decide (x=y)) s):
  wpAny (model prog w) A (eqBool (.ref a) (.ref b)) Q E s:=by
 unfold eqBool;try with_reducible refine B5 ?_
 show wpAny _ _ (if(Value.ref a==Value.ref b)=true then _ else _) Q E s;by_cases Nr:(Value.ref a==Value.ref b)=true
 .rw [A6 Nr];have e:a=b:=by have:=eq_of_beq Nr;injection this
  subst e;obtain rfl:=hx.inj hy;exact A0 (Bv (A2 (by simpa using h)))
 .rw [A5 Nr];exact A0 (wpAny_richCompare_same_room (op:= .Eq) hx.typeIs hy.typeIs Cb
   (Ah Cb hx.typeIs F.entry_tuple_eq (Ho (by first|lia|(rw[cb];lia)|(simp;lia)) hx hy ⟨_,rfl,(λe=>nomatch e),Bg h⟩) (F.args_tuple_eq_2 _ _)) (by lia))
theorem Hr {ks:Rl (Mx K)}{Q:Bool->Rf->Prop} (hk:cI knd sh s.heap ks a) (h:Q true s):wpAny (model prog w) A (eqIsQuiet 8 (.ref a)) Q E s:=by
 have hT:=hk.typeIs;obtain⟨_,o,items,n,ho,_,hd,hi⟩:=hk;unfold eqIsQuiet;refine A0 (BW hT Cb.lookup ?_);show wpAny _ _ (isInstance (.ref a) (.type "tuple")>>=_) _ _ s;refine A0 (BY hT Ce ?_);simp only[B8,AI,An];refine A0 (BV ho hd ?_);refine A0 ?_;show wpAny _ _ (forIn items _ _) _ _ s;rw[<-C7];refine BZ _ (λaJ r s'=>r.1=none/\s'=s/\∃x,ItemsM knd s.heap x aJ) _ ?_ ?_ _ _ ⟨rfl,rfl,ks,hi⟩
 .rintro v aJ r s' ⟨hr,rfl,x,MC⟩;cases MC with
  |val h1 ht=>
   rw[eqIsQuiet_byValue _ (knd.byValue _ _ h1)];refine A0 (A2 ?_);simp only[B8,AI,An];exact A2 ⟨rfl,rfl,_,ht⟩
  |tup h1 ht=>
   refine A0 (uS h1 ?_);simp only[B8,AI,An];exact A2 ⟨rfl,rfl,_,ht⟩
 .rintro⟨r1,r2⟩ s' ⟨hr,rfl,_⟩;simp only at hr;subst hr;exact A2 h
end
def vh {prog:Rh}{K:Type} [DecidableEq K] (knd:KeyKind prog w K) (sh:Rl Bool):HeapKind prog w (Rl (Mx K)) where
 is:=cI knd sh
 hash:=nQ knd
 draws:=nR
 room:=λA=>A.units+1<cLine
 inj:=λhx hy=>hx.inj hy
 keeps:=λx ho hd hs=>x.keeps ho hd hs
 pyHash:=λhu hk h=>Hn hu hk h
 eqBool:=λhu hx hy h=>Hq hu hx hy h
 quiet:=λhk h=>Hr hk h
def mD:Mx Int->D
 | .inl i=> .i i
 | .inr t=>tI t
def qsh:Rl Bool:=[true,true,false,false]
def mK (ks:Rl (Mx Int)):D:= .t (ks.map mD)
def IsK (H:Hp) (ks:Rl (Mx Int)) (v:V):Prop:=ks.map isL=qsh/\Is H (mK ks) v
section
variable {P:Rh}{w:Rj}{H:Hp}{h:Rn}{a:Rg}
theorem nS (ok:HOk P w H h):∀{ks:Rl (Mx Int)}{vs:Rl V}{us:Rl OO},Iss H (ks.map mD) vs->ap vs us->ItemsM (intKind P w) h ks us
 |[],_,_,i,r=>by rw[bn i] at r;cases r;exact .nil
 | .inl k::ks,_,_,i,r=>by
  obtain⟨u,us,rfl,q,i2⟩:=aI i;obtain rfl:=az q;cases r with
  |cons h t=>
   obtain⟨t',rfl⟩:=h;exact .val (show Value.isInt k (.int k t')=true by simp[Value.isInt]) (nS ok i2 t)
 | .inr k::ks,_,_,i,r=>by
  obtain⟨u,us,rfl,q,i2⟩:=aI i;obtain⟨b,rfl,hb⟩:=bL q;cases r with
  |cons h t=>
   cases h;exact .tup (u9 ok hb) (nS ok i2 t)
theorem Hs (ok:HOk P w H h) (e:IsK H ks (.ref a)):(vh (intKind P w) qsh).is h ks a:=by
 obtain⟨sh,e⟩:=e;obtain⟨b,vs,eb,hb,hi⟩:=bB e;cases eb;obtain⟨_,Me,r,o,h1,h2,n,h3⟩:=(show aG P w H h a (.tup vs) from ok a _ hb);exact⟨sh,o,Me.toArray,n,h1,h2,h3,by simpa using nS ok hi r⟩
theorem Ht {H':Hp} (ht:∀b ys,H b=some (.tup ys)->H' b=some (.tup ys)) {v:V} (h:IsK H ks v):IsK H' ks v:=by
 obtain⟨sh,h⟩:=h;obtain⟨b,vs,rfl,hb,hi⟩:=bB h;have go:∀{xs:Rl (Mx Int)}{vs:Rl V},Iss H (xs.map mD) vs->Iss H' (xs.map mD) vs:=by
  intro xs;induction xs with
  |nil=>intro vs h;rw[bn h];exact ax
  |cons x xs ih=>
   intro vs h;obtain⟨u,us,rfl,q,r⟩:=aI h;cases x with
   |inl k=>rw[show u= .int k from az q];exact au bz (ih r)
   |inr k=>
    obtain⟨c,rfl,hc⟩:=bL q;exact au (dY (ht _ _ hc)) (ih r)
 exact⟨sh,bA (ht _ _ hb) (go hi)⟩
abbrev hkM (P:Rh) (w:Rj):=vh (intKind P w) qsh
instance mOk:KOk (hkM P w) IsK:=⟨Hs,λh=>let ⟨b,_,e,_⟩:=bB h.2;⟨b,e⟩,λht _ _=>Ht ht,λh=>h⟩
abbrev DM (P:Rh) (w:Rj):Hp->Rg->Rl (Rl (Mx Int)×V)->Prop:=DG (hkM P w) IsK
end
abbrev Hu (P:Rh) (w:Rj):TE->TE->TE:=nN (hkM P w) IsK
abbrev Hv (P:Rh) (w:Rj):TE->TE->TE:=nO (hkM P w) IsK
abbrev Hw (P:Rh) (w:Rj):TE->TE->TE->TS:=nP (hkM P w) IsK
abbrev Hx (P:Rh) (w:Rj):TE:=uW (hkM P w) IsK
section
variable {X:Cx}{o i e f value ek ev:Rm}{pos Mu Mv Mn:Pos}{td ty tv tx tk:TE}
def vi (hu:X.A.units+2<cLine) (ho:PE X o td) (hi:PE X i ty) (hs:gR i):PE X (.Subscript o i pos) (Hu X.prog X.w td ty):=uY hu ho hi hs
def vj (hu:X.A.units+2<cLine) (hi:PE X i ty) (ho:PE X o td):PC X .NotIn i o (Hv X.prog X.w ty td):=uZ hu hi ho
def vk (hu:X.A.units+2<cLine) (ho:PE X o td) (hi:PE X i ty) (hv:PE X value tv) (hs:swapsWith value (some (.Subscript o i Mu)) pos.line X.env=pure false):
  PS X (.Assign [.Subscript o i Mu] value pos) (Hw X.prog X.w td ty tv):=u7 hu ho hi hv hs
def vq:PE X (.Dict [] [] pos) (Hx X.prog X.w):=G'
end
section
variable {prog:Rh}{w:Rj}{A:Rk}{E:OO->Rf->Prop}{s:Rf}
theorem nT {t:Rg}(Mi:s.heap.IsTupleIter it t i) (ht:s.heap.IsTuple t vs) (hx:vs[i]? =some x) (hQ:∀h',h'.IsTupleIter it t (i+1)->Heap.SameBut it s.heap h'->Q x {s with heap:=h'}):
  wpAny (model prog w) A (Builtin.SmallTypes.nextOf (.ref it)) Q E s:=by
 obtain⟨o,ho,hc,hd⟩:=id Mi;obtain⟨q,hq,_,nq,hdq⟩:=ht;unfold Builtin.SmallTypes.nextOf;refine A0 (B1 (name:=Str.ofString "__next__") Mi.typeIs Ck (Ah Ck Mi.typeIs F.entry_tuple_iterator_next ?_ (F.args_tuple_iterator_next_1 _)));show wpAny _ _ (field (.ref it) 0>>=_) _ _ s;refine A0 (Bh ho hd (x:= .ref t) rfl ?_);show wpAny _ _ (if(Value.ref t==Value.none)=true then _ else _) _ _ s;rw[A5 (show¬((Value.ref t==Value.none)=true) from AY)];show wpAny _ _ (field (.ref it) 1>>=_) _ _ s;refine A0 (Bh ho hd (x:= .int i 0) rfl ?_);show wpAny _ _ (seqItems? (.ref t)>>=_) _ _ s;refine A0 (BV hq hdq ?_);simp only[Ae,hx];refine A0 (CC ho hd (by simp) (A2 ⟨x,rfl,A2 (hQ _ ⟨_,Bu _ ho (DS (Bw hd _)),(Obj.cls_mapFields ..).trans hc,by rw[Bw hd];simp[rawInt]⟩ (BF ..))⟩))
theorem vv {t:Rg}{Q:OO->Rf->Prop} (hh:A.handled=none) (Mi:s.heap.IsTupleIter it t i) (ht:s.heap.IsTuple t vs) (hx:vs[i]? =none)
  (hE:∀h' e,Heap.ExtBut it s.heap h'->(∃o,h'.get? e=some o/\o.cls= .type "StopIteration")->E (.ref e) {s with heap:=h'}):wpAny (model prog w) A (Builtin.SmallTypes.nextOf (.ref it)) Q E s:=by
 obtain⟨o,ho,hc,hd⟩:=id Mi;obtain⟨q,hq,_,nq,hdq⟩:=ht;unfold Builtin.SmallTypes.nextOf;refine A0 (B1 (name:=Str.ofString "__next__") Mi.typeIs Ck (Ah Ck Mi.typeIs F.entry_tuple_iterator_next ?_ (F.args_tuple_iterator_next_1 _)));show wpAny _ _ (field (.ref it) 0>>=_) _ _ s;refine A0 (Bh ho hd (x:= .ref t) rfl ?_);show wpAny _ _ (if(Value.ref t==Value.none)=true then _ else _) _ _ s;rw[A5 (show¬((Value.ref t==Value.none)=true) from AY)];show wpAny _ _ (field (.ref it) 1>>=_) _ _ s;refine A0 (Bh ho hd (x:= .int i 0) rfl ?_);show wpAny _ _ (seqItems? (.ref t)>>=_) _ _ s;refine A0 (BV hq hdq ?_);simp only[Ae,hx];refine A0 (Bv (A0 (CC ho hd (by simp) ?_)));show wpAny _ _ (newExc (.type "StopIteration") []>>=_) _ _ _;refine A0 ?_;simp only[newExc,newTuple];refine A0 (Ax ?_ (by size_fits));refine A0 (m:=firstArgMember _ _) (DZ (a:=Value.none) (by first|rfl|(simp only[firstArgMember];rfl)) (Ax ?_ (by size_fits)));simp -iota only[raiseNew];refine A0 (wpAny_handled ?_);(first|rw[show A.in1.handled=none from hh]|rw[hh]);exact A0 (A2 (wpAny_throw (hE _ _ (((BF ..).extBut.push _).push _) ⟨_,AH _ rfl,rfl⟩)))
theorem vx (hh:A.handled=none) (it t:Rg) (MF:t≠it) (vs:Array OO):Draws prog w A it [it,t] vs.size (λi v=>vs[i]? =some v) (λi h=>h.IsTupleIter it t i/\h.IsTuple t vs) where
 live:=λ_ _ st=>let ⟨⟨o,ho,_⟩,_⟩:=st;⟨o,ho⟩
 frame:=λ_ _ _ Ms hk=>by obtain⟨st1,Ot⟩:=Ms;exact⟨st1.at λo e=>hk it (by simp) o e,Ot.at λo e=>hk t (by simp) o e⟩
 item:=λi s Q E hi Ms hQ=>by obtain⟨st1,Ot⟩:=Ms;exact nT st1 Ot (x:=vs[i]) (by simp[hi]) λh' a b=>hQ _ h' s.toks (by simp[hi]) ⟨a,Ot.extBut b.extBut MF⟩ b
 done:=λs Q E Ms hE=>by obtain⟨st1,Ot⟩:=Ms;exact vv hh st1 Ot (by simp) hE
theorem Hy {t:Rg}(hL:s.heap.IsTuple t vs)
  (h:∀h',IsEnum h' (s.heap.objs.size+1) s.heap.objs.size 0 .none->h'.IsTupleIter s.heap.objs.size t 0->h'.objs.size=s.heap.objs.size+2->(∀b o,s.heap.get? b=some o->h'.get? b=some o)->Q (.ref (s.heap.objs.size+1)) {s with heap:=h'}):
  wpAny (model prog w) A (call (.type "enumerate") [.ref t]) Q E s:=by
 have mt:Meets (Builtin.«enumerate.__new__» ⟨[.type "enumerate", .ref t],[]⟩) (λ_ R s=>s.heap.IsTuple t vs/\R (.ok (.ret (.ref (s.heap.push {cls:= .type "tuple_iterator",data:= .fields #[.ref t, .int 0 0]}).objs.size))) {s with heap:=(s.heap.push {cls:= .type "tuple_iterator",data:= .fields #[.ref t, .int 0 0]}).push {cls:= .type "enumerate",data:= .fields #[.none, .bool false, .ref s.heap.objs.size,rawInt 0, .none, .none]}}):=
  .of_wp λprog w A R s h=>by
   obtain⟨hp,g,d,tk,os⟩:=s;obtain⟨hL,h⟩:=h;have Ow:=sub_enumerate;obtain⟨⟨c,dct,dt,sl⟩,hl,hc,n,hd⟩:=id hL;have hc:c= .type "tuple":=hc;have hd:dt= .seq vs n:=hd;subst hc hd
   wp_walk using AutoSeq1.wpAny_loadPart' hl
   refine wpAny_stack_any λst=>A2 ?_;split
   .next c _ _ _ _ _=>cases (c==Value.type "enumerate")<;>(wp_walk using AutoSeq1.wpAny_loadPart' hl,D6 hL;exact⟨_,rfl,h⟩)
   .wp_walk using AutoSeq1.wpAny_loadPart' hl,D6 hL;exact⟨_,rfl,h⟩
 refine callType_new F.called_enumerate (by decide) (F.typeCall_enumerate_1 _) (F.newCall_enumerate_1 _) (λobj=>F.args_object_init_2 obj _) F.entry_enumerate_new mt ⟨hL, ?_⟩;have hz:(s.heap.push {cls:= .type "tuple_iterator",data:= .fields #[.ref t, .int 0 0]}).objs.size=s.heap.objs.size+1:=B0 ..
 show _/\_;rw[hz];have he:=AH (s.heap.push {cls:= .type "tuple_iterator",data:= .fields #[.ref t, .int 0 0]}) (o:={cls:= .type "enumerate",data:= .fields #[.none, .bool false, .ref s.heap.objs.size,rawInt 0, .none, .none]}) rfl;rw[hz] at he;exact⟨⟨_,he,rfl⟩,h _ he ⟨_,A4 _ (AH _ rfl),rfl,rfl⟩ (by rw[B0,hz]) λb o x=>A4 _ (A4 _ x)⟩
end
def gq (K:W.Frag) (a:Rg):It:=
 ⟨λi H=>∃xs x,SqT K H a xs/\xs[i]? =some x,λi H v H'=>∃x p,(∀xs,SqT K H a xs->xs[i]? =some x)/\v= .ref p/\H p=none/\H'=upd H p (.tup [.int i,x]),λi H=>∃xs,SqT K H a xs/\xs.length=i⟩
theorem Hz (a e it:Rg) (MF:e≠it) (hai:a≠it) (hae:e≠a):
  Turn P w K (.Tuple M1 k pos) (gq K a) [e,it] e (λi h=>(∃NA,IsEnum h e it (i:Nat) NA)/\h.IsTupleIter it a i) where
 mem:=by simp
 obj:=λi h st b hb=>by
  obtain⟨⟨NA,h1⟩,o,h2,h3,h4⟩:=st;simp only[AJ,Au,Bo] at hb;rcases hb with rfl|rfl
  .exact⟨_,h1,λv y=>by cases y⟩
  .exact⟨o,h2,λv y=>by rw[h4] at y;cases y⟩
 keep:=λi h h' Ms kk=>by obtain⟨⟨NA,z⟩,Ot⟩:=Ms;exact⟨⟨NA,kk e (by simp) _ z⟩,Ot.at λo z=>kk it (by simp) o z⟩
 item:=by
  intro X hP hw hK hc i Mb s σ H E I hf st hg;subst hP hw hK;obtain⟨xs,x,hq,hx⟩:=hg;obtain⟨Me,rv,p,hz⟩:=I.tuple hq;obtain⟨u,hu,ru⟩:=rv.get hx;obtain⟨⟨NA,he⟩,Mi⟩:=st;have ltE:e<s.heap.objs.size:=AM he;have Mh:i<Me.toArray.size:=by have:=(AF.mp hu).1;simpa using this
  refine wpAny_pyNext_enum_itemD (vx (A:=X.A.in1) (show X.A.in1.handled=none from I.ok.hd hc) it a hai Me.toArray) he ⟨Mi,p⟩ Mh MF (by simp[MF,hae]) λx' h' tk px ho zu68 hT hsz hk=> ?_;obtain⟨N8,_⟩:=zu68;refine⟨.ref s.heap.objs.size,rfl, ?_⟩;obtain rfl:x'=u:=by
   have px:Me.toArray[i]? =some x':=px;have:Me[i]? =some x':=by simpa using px
   rw[hu] at this;exact(Ak this).symm
  refine wpAny_letOwnedTupleGo_enum ho λh2 OB sb=> ?_;have k2:∀b o,b∉[e,it]->s.heap.get? b=some o->h2.get? b=some o:=λb o n z=>by
   simp only[AJ,Au,Bo,not_or] at n;exact(sb.2 b n.1).trans (hk b o n.1 n.2 z)
  have Qx:h2.get? s.heap.objs.size=some {cls:= .type "tuple",data:= .seq #[.int i tk,x']}:=(sb.2 _ (BL ltE)).trans hT;refine⟨.ref s.heap.objs.size,upd H s.heap.objs.size (.tup [.int i,x]),I.turnNew (t':=tk+1) hf k2 ⟨by show 2<=sizeLine;decide,[.int i tk,x'], .cons ⟨_,rfl⟩ (.cons ru .nil),⟨_,Qx,rfl,_,rfl⟩⟩,rfl,⟨x,_,λys hy=>by rw[I.tuple_inj hy hq];exact hx,rfl,I.hok.fresh (AB _),rfl⟩,⟨⟨x',by simpa using OB⟩,N8.at λo z=>(sb.2 it MF.symm).trans z⟩,λb hb=> ?_⟩;have there:∃o,s.heap.get? b=some o:=by
   simp only[AJ,Au,Bo] at hb;rcases hb with rfl|rfl
   .exact⟨_,he⟩
   .exact Mi.imp λo q=>q.1
  obtain⟨o,q⟩:=there;rw[aw (AQ (AM q))];exact(hf b hb).1
 done:=by
  intro X hP hw hK hc i Mb s σ H E I hf st hg;subst hP hw hK;obtain⟨xs,hq,hx⟩:=hg;obtain⟨Me,rv,p,hz⟩:=I.tuple hq;obtain⟨⟨NA,he⟩,Mi⟩:=st;have hl:=rv.length;obtain⟨f0,f1,f2,f3,f4,f5⟩:=hf it (by simp);have hn:i=Me.toArray.size:=by simp;lia
  exact wpAny_pyNext_enum_endD (vx (A:=X.A.in1) (show X.A.in1.handled=none from I.ok.hd hc) it a hai Me.toArray) he ⟨hn▸Mi,p⟩ λh' eb=>⟨rfl,I.turned (t':=s.toks) (λb o hb z=>eb b o hb z) f0 f1 f3 f4 f5⟩
 self:=λ_ _ _ _ _ st h=>let ⟨⟨_,z⟩,_⟩:=st;wpAny_pyIter_enum z h
section
variable {X:Cx}{M1:Rl Rm}{k:Nat}{Np p pos:Pos}{e:Rm}{te:TE}
def HA (K:W.Frag) (tl:TE):TI:=λσ H R=>tl σ H λx H1=>∃a,x= .ref a/\(∃xs,SqT K H1 a xs)/\R (gq K a) H1
theorem nU (hg:Gl X "enumerate") (hm:X.mg "enumerate"=none) (hl:PE X e te) (he:starEach [e] X.env=[(false,eval e X.env)]:=by rfl):PI X (.Tuple M1 k Np) (.Call (.Name "enumerate" p) [e] [] pos) (HA X.K te):=by
 intro Mb s σ H R I h;refine BJ (cM I hg hm boot_enumerate ?_);refine B3 (thn ((ab hl ae he) _ Mb s σ H (λvs H1=>match vs with|[x]=>(∃a,x= .ref a/\(∃xs,SqT X.K H1 a xs)/\R (gq X.K a) H1)|_=>False) I h) λus s1 zu69=> ?_) he (by rfl);obtain⟨vs,H1,I1,r1,q1⟩:=zu69
 match vs,q1,r1 with
 |[x],q1,r1=>
 obtain⟨a,rfl,⟨xs,hq⟩,q⟩:=q1;obtain⟨u,rfl,ru⟩:=cU r1;obtain rfl:u=Value.ref a:=ru;obtain⟨Me,rv,pl,hz⟩:=I1.tuple hq;have la:a<s1.heap.objs.size:=let ⟨_,q,_⟩:=pl;AM q;refine Hy (show s1.heap.IsTuple a Me.toArray from pl) λh' hen Mi hsz hk=> ?_;refine wpAny_pyIter_enum hen ?_;refine⟨_,[_,_],_,_,H1,rfl,I1.kept (t':=s1.toks) hk,Hz a _ _ (BL (BU _)) (AQ la) (BL (Ai la)),⟨⟨_,by simpa using hen⟩,Mi⟩,λb hb=> ?_,q⟩;have fr:∀b,s1.heap.objs.size<=b->cp X Mb H1 b:=λb z=>I1.fpOk z (I1.hok.fresh z);simp only[AJ,Au,Bo] at hb;rcases hb with rfl|rfl<;>exact fr _ (by lia)
end
theorem vy {D:Ends}{σ:St}(Pv:Nat->St->Hp->Prop) (h0:Pv 0 σ H) (hl:∀i σ H,i<=xs.length->Pv i σ H->SqT K H a xs)
  (hs:∀i x σ H p,xs[i]? =some x->Pv i σ H->H p=none->g (.ref p) σ (upd H p (.tup [.int i,x])) λσ2 H2=>tb (eLp D (Pv (i+1))) σ2 H2) (hd:∀σ H,Pv xs.length σ H->D.nx σ H):
  ∃Wq:Nat->Nat->St->Hp->Prop,(∃m,Wq 0 m σ H)/\∀i m σ H,Wq i m σ H->
   ((gq K a).stop i H/\D.nx σ H)\/((gq K a).go i H/\∃N:St->Hp->Prop,(∀σ' H',N σ' H'->∃m',m'<m/\Wq (i+1) m' σ' H')/\∀x H',(gq K a).yld i H x H'->g x σ H' λσ2 H2=>tb (eLp D (N)) σ2 H2):=by
 refine⟨λi m σ H=>m=xs.length-i/\i<=xs.length/\Pv i σ H,⟨xs.length,by simp,AO _,h0⟩, ?_⟩;rintro i m σ H ⟨rfl,hi,p⟩;have q:=hl i σ H hi p;by_cases Mh:i<xs.length
 .refine .inr ⟨⟨xs,xs[i],q,by simp[Mh]⟩,Pv (i+1),λσ' H' p'=>⟨xs.length-(i+1),by lia,rfl,Mh,p'⟩,λx H' y=> ?_⟩;obtain⟨z,pp,e1,e2,e3,e4⟩:=y;subst e2 e4;exact hs i z σ H pp (e1 xs q) p e3
 .obtain rfl:i=xs.length:=by lia
  exact .inl ⟨⟨xs,q,rfl⟩,hd σ H p⟩
theorem HB {ti:TT}{σ:St}{H1:Hp}{Q:VK} (Pv:Nat->Hp->Prop) (h0:Pv 0 (upd H1 acc (.lst []))) (hl:∀i H2,i<=xs.length->Pv i H2->SqT K H2 a xs)
  (hs:∀i x H2 p,xs[i]? =some x->Pv i H2->H2 p=none->g (.ref p) (dk own js σ) (upd H2 p (.tup [.int i,x])) λσ4 H4=>ti σ4 H4 λb H5=>if b=true then te σ4 H5 λy H6=>rAppend (.ref acc) [y] H6 λ_ H7=>Pv (i+1) H7 else Pv (i+1) H5) (hd:∀H2,Pv xs.length H2->Q (.ref acc) H2)
  (mono:∀σ H (R R':St->Hp->Prop) x,(∀σ' H',R σ' H'->R' σ' H')->g x σ H R->g x σ H R') (Nb:∀σ H (R R':Bool->Hp->Prop),(∀b H',R b H'->R' b H')->ti σ H R->ti σ H R') (Nc:∀σ H (R R':VK),(∀v H',R v H'->R' v H')->te σ H R->te σ H R'):
  i6 (gq K a) own js g ti te σ H1 acc Q:=by
 refine⟨λi m H2=>m=xs.length-i/\i<=xs.length/\Pv i H2,⟨xs.length,by simp,AO _,h0⟩, ?_⟩;rintro i m H2 ⟨rfl,hi,p⟩;have qa:=hl i H2 hi p;by_cases Mh:i<xs.length
 .refine .inr ⟨⟨xs,xs[i],qa,by simp[Mh]⟩,λv H3 z=> ?_⟩;obtain⟨x,pp,e1,e3,e4,e5⟩:=z;subst e3 e5;refine mono _ _ _ _ _ (λσ4 H4 q=>Nb _ _ _ _ (λb H5 q=> ?_) q) (hs i x _ pp (e1 xs qa) p e4);cases b with
  |true=>
   refine Nc _ _ _ _ (λv H6 q=> ?_) q;obtain⟨l,zs,y,a1,a2,a3,a4,a5⟩:=q;exact⟨l,zs,y,a1,a2,a3,a4,_,by lia,rfl,Mh,a5⟩
  |false=>exact⟨_,by lia,rfl,Mh,q⟩
 .obtain rfl:i=xs.length:=by lia
  exact .inl ⟨⟨xs,qa,rfl⟩,hd H2 p⟩
theorem HC {ti:TT}{σ:St}{H1:Hp}{Q:VK} (Pv:Nat->Hp->Prop) (h0:Pv 0 (upd H1 acc (.lst []))) (hl:∀i H2,i<=xs.length->Pv i H2->SqL K H2 a xs)
  (hs:∀i x H2 p,xs[i]? =some x->Pv i H2->H2 p=none->g (.ref p) (dk own js σ) (upd H2 p (.tup [.int i,x])) λσ4 H4=>ti σ4 H4 λb H5=>if b=true then te σ4 H5 λy H6=>rAppend (.ref acc) [y] H6 λ_ H7=>Pv (i+1) H7 else Pv (i+1) H5) (hd:∀H2,Pv xs.length H2->Q (.ref acc) H2)
  (mono:∀σ H (R R':St->Hp->Prop) x,(∀σ' H',R σ' H'->R' σ' H')->g x σ H R->g x σ H R') (Nb:∀σ H (R R':Bool->Hp->Prop),(∀b H',R b H'->R' b H')->ti σ H R->ti σ H R') (Nc:∀σ H (R R':VK),(∀v H',R v H'->R' v H')->te σ H R->te σ H R'):
  i6 (Ite K a) own js g ti te σ H1 acc Q:=by
 refine⟨λi m H2=>m=xs.length-i/\i<=xs.length/\Pv i H2,⟨xs.length,by simp,AO _,h0⟩, ?_⟩;rintro i m H2 ⟨rfl,hi,p⟩;have qa:=hl i H2 hi p;by_cases Mh:i<xs.length
 .refine .inr ⟨⟨xs,xs[i],qa,by simp[Mh]⟩,λv H3 z=> ?_⟩;obtain⟨x,pp,e1,e3,e4,e5⟩:=z;subst e3 e5;refine mono _ _ _ _ _ (λσ4 H4 q=>Nb _ _ _ _ (λb H5 q=> ?_) q) (hs i x _ pp (e1 xs qa) p e4);cases b with
  |true=>
   refine Nc _ _ _ _ (λv H6 q=> ?_) q;obtain⟨l,zs,y,a1,a2,a3,a4,a5⟩:=q;exact⟨l,zs,y,a1,a2,a3,a4,_,by lia,rfl,Mh,a5⟩
  |false=>exact⟨_,by lia,rfl,Mh,q⟩
 .obtain rfl:i=xs.length:=by lia
  exact .inl ⟨⟨xs,qa,AB _⟩,hd H2 p⟩
theorem vA (hc:X.calm=true):bW X (.builtin "sum") (λxs H Q=>∃(p:Rg) (ns:Rl Int),xs=[.ref p]/\SqT X.K H p (ns.map V.int)/\Q (.int ns.sum) H):=by
 intro Mb s σ H xs us Q I r h;obtain⟨p,ns,rfl,hq,q⟩:=h;obtain⟨u,rfl,rx⟩:=cU r;cases rx;obtain⟨Me,r',pl,hz⟩:=I.tuple hq;have hi:IntsAre Me ns:=mL r';obtain⟨ys,e⟩:=hi.allInts.items;have hl:s.heap.IsTuple p Me.toArray:=pl;rw[e] at hl;have n1:=hi.numsOf;rw[show Me=Me.toArray.toList from rfl,e,nums_intItems] at n1;have lt:p<s.heap.objs.size:=let ⟨_,q,_⟩:=hl;AM q;refine call_sum_walkG (D6 hl ?_);refine⟨_,_,_,_,_,_,numAt ys,rfl,Walks.tuple (A:=X.A.in1) (show X.A.in1.handled=none from I.ok.hd hc) _ p (AQ lt) (intItems ys),⟨⟨_,AH _ rfl,rfl,rfl⟩,hl.push _⟩,λb hb=> ?_,λ_ _=>intItems_at,λh' tk t' hk=> ?_⟩
 .simp only[AJ,Au,Bo] at hb;rw[B0];rcases hb with rfl|rfl
  .exact BU _
  .exact Ai lt
 .refine⟨.int ns.sum,H,I.kept λb o z=>hk b o (λy=> ?_) (A4 _ z),⟨t', ?_⟩,q⟩
  .simp only[AJ,Au,Bo] at y;exact absurd (AM z) (by rw[y];exact CG _)
  .rw [preSum_eq,C2 (by simp[intItems]),n1]
section
variable {prog:Rh}{w:Rj}{A:Rk}{E:OO->Rf->Prop}{s:Rf}
theorem HD {TI TO:Rg}{k2:Nat}{xs:Array OO}{y a b:OO}{Q:Rp OO->Rf->Prop} (D:ZipApart z TI TO i1 i2 l1 l2) (hz:IsZip s.heap z TI TO .none) (OW:IsPair s.heap TI (.ref i1) (.ref i2)) (Py:IsPair s.heap TO a b)
  (h1:s.heap.IsTupleIter i1 l1 k1) (h2:s.heap.IsTupleIter i2 l2 k2) (M6:s.heap.IsTuple l1 xs) (Mq:s.heap.IsTuple l2 ys) (hx:xs[k1]? =some x) (hy:ys[k2]? =some y)
  (hQ:∀h',IsZip h' z TI TO (rawInt s.heap.objs.size)->IsPair h' TO x y->h'.IsTupleIter i1 l1 (k1+1)->h'.IsTupleIter i2 l2 (k2+1)->IsPair h' s.heap.objs.size x y->h'.objs.size=s.heap.objs.size+1->(∀c o,c≠z->c≠TO->c≠i1->c≠i2->s.heap.get? c=some o->h'.get? c=some o)->Q (some (.ref s.heap.objs.size)) {s with heap:=h'}):
  wpAny (model prog w) A (pyNext (.ref z)) Q E s:=by
 have hT:s.TypeIs (.ref z) "zip":=⟨_,hz,rfl⟩;unfold pyNext;refine A0 (CK (B1 (name:=Str.ofString "__next__") hT F.slot_zip_next (Ah F.slot_zip_next hT F.entry_zip_next ?_ (F.args_zip_next_1 _))));show wpAny _ _ (field (.ref z) 2>>=_) _ _ _;refine A0 (Bh hz rfl (x:= .bool false) rfl ?_);show wpAny _ _ (field (.ref z) 3>>=_) _ _ _;refine A0 (Bh hz rfl (x:= .ref TI) rfl (A0 (BV OW rfl ?_)));show wpAny _ _ (Builtin.SmallTypes.ownedTupleIsFree (.ref z)>>=_) _ _ _;refine A0 ?_;unfold Builtin.SmallTypes.ownedTupleIsFree;refine A0 (Bh hz rfl (x:= .none) rfl (A2 ?_));simp only[C8];refine A0 (Bv (A0 (Bh hz rfl (x:= .ref TO) rfl (A0 (D5 hz (by simp) λa1 OX s1=> ?_)))));have OX:IsZip a1 z TI TO .ellipsis:=OX;refine A0 ?_;simp only[List.zipIdx_cons,List.zipIdx_nil,Co,List.forIn_nil];refine A0 (A0 (wpAny_onRaise ?_));show wpAny _ _ (Builtin.SmallTypes.nextOf (.ref i1)>>=_) _ _ _;refine A0 (nT (h1.extBut s1.extBut D.i1z) (M6.extBut s1.extBut D.l1z) hx λa2 g1 s2=>A2 ?_);have o2:IsPair a2 TO a b:=s2.extBut _ _ D.TOi1 (s1.extBut _ _ D.TOz Py);refine A0 (BV o2 rfl (A0 (wpAny_updateSeq_pair o2 λa3 o3 s3=> ?_)));have o3:IsPair a3 TO x b:=o3;refine A0 (wpAny_letGo (A2 ?_));refine A0 (A0 (wpAny_onRaise ?_));show wpAny _ _ (Builtin.SmallTypes.nextOf (.ref i2)>>=_) _ _ _;refine A0 (nT (((h2.extBut s1.extBut D.i2z).extBut s2.extBut D.i12.symm).extBut s3.extBut D.TOi2.symm) (((Mq.extBut s1.extBut D.l2z).extBut s2.extBut D.l2i1).extBut s3.extBut D.l2TO) hy λa4 g2 s4=>A2 ?_);have o4:IsPair a4 TO x b:=s4.extBut _ _ D.TOi2 o3;refine A0 (BV o4 rfl (A0 (wpAny_updateSeq_pair o4 λa5 o5 s5=> ?_)));have o5:IsPair a5 TO x y:=o5;refine A0 (wpAny_letGo (A2 (A2 ?_)));refine A0 (BV o5 rfl (A0 (wpAny_newTuple ?_)));have sz:a5.objs.size=s.heap.objs.size:=by rw[s5.1,s4.1,s3.1,s2.1,s1.1]
 have z5:IsZip a5 z TI TO .ellipsis:=s5.extBut _ _ D.TOz.symm (s4.extBut _ _ D.i2z.symm (s3.extBut _ _ D.TOz.symm (s2.extBut _ _ D.i1z.symm OX)));have k5:∀c o,c≠z->c≠TO->c≠i1->c≠i2->s.heap.get? c=some o->a5.get? c=some o:=λc o c1 c2 c3 c4 e=>s5.extBut _ _ c2 (s4.extBut _ _ c4 (s3.extBut _ _ c2 (s2.extBut _ _ c3 (s1.extBut _ _ c1 e))));have m1:a5.IsTupleIter i1 l1 (k1+1):=((g1.extBut s3.extBut D.TOi1.symm).extBut s4.extBut D.i12).extBut s5.extBut D.TOi1.symm;have m2:a5.IsTupleIter i2 l2 (k2+1):=g2.extBut s5.extBut D.TOi2.symm;have zl:z<a5.objs.size:=AM z5;show wpAny _ _ (Builtin.SmallTypes.ownedTupleHandOut (.ref z) (.ref a5.objs.size)>>=_) _ _ _;refine A0 ?_;unfold Builtin.SmallTypes.ownedTupleHandOut;have z6:IsZip (a5.push {cls:= .type "tuple",data:= .seq #[x,y]}) z TI TO .ellipsis:=A4 _ z5;refine A0 (D5 z6 (by simp) λa7 z7 s7=> ?_);have z7:IsZip a7 z TI TO (rawInt a5.objs.size):=z7;refine D5 z7 (by simp) λa8 z8 s8=> ?_;have z8:IsZip a8 z TI TO (rawInt a5.objs.size):=z8;have up:∀c o,c≠z->a5.get? c=some o->a8.get? c=some o:=λc o c1 e=>s8.extBut _ _ c1 (s7.extBut _ _ c1 (A4 _ e));have t8:IsPair a8 a5.objs.size x y:=s8.extBut _ _ (BL zl) (s7.extBut _ _ (BL zl) (AH _ rfl));have e8:a8.objs.size=a5.objs.size+1:=by rw[s8.1,s7.1,B0]
 rw[sz] at z8 t8 e8;refine A2 ⟨_,rfl,A2 ?_⟩;show Q (some (.ref a5.objs.size)) _;rw[sz];exact hQ a8 z8 (up _ _ D.TOz o5) (m1.at λo e=>up _ o D.i1z e) (m2.at λo e=>up _ o D.i2z e) t8 e8 λc o c1 c2 c3 c4 e=>up c o c1 (k5 c o c1 c2 c3 c4 e)
theorem HE {TI TO:Rg}{xs:Array OO}{a b:OO}{Q:Rp OO->Rf->Prop} (hh:A.handled=none) (D:ZipApart z TI TO i1 i2 l1 l2) (hz:IsZip s.heap z TI TO .none) (OW:IsPair s.heap TI (.ref i1) (.ref i2)) (Py:IsPair s.heap TO a b)
  (h1:s.heap.IsTupleIter i1 l1 k1) (M6:s.heap.IsTuple l1 xs) (hx:xs[k1]? =none) (hQ:∀h',(∀c o,c≠z->c≠TO->c≠i1->c≠i2->s.heap.get? c=some o->h'.get? c=some o)->Q none {s with heap:=h'}):wpAny (model prog w) A (pyNext (.ref z)) Q E s:=by
 have hT:s.TypeIs (.ref z) "zip":=⟨_,hz,rfl⟩;unfold pyNext;refine A0 (CK (B1 (name:=Str.ofString "__next__") hT F.slot_zip_next (Ah F.slot_zip_next hT F.entry_zip_next ?_ (F.args_zip_next_1 _))));show wpAny _ _ (field (.ref z) 2>>=_) _ _ _;refine A0 (Bh hz rfl (x:= .bool false) rfl ?_);show wpAny _ _ (field (.ref z) 3>>=_) _ _ _;refine A0 (Bh hz rfl (x:= .ref TI) rfl (A0 (BV OW rfl ?_)));show wpAny _ _ (Builtin.SmallTypes.ownedTupleIsFree (.ref z)>>=_) _ _ _;refine A0 ?_;unfold Builtin.SmallTypes.ownedTupleIsFree;refine A0 (Bh hz rfl (x:= .none) rfl (A2 ?_));simp only[C8];refine A0 (Bv (A0 (Bh hz rfl (x:= .ref TO) rfl (A0 (D5 hz (by simp) λa1 OX s1=> ?_)))));have OX:IsZip a1 z TI TO .ellipsis:=OX;refine A0 ?_;simp only[List.zipIdx_cons,List.zipIdx_nil,Co,List.forIn_nil];refine A0 (A0 (wpAny_onRaise ?_));show wpAny _ _ (Builtin.SmallTypes.nextOf (.ref i1)>>=_) _ _ _;refine A0 (vv hh (h1.extBut s1.extBut D.i1z) (M6.extBut s1.extBut D.l1z) hx λa2 e s2 he=> ?_);obtain⟨oe,hoe,hce⟩:=he;have z2:IsZip a2 z TI TO .ellipsis:=s2 _ _ D.i1z.symm OX;have ez:e≠z:=λx=>by subst x;rw[z2] at hoe;cases hoe;simp at hce
 refine D5 z2 (by simp) λa3 _ s3=> ?_;refine A0 (BY (T:="StopIteration") (b:=true) ⟨oe,s3.extBut _ _ ez hoe,hce⟩ isSubtype_stop (A2 (hQ _ λc o c1 _ c3 _ x=>s3.extBut _ _ c1 (s2 _ _ c3 (s1.extBut _ _ c1 x)))))
end
section
variable {prog:Rh}{w:Rj}{A:Rk}{E:OO->Rf->Prop}{s:Rf}
abbrev tz1 (h:Rn) (a:Rg):Rn:=h.push {cls:= .type "tuple_iterator",data:= .fields #[.ref a, .int 0 0]}
abbrev tz2 (h:Rn) (a b:Rg):Rn:=(tz1 h a).push {cls:= .type "tuple_iterator",data:= .fields #[.ref b, .int 0 0]}
abbrev tz3 (h:Rn) (a b:Rg):Rn:=(tz2 h a b).push {cls:= .type "tuple",data:= .seq #[.ref h.objs.size, .ref (tz1 h a).objs.size]}
abbrev tz4 (h:Rn) (a b:Rg):Rn:=(tz3 h a b).push {cls:= .type "tuple",data:= .seq #[.none, .none]}
abbrev tz5 (h:Rn) (a b:Rg):Rn:=(tz4 h a b).push {cls:= .type "zip",data:= .fields #[.none, .bool false, .bool false, .ref (tz2 h a b).objs.size, .ref (tz3 h a b).objs.size]}
theorem HF {xs:Array OO}(ha:s.heap.IsTuple a xs) (hb:s.heap.IsTuple b ys)
  (h:∀h',IsZip h' (s.heap.objs.size+4) (s.heap.objs.size+2) (s.heap.objs.size+3) .none->IsPair h' (s.heap.objs.size+2) (.ref s.heap.objs.size) (.ref (s.heap.objs.size+1))->IsPair h' (s.heap.objs.size+3) .none .none->h'.IsTupleIter s.heap.objs.size a 0->h'.IsTupleIter (s.heap.objs.size+1) b 0->(∀c o,s.heap.get? c=some o->h'.get? c=some o)->Q (.ref (s.heap.objs.size+4)) {s with heap:=h'}):
  wpAny (model prog w) A (call (.type "zip") [.ref a, .ref b]) Q E s:=by
 have mt:Meets (Builtin.«zip.__new__» ⟨[.type "zip", .ref a, .ref b],[]⟩) (λ_ R s=>s.heap.IsTuple a xs/\s.heap.IsTuple b ys/\R (.ok (.ret (.ref (tz4 s.heap a b).objs.size))) {s with heap:=tz5 s.heap a b}):=
  .of_wp λprog w A R s h=>by
   obtain⟨hp,g,d,tk,os⟩:=s;obtain⟨h1,h2,h⟩:=h;have Ow:=sub_zip;have hL1:Heap.IsTuple (Shared.heap ⟨hp,g,d,tk,os⟩) a xs:=h1;have hL2:Heap.IsTuple (Shared.heap ⟨hp.push {cls:= .type "tuple_iterator",data:= .fields #[.ref a, .int 0 0]},g,d,tk,os⟩) b ys:=Heap.IsTuple.push h2 _
   wp_walk using wpAny_pyIter_tuple hL1,D6 hL2
   exact⟨_,rfl,h⟩
 refine callType_new F.called_zip (by decide) (F.typeCall_zip_2 _ _) (F.newCall_zip_2 _ _) (λobj=>F.args_object_init_3 obj _ _) F.entry_zip_new mt ⟨ha,hb, ?_⟩;have z1:(tz1 s.heap a).objs.size=s.heap.objs.size+1:=B0 ..
 have z2:(tz2 s.heap a b).objs.size=s.heap.objs.size+2:=by rw[B0,z1]
 have z3:(tz3 s.heap a b).objs.size=s.heap.objs.size+3:=by rw[B0,z2]
 have z4:(tz4 s.heap a b).objs.size=s.heap.objs.size+4:=by rw[B0,z3]
 have g5:(tz5 s.heap a b).get? (tz4 s.heap a b).objs.size=some _:=AH _ rfl;have g4:(tz5 s.heap a b).get? (tz3 s.heap a b).objs.size=some _:=A4 _ (AH _ rfl);have g3:(tz5 s.heap a b).get? (tz2 s.heap a b).objs.size=some _:=A4 _ (A4 _ (AH _ rfl));have g2:(tz5 s.heap a b).get? (tz1 s.heap a).objs.size=some _:=A4 _ (A4 _ (A4 _ (AH _ rfl)));have g1:(tz5 s.heap a b).get? s.heap.objs.size=some _:=A4 _ (A4 _ (A4 _ (A4 _ (AH _ rfl))));show _/\_;rw[z2,z3,z4] at g5;rw[z1,z2] at g3;rw[z3] at g4;rw[z1] at g2;rw[z4];exact⟨⟨_,g5,rfl⟩,h _ g5 g3 g4 ⟨_,g1,rfl,rfl⟩ ⟨_,g2,rfl,rfl⟩ λc o x=>A4 _ (A4 _ (A4 _ (A4 _ (A4 _ x))))⟩
end
def ItzT (K : W.Frag) (a b : Rg) : It :=
  ⟨λi H => ∃ xs x ys y, SqT K H a xs /\ SqT K H b ys /\ xs[i]? = some x /\ ys[i]? = some y,
   λi H v H' => ∃ x y p, (∀ xs, SqT K H a xs -> xs[i]? = some x) /\ (∀ ys, SqT K H b ys -> ys[i]? = some y) /\ v = .ref p /\ H p = none /\ H' = upd H p (.tup [x, y]),
   λi H => ∃ xs, SqT K H a xs /\ xs.length <= i⟩
theorem HG {TI TO:Rg} (D:ZipApart z TI TO i1 i2 a b):
  Turn P w K (.Tuple M1 k pos) (ItzT K a b) [z,TI,TO,i1,i2] z (λi h=>IsZip h z TI TO .none/\IsPair h TI (.ref i1) (.ref i2)/\(∃x y,IsPair h TO x y)/\h.IsTupleIter i1 a i/\h.IsTupleIter i2 b i) where
 mem:=by simp
 obj:=λi h st c hc=>by
  obtain⟨h1,h2,⟨x,y,h3⟩,⟨o4,h4,_,d4⟩,⟨o5,h5,_,d5⟩⟩:=st;simp only[AJ,Au,Bo] at hc;rcases hc with rfl|rfl|rfl|rfl|rfl
  .exact⟨_,h1,λv q=>by cases q⟩
  .exact⟨_,h2,λv q=>by cases q⟩
  .exact⟨_,h3,λv q=>by cases q⟩
  .exact⟨_,h4,λv q=>by rw[d4] at q;cases q⟩
  .exact⟨_,h5,λv q=>by rw[d5] at q;cases q⟩
 keep:=λi h h' st kk=>⟨kk z (by simp) _ st.1,kk TI (by simp) _ st.2.1,st.2.2.1.imp λx q=>q.imp λy q=>kk TO (by simp) _ q,st.2.2.2.1.at λo q=>kk i1 (by simp) o q,st.2.2.2.2.at λo q=>kk i2 (by simp) o q⟩
 item:=by
  intro X hP hw hK hc i Mb s σ H E I hf st hg;subst hP hw hK;obtain⟨xs,x,ys,y,hqa,hqb,hx,hy⟩:=hg;obtain⟨as,ra,pa,za⟩:=I.tuple hqa;obtain⟨bs,rb,pb,zb⟩:=I.tuple hqb;obtain⟨u,hu,ru⟩:=ra.get hx;obtain⟨v,hv,rv⟩:=rb.get hy;obtain⟨hz,OW,⟨_,_,Py⟩,h1,h2⟩:=st;have ltz:z<s.heap.objs.size:=AM hz;refine HD D hz OW Py h1 h2 (show s.heap.IsTuple a as.toArray from pa) (show s.heap.IsTuple b bs.toArray from pb) (x:=u) (y:=v) (by simpa using hu) (by simpa using hv) λh' hz' hTO' h1' h2' hT hsz hk=>⟨.ref s.heap.objs.size,rfl, ?_⟩;refine wpAny_letOwnedTupleGo_zip hz' λh3 hz3 sb=> ?_;have kk:∀c o,c∉[z,TI,TO,i1,i2]->s.heap.get? c=some o->h3.get? c=some o:=λc o n e=>by
   simp only[AJ,Au,Bo,not_or] at n;exact(sb.2 c n.1).trans (hk c o n.1 n.2.2.1 n.2.2.2.1 n.2.2.2.2 e)
  have hT3:h3.get? s.heap.objs.size=some {cls:= .type "tuple",data:= .seq #[u,v]}:=(sb.2 _ (BL ltz)).trans hT;have hTI3:IsPair h3 TI (.ref i1) (.ref i2):=(sb.2 _ D.TIz).trans (hk _ _ D.TIz D.TITO D.TIi1 D.TIi2 OW);refine⟨.ref s.heap.objs.size,upd H s.heap.objs.size (.tup [x,y]),I.turnNew (t':=s.toks) hf kk ⟨by show 2<=sizeLine;decide,[u,v], .cons ru (.cons rv .nil),⟨_,hT3,rfl,_,rfl⟩⟩,rfl,
   ⟨x,y,_,λzs M0=>by rw[I.tuple_inj M0 hqa];exact hx,λzs M0=>by rw[I.tuple_inj M0 hqb];exact hy,rfl,I.hok.fresh (AB _),rfl⟩,
   ⟨hz3,hTI3,⟨_,_,(sb.2 _ D.TOz).trans hTO'⟩,h1'.at λo q=>(sb.2 _ D.i1z).trans q,h2'.at λo q=>(sb.2 _ D.i2z).trans q⟩,λc hc=> ?_⟩
  have there:∃o,s.heap.get? c=some o:=by
   simp only[AJ,Au,Bo] at hc;rcases hc with rfl|rfl|rfl|rfl|rfl
   .exact⟨_,hz⟩
   .exact⟨_,OW⟩
   .exact⟨_,Py⟩
   .exact h1.imp λo q=>q.1
   .exact h2.imp λo q=>q.1
  obtain⟨o,q⟩:=there;rw[aw (AQ (AM q))];exact(hf c hc).1
 done:=by
  intro X hP hw hK hc i Mb s σ H E I hf st hg;subst hP hw hK;obtain⟨xs,hqa,hx⟩:=hg;obtain⟨as,ra,pa,za⟩:=I.tuple hqa;obtain⟨hz,OW,⟨_,_,Py⟩,h1,h2⟩:=st;have la:=ra.length;refine HE (I.ok.hd hc) D hz OW Py h1 (show s.heap.IsTuple a as.toArray from pa) (by simp;lia) λh' hk=>⟨rfl,I.turnAll (t':=s.toks) hf λc o n e=> ?_⟩;simp only[AJ,Au,Bo,not_or] at n;exact hk c o n.1 n.2.2.1 n.2.2.2.1 n.2.2.2.2 e
 self:=λ_ _ _ _ _ st h=>wpAny_pyIter_zip st.1 h
section
variable {X:Cx}{M1:Rl Rm}{k:Nat}{Np p pos:Pos}{e f:Rm}{te tf:TE}
inductive iZipT_ (K:W.Frag) (R:(It->Hp->Prop)) (vs:List V) (H1:Hp):Prop
 |mk a b:vs=[.ref a, .ref b]->((∃xs,SqT K H1 a xs))->((∃ys,SqT K H1 b ys))->R (ItzT K a b) H1->iZipT_ K R vs H1
def HH (K:W.Frag) (ta:TA):TI:=λσ H R=>ta σ H λvs H1=>iZipT_ K R vs H1
theorem HI {ta:TA} (hg:Gl X "zip") (hm:X.mg "zip"=none) (hl:PA X [e,f] ta) (he:starEach [e,f] X.env=(false,eval e X.env)::starEach [f] X.env:=by rfl) (hp:(backTo pos (starEach [f] X.env)).any (·.1)=false:=by rfl):
  PI X (.Tuple M1 k Np) (.Call (.Name "zip" p) [e,f] [] pos) (HH X.K ta):=by
 intro Mb s σ H R I h;refine BJ (cM I hg hm PyProof.Rows.Boot.«zip» ?_);refine B3 (thn (hl _ Mb s σ H _ I h) λus s1 zu70=> ?_) he hp;obtain⟨vs,H1,I1,r1,a,b,ev,⟨xs,hqa⟩,⟨ys,hqb⟩,q⟩:=zu70;subst ev;obtain⟨u,v,rfl,ru,rv⟩:=ki r1;obtain rfl:u=Value.ref a:=ru;obtain rfl:v=Value.ref b:=rv;obtain⟨as,ra,pa,za⟩:=I1.tuple hqa;obtain⟨bs,rb,pb,zb⟩:=I1.tuple hqb;have la:a<s1.heap.objs.size:=let ⟨_,q,_⟩:=pa;AM q;have lb:b<s1.heap.objs.size:=let ⟨_,q,_⟩:=pb;AM q;refine HF (show s1.heap.IsTuple a as.toArray from pa) (show s1.heap.IsTuple b bs.toArray from pb) λh' hz OW Py h1 h2 hk=> ?_;refine wpAny_pyIter_zip hz ?_;refine⟨_,[_,_,_,_,_],_,_,H1,rfl,I1.kept (t':=s1.toks) hk,HG (zipApart_new la lb),⟨hz,OW,⟨_,_,Py⟩,h1,h2⟩,λc hc=> ?_,q⟩;have fr:∀c,s1.heap.objs.size<=c->cp X Mb H1 c:=λc z=>I1.fpOk z (I1.hok.fresh z);simp only[AJ,Au,Bo] at hc;rcases hc with rfl|rfl|rfl|rfl|rfl<;>exact fr _ (by lia)
end
theorem HJ {ys:Rl V}{D:Ends}{σ:St}(hn:xs.length=ys.length) (Pv:Nat->St->Hp->Prop) (h0:Pv 0 σ H) (hl:∀i σ H,i<=xs.length->Pv i σ H->SqT K H a xs/\SqT K H b ys)
  (hs:∀i x y σ H p,xs[i]? =some x->ys[i]? =some y->Pv i σ H->H p=none->g (.ref p) σ (upd H p (.tup [x,y])) λσ2 H2=>tb (eLp D (Pv (i+1))) σ2 H2) (hd:∀σ H,Pv xs.length σ H->D.nx σ H):
  ∃Wq:Nat->Nat->St->Hp->Prop,(∃m,Wq 0 m σ H)/\∀i m σ H,Wq i m σ H->
   ((ItzT K a b).stop i H/\D.nx σ H)\/((ItzT K a b).go i H/\∃N:St->Hp->Prop,(∀σ' H',N σ' H'->∃m',m'<m/\Wq (i+1) m' σ' H')/\∀x H',(ItzT K a b).yld i H x H'->g x σ H' λσ2 H2=>tb (eLp D (N)) σ2 H2):=by
 refine⟨λi m σ H=>m=xs.length-i/\i<=xs.length/\Pv i σ H,⟨xs.length,by simp,AO _,h0⟩, ?_⟩;rintro i m σ H ⟨rfl,hi,p⟩;obtain⟨qa,qb⟩:=hl i σ H hi p;by_cases Mh:i<xs.length
 .have ly:i<ys.length:=by lia
  refine .inr ⟨⟨xs,xs[i],ys,ys[i],qa,qb,by simp[Mh],by simp[ly]⟩,Pv (i+1),λσ' H' p'=>⟨xs.length-(i+1),by lia,rfl,Mh,p'⟩,λv H' z=> ?_⟩;obtain⟨x,y,pp,e1,e2,e3,e4,e5⟩:=z;subst e3 e5;exact hs i x y σ H pp (e1 xs qa) (e2 ys qb) p e4
 .obtain rfl:i=xs.length:=by lia
  exact .inl ⟨⟨xs,qa,AB _⟩,hd σ H p⟩
inductive tNotL_ (K:W.Frag) (Q:VK) (x:V) (H1:Hp):Prop
 |mk p xs:x= .ref p->SqL K H1 p xs->Q (.bl xs.isEmpty) H1->tNotL_ K Q x H1
def HK (K:W.Frag) (ta:TE):TE:=λσ H Q=>ta σ H λx H1=>tNotL_ K Q x H1
theorem HL {a:Rm}{ta:TE}(ha:PE X a ta):PE X (.UnaryOp .Not a pos) (HK X.K ta):=by
 intro Mb s σ H Q I h;refine UnaryOp_ (thn (ha Mb s σ H _ I h) λv s1 zu71=> ?_);obtain⟨x,H1,I1,r1,q1⟩:=zu71;obtain⟨p,xs,rfl,hx,q⟩:=q1;cases r1;obtain⟨Me,r,pl,hz⟩:=I1.list hx;have Mg:=r.length;have hn:=fZ;exact not_of (wpAny_truthy_list pl.isList (by simp only[AG];lia) ⟨.bl xs.isEmpty,H1,I1.tok _,by rw[mG r,Bool.not_not];rfl,q⟩)
end L2
local macro_rules | `(tactic| ac_rfl) => `(tactic| (intro _ _ _ _ h; cases h; subst_vars; rfl))
namespace Mine
open PySem L2 PyProof.Rows
variable {H H' H'' H2:Hp}{K:W.Frag}{L d fi i j k m n p:Nat}{Mc:Rl (Rl (Rl Int)×V)}{Mk Ny lo sg sp:Int}{N5 b e ks ns row xs ys zs:Rl Int}{P:Rh}{Pz rs vs ws:Rl V}{Q:VK}{R:Rl (Rl (Rl Int)×Int)}{Wq:Rl Pt->Int}{X:Cx}{a acc f l:Rg}{c:Pt}{e0 ps qs r:Rl Pt}{fd:Ri}{mg:Str->Rp OO}{o:HO}{st:Rq}{u v:V}{w:Rj}{x:Rl Int×Int}
def top (i:Nat):Rq:=PySem.Challenge.pw_floorcurves_k91_whole_shades.main.body.getD i (.Pass ⟨0,0,0,0⟩)
abbrev nV:Rq:=top 8
theorem HM:FnScope ["thing"] ["thing"] (al nV):=by and_intros
abbrev nW:Rq:=top 9
theorem HN:FnScope ["thing","least","greatest"] ["thing","least","greatest"] (al nW):=by and_intros
abbrev nX:Rq:=top 10
theorem HP:FnScope ["d","k"] ["d","k"] (al nX):=by and_intros
abbrev nY:Rq:=top 11
theorem HQ:FnScope ["d","k"] ["d","k"] (al nY):=by and_intros
abbrev nZ:Rq:=top 12
theorem HR:FnScope ["d"] ["d"] (al nZ):=by and_intros
abbrev og:Rq:=top 14
theorem kN:FnScope ["number","chosen","found","place"] ["number","chosen"] (al og):=by and_intros
abbrev oh:Rq:=top 16
theorem vB:FnScope ["thing","number"] ["thing"] (al oh):=by and_intros
abbrev jn:Rq:=top 17
theorem vC:FnScope ["row"] ["row"] (al jn):=by and_intros
abbrev oj:Rq:=top 18
theorem HS:FnScope ["d","held","free"] ["d","held","free"] (al oj):=by and_intros
abbrev om:Rq:=top 20
theorem vD:FnScope ["numbers","kept"] ["numbers"] (al om):=by and_intros
abbrev on:Rq:=top 21
theorem jo:FnScope ["one","other","total","numbers","place","number"] ["one","other"] (al on):=by and_intros
abbrev oq:Rq:=top 22
theorem ic:FnScope ["one","other","total","place","number","further","factor"] ["one","other"] (al oq):=by and_intros
abbrev ot:Rq:=top 23
theorem HU:FnScope ["numbers","place","more"] ["numbers","place","more"] (al ot):=by and_intros
abbrev ou:Rq:=top 24
theorem kO:FnScope ["numbers","product","number"] ["numbers"] (al ou):=by and_intros
abbrev ow:Rq:=top 26
theorem HV:FnScope ["row","length"] ["row","length"] (al ow):=by and_intros
abbrev kP:Rq:=top 27
theorem ie:FnScope ["row","found","number","longer","begun"] ["row"] (al kP):=by and_intros
abbrev ox:Rq:=top 28
theorem kQ:FnScope ["row","weight","first","missing","found","place"] ["row","weight","first"] (al ox):=by and_intros
abbrev oy:Rq:=top 29
theorem jp:FnScope ["row","chosen","product","number","part"] ["row","chosen"] (al oy):=by and_intros
abbrev oz:Rq:=top 30
theorem kR:FnScope ["row","fuller","found","place","number"] ["row","fuller"] (al oz):=by and_intros
abbrev oA:Rq:=top 31
theorem jq:FnScope ["d","k","held","free","found","place","number","lesser"] ["d","k","held","free"] (al oA):=by and_intros
abbrev oB:Rq:=top 32
theorem jr:FnScope ["d","k","held","free","found","kept","freed","lesser"] ["d","k","held","free"] (al oB):=by and_intros
abbrev oC:Rq:=top 33
theorem jt:FnScope ["asked","d","k","held","free"] ["asked"] (al oC):=by and_intros
abbrev oD:Rq:=top 34
theorem ig:FnScope ["asked","known","total","number","weights","lesser"] ["asked","known"] (al oD):=by and_intros
abbrev oE:Rq:=top 35
theorem HW:FnScope ["d","k","held","free"] ["d","k","held","free"] (al oE):=by and_intros
abbrev oF:Rq:=top 36
theorem HX:FnScope ["d","k","held","free"] ["d","k","held","free"] (al oF):=by and_intros
abbrev oG:Rq:=top 38
theorem ju:FnScope ["d","drawing","ends","i","j","w"] ["d","drawing"] (al oG):=by and_intros
abbrev oH:Rq:=top 39
theorem HY:FnScope ["d","drawing"] ["d","drawing"] (al oH):=by and_intros
abbrev oI:Rq:=top 40
theorem HZ:FnScope ["lift"] ["lift"] (al oI):=by and_intros
abbrev oJ:Rq:=top 41
theorem kS:FnScope ["d","floor","weight","spare","found","j","w"] ["d","floor","weight","spare"] (al oJ):=by and_intros
abbrev oK:Rq:=top 42
theorem jv:FnScope ["lifts","weight","spare","found","place","lift","rest"] ["lifts","weight","spare"] (al oK):=by and_intros
abbrev jw:Rq:=top 43
theorem ii:FnScope ["d","floor","drawing","spare","there","found","lifts","ends","left"] ["d","floor","drawing","spare"] (al jw):=by and_intros
abbrev kT:Rq:=top 44
theorem gr:FnScope ["d","k","begun","floor","longer","drawing","spare"] ["d","k"] (al kT):=by and_intros
abbrev oM:Rq:=top 45
theorem kU:FnScope ["drawing","product","lift"] ["drawing"] (al oM):=by and_intros
abbrev oN:Rq:=top 48
theorem Ia:FnScope ["d","drawing"] ["d","drawing"] (al oN):=by and_intros
abbrev oO:Rq:=top 49
theorem kW:FnScope ["d","drawing","found","place","number"] ["d","drawing"] (al oO):=by and_intros
abbrev oP:Rq:=top 50
theorem ij:FnScope ["numbers","first","last","alike","found","here","choices","fuller","others"] ["numbers","first","last","alike"] (al oP):=by and_intros
abbrev oQ:Rq:=top 51
theorem fD:FnScope ["d","marks","known","mark","fuller","numbers","further","choices"] ["d","marks"] (al oQ):=by and_intros
abbrev oR:Rq:=top 52
theorem Ib:FnScope ["d","drawing"] ["d","drawing"] (al oR):=by and_intros
abbrev kX:Rq:=top 53
theorem Ic:FnScope ["d","k"] ["d","k"] (al kX):=by and_intros
abbrev oS:Rq:=top 55
theorem kY:FnScope ["low","numbers","kept","first"] ["low","numbers"] (al oS):=by and_intros
abbrev oT:Rq:=top 56
theorem vE:FnScope ["one","other","low"] ["one","other"] (al oT):=by and_intros
abbrev oU:Rq:=top 57
theorem Ie:FnScope ["one","other"] ["one","other"] (al oU):=by and_intros
abbrev oV:Rq:=top 58
theorem Ig:FnScope ["one"] ["one"] (al oV):=by and_intros
abbrev oW:Rq:=top 59
theorem Ih:FnScope ["one"] ["one"] (al oW):=by and_intros
abbrev kZ:Rq:=top 60
theorem Ii:FnScope ["w"] ["w"] (al kZ):=by and_intros
abbrev oX:Rq:=top 62
theorem k7:FnScope ["d","found","x","y"] ["d"] (al oX):=by and_intros
abbrev oY:Rq:=top 63
theorem Ij:FnScope ["d","point"] ["d","point"] (al oY):=by and_intros
abbrev oZ:Rq:=top 64
theorem Ik:FnScope ["a","b","c"] ["a","b","c"] (al oZ):=by and_intros
abbrev k8:Rq:=top 65
theorem Il:FnScope ["d"] ["d"] (al k8):=by and_intros
abbrev jx:Rq:=top 66
theorem vG:FnScope ["d","down"] ["d"] (al jx):=by and_intros
abbrev o0:Rq:=top 70
theorem vH:FnScope ["way","side","place"] ["way","side"] (al o0):=by and_intros
abbrev o6:Rq:=top 71
theorem gs:FnScope ["d","way","side","place","a","b","c","found","facing"] ["d","way","side"] (al o6):=by and_intros
abbrev o7:Rq:=top 72
theorem Im:FnScope ["piece"] ["piece"] (al o7):=by and_intros
abbrev lg:Rq:=top 74
theorem vI:FnScope ["row","k","with_first"] ["row","k"] (al lg):=by and_intros
abbrev lm:Rq:=top 75
theorem vJ:FnScope ["d","k","row"] ["d","k"] (al lm):=by and_intros
abbrev o8:Rq:=top 76
theorem ik:FnScope ["d","way","side","known","key","total","piece","further"] ["d","way","side","known"] (al o8):=by and_intros
abbrev o9:Rq:=top 78
theorem Io:FnScope ["d"] ["d"] (al o9):=by and_intros
abbrev ph:Rq:=top 79
theorem Ip:FnScope ["d"] ["d"] (al ph):=by and_intros
abbrev pi:Rq:=top 80
theorem im:FnScope ["d","k","over","under","total","way"] ["d","k"] (al pi):=by and_intros
abbrev pq:Rq:=top 82
theorem Iq:FnScope ["number"] ["number"] (al pq):=by and_intros
abbrev pz:Rq:=top 83
theorem lp:FnScope ["weights","product","weight"] ["weights"] (al pz):=by and_intros
abbrev pA:Rq:=top 84
theorem io:FnScope ["d","way","side","known","key","total","piece","further"] ["d","way","side","known"] (al pA):=by and_intros
abbrev pB:Rq:=top 85
theorem ip:FnScope ["d","k","over","under","total","way"] ["d","k"] (al pB):=by and_intros
abbrev lq:Rq:=top 86
theorem jy:FnScope ["d","k","total","drawing","weights"] ["d","k"] (al lq):=by and_intros
abbrev pC:Rq:=top 87
theorem gu:FnScope ["asked","known","total","number","weights","lesser","factor"] ["asked","known"] (al pC):=by and_intros
abbrev pD:Rq:=top 88
theorem Ir:FnScope ["d","k","held","free"] ["d","k","held","free"] (al pD):=by and_intros
abbrev pE:Rq:=top 90
theorem Iu:FnScope ["_law_script","_law_k"] ["_law_script","_law_k"] (al pE):=by and_intros
abbrev pF:Rq:=top 91
theorem jz:FnScope ["_law_script","_law_k","_law_cell","_law_one","_law_other"] ["_law_script","_law_k"] (al pF):=by and_intros
abbrev pG:Rq:=top 92
theorem jA:FnScope ["_law_found","_law_k","_law_d"] [] (al pG):=by and_intros
abbrev lu:Rq:=top 93
theorem jB:FnScope ["_law_script","_law_d","_law_k","_law_found","_law_count"] ["_law_script"] (al lu):=by and_intros
set_option genInjectivity false
set_option genSizeOfSpec false
set_option genSizeOf false
structure Fg (K:W.Frag) (mg:Str->Rp OO) (n q:Str) (st:Rq) (ps:Rl Str) (f:Rg) (d:Ri):Prop where
 F:Fun K q q st f d
 B:f' K d ps []
 m:mg n=some (.ref f)
abbrev Fb (K:PySem.W.Frag) (mg:Str->Rp OO) (n:Str) (st:Rq) (ps:Rl Str) (f:Rg) (d:Ri) (q:Str:=n):Prop:=Fg K mg n q st ps f d
structure Fns (K:W.Frag) (mg:Str->Rp OO) where
 f0:Addr
 d0:FuncData
 f1:Addr
 d1:FuncData
 f2:Addr
 d2:FuncData
 f3:Addr
 d3:FuncData
 f4:Addr
 d4:FuncData
 f5:Addr
 d5:FuncData
 f6:Addr
 d6:FuncData
 f7:Addr
 d7:FuncData
 f8:Addr
 d8:FuncData
 f9:Addr
 d9:FuncData
 f10:Addr
 d10:FuncData
 f11:Addr
 d11:FuncData
 f12:Addr
 d12:FuncData
 f13:Addr
 d13:FuncData
 f14:Addr
 d14:FuncData
 f15:Addr
 d15:FuncData
 f16:Addr
 d16:FuncData
 f17:Addr
 d17:FuncData
 f18:Addr
 d18:FuncData
 f19:Addr
 d19:FuncData
 f20:Addr
 d20:FuncData
 f21:Addr
 d21:FuncData
 f22:Addr
 d22:FuncData
 f23:Addr
 d23:FuncData
 f24:Addr
 d24:FuncData
 f25:Addr
 d25:FuncData
 f26:Addr
 d26:FuncData
 f27:Addr
 d27:FuncData
 f28:Addr
 d28:FuncData
 f29:Addr
 d29:FuncData
 f30:Addr
 d30:FuncData
 f31:Addr
 d31:FuncData
 f32:Addr
 d32:FuncData
 f33:Addr
 d33:FuncData
 f34:Addr
 d34:FuncData
 f35:Addr
 d35:FuncData
 f36:Addr
 d36:FuncData
 f37:Addr
 d37:FuncData
 f38:Addr
 d38:FuncData
 f39:Addr
 d39:FuncData
 f40:Addr
 d40:FuncData
 f41:Addr
 d41:FuncData
 f42:Addr
 d42:FuncData
 f43:Addr
 d43:FuncData
 f44:Addr
 d44:FuncData
 f45:Addr
 d45:FuncData
 f46:Addr
 d46:FuncData
 f47:Addr
 d47:FuncData
 f48:Addr
 d48:FuncData
 f49:Addr
 d49:FuncData
 f50:Addr
 d50:FuncData
 f51:Addr
 d51:FuncData
 f52:Addr
 d52:FuncData
 f53:Addr
 d53:FuncData
 f54:Addr
 d54:FuncData
 f55:Addr
 d55:FuncData
 f56:Addr
 d56:FuncData
 f57:Addr
 d57:FuncData
 f58:Addr
 d58:FuncData
 f59:Addr
 d59:FuncData
 f60:Addr
 d60:FuncData
 f61:Addr
 d61:FuncData
 f62:Addr
 d62:FuncData
 f63:Addr
 d63:FuncData
 f64:Addr
 d64:FuncData
 f65:Addr
 d65:FuncData
 f66:Addr
 d66:FuncData
 f67:Addr
 d67:FuncData
 f68:Addr
 d68:FuncData
 f69:Addr
 d69:FuncData
 X0:Fb K mg "is_whole" nV ["thing"] f0 d0
 X1:Fb K mg "need_between" nW ["thing","least","greatest"] f1 d1
 X2:Fb K mg "need_narrow" nX ["d","k"] f2 d2
 X3:Fb K mg "need_wide" nY ["d","k"] f3 d3
 X4:Fb K mg "need_degree" nZ ["d"] f4 d4
 X5:Fb K mg "choose" og ["number","chosen"] f5 d5
 X6:Fb K mg "is_row" oh ["thing"] f6 d6
 X7:Fb K mg "row_weight" jn ["row"] f7 d7
 X8:Fb K mg "need_rows" oj ["d","held","free"] f8 d8
 X9:Fb K mg "without_last_noughts" om ["numbers"] f9 d9
 X10:Fb K mg "sum_by_place" on ["one","other"] f10 d10
 X11:Fb K mg "product_by_place" oq ["one","other"] f11 d11
 X12:Fb K mg "with_more" ot ["numbers","place","more"] f12 d12
 X13:Fb K mg "product_of" ou ["numbers"] f13 d13
 X14:Fb K mg "filled_up" ow ["row","length"] f14 d14
 X15:Fb K mg "rows_within" kP ["row"] f15 d15
 X16:Fb K mg "rows_beyond" ox ["row","weight","first"] f16 d16
 X17:Fb K mg "choices" oy ["row","chosen"] f17 d17
 X18:Fb K mg "weights_gained" oz ["row","fuller"] f18 d18
 X19:Fb K mg "with_one_held" oA ["d","k","held","free"] f19 d19
 X20:Fb K mg "with_one_degree_fewer" oB ["d","k","held","free"] f20 d20
 X21:Fb K mg "summands" oC ["asked"] f21 d21
 X22:Fb K mg "counted" oD ["asked","known"] f22 d22
 X23:Fb K mg "asked_of" oE ["d","k","held","free"] f23 d23
 X24:Fb K mg "by_ends" oF ["d","k","held","free"] f24 d24
 X25:Fb K mg "ends_at" oG ["d","drawing"] f25 d25
 X26:Fb K mg "sound" oH ["d","drawing"] f26 d26
 X27:Fb K mg "lost" oI ["lift"] f27 d27
 X28:Fb K mg "lifts_from" oJ ["d","floor","weight","spare"] f28 d28
 X29:Fb K mg "leaving" oK ["lifts","weight","spare"] f29 d29
 X30:Fb K mg "with_floor" jw ["d","floor","drawing","spare"] f30 d30
 X31:Fb K mg "drawings" kT ["d","k"] f31 d31
 X32:Fb K mg "worth_floors" oM ["drawing"] f32 d32 "worth"
 X33:Fb K mg "need_sound" oN ["d","drawing"] f33 d33
 X34:Fb K mg "end_marks" oO ["d","drawing"] f34 d34
 X35:Fb K mg "put_between" oP ["numbers","first","last","alike"] f35 d35
 X36:Fb K mg "how_many_orders" oQ ["d","marks"] f36 d36
 X37:Fb K mg "how_many" oR ["d","drawing"] f37 d37
 X38:Fb K mg "count_by_floors" kX ["d","k"] f38 d38
 X39:Fb K mg "shade" oS ["low","numbers"] f39 d39
 X40:Fb K mg "added" oT ["one","other"] f40 d40
 X41:Fb K mg "mixed" oU ["one","other"] f41 d41
 X42:Fb K mg "turned" oV ["one"] f42 d42
 X43:Fb K mg "at_one" oW ["one"] f43 d43
 X44:Fb K mg "stretch" kZ ["w"] f44 d44
 X45:Fb K mg "points" oX ["d"] f45 d45
 X46:Fb K mg "is_point" oY ["d","point"] f46 d46
 X47:Fb K mg "corner" oZ ["a","b","c"] f47 d47
 X48:Fb K mg "upper_edge" k8 ["d"] f48 d48
 X49:Fb K mg "lower_edge" jx ["d"] f49 d49
 X50:Fb K mg "first_turn" o0 ["way","side"] f50 d50
 X51:Fb K mg "steps" o6 ["d","way","side"] f51 d51
 X52:Fb K mg "piece_worth" o7 ["piece"] f52 d52
 X53:Fb K mg "leaving_out" lg ["row","k"] f53 d53
 X54:Fb K mg "ways" lm ["d","k"] f54 d54
 X55:Fb K mg "worth_ways" o8 ["d","way","side","known"] f55 d55 "worth"
 X56:Fb K mg "known_above" o9 ["d"] f56 d56
 X57:Fb K mg "known_below" ph ["d"] f57 d57
 X58:Fb K mg "count_by_ways" pi ["d","k"] f58 d58
 X59:Fb K mg "of_number" pq ["number"] f59 d59
 X60:Fb K mg "stretched" pz ["weights"] f60 d60
 X61:Fb K mg "way_shade" pA ["d","way","side","known"] f61 d61
 X62:Fb K mg "shade_by_ways" pB ["d","k"] f62 d62
 X63:Fb K mg "shade_by_floors" lq ["d","k"] f63 d63
 X64:Fb K mg "ends_shade" pC ["asked","known"] f64 d64
 X65:Fb K mg "shade_by_ends" pD ["d","k","held","free"] f65 d65
 X66:Fb K mg "_law_cell_at" pE ["_law_script","_law_k"] f66 d66
 X67:Fb K mg "_law_number" pF ["_law_script","_law_k"] f67 d67
 X68:Fb K mg "_law_pairs" pG [] f68 d68
 X69:Fb K mg "law" lu ["_law_script"] f69 d69
 n_isinstance:mg "isinstance"=none
 n_int:mg "int"=none
 n_bool:mg "bool"=none
 n_range:mg "range"=none
 n_list:mg "list"=none
 n_sum:mg "sum"=none
 n_enumerate:mg "enumerate"=none
 n_max:mg "max"=none
 n_len:mg "len"=none
 n_tuple:mg "tuple"=none
 n_min:mg "min"=none
 n_zip:mg "zip"=none
 n_sorted:mg "sorted"=none
 n_set:mg "set"=none
 n_reversed:mg "reversed"=none
 n_abs:mg "abs"=none
 k_LEFT:Tok
 m_LEFT:mg "LEFT"=some (.int (1) k_LEFT)
 k_RIGHT:Tok
 m_RIGHT:mg "RIGHT"=some (.int (-1) k_RIGHT)
 a_NARROW:Addr
 m_NARROW:mg "NARROW"=some (.ref a_NARROW)
 D_NARROW:gY K a_NARROW [(1,6),(2,6),(3,6),(4,2)]=true
 a_WIDE:Addr
 m_WIDE:mg "WIDE"=some (.ref a_WIDE)
 D_WIDE:gY K a_WIDE [(1,6),(2,6),(3,6),(4,6),(5,3)]=true
 c_NoBound:Addr
 m_NoBound:mg "NoBound"=some (.ref c_NoBound)
 c_NoEnds:Addr
 m_NoEnds:mg "NoEnds"=some (.ref c_NoEnds)
 c_NoDrawing:Addr
 m_NoDrawing:mg "NoDrawing"=some (.ref c_NoDrawing)
 x_NoBound:W.excIn K c_NoBound bmV "ValueError.__new__"=true
 X_NoBound:XC K c_NoBound
 x_NoEnds:W.excIn K c_NoEnds bmV "ValueError.__new__"=true
 X_NoEnds:XC K c_NoEnds
 x_NoDrawing:W.excIn K c_NoDrawing bmV "ValueError.__new__"=true
 X_NoDrawing:XC K c_NoDrawing
theorem pcq {x q:Str}{ps:Rl Str}{sp:Sp}{e:Rm}{es:Rl Rm}{t:TA}{p pos:Pos} (F:FnOk X.prog X.w X.K X.mg X.base CX0 k f fd ps sp) (hr:Room n X.A) (B:Fg X.K X.mg x q st ps f fd) (ha:PA X (e::es) t) (hk:k<=n:=by decide) (hg:Gl X x:=by rfl) (Ou:(x==("__debug__":Str))=false:=by decide) (he:starEach (e::es) X.env=(false,eval e X.env)::starEach es X.env:=by rfl) (Ov:(backTo pos (starEach es X.env)).any (·.1)=false:=by rfl):PE X (.Call (.Name x p) (e::es) [] pos) (mJ sp [] E0 t):=dQ F (hr.mono hk) hg B.m B.F.kp B.B .nil dG ha Ou he Ov
theorem pSA {x:Str}{e:Rm}{te:TE}{pos Mu:Pos} (hN:X.N.Nodup) (he:PE X e te) (hi:X.N[i]? =some x:=by rfl) (hx:Loc X.env.scope x:=by trivial) (hs:swapsWith e (some (.Name x Mu)) pos.line X.env=pure false:=by rfl) (hf:X.fn x=true\/X.env.scope.names.lookup x=some .local:=by trivial):PS X (.Assign [.Name x Mu] e pos) (iQ te (cn i)):=zx hN hi hx he hs hf
theorem pGA {x:Str}{pos:Pos} (hN:X.N.Nodup) (hi:X.N[i]? =some x:=by rfl) (hx:Loc X.env.scope x:=by trivial) (hf:X.fn x=true\/X.env.scope.names.lookup x=some .local:=by trivial):PG X (.Name x pos) (cn i):=bV hN hi hx hf
def zB (h:Nat.ble n sizeLine=true):n<=sizeLine:=Nat.le_of_ble_eq_true h
theorem FbO {base:Rn}{x q:Str}{N ps:Rl Str}{sp:Sp} (B:Fg K mg x q st ps f fd) (S:FnScope N ps (al st)) (NR:∀(My:OO) (A:Rk) (outer:Rl Env) (s:Rf) (H:Hp) (vs:Rl V) (Q:VK) (E:XK),Room k (A.deeper (envOfC q (al st) s.heap.objs.size f My))->sp vs H Q E->∃t,PSs (gd CX0 P w K mg base N q (al st) f My A outer s H E).nox (dj st) t/\t {nx:=λ_ H'=>Q .non H',rt:=Q} (start N vs) H) (len:∀vs H Q E,sp vs H Q E->vs.length=ps.length:=by ac_rfl):FnOk P w K mg base CX0 (k+1) f fd ps sp:=B.F.ok S len NR
abbrev OKQ {K:PySem.W.Frag}{mg:Str->Rp OO}{n q:Str}{st:Rq}{ps:Rl Str}{f:Rg}{d:Ri} (_:Fg K mg n q st ps f d) (P:Rh) (w:Rj) (base:Rn) (k:Nat) (sp:Sp):Prop:=FnOk P w K mg base CX0 k f d ps sp
theorem bD {α:Type}{f:α->D}{L:Rl α}(h:Iss H (L.map f) vs) (hi:vs[i]? =some v):∃x,L[i]? =some x/\Is H (f x) v:=by
 have⟨d,hd,h⟩:=h.of_get hi;rw[AC] at hd;obtain⟨x,hx,rfl⟩:=A8.mp hd;exact⟨x,hx,h⟩
abbrev Lf:=Int×Int×Int
def cY (e:Rl Int) (p:Lf):Rl Int:=(e.set (p.1-1).toNat (e.getD (p.1-1).toNat 0-p.2.2)).set (p.2.1-1).toNat ((e.set (p.1-1).toNat (e.getD (p.1-1).toNat 0-p.2.2)).getD (p.2.1-1).toNat 0+p.2.2)
def bI (n:Nat) (ps:Rl Lf):Rl Int:=ps.foldl cY (List.replicate n 1)
def gv (ps:Rl Lf) (f:Int):Int:=((ps.filter λp=>decide (p.2.1=f)).map (·.2.2)).sum
def gw (ps:Rl Lf) (f:Int):Int:=((ps.filter λp=>decide (p.1=f)).map (·.2.2)).sum
def Okl (n:Nat) (p:Lf):Prop:=1<=p.1/\p.1<=n/\1<=p.2.1/\p.2.1<=n
theorem pH {l:Rl Int}{v:Int} (h:i<l.length):(l.set i v).getD j 0=if i=j then v else l.getD j 0:=by
 rw[List.getD,List.getElem?_set];by_cases e:i=j
 .subst e;rw[A6 rfl,A6 rfl,A6 h];rfl
 .rw [A5 e,A5 e];rfl
theorem Iw {p:Lf}:(cY e p).length=e.length:=by unfold cY;rw[By,By]
theorem Ix {p:Lf} (he:e.length=n) (hp:Okl n p) (i:Nat):(cY e p).getD i 0=e.getD i 0+(if p.2.1=1+(i:Int) then p.2.2 else 0)-(if p.1=1+(i:Int) then p.2.2 else 0):=by
 obtain⟨h1,h2,h3,h4⟩:=hp;unfold cY;have a1:(p.1-1).toNat<e.length:=by lia
 rw[pH (by rw[By];lia),pH a1];by_cases c1:(p.2.1-1).toNat=i
 .have d1:p.2.1=1+(i:Int):=by lia
  rw[A6 c1,A6 d1,c1];by_cases c2:(p.1-1).toNat=i
  .have d2:p.1=1+(i:Int):=by lia
   rw[A6 c2,A6 d2,c2];lia
  .have d2:¬p.1=1+(i:Int):=by lia
   rw[A5 c2,A5 d2];lia
 .have d1:¬p.2.1=1+(i:Int):=by lia
  rw[A5 c1,A5 d1,pH a1];by_cases c2:(p.1-1).toNat=i
  .have d2:p.1=1+(i:Int):=by lia
   rw[A6 c2,A6 d2,c2];lia
  .have d2:¬p.1=1+(i:Int):=by lia
   rw[A5 c2,A5 d2];lia
theorem Iy (p:Lf) (ps:Rl Lf) (f:Int):gv (p::ps) f=(if p.2.1=f then p.2.2 else 0)+gv ps f:=by
 unfold gv;rw[List.filter_cons];by_cases h:p.2.1=f<;>simp[h]
theorem Iz (p:Lf) (ps:Rl Lf) (f:Int):gw (p::ps) f=(if p.1=f then p.2.2 else 0)+gw ps f:=by
 unfold gw;rw[List.filter_cons];by_cases h:p.1=f<;>simp[h]
theorem lv {n:Nat}:∀(ps:Rl Lf) (e:Rl Int),e.length=n->(∀p∈ps,Okl n p)->(ps.foldl cY e).length=n/\∀i:Nat,(ps.foldl cY e).getD i 0=e.getD i 0+gv ps (1+(i:Int))-gw ps (1+(i:Int))
 |[],e,he,_=>⟨he,λi=>by simp[gv,gw]⟩
 |p::ps,e,he,h=>by
  rw[Bz];obtain⟨h1,h2⟩:=lv ps (cY e p) (by rw[Iw];exact he) λq hq=>h q (by simp[hq]);refine⟨h1,λi=> ?_⟩;rw[h2 i,Ix he (h p (by simp)) i,Iy,Iz];lia
theorem lw (n:Nat) (ps:Rl Lf) (h:∀p∈ps,Okl n p):(bI n ps).length=n:=(lv ps _ (by simp) h).1
def back (xs:Rl Int):Lf:=(xs.getD 0 0,xs.getD 1 0,xs.getD 2 0)
def bU (p:Lf):Rl Int:=[p.1,p.2.1,p.2.2]
def vK (p:Lf):back (bU p)=p:=rfl
theorem pI (h:i<ks.length):(ks.map V.int)[i]? =some (.int (ks.getD i 0)):=by rw[AC,A3 h];simp[List.getD,h]
theorem map_set {l:Rl Int}{i:Nat}{v:Int}:(l.set i v).map V.int=(l.map V.int).set i (.int v):=by rw[List.map_set]
def lf (p:Lf):D:=tI (bU p)
def lfs (ps:Rl Lf):D:= .l (ps.map lf)
def fE {p:Lf}(h:Is H (lf p) v):∃a,v= .ref a/\H a=some (.tup [.int p.1, .int p.2.1, .int p.2.2]):=bL h
def jC {p:Lf}(h:H a=some (.tup [.int p.1, .int p.2.1, .int p.2.2])):Is H (lf p) (.ref a):=dY (xs:=bU p) h
theorem vL (ps:Rl Lf):lfs ps= .l ((ps.map bU).map tI):=by unfold lfs;rw[BM];rfl
def aB (H H':Hp):Prop:=∀a xs,H a=some (.tup xs)->H' a=some (.tup xs)
def aB.of_same (s:af H H'):aB H H':=λa xs e=>s _ _ e
def aB.trans (s:aB H H') (t:aB H' H''):aB H H'':=λa xs e=>t _ _ (s _ _ e)
theorem aB.upd {H:Hp}{b:Rg}{zs ys:Rl V} (hb:H b=some (.lst zs)):aB H (L2.upd H b (.lst ys)):=λa xs e=>by
 rw[aw (by rintro rfl;rw[hb] at e;cases e)];exact e
theorem lx {H H':Hp} (t:aB H H'):∀{ps:Rl Lf}{vs:Rl V},Iss H (ps.map lf) vs->Iss H' (ps.map lf) vs
 |[],_,h=>by rw[bn h];exact ax
 |p::ps,_,h=>by
  obtain⟨u,us,rfl,h1,h2⟩:=aI h;obtain⟨a,rfl,ha⟩:=fE h1;exact au (jC (t _ _ ha)) (lx t h2)
def bF (p q:Lf):Bool:=if p.1=q.1 then(if p.2.1=q.2.1 then decide (p.2.2<q.2.2) else decide (p.2.1<q.2.1)) else decide (p.1<q.1)
def gx:Rl Lf->Rl Lf->Bool
 |_,[]=>false
 |[],_::_=>true
 |x::xs,y::ys=>if x=y then gx xs ys else bF x y
theorem vM {p q:Lf}{w:V} (h:Is H (lf p) v) (k:Is H (lf q) w):EqR K H 1 v w (decide (p=q)):=by
 have e:=h.eqr (K:=K) (n:=1) (by simp[lf,tI,bU,dep,cE]) (by simp[lf,tI,bU,Kin,cr]) k;have:eqD (lf p) (lf q)=decide (p=q):=by
  obtain⟨a,b,c⟩:=p;obtain⟨d,e,f⟩:=q;simp[lf,tI,bU,eqD,cQ,Bool.and_assoc]
 rwa [this] at e
theorem IA {p q:Lf}{w:V} (h:Is H (lf p) v) (k:Is H (lf q) w):LtR K H 1 v w (bF p q):=by
 obtain⟨a,rfl,ha⟩:=fE h;obtain⟨b,rfl,hb⟩:=fE k;have e:=LtR.tuples (K:=K) (H:=H) (d:=0) (a:=a) (b:=b) (λj=>if j=0 then decide (p.1=q.1) else if j=1 then decide (p.2.1=q.2.1) else decide (p.2.2=q.2.2)) (λj=>if j=0 then decide (p.1<q.1) else if j=1 then decide (p.2.1<q.2.1) else decide (p.2.2<q.2.2)) (SqT.of ha) (SqT.of hb) (λj x y hx hy=> ?_) (λj x y hx hy _=> ?_)
 .have e2:SeqAt.lex (λj=>if j=0 then decide (p.1=q.1) else if j=1 then decide (p.2.1=q.2.1) else decide (p.2.2=q.2.2)) (λj=>if j=0 then decide (p.1<q.1) else if j=1 then decide (p.2.1<q.2.1) else decide (p.2.2<q.2.2)) 3 3 3 0=bF p q:=by
   unfold bF;by_cases e0:p.1=q.1
   .by_cases e1:p.2.1=q.2.1
    .by_cases e2:p.2.2=q.2.2
     .simp [SeqAt.lex,e0,e1,e2]
     .simp [SeqAt.lex,e0,e1,e2]
    .simp [SeqAt.lex,e0,e1]
   .simp [SeqAt.lex,e0]
  exact e2▸e
 .match j,hx,hy with
  |0,hx,hy=>cases hx;cases hy;exact EqR.int 0 _ _
  |1,hx,hy=>cases hx;cases hy;exact EqR.int 0 _ _
  |2,hx,hy=>cases hx;cases hy;exact EqR.int 0 _ _
  |j+3,hx,_=>simp at hx
 .match j,hx,hy with
  |0,hx,hy=>cases hx;cases hy;exact LtR.int 0 _ _
  |1,hx,hy=>cases hx;cases hy;exact LtR.int 0 _ _
  |2,hx,hy=>cases hx;cases hy;exact LtR.int 0 _ _
  |j+3,hx,_=>simp at hx
theorem vN (p q:Rl Lf):∀(k i:Nat),min p.length q.length-i=k->i<=min p.length q.length->SeqAt.lex (λj=>decide (p.getD j (0,0,0)=q.getD j (0,0,0))) (λj=>bF (p.getD j (0,0,0)) (q.getD j (0,0,0))) p.length q.length k i=gx (p.drop i) (q.drop i)
 |0,i,hk,hi=>by
  rw[SeqAt.lex];rcases(by lia:q.length=i\/(p.length=i/\i<q.length)) with e|⟨e,e2⟩
  .rw [CM (l:=q) (by lia)];have:¬p.length<q.length:=by lia
   cases p.drop i<;>simp[gx,this]
  .rw [CM (l:=p) (by lia),As e2];have:p.length<q.length:=by lia
   simp[gx,this]
 |k+1,i,hk,hi=>by
  have h1:i<p.length:=by lia
  have h2:i<q.length:=by lia
  have g1:p.getD i (0,0,0)=p[i]:=by simp[List.getD,h1]
  have g2:q.getD i (0,0,0)=q[i]:=by simp[List.getD,h2]
  rw[SeqAt.lex,As h1,As h2,gx,g1,g2];by_cases e:p[i]=q[i]
  .rw [A6 (Ar e),A6 e];exact vN p q k (i+1) (by lia) (by lia)
  .rw [A5 (by simpa using e),A5 e]
theorem IB {p q:Rl Lf}(h:Iss H (p.map lf) vs) (k:Iss H (q.map lf) ws):
  (∀(j:Nat) x y,vs[j]? =some x->ws[j]? =some y->EqR K H 1 x y (decide (p.getD j (0,0,0)=q.getD j (0,0,0))))/\(∀(j:Nat) x y,vs[j]? =some x->ws[j]? =some y->decide (p.getD j (0,0,0)=q.getD j (0,0,0))=false->LtR K H 1 x y (bF (p.getD j (0,0,0)) (q.getD j (0,0,0)))):=by
 have go:∀(j:Nat) x y,vs[j]? =some x->ws[j]? =some y->Is H (lf (p.getD j (0,0,0))) x/\Is H (lf (q.getD j (0,0,0))) y:=λj x y hx hy=>by
  obtain⟨d,hd,h1⟩:=h.of_get hx;obtain⟨e,he,h2⟩:=k.of_get hy;rw[AC] at hd he;obtain⟨d',No,rfl⟩:=A8.mp hd;obtain⟨e',Pu,rfl⟩:=A8.mp he;rw[List.getD,No,List.getD,Pu];exact⟨h1,h2⟩
 exact⟨λj x y hx hy=>vM (go j x y hx hy).1 (go j x y hx hy).2,λj x y hx hy _=>IA (go j x y hx hy).1 (go j x y hx hy).2⟩
theorem IC {p q:Rl Lf}{w:V} (h:Is H (lfs p) v) (k:Is H (lfs q) w):Ask K H v w (gx p q):=by
 obtain⟨a,vs,rfl,ha,h⟩:=aA h;obtain⟨b,ws,rfl,hb,k⟩:=aA k;obtain⟨e1,e2⟩:=IB (K:=K) h k;refine⟨a,b,vs,ws,1,_,_,rfl,rfl,SqL.of ha,SqL.of hb,by decide,e1,e2, ?_⟩;rw[h.length,k.length,A1,A1,vN p q _ 0 (Nat.sub_zero _) (AO _),Db,Db]
def nw (H0 H:Hp):Hp:=λb=>match H0 b with|some (.lst _)=>none|_=>H b
theorem bN {H0:Hp}:af (nw H0 H) H:=λb o e=>by
 unfold nw at e;split at e
 .cases e
 .exact e
theorem fF {H0:Hp} (s:af H H'):af (nw H0 H) (nw H0 H'):=λb o e=>by
 unfold nw at e⊢;split at e
 .cases e
 .exact s _ _ e
theorem pJ {H0 H1:Hp} (s:af H0 H1):af (nw H1 H) (nw H0 H):=λb o e=>by
 unfold nw at e⊢;split at e
 .cases e
 .rename_i h;split
  .rename_i xs h0;exact absurd (s _ _ h0) (h xs)
  .exact e
theorem lA {H0 H1:Hp}{xs:Rl V} (s:af H0 H1) (ha:H1 a=some (.lst xs)):af (nw H1 H) (hid (nw H0 H) a):=λb o e=>by
 have hb:b≠a:=by
  rintro rfl;unfold nw at e;rw[ha] at e;cases e
 rw[dX hb];exact pJ s b o e
theorem cJ {H0:Hp}(h:H0 a=none):nw H0 H a=H a:=by unfold nw;rw[h]
theorem lB {H0:Hp}{xs:Rl V} (s:af H0 H) (h:H a=some (.tup xs)):nw H0 H a=some (.tup xs):=by
 unfold nw;split
 .rename_i ys e;rw[s _ _ e] at h;cases h
 .exact h
def ID {H0:Hp}{ps:Rl Lf}(s:af H0 H) (h:Iss H (ps.map lf) vs):Iss (nw H0 H) (ps.map lf) vs:=lx (λa xs e=>lB s e) h
theorem vO {H0:Hp}{ps:Rl Lf}(s:af H0 H) (n:H0 a=none) (h:Is H (lfs ps) (.ref a)):Is (nw H0 H) (lfs ps) (.ref a):=by
 obtain⟨_,vs,e,ha,hi⟩:=aA h;cases e;exact aD (by rw[cJ n];exact ha) (ID s hi)
def Acc (H0 H:Hp) (a:Rg) (xs:Rl D):Prop:=∃vs,H a=some (.lst vs)/\Iss (hid (nw H0 H) a) xs vs
def Acc.start {H0:Hp}(h:H a=some (.lst [])):Acc H0 H a []:=⟨[],h,ax⟩
theorem Acc.mono {H0 H H':Hp}{a:Rg}{xs:Rl D} (s:af H H') (g:Acc H0 H a xs):Acc H0 H' a xs:=by obtain⟨vs,e,h⟩:=g;exact⟨vs,s _ _ e,h.mono (dH (fF s))⟩
theorem vP {H0:Hp}:hid (nw H0 (upd H a o)) a=hid (nw H0 H) a:=by
 funext b
 unfold hid;split
 .rfl
 .rename_i h;unfold nw;rw[aw h]
theorem Acc.add {H0 H1:Hp}{xs:Rl D}{x:D}(s01:af H0 H1) (Pi:af H1 H2) (ha:H1 a=some (.lst vs)) (h:Iss (hid (nw H0 H1) a) xs vs) (k:Is (nw H1 H2) x v):Acc H0 (upd H2 a (.lst (vs++[v]))) a (xs++[x]):=
 ⟨vs++[v],ak,by rw[vP];exact(h.mono (dH (fF Pi))).append (au (k.mono (lA s01 ha)) ax)⟩
theorem Acc.adds {H0 H1:Hp}{xs ys:Rl D}{us:Rl V} (s01:af H0 H1) (Pi:af H1 H2) (ha:H1 a=some (.lst vs)) (h:Iss (hid (nw H0 H1) a) xs vs) (k:Iss (nw H1 H2) ys us):Acc H0 (upd H2 a (.lst (vs++us))) a (xs++ys):=
 ⟨vs++us,ak,by rw[vP];exact(h.mono (dH (fF Pi))).append (k.mono (lA s01 ha))⟩
theorem Acc.is {H0:Hp}{xs:Rl D} (n:H0 a=none) (g:Acc H0 H a xs):Is (nw H0 H) (.l xs) (.ref a):=by obtain⟨_,e,h⟩:=g;exact aD (by rw[cJ n];exact e) (h.mono sR)
def ce (p:Lf):Int:=(p.2.1-p.1)*p.2.2-1
def eC (f j:Int) (n:Nat) (sp:Int):Rl Lf:=((List.range n).map λw:Nat=>((f,j,1+(w:Int)):Lf)).filter λp=>decide (ce p<=sp)
def cZ (f:Int) (m n:Nat) (sp:Int):Rl Lf:=(List.range m).flatMap λi:Nat=>eC f (f+1+(i:Int)) n sp
def cw:Nat->Rl Lf->Int->Int->Rl (Rl Lf)
 |0,_,_,_=>[[]]
 |n+1,ls,wt,sp=>[[]]++(List.range ls.length).flatMap λi=>match ls[i]? with
  |none=>[]
  |some p=>if p.2.2<=wt/\ce p<=sp then(cw n (ls.drop i) (wt-p.2.2) (sp-ce p)).map (p:: ·) else []
def c8 (n:Nat) (ls:Rl Lf) (wt sp:Int) (i:Nat):Rl (Rl Lf):=match ls[i]? with
  |none=>[]
  |some p=>if p.2.2<=wt/\ce p<=sp then(cw n (ls.drop i) (wt-p.2.2) (sp-ce p)).map (p:: ·) else []
def pK (n:Nat) (ls:Rl Lf) (wt sp:Int):cw (n+1) ls wt sp=[[]]++(List.range ls.length).flatMap (c8 n ls wt sp):=rfl
def thF (d f:Nat) (ps:Rl Lf):Int:=(bI d ps).getD (f-1) 0
def fe (d f:Nat) (th sp:Int) (ls:Rl Lf):Int:=sp-(ls.map ce).sum-(th-(ls.map (·.2.2)).sum)*((d:Int)-(f:Int))
def gy (d f:Nat) (th sp:Int):Rl (Rl Lf):=cw 8 (cZ f (d-f) th.toNat sp) th sp
def dJ (d f:Nat) (ps:Rl Lf) (sp:Int):Rl (Rl Lf×Int):=((gy d f (thF d f ps) sp).filter λls=>decide (0<=fe d f (thF d f ps) sp ls)).map λls=>(ps++ls,fe d f (thF d f ps) sp ls)
def bR (d:Nat) (k:Int):Nat->Rl (Rl Lf×Int)
 |0=>[([],k)]
 |f+1=>(bR d k f).flatMap λx=>dJ d (f+1) x.1 x.2
def cf (d k:Nat):Rl (Rl Lf):=((bR d k d).filter λx=>decide (x.2=0)).map (·.1)
def jD (d:Nat) (p:Lf):Bool:=decide (1<=p.1)&&decide (p.1<p.2.1)&&decide (p.2.1<=d)&&decide (1<=p.2.2)&&decide (p.2.2<=8)
def stB (d f:Nat) (x:Rl Lf×Int):Bool:=x.1.all (jD d)&&decide (x.1.length<=20)&&decide (0<=thF d (f+1) x.1)&&decide (thF d (f+1) x.1<8)&&decide (0<=x.2)&&decide (x.2<=6)&&decide ((gy d (f+1) (thF d (f+1) x.1) x.2).length<=200)
def okB (d k:Nat):Bool:=(List.range d).all (λf=>(bR d k f).all (stB d f)&&decide ((bR d k (f+1)).length<=900))&&(bR d k d).all λx=>decide (x.1.length<=20)
def Wide (d k:Nat):Prop:=1<=d/\((d<=4/\k<=6)\/(d=5/\k<=3))
theorem vQ (f j:Int) (n:Nat) (sp:Int):eC f j (n+1) sp=eC f j n sp++(if ce (f,j,1+(n:Int))<=sp then [(f,j,1+(n:Int))] else []):=by
 unfold eC;rw[Az,A7,Cr];by_cases h:ce (f,j,1+(n:Int))<=sp<;>simp[h]
theorem vR (f:Int) (m n:Nat) (sp:Int):cZ f (m+1) n sp=cZ f m n sp++eC f (f+1+(m:Int)) n sp:=by
 unfold cZ;rw[Az,BI];simp
theorem vS (f j:Int) (n:Nat) (sp:Int):(eC f j n sp).length<=n:=by
 unfold eC;exact BH (List.length_filter_le _ _) (by simp)
theorem pM (f:Int) (n:Nat) (sp:Int):∀m,(cZ f m n sp).length<=m*n
 |0=>by simp[cZ]
 |m+1=>by
  rw[vR,AE,Cf];have:=pM f n sp m;have:=vS f (f+1+(m:Int)) n sp;lia
theorem pN {f:Int}{p:Lf} (h:p∈cZ f m n sp):p.1=f/\f<p.2.1/\p.2.1<=f+m/\1<=p.2.2/\p.2.2<=n:=by
 unfold cZ eC at h;simp only[B6,AX,DL,Ac] at h;obtain⟨i,hi,⟨w,hw,rfl⟩,_⟩:=h;refine⟨rfl, ?_, ?_, ?_, ?_⟩
 .show f<f+1+(i:Int);lia
 .show f+1+(i:Int)<=f+m;lia
 .show 1<=1+(w:Int);lia
 .show 1+(w:Int)<=n;lia
theorem iq {α:Type} (g:Nat->Rl α) (i:Nat):(List.range (i+1)).flatMap g=(List.range i).flatMap g++g i:=by
 rw[Az,BI];simp
theorem lC {α:Type} (g:Nat->Rl α):∀{m i:Nat},i<m->((List.range i).flatMap g).length+(g i).length<=((List.range m).flatMap g).length
 |0,i,h=>absurd h (by lia)
 |m+1,i,h=>by
  rw[iq,AE];by_cases e:i=m
  .rw [e];exact AB _
  .have:=lC g (m:=m) (i:=i) (by lia);lia
theorem IE {ls:Rl Lf}{wt:Int}{x:Rl Lf} (h:x∈cw (n+1) ls wt sp):x=[]\/∃(i:Nat) (p:Lf) (r:Rl Lf),ls[i]? =some p/\p.2.2<=wt/\ce p<=sp/\r∈cw n (ls.drop i) (wt-p.2.2) (sp-ce p)/\x=p::r:=by
 rw[pK] at h;rcases B9.mp h with h|h
 .exact .inl (AR.mp h)
 .obtain⟨i,hi,h⟩:=B6.mp h;unfold c8 at h;split at h
  .cases h
  .rename_i p hp;split at h
   .rename_i c;obtain⟨r,hr,rfl⟩:=Ac.mp h;exact .inr ⟨i,p,r,hp,c.1,c.2,hr,rfl⟩
   .cases h
theorem pO:∀{n:Nat}{ls:Rl Lf}{wt sp:Int}{x:Rl Lf},(∀p∈ls,1<=p.2.2)->0<=wt->x∈cw n ls wt sp->x.length<=n/\0<=(x.map (·.2.2)).sum/\(x.map (·.2.2)).sum<=wt/\∀p∈x,p∈ls
 |0,ls,wt,sp,x,_,h0,h=>by
  rw[cw] at h;rw[AR.mp h];exact⟨by simp,by simp,by simpa using h0,λp hp=>nomatch hp⟩
 |n+1,ls,wt,sp,x,hw,h0,h=>by
  rcases IE h with rfl|⟨i,p,r,hp,c1,c2,hr,rfl⟩
  .exact⟨by simp,by simp,by simpa using h0,λp hp=>nomatch hp⟩
  .have pm:=AU hp;have p1:=hw p pm;obtain⟨a,b,c,d⟩:=pO (λq hq=>hw q (DF hq)) (by lia) hr;refine⟨by rw[Ad];lia, ?_, ?_,λq hq=> ?_⟩
   .rw [AL,Aq];lia
   .rw [AL,Aq];lia
   .rcases AJ.mp hq with rfl|hq
    .exact pm
    .exact DF (d q hq)
theorem pP {p:Lf}:jD d p=true↔1<=p.1/\p.1<p.2.1/\p.2.1<=d/\1<=p.2.2/\p.2.2<=8:=by
 unfold jD;simp only[AA,AV];constructor
 .rintro⟨⟨⟨⟨a,b⟩,c⟩,d⟩,e⟩;exact⟨a,b,c,d,e⟩
 .rintro⟨a,b,c,d,e⟩;exact⟨⟨⟨⟨a,b⟩,c⟩,d⟩,e⟩
theorem IF {f:Nat}{x:Rl Lf×Int} (h:stB d f x=true):(∀p∈x.1,jD d p=true)/\x.1.length<=20/\0<=thF d (f+1) x.1/\thF d (f+1) x.1<8/\0<=x.2/\x.2<=6/\(gy d (f+1) (thF d (f+1) x.1) x.2).length<=200:=by
 unfold stB at h;simp only[AA,AV,AT] at h;obtain⟨⟨⟨⟨⟨⟨a,b⟩,c⟩,d⟩,e⟩,f⟩,g⟩:=h;exact⟨a,b,c,d,e,f,g⟩
theorem IG (h:okB d k=true):(∀f<d,(∀x∈bR d k f,stB d f x=true)/\(bR d k (f+1)).length<=900)/\∀x∈bR d k d,x.1.length<=20:=by
 unfold okB at h;simp only[AA,AV,AT,AX] at h;exact h
theorem IH (p q:Lf):ltI (bU p) (bU q)=bF p q:=by
 unfold bF ltI bU;simp only[cX,Ad,DO];split
 .split
  .split
   .rename_i h;simp[h]
   .rfl
  .rfl
 .rfl
def Srt (ps:Rl Lf):Prop:=ps.Pairwise λa b=>bF b a=false
structure Snd (d:Nat) (ps:Rl Lf):Prop where
 ok:∀p∈ps,1<=p.1/\p.1<p.2.1/\p.2.1<=d/\1<=p.2.2
 nn:∀i:Nat,i<d->0<=1+gv ps (1+(i:Int))-gw ps (1+(i:Int))
 so:Srt ps
def eF (ps:Rl Lf) (i:Nat):Int:=1+gv ps (1+(i:Int))-gw ps (1+(i:Int))
theorem II {ps:Rl Lf} (h:∀p∈ps,Okl d p) (hi:i<d):(bI d ps).getD i 0=eF ps i:=by
 have:=(lv ps (List.replicate d 1) (by simp) h).2 i;unfold bI;rw[this];unfold eF;have:(List.replicate d (1:Int)).getD i 0=1:=by simp[List.getD,hi]
 rw[this]
def hU (d:Nat) (ps:Rl Lf):Prop:=(∀p∈ps,1<=p.1/\p.1<p.2.1/\p.2.1<=d/\1<=p.2.2)/\∀i:Nat,i<d->0<=eF ps i
theorem hU.okl {ps:Rl Lf} (h:hU d ps):∀p∈ps,Okl d p:=λp hp=>by
 obtain⟨a,b,c,_⟩:=h.1 p hp;exact⟨a,by lia,by lia,c⟩
def fG (x:Lf):Rl Lf->Rl Lf
 |[]=>[x]
 |y::ys=>if bF x y then x::y::ys else if x=y then y::ys else y::fG x ys
def c9 (xs:Rl Lf):Rl Lf:=xs.foldr fG []
def fH (d:Nat) (es:Rl Int) (i:Nat):Rl Lf:=List.replicate (es.getD i 0).toNat (1+(i:Int),(d:Int)+1,1)
def ff (d:Nat) (es:Rl Int):Rl Lf:=(List.range d).flatMap (fH d es)
theorem pQ {p q:Lf}:bF p q=true↔p.1<q.1\/(p.1=q.1/\(p.2.1<q.2.1\/(p.2.1=q.2.1/\p.2.2<q.2.2))):=by
 unfold bF;by_cases e0:p.1=q.1
 .by_cases e1:p.2.1=q.2.1
  .simp [e0,e1]
  .simp [e0,e1]
 .simp [e0]
theorem lD {p:Lf}:¬bF p p=true:=by rw[pQ];lia
theorem vT {p q r:Lf} (h:bF p q=true) (k:bF q r=true):bF p r=true:=by rw[pQ] at*;lia
theorem vU {p q:Lf} (h:¬bF p q=true) (k:p≠q):bF q p=true:=by
 rw[pQ] at*
 obtain⟨a,b,c⟩:=p;obtain⟨d,e,f⟩:=q;simp only[ne_eq,DB,not_and] at*
 lia
theorem pR {x z:Lf}:∀{ys:Rl Lf},z∈fG x ys↔z=x\/z∈ys
 |[]=>by simp[fG]
 |y::ys=>by
  unfold fG;split
  .simp
  .split
   .rename_i e;subst e;simp
   .simp [pR (ys:=ys)];constructor
    .rintro(h|h|h)
     .exact .inr (.inl h)
     .exact .inl h
     .exact .inr (.inr h)
    .rintro(h|h|h)
     .exact .inr (.inl h)
     .exact .inl h
     .exact .inr (.inr h)
theorem vV {x:Lf}:∀{ys:Rl Lf},(ys.Pairwise λa b=>bF a b=true)->(fG x ys).Pairwise λa b=>bF a b=true
 |[],_=>by simp[fG]
 |y::ys,h=>by
  unfold fG;split
  .rename_i e;refine List.Pairwise.cons (λz hz=> ?_) h;rcases AJ.mp hz with rfl|hz
   .exact e
   .exact vT e ((Ap.mp h).1 z hz)
  .split
   .exact h
   .rename_i e1 e2;refine List.Pairwise.cons (λz hz=> ?_) (vV (Ap.mp h).2);rcases pR.mp hz with rfl|hz
    .exact vU e1 e2
    .exact(Ap.mp h).1 z hz
theorem pT {z:Lf}:∀{xs:Rl Lf},z∈c9 xs↔z∈xs
 |[]=>by simp[c9]
 |x::xs=>by
  have:=pT (z:=z) (xs:=xs);unfold c9 at this⊢;rw[List.foldr_cons,pR,this,AJ]
theorem pU:∀(xs:Rl Lf),(c9 xs).Pairwise λa b=>bF a b=true
 |[]=>by simp[c9]
 |x::xs=>by
  have:=pU xs;unfold c9 at this⊢;rw[List.foldr_cons];exact vV this
theorem vX:∀{xs ys:Rl Lf},(xs.Pairwise λa b=>bF a b=true)->(ys.Pairwise λa b=>bF a b=true)->(∀z,z∈xs↔z∈ys)->xs=ys
 |[],[],_,_,_=>rfl
 |[],y::ys,_,_,h=>absurd ((h y).mpr (by simp)) (by simp)
 |x::xs,[],_,_,h=>absurd ((h x).mp (by simp)) (by simp)
 |x::xs,y::ys,h1,h2,h=>by
  have a1:=Ap.mp h1;have a2:=Ap.mp h2;have e:x=y:=by
   refine Classical.byContradiction λne=> ?_;have m1:x∈ys:=by rcases AJ.mp ((h x).mp (by simp)) with e|e;exact absurd e ne;exact e
   have m2:y∈xs:=by rcases AJ.mp ((h y).mpr (by simp)) with e|e;exact absurd e.symm ne;exact e
   exact lD (vT (a1.1 y m2) (a2.1 x m1))
  subst e;have:xs=ys:=vX a1.2 a2.2 λz=>by
   have hz:=h z;rw[AJ,AJ] at hz;constructor
   .intro m;rcases hz.mp (.inr m) with e|e
    .subst e;exact absurd (a1.1 z m) lD
    .exact e
   .intro m;rcases hz.mpr (.inr m) with e|e
    .subst e;exact absurd (a2.1 z m) lD
    .exact e
  rw[this]
theorem IJ {p q:Lf} (h:bU p=bU q):p=q:=by rw[<-vK p,<-vK q,h]
theorem IL {ps:Rl Lf}{Nf:Rl (Rl Int)} (nd:Nf.Nodup) (mem:∀z,z∈Nf↔z∈ps.map bU) (so:∀i j,i<j->j<Nf.length->ltI (Nf.getD j []) (Nf.getD i [])=false):Nf=(c9 ps).map bU:=by
 obtain⟨qs,e,hq⟩:=nG (f:=bU) (P:=λp=>p∈ps) Nf λv hv=>by
  obtain⟨p,hp,rfl⟩:=Ac.mp ((mem v).mp hv);exact⟨p,hp,rfl⟩
 subst e;have:qs=c9 ps:=by
  refine vX ?_ (pU ps) λz=> ?_
  .rw [List.pairwise_iff_getElem];intro i j hi hj NY;have h1:=so i j NY (by rw[A1];exact hj);rw[A',A',AC,AC,A3 hi,A3 hj] at h1;simp only[Cn,Option.getD_some] at h1;rw[IH] at h1;refine vU (by rw[h1];simp) λe=> ?_;unfold List.Nodup at nd;rw[List.pairwise_map,List.pairwise_iff_getElem] at nd;exact nd i j hi hj NY (by rw[e])
  .rw [pT];constructor
   .exact hq z
   .intro hz;obtain⟨q,hq',e⟩:=Ac.mp ((mem (bU z)).mpr (List.mem_map_of_mem hz));rw[<-IJ e];exact hq'
 rw[this]
def chF (n:Int):Nat->Int
 |0=>1
 |k+1=>chF n k*(n-(k:Int))/((k:Int)+1)
def chB:Bool:=(List.range 16).all λn=>(List.range (n+1)).all λk=>decide (0<=chF (n:Int) k)&&decide (chF (n:Int) k<=6435)
theorem IM:chB=true:=by ac_nf
theorem vY {n:Int}(h1:(k:Int)<=n) (h2:n<=15):0<=chF n k/\chF n k<=6435:=by
 obtain⟨m,rfl⟩:=B7 (show 0<=n by lia);have h:=IM;unfold chB at h;rw[AT] at h;have h:=h m (AX.mpr (by lia));rw[AT] at h;have h:=h k (AX.mpr (by lia));simpa using h
def wmF (t:Rl Int) (p:Nat) (m:Int):Rl Int:=t.set p (t.getD p 0+m)
theorem eD (t:Rl Int) (p:Nat) (m:Int):(wmF t p m).length=t.length:=by unfold wmF;rw[By]
theorem lE {t:Rl Int}{m:Int} (h:p<t.length):(wmF t p m).getD i 0=t.getD i 0+if p=i then m else 0:=by
 unfold wmF;rw[A',List.getElem?_set];by_cases e:p=i
 .subst e;simp[h]
 .simp [e]
theorem IN {t:Rl Int}{x:Int} (h:p<t.length):t.take p++[x]++t.drop (p+1)=t.set p x:=by
 rw[List.set_eq_take_append_cons_drop,A6 h];simp
def spR:Nat->Nat->Rl (Rl Nat)
 |0,a=>[[a]]
 |g+1,a=>(List.range (a+1)).flatMap λh=>(spR g (a-h)).map (h:: ·)
def cg (t:Rl Int):Nat->Rl Nat->Int
 |_,[]=>1
 |p,s::r=>chF (t.getD p 0+(s:Int)) s*cg t (p+1) r
def ck (t:Rl Int):Nat->Rl Nat->Rl Int
 |_,[]=>t
 |p,s::r=>ck (wmF t p (s:Int)) (p+1) r
theorem vZ {t:Rl Int}{m:Int}{q:Nat} (hq:q<t.length):∀{r:Rl Nat}{p:Nat},q<p->cg (wmF t q m) p r=cg t p r
 |[],p,_=>rfl
 |s::r,p,h=>by
  unfold cg;rw[lE hq,A5 (by lia),vZ hq (r:=r) (by lia)];simp
def pbF:Nat->Rl Int->Nat->Nat->Rl (Rl Int×Int)
 |0,t,p,a=>[(wmF t p (a:Int),chF (t.getD p 0+(a:Int)) a)]
 |g+1,t,p,a=>(List.range (a+1)).flatMap λh:Nat=>(pbF g (wmF t p (h:Int)) (p+1) (a-h)).map λx=>(x.1,chF (t.getD p 0+(h:Int)) h*x.2)
theorem v9 {α β:Type}{f g:α->Rl β}:∀{xs:Rl α},(∀x∈xs,f x=g x)->xs.flatMap f=xs.flatMap g
 |[],_=>rfl
 |x::xs,h=>by rw[Bl,Bl,h x (by simp),v9 λy hy=>h y (by simp[hy])]
theorem wb:∀{g:Nat}{t:Rl Int}{p a:Nat},p+g<t.length->pbF g t p a=(spR g a).map λr=>(ck t p r,cg t p r)
 |0,t,p,a,_=>by simp[pbF,spR,ck,cg]
 |g+1,t,p,a,h=>by
  unfold pbF spR;rw[List.map_flatMap];refine v9 λx _=> ?_;rw[wb (by rw[eD];lia),BM,BM];refine BA λr _=> ?_;simp only[Function.comp,ck,cg];rw[vZ (by lia) (BU p)]
theorem pV:∀{g a:Nat}{r:Rl Nat},r∈spR g a->r.length=g+1/\r.sum=a
 |0,a,r,h=>by simp[spR] at h;subst h;simp
 |g+1,a,r,h=>by
  unfold spR at h;obtain⟨x,hx,h⟩:=B6.mp h;obtain⟨r',h',rfl⟩:=Ac.mp h;have hx:=AX.mp hx;obtain⟨e1,e2⟩:=pV h';simp[e1,e2];lia
theorem lF:∀{t:Rl Int}{p:Nat}{m:Int},p<t.length->(wmF t p m).sum=t.sum+m
 |[],p,m,h=>absurd h (by simp)
 |x::t,0,m,_=>by simp[wmF];lia
 |x::t,p+1,m,h=>by
  have:=lF (t:=t) (p:=p) (m:=m) (by simpa using h);unfold wmF at this⊢;simp only[List.set_cons_succ,Aq,DU] at this⊢;lia
theorem wc:∀{r:Rl Nat}{t:Rl Int}{p:Nat},p+r.length<=t.length->(∀i:Nat,0<=t.getD i 0)->(ck t p r).length=t.length/\(ck t p r).sum=t.sum+(r.sum:Nat)/\∀i:Nat,0<=(ck t p r).getD i 0
 |[],t,p,_,h=>by simpa[ck] using h
 |s::r,t,p,hl,h=>by
  have hp:p<t.length:=by simp at hl;lia
  obtain⟨e1,e2,e3⟩:=wc (r:=r) (t:=wmF t p (s:Int)) (p:=p+1) (by rw[eD];simp at hl;lia) (λi=>by rw[lE hp];have:=h i;split<;>lia)
  unfold ck;refine⟨by rw[e1,eD], ?_,e3⟩;rw[e2,lF hp,Aq];lia
theorem ir:∀{t:Rl Int},(∀i:Nat,0<=t.getD i 0)->0<=t.sum/\∀i:Nat,t.getD i 0<=t.sum
 |[],_=>by simp
 |x::t,h=>by
  have hx:=h 0;obtain⟨e1,e2⟩:=ir (t:=t) λi=>by have:=h (i+1);simpa using this
  simp only[List.getD_cons_zero] at hx;rw[Aq];refine⟨by lia,λi=> ?_⟩;cases i with
  |zero=>simp;lia
  |succ i=>have:=e2 i;rw[DU];lia
theorem wd:∀{r:Rl Nat}{t:Rl Int}{p:Nat},(∀i:Nat,0<=t.getD i 0)->t.sum+(r.sum:Nat)<=15->0<=cg t p r/\cg t p r<=6435^r.length
 |[],t,p,_,_=>by simp[cg]
 |s::r,t,p,h,hs=>by
  rw[Aq] at hs;obtain⟨e1,e2⟩:=ir h;have a1:=e2 p;have a2:=h p;obtain⟨c1,c2⟩:=vY (n:=t.getD p 0+(s:Int)) (k:=s) (by lia) (by lia);obtain⟨q1,q2⟩:=wd (r:=r) (t:=t) (p:=p+1) h (by lia);unfold cg;refine⟨Bm c1 q1, ?_⟩;rw[Ad,Int.pow_succ,BN];exact Ca q2 c2 c1 (Int.pow_nonneg (by decide))
abbrev Tab:=Rl (Rl Int×Int)
def bG (D:Tab) (g:Rl Int->Int):Int:=(D.map λx=>x.2*g x.1).sum
def cK (D:Tab) (k:Rl Int):Int:=((D.find? λx=>decide (x.1=k)).map (·.2)).getD 0
def eE (D:Tab) (k:Rl Int) (v:Int):Tab:=if(D.any λx=>decide (x.1=k))=true then D.map (λx=>if x.1=k then(x.1,v) else x) else D++[(k,v)]
def iu (D:Tab) (k:Rl Int) (v:Int):Tab:=eE D k (cK D k+v)
theorem wg (D:Tab) (k:Rl Int) (v:Int):(eE D k v).map (·.1)=if k∈D.map (·.1) then D.map (·.1) else D.map (·.1)++[k]:=by
 unfold eE;have:(D.any λx=>decide (x.1=k))=true↔k∈D.map (·.1):=by
  rw[List.any_eq_true,Ac];simp
 by_cases h:k∈D.map (·.1)
 .rw [A6 h,A6 (this.mpr h),BM];refine BA λx _=> ?_;simp only[Function.comp];split<;>rfl
 .rw [A5 h,A5 (λz=>h (this.mp z)),A7];rfl
theorem IP {D:Tab}{k:Rl Int}{v:Int}{g:Rl Int->Int} (h:k∉D.map (·.1)):bG (eE D k v) g=bG D g+v*g k/\cK D k=0:=by
 have hn:∀x∈D,x.1≠k:=λx hx e=>h (Ac.mpr ⟨x,hx,e⟩);have e1:(D.any λx=>decide (x.1=k))=false:=by
  rw[List.any_eq_false];intro x hx;simpa using hn x hx
 have e2:D.find? (λx=>decide (x.1=k))=none:=by
  rw[List.find?_eq_none];intro x hx;simpa using hn x hx
 unfold eE cK bG;rw[e1,e2];simp
theorem wj:∀{D:Tab}{k:Rl Int}{v:Int}{g:Rl Int->Int},(D.map (·.1)).Nodup->k∈D.map (·.1)->bG (D.map λx=>if x.1=k then(x.1,v) else x) g=bG D g+(v-cK D k)*g k
 |[],_,_,_,_,h=>by simp at h
 |x::D,k,v,g,nd,h=>by
  rw[AL,Be] at nd;by_cases e:x.1=k
  .subst e;have hn:∀y∈D,y.1≠x.1:=λy hy e=>nd.1 (Ac.mpr ⟨y,hy,e⟩);have e1:(D.map λy=>if y.1=x.1 then(y.1,v) else y)=D:=by
    conv=>rhs;rw[<-List.map_id D]
    refine BA λy hy=> ?_;rw[A5 (hn y hy)];rfl
   have e2:cK (x::D) x.1=x.2:=by simp[cK]
   rw[AL,e1,e2];simp only[bG,C8,AL,Aq];rw[Int.sub_mul];lia
  .have hk:k∈D.map (·.1):=by
    rw[AL,AJ] at h;rcases h with h|h
    .exact absurd h.symm e
    .exact h
   have ih:=wj (g:=g) (v:=v) nd.2 hk;have e2:cK (x::D) k=cK D k:=by simp[cK,Bf,e]
   rw[e2,AL];simp only[bG,AL,Aq,A5 e] at ih⊢;lia
theorem IQ {D:Tab} (nd:(D.map (·.1)).Nodup) (k:Rl Int) (v:Int) (g:Rl Int->Int):bG (iu D k v) g=bG D g+v*g k:=by
 unfold iu;by_cases h:k∈D.map (·.1)
 .have e:(D.any λx=>decide (x.1=k))=true:=by
   rw[List.any_eq_true];obtain⟨x,hx,e⟩:=Ac.mp h;exact⟨x,hx,Ar e⟩
  unfold eE;rw[A6 e,wj nd h];rw[show cK D k+v-cK D k=v by lia]
 .obtain⟨e1,e2⟩:=IP (v:=cK D k+v) (g:=g) h;rw[e1,e2];simp
theorem IR {D:Tab} (nd:(D.map (·.1)).Nodup) (k:Rl Int) (v:Int):((eE D k v).map (·.1)).Nodup:=by
 rw[wg];split
 .exact nd
 .rename_i h;rw[List.nodup_append];exact⟨nd,by simp,λa ha b hb=>by simp at hb;subst hb;exact λe=>h (e▸ha)⟩
structure TabOk (d n:Nat) (D:Tab):Prop where
 nd:(D.map (·.1)).Nodup
 key:∀x∈D,x.1.length=d/\x.1.sum=(n:Int)/\∀i:Nat,0<=x.1.getD i 0
theorem TabOk.add {D:Tab} (h:TabOk d n D) {k:Rl Int}{v:Int} (hk:k.length=d/\k.sum=(n:Int)/\∀i:Nat,0<=k.getD i 0):TabOk d n (iu D k v):=by
 refine⟨IR h.nd _ _,λx hx=> ?_⟩;have:x.1∈(eE D k (cK D k+v)).map (·.1):=List.mem_map_of_mem hx;rw[wg] at this;have:x.1∈D.map (·.1)\/x.1=k:=by
  split at this
  .exact .inl this
  .rcases B9.mp this with h|h
   .exact .inl h
   .exact .inr (by simpa using h)
 rcases this with h'|h'
 .obtain⟨y,hy,e⟩:=Ac.mp h';rw[<-e];exact h.key y hy
 .rw [h'];exact hk
def inP (t:Rl Int) (v:Int) (p:Nat) (rs:Rl (Rl Nat)) (acc:Tab):Tab:=rs.foldl (λacc r=>iu acc (ck t p r) (v*cg t p r)) acc
def stP (p:Nat) (rs:Rl (Rl Nat)) (xs acc:Tab):Tab:=xs.foldl (λacc x=>inP x.1 x.2 p rs acc) acc
def iw (g:Rl Int->Int) (p:Nat) (rs:Rl (Rl Nat)) (t:Rl Int):Int:=(rs.map λr=>cg t p r*g (ck t p r)).sum
def pW (p d n n':Nat) (rs:Rl (Rl Nat)):Prop:=∀r∈rs,p+r.length<=d/\n+r.sum=n'
theorem IS {n':Nat}{r:Rl Nat}{t:Rl Int} (h:t.length=d/\t.sum=(n:Int)/\∀i:Nat,0<=t.getD i 0) (hr:p+r.length<=d/\n+r.sum=n'):(ck t p r).length=d/\(ck t p r).sum=(n':Int)/\∀i:Nat,0<=(ck t p r).getD i 0:=by
 obtain⟨e1,e2,e3⟩:=wc (r:=r) (t:=t) (p:=p) (by rw[h.1];exact hr.1) h.2.2;exact⟨by rw[e1,h.1],by rw[e2,h.2.1,<-hr.2];lia,e3⟩
theorem pX {d n n' p:Nat}{t:Rl Int}{v:Int} (h:t.length=d/\t.sum=(n:Int)/\∀i:Nat,0<=t.getD i 0) (g:Rl Int->Int):∀{rs:Rl (Rl Nat)}{acc:Tab},pW p d n n' rs->TabOk d n' acc->TabOk d n' (inP t v p rs acc)/\bG (inP t v p rs acc) g=bG acc g+v*iw g p rs t
 |[],acc,_,ha=>by simp[inP,iw,ha]
 |r::rs,acc,hr,ha=>by
  have a1:=ha.add (v:=v*cg t p r) (IS h (hr r (by simp)));obtain⟨b1,b2⟩:=pX (v:=v) h g (rs:=rs) (λr' h'=>hr r' (by simp[h'])) a1;refine⟨b1, ?_⟩;show bG (inP t v p rs (iu acc (ck t p r) (v*cg t p r))) g=_;rw[b2,IQ ha.nd];simp only[iw,AL,Aq];rw[DI,Int.mul_assoc];lia
theorem pY {d n n' p:Nat}{rs:Rl (Rl Nat)} (hr:pW p d n n' rs) (g:Rl Int->Int):∀{xs acc:Tab},(∀x∈xs,x.1.length=d/\x.1.sum=(n:Int)/\∀i:Nat,0<=x.1.getD i 0)->TabOk d n' acc->TabOk d n' (stP p rs xs acc)/\bG (stP p rs xs acc) g=bG acc g+bG xs (iw g p rs)
 |[],acc,_,ha=>by simp[stP,bG,ha]
 |x::xs,acc,hx,ha=>by
  obtain⟨a1,a2⟩:=pX (v:=x.2) (hx x (by simp)) g hr ha;obtain⟨b1,b2⟩:=pY hr g (xs:=xs) (λy hy=>hx y (by simp[hy])) a1;refine⟨b1, ?_⟩;show bG (stP p rs xs (inP x.1 x.2 p rs acc)) g=_;rw[b2,a2];simp only[bG,AL,Aq];lia
def TF (cnt:Lf->Nat):Rl Lf->Rl Int->Int
 |[],_=>1
 |m::ms,t=>iw (TF cnt ms) (m.1-1).toNat (spR (m.2.1-m.1-1).toNat (cnt m)) t
def hmF (d:Nat) (mk:Rl Lf):Int:=TF (λm=>mk.count m) (c9 mk) (List.replicate d 0)
theorem IT (D:Tab):bG D (λ_=>1)=(D.map (·.2)).sum:=by
 unfold bG;congr 1
 refine BA λx _=> ?_;show x.2*1=x.2;lia
def enc:Rl Int->Nat
 |[]=>0
 |x::t=>x.toNat+16*enc t
theorem wo:∀{t:Rl Int},(∀i:Nat,0<=t.getD i 0/\t.getD i 0<=15)->enc t<16^t.length
 |[],_=>by simp[enc]
 |x::t,h=>by
  have h0:=h 0;have ih:=wo (t:=t) λi=>by have:=h (i+1);simpa using this
  simp only[List.getD_cons_zero] at h0;unfold enc;rw[Ad,Cz];lia
theorem wp:∀{t u:Rl Int},t.length=u.length->(∀i:Nat,0<=t.getD i 0/\t.getD i 0<=15)->(∀i:Nat,0<=u.getD i 0/\u.getD i 0<=15)->enc t=enc u->t=u
 |[],[],_,_,_,_=>rfl
 |[],_::_,h,_,_,_=>absurd h (by simp)
 |_::_,[],h,_,_,_=>absurd h (by simp)
 |x::t,y::u,hl,ht,hu,e=>by
  have h0:=ht 0;have h1:=hu 0;simp only[List.getD_cons_zero] at h0 h1;unfold enc at e;have ih:=wp (t:=t) (u:=u) (by simpa using hl) (λi=>by have:=ht (i+1);simpa using this) (λi=>by have:=hu (i+1);simpa using this) (by lia);rw[ih,show x=y by lia]
theorem wu:∀(N:Nat) (xs:Rl Nat),xs.Nodup->(∀x∈xs,x<N)->xs.length<=N
 |0,[],_,_=>AB _
 |0,x::xs,_,h=>absurd (h x (by simp)) (by lia)
 |N+1,xs,nd,h=>by
  have h1:=wu N (xs.filter λx=>decide (x≠N)) (nd.filter _) λx hx=>by
   obtain⟨a,b⟩:=DL.mp hx;have:=h x a;have:x≠N:=by simpa using b
   lia
  have h2:xs.length<=(xs.filter λx=>decide (x≠N)).length+1:=by
   clear h1 h;induction xs with
   |nil=>simp
   |cons y ys ih=>
    rw[Be] at nd;by_cases e:y=N
    .subst e;have:(ys.filter λx=>decide (x≠y))=ys:=by
      rw[List.filter_eq_self];intro z hz;simp;rintro rfl;exact nd.1 hz
     rw[List.filter_cons,A5 (by simp),this,Ad];exact AB _
    .have:=ih nd.2;rw[List.filter_cons,A6 (by simpa using e),Ad,Ad];lia
  lia
theorem TabOk.size {D:Tab} (h:TabOk d n D) (hd:d<=5) (hn:n<=15):D.length<=1048576:=by
 have hb:∀x∈D,∀i:Nat,0<=x.1.getD i 0/\x.1.getD i 0<=15:=λx hx i=>by
  obtain⟨_,e2,e3⟩:=h.key x hx;have:=(ir e3).2 i;exact⟨e3 i,by lia⟩
 have:=wu (16^d) (D.map λx=>enc x.1) ?_ ?_
 .rw [A1] at this;have:16^d<=16^5:=Bs (by decide) hd;lia
 .have nd:=h.nd;unfold List.Nodup at nd⊢;rw[List.pairwise_map] at nd⊢;refine List.Pairwise.imp_of_mem (fun{a b} ha ON MF e=>MF ?_) nd;exact wp (by rw[(h.key a ha).1,(h.key b ON).1]) (hb a ha) (hb b ON) e
 .intro x hx;obtain⟨y,hy,rfl⟩:=Ac.mp hx;have:=wo (hb y hy);rw[(h.key y hy).1] at this;exact this
def bJ (t:Rl Int):Rl Key:=t.map Sum.inl
theorem lG (t:Rl Int):(bJ t).map kV=t.map V.int:=by unfold bJ;rw[BM];rfl
theorem ww:∀{t u:Rl Int},bJ t=bJ u->t=u
 |[],[],_=>rfl
 |[],_::_,h=>by simp[bJ] at h
 |_::_,[],h=>by simp[bJ] at h
 |x::t,y::u,h=>by
  simp only[bJ,AL,C',Sum.inl.injEq] at h;rw[h.1,ww (t:=t) (u:=u) h.2]
theorem pZ {t u:Rl Int}:bJ t=bJ u↔t=u:=⟨ww,λe=>by rw[e]⟩
def bp (D:Tab):Rl (Rl Key×V):=D.map λx=>(bJ x.1,V.int x.2)
theorem wx (D:Tab):(bp D).length=D.length:=by unfold bp;rw[A1]
theorem wy (D:Tab) (k:Rl Int) (v:Int):aZ (bp D) (bJ k) (.int v)=bp (eE D k v):=by
 have e:((bp D).any λkv=>decide (kv.1=bJ k))=(D.any λx=>decide (x.1=k)):=by
  unfold bp;rw[List.any_map];congr 1
  funext x
  simp only[Function.comp,pZ]
 unfold aZ eE;rw[e];split
 .unfold bp;rw[BM,BM];refine BA λx _=> ?_;simp only[Function.comp,pZ];split<;>rfl
 .unfold bp;rw[A7];rfl
theorem wz (D:Tab) (k:Rl Int):aR (bp D) (bJ k)=(D.find? λx=>decide (x.1=k)).map λx=>V.int x.2:=by
 unfold aR bp;rw[List.find?_map,Option.map_map];have:((λkv:Rl Key×V=>decide (kv.1=bJ k))∘λx:Rl Int×Int=>(bJ x.1,V.int x.2))=λx=>decide (x.1=k):=by
  funext x
  simp only[Function.comp,pZ]
 rw[this];rfl
theorem IU (D:Tab) (k:Rl Int):(aR (bp D) (bJ k)).getD (.int 0)= .int (cK D k):=by
 rw[wz];unfold cK;cases D.find? λx=>decide (x.1=k)<;>rfl
theorem IV {D:Tab} (nd:(D.map (·.1)).Nodup) (h:x∈D):aR (bp D) (bJ x.1)=some (.int x.2):=by
 rw[wz];have:D.find? (λy=>decide (y.1=x.1))=some x:=by
  induction D with
  |nil=>simp at h
  |cons y D ih=>
   rw[AL,Be] at nd;rcases AJ.mp h with rfl|h
   .simp
   .have:y.1≠x.1:=λe=>nd.1 (Ac.mpr ⟨x,h,e.symm⟩);rw[Bf,Aj this];exact ih nd.2 h
 rw[this];rfl
theorem IW (D:Tab):(bp D).map (·.2)=(D.map (·.2)).map V.int:=by unfold bp;rw[BM,BM];rfl
def prD (x:Rl Int×Int):D:= .t [tI x.1, .i x.2]
theorem IX (l:Rl Lf) (x:Lf):(List.range l.length).countP (λj=>decide (l.getD j (0,0,0)=x))=l.count x:=by
 have e:(List.range l.length).map (λj=>l.getD j (0,0,0))=l:=by
  apply List.ext_getElem?;intro i;rw[AC];rcases Bd i l.length with c|c
  .rw [List.getElem?_range c];simp[List.getD,c]
  .rw [D7 (by simpa using c),D7 c];rfl
 conv=>rhs;rw[<-e]
 rw[List.count,List.countP_map];congr 1
 funext j
 simp only[Function.comp];exact(Bool.beq_eq_decide_eq _ _).symm
theorem wA:∀(l S:Rl Lf),S.Nodup->(S.map λm=>l.count m).sum<=l.length
 |[],S,_=>by
  have:(S.map λm=>List.count m ([]:Rl Lf))=S.map λ_=>0:=by simp
  rw[this];induction S with
  |nil=>simp
  |cons a S ih=>rename_i nd;simpa using ih (Be.mp nd).2
 |x::l,S,nd=>by
  have ih:=wA l S nd;have:(S.map λm=>(x::l).count m).sum<=(S.map λm=>l.count m).sum+1/\(x∉S->(S.map λm=>(x::l).count m).sum=(S.map λm=>l.count m).sum):=by
   clear ih;induction S with
   |nil=>simp
   |cons a S ih=>
    obtain⟨n1,n2⟩:=Be.mp nd;obtain⟨i1,i2⟩:=ih n2;simp only[AL,Aq];by_cases e:x=a
    .subst e;have:=i2 n1;rw[List.count_cons_self];exact⟨by lia,λh=>absurd (by simp) h⟩
    .have e':List.count a (x::l)=List.count a l:=List.count_cons_of_ne e;rw[e'];exact⟨by lia,λh=>by rw[i2 (λz=>h (by simp[z]))]⟩
  rw[Ad];lia
def fI (ps:Rl Lf):Int:=ps.foldl (λa p=>a*p.2.2^2) 1
def Okw (d:Nat) (p:Lf):Prop:=Okl d p/\1<=p.2.2/\p.2.2<=2^20
def lH:Rl Lf->Bool
 |[]=>true
 |x::r=>r.all (λy=> !(bF y x))&&lH r
theorem wB:∀{ps:Rl Lf},lH ps=true->Srt ps
 |[],_=>List.Pairwise.nil
 |x::r,h=>by
  unfold lH at h;rw[AA,AT] at h;exact Ap.mpr ⟨λy hy=>by simpa using h.1 y hy,wB h.2⟩
def lI (d:Nat) (ps:Rl Lf):Bool:=ps.all (jD d)&&(List.range d).all (λi=>decide (0<=eF ps i))&&lH ps
theorem IY {ps:Rl Lf} (h:lI d ps=true):Snd d ps:=by
 unfold lI at h;simp only[AA,AT,AX,AV] at h;exact⟨λp hp=>by have:=pP.mp (h.1.1 p hp);lia,λi hi=>h.1.2 i hi,wB h.2⟩
def hmD (d:Nat) (x:Rl Lf):Int:=hmF d (x++ff d (bI d x))
def gC (d:Nat) (x:Rl Lf):Bool:=lI d x&&decide (x.length<=20)&&decide (0<=fI x)&&decide (fI x<2^40)
theorem wC {x:Rl Lf} (h:gC d x=true):Snd d x/\(∀p∈x,Okw d p)/\x.length<=20/\0<=fI x/\fI x<2^40:=by
 unfold gC at h;simp only[AA,AV] at h;obtain⟨⟨⟨h1,h2⟩,h3⟩,h4⟩:=h;refine⟨IY h1,λp hp=> ?_,h2,h3,h4⟩;unfold lI at h1;simp only[AA,AT] at h1;have:=pP.mp (h1.1.1 p hp);exact⟨⟨by lia,by lia,by lia,by lia⟩,by lia,by lia⟩
def lJ (d:Nat) (x:Rl Lf):Int:=fI x*hmD d x
def wtG:Int->Rl Int->Int
 |_,[]=>0
 |i,x::r=>i*x+wtG (i+1) r
def wtF (r:Rl Int):Int:=wtG 1 r
def rwS (found:Rl (Rl Int)) (n:Int):Rl (Rl Int):=found.flatMap λb=>(List.range (n+1).toNat).map λh:Nat=>b++[(h:Int)]
def rwF (row:Rl Int):Rl (Rl Int):=row.foldl rwS [[]]
def rbF:Nat->Rl Int->Int->Nat->Rl (Rl Int)
 |0,_,_,_=>[]
 |n+1,row,wt,first=>if wt-wtF row=0 then [row] else(List.range (min row.length (wt-wtF row).toNat-first)).flatMap λj=>rbF n (wmF row (first+j) 1) wt (first+j)
def cx:Rl Int->Rl Int->Int
 |x::a,y::b=>chF x y.toNat*cx a b
 |_,_=>1
def wgG:Int->Rl Int->Rl Int->Rl Int
 |i,x::a,y::b=>List.replicate (y-x).toNat i++wgG (i+1) a b
 |_,_,_=>[]
def wgF (r f:Rl Int):Rl Int:=wgG 1 r f
structure Ask4 where
 d:Int
 k:Int
 h:List Int
 f:List Int
variable {q:Ask4}
abbrev Sm4:=Int×Rl Int×Ask4
def du (q:Ask4) (p:Nat):Rl Sm4:=if q.f.getD p 0>0 then [(1,[(p:Int)+1],⟨q.d,q.k,wmF q.h p 1,wmF q.f p (-1)⟩)] else []
def gD (q:Ask4):Rl Sm4:=(List.range q.f.length).flatMap (du q)
def ix (q:Ask4) (kp fr:Rl Int):Sm4:=(cx q.h kp*cx fr q.f,wgF q.f fr,⟨q.d-1,q.k+fr.sum-q.f.sum-q.d+1,kp,fr⟩)
def dM (q:Ask4) (kp:Rl Int):Rl Sm4:=(rbF 8 q.f (q.d-1-wtF kp) 0).map (ix q kp)
def iy (q:Ask4):Rl Sm4:=(rwF q.h).flatMap (dM q)
def ci (q:Ask4):Rl Sm4:=gD q++iy q
def cy (ws:Rl Int):Int:=ws.foldl (· * ·) 1
def fJ:Nat->Ask4->Int
 |0,_=>0
 |n+1,q=>if q.k<0 then 0 else if q.d=1 then(if q.k=0 then 1 else 0) else((ci q).map λx=>x.1*cy x.2.1*fJ n x.2.2).sum
def Nn (t:Rl Int):Prop:=∀i:Nat,0<=t.getD i 0
theorem Nn.cons {x:Int}{t:Rl Int}:Nn (x::t)↔0<=x/\Nn t:=by
 constructor
 .intro h;exact⟨h 0,λi=>h (i+1)⟩
 .rintro⟨a,b⟩ i;cases i with
  |zero=>exact a
  |succ i=>exact b i
theorem de:∀{t:Rl Int}{i:Int},0<=i->Nn t->0<=wtG i t
 |[],_,_,_=>C5 0
 |x::t,i,hi,h=>by
  obtain⟨a,b⟩:=Nn.cons.mp h;have:=de (i:=i+1) (by lia) b;have:=Bm hi a;unfold wtG;lia
theorem dw:∀{t:Rl Int}{i:Int},1<=i->Nn t->0<=t.sum/\t.sum<=wtG i t
 |[],_,_,_=>⟨C5 0,C5 0⟩
 |x::t,i,hi,h=>by
  obtain⟨a,b⟩:=Nn.cons.mp h;obtain⟨s1,s2⟩:=dw (i:=i+1) (by lia) b;have:1*x<=i*x:=Int.mul_le_mul_of_nonneg_right hi a;rw[Aq];unfold wtG;lia
theorem lK {m:Int}:∀{t:Rl Int}{p:Nat}{i:Int},p<t.length->wtG i (wmF t p m)=wtG i t+(i+p)*m
 |[],p,_,h=>absurd h (by simp)
 |x::t,0,i,_=>by
  show wtG i ((x+m)::t)=wtG i (x::t)+_;unfold wtG;rw[DI];simp;lia
 |x::t,p+1,i,h=>by
  have ih:=lK (m:=m) (t:=t) (p:=p) (i:=i+1) (by simpa using h);show wtG i (x::wmF t p m)=wtG i (x::t)+_;unfold wtG;rw[ih,show i+1+(p:Int)=i+((p+1:Nat):Int) by lia];lia
theorem lL {t:Rl Int}{m:Int} (hp:p<t.length) (h:Nn t) (hm:0<=t.getD p 0+m):Nn (wmF t p m):=λi=>by
 rw[lE hp];split
 .next e=>rw[<-e];exact hm
 .have:=h i;lia
theorem IZ {t:Rl Int}{x:Int} (h:Nn t) (hx:0<=x):Nn (t++[x]):=by
 induction t with
 |nil=>exact Nn.cons.mpr ⟨hx,λi=>by simp⟩
 |cons y t ih=>
  obtain⟨a,b⟩:=Nn.cons.mp h;exact Nn.cons.mpr ⟨a,ih b⟩
def Le:Rl Int->Rl Int->Prop
 |x::a,y::b=>0<=x/\x<=y/\Le a b
 |[],[]=>True
 |_,_=>False
theorem Le.len:∀{a b:Rl Int},Le a b->a.length=b.length
 |[],[],_=>rfl
 |x::a,y::b,h=>B' (· +1) (Le.len h.2.2)
theorem Le.nn:∀{a b:Rl Int},Le a b->Nn a/\Nn b
 |[],[],_=>⟨λi=>by simp,λi=>by simp⟩
 |x::a,y::b,h=>by
  obtain⟨p,q⟩:=Le.nn h.2.2;exact⟨Nn.cons.mpr ⟨h.1,p⟩,Nn.cons.mpr ⟨by have:=h.1;have:=h.2.1;lia,q⟩⟩
theorem Le.snoc:∀{a b:Rl Int}{x y:Int},Le a b->0<=x->x<=y->Le (a++[x]) (b++[y])
 |[],[],_,_,_,h1,h2=>⟨h1,h2,trivial⟩
 |_::a,_::b,_,_,h,h1,h2=>⟨h.1,h.2.1,Le.snoc h.2.2 h1 h2⟩
theorem Le.self:∀{a:Rl Int},Nn a->Le a a
 |[],_=>trivial
 |x::a,h=>by
  obtain⟨p,q⟩:=Nn.cons.mp h;exact⟨p,C5 x,Le.self q⟩
theorem Le.wt:∀{a b:Rl Int}{i:Int},0<=i->Le a b->wtG i a<=wtG i b
 |[],[],_,_,_=>C5 0
 |x::a,y::b,i,hi,h=>by
  have:=Le.wt (i:=i+1) (by lia) h.2.2;have:=CL h.2.1 hi;unfold wtG;lia
theorem Le.gain:∀{a b:Rl Int}{i:Int},1<=i->Le a b->a.sum<=b.sum/\b.sum-a.sum<=wtG i b-wtG i a
 |[],[],_,_,_=>by simp[wtG]
 |x::a,y::b,i,hi,h=>by
  obtain⟨g1,g2⟩:=Le.gain (i:=i+1) (by lia) h.2.2;have h1:=h.2.1;have:1*(y-x)<=i*(y-x):=Int.mul_le_mul_of_nonneg_right hi (by lia);have e:i*(y-x)=i*y-i*x:=Int.mul_sub i y x;rw[Aq,Aq];unfold wtG;lia
theorem Le.wm {a:Rl Int}(h:Le a b) (hp:p<b.length):Le a (wmF b p 1):=by
 induction a generalizing b p with
 |nil=>
  cases b with
  |nil=>exact trivial
  |cons y b=>exact h.elim
 |cons x a ih=>
  cases b with
  |nil=>exact h.elim
  |cons y b=>
   cases p with
   |zero=>exact⟨h.1,by show x<=y+1;have:=h.2.1;lia,h.2.2⟩
   |succ p=>exact⟨h.1,h.2.1,ih h.2.2 (by simpa using hp)⟩
theorem p6 {t:Rl Int} (hn:Nn row) (h:t∈rwF row):Le t row:=by
 have go:∀(r2 r1:Rl Int) (F:Rl (Rl Int)),(∀t∈F,Le t r1)->Nn r2->∀t∈r2.foldl rwS F,Le t (r1++r2):=by
  intro r2;induction r2 with
  |nil=>intro r1 F hF _ t ht;rw[BK];exact hF t ht
  |cons n r2 ih=>
   intro r1 F hF hn t ht;obtain⟨n0,n2⟩:=Nn.cons.mp hn;rw[show r1++n::r2=(r1++[n])++r2 by simp];refine ih (r1++[n]) (rwS F n) (λu hu=> ?_) n2 t ht;obtain⟨b,hb,hu⟩:=B6.mp hu;obtain⟨k,hk,rfl⟩:=Ac.mp hu;have hk:=AX.mp hk;exact(hF b hb).snoc (by lia) (by lia)
 exact go row [] [[]] (λt ht=>by rw[AR.mp ht];exact trivial) hn t h
theorem wD {F:Rl (Rl Int)}{n:Int}:(rwS F n).length=F.length*(n+1).toNat:=by
 unfold rwS;induction F with
 |nil=>simp
 |cons b F ih=>
  rw[Bl,AE,ih,A1,Bk,Ad,Cf,Nat.add_comm]
theorem I0 (n:Nat):n+1<=2^n:=by
 induction n with
 |zero=>decide
 |succ n ih=>rw[Cz];lia
theorem wE:∀(row:Rl Int) (F:Rl (Rl Int)),Nn row->(row.foldl rwS F).length<=F.length*2^row.sum.toNat
 |[],F,_=>by simp
 |n::row,F,h=>by
  obtain⟨a,b⟩:=Nn.cons.mp h;have ih:=wE row (rwS F n) b;rw[wD] at ih;have s0:=(dw (i:=1) (by decide) b).1;rw[Aq,show(n+row.sum).toNat=n.toNat+row.sum.toNat by lia,Nat.pow_add,<-Nat.mul_assoc];refine BH ih (Nat.mul_le_mul_right _ (Nat.mul_le_mul_left _ ?_));rw[show(n+1).toNat=n.toNat+1 by lia];exact I0 _
theorem I8 {t:Rl Int} (h:Nn t) (i:Nat):Nn (t.take i):=λj=>by
 rw[A',List.getElem?_take];split
 .have:=h j;rwa [A'] at this
 .simp
theorem p7 (hn:Nn row) (hs:row.sum<=5) (i:Nat):(rwF (row.take i)).length<=32:=by
 have nt:Nn (row.take i):=λj=>by
  rw[A',List.getElem?_take];split
  .have:=hn j;rwa [A'] at this
  .simp
 have st:(row.take i).sum<=5:=by
  have e:(row.take i).sum+(row.drop i).sum=row.sum:=by rw[<-CN,Bp]
  have nd:Nn (row.drop i):=λj=>by
   rw[A',List.getElem?_drop];have:=hn (i+j);rwa [A'] at this
  have:=(dw (i:=1) (by decide) nd).1;lia
 have h:=wE (row.take i) [[]] nt;have s0:=(dw (i:=1) (by decide) nt).1;have:2^(row.take i).sum.toNat<=2^5:=Bs (by decide) (by lia);unfold rwF;simp only[Ad,DO] at h;lia
theorem wG {wt:Int}:∀{n:Nat}{row t:Rl Int}{first:Nat},t∈rbF n row wt first->Nn row->∀{a:Rl Int},Le a row->Le a t/\wtF t=wt
 |0,_,_,_,h,_,_,_=>nomatch h
 |n+1,row,t,first,h,hn,a,ha=>by
  unfold rbF at h;split at h
  .next e=>rw[AR.mp h];exact⟨ha,by lia⟩
  .obtain⟨j,hj,h⟩:=B6.mp h;have hj:=AX.mp hj;have hp:first+j<row.length:=by lia
   exact wG h (lL hp hn (by have:=hn (first+j);lia)) (ha.wm hp)
theorem p8 {wt:Int}:∀{n:Nat}{row:Rl Int}{first:Nat},row.length<=5->(rbF n row wt first).length<=5^n
 |0,_,_,_=>AO _
 |n+1,row,first,h=>by
  unfold rbF;split
  .exact Nat.one_le_pow _ _ (by decide)
  .have go:∀m,m<=5->((List.range m).flatMap λj=>rbF n (wmF row (first+j) 1) wt (first+j)).length<=m*5^n:=by
    intro m;induction m with
    |zero=>intro _;exact AO _
    |succ m ih=>
     intro hm;rw[Az,BI,AE,Cf,Bl,List.flatMap_nil,BK];have:=ih (by lia);have:=p8 (n:=n) (wt:=wt) (row:=wmF row (first+m) 1) (first:=first+m) (by rw[eD];exact h);lia
   have:=go (min row.length (wt-wtF row).toNat-first) (by lia);have h5:(min row.length (wt-wtF row).toNat-first)*5^n<=5*5^n:=Nat.mul_le_mul_right _ (by lia);rw[Cz,Nat.mul_comm];lia
def ch2:Bool:=(List.range 16).all λn=>(List.range (n+1)).all λk=>decide (0<=chF (n:Int) k)&&decide (chF (n:Int) k<=2^n)
theorem I9:ch2=true:=by ac_nf
theorem wH {n k:Int} (h0:0<=k) (h1:k<=n) (h2:n<=15):0<=chF n k.toNat/\chF n k.toNat<=2^n.toNat:=by
 obtain⟨m,rfl⟩:=B7 (show 0<=n by lia);have h:=I9;unfold ch2 at h;rw[AT] at h;have h:=h m (AX.mpr (by lia));rw[AT] at h;have h:=h k.toNat (AX.mpr (by lia));simpa using h
theorem wI:∀{a b:Rl Int},Le a b->b.sum<=15->0<=cx b a/\cx b a<=2^b.sum.toNat
 |[],[],_,_=>by simp[cx]
 |x::a,y::b,h,hs=>by
  obtain⟨h1,h2,h3⟩:=h;have s0:=(dw (i:=1) (by decide) (Le.nn h3).2).1;rw[Aq] at hs;obtain⟨c1,c2⟩:=wI h3 (by lia);obtain⟨d1,d2⟩:=wH h1 h2 (by lia);rw[Aq,show(y+b.sum).toNat=y.toNat+b.sum.toNat by lia,Int.pow_add];unfold cx;exact⟨Bm d1 c1,Ca d2 c2 c1 (Int.pow_nonneg (by decide))⟩
theorem lM {a:Rl Int} (h:Le a b) (hs:b.sum<=5):0<=cx b a/\cx b a<=32:=by
 obtain⟨c1,c2⟩:=wI h (by lia);have s0:=(dw (i:=1) (by decide) (Le.nn h).2).1;have:(2:Int)^b.sum.toNat<=2^5:=by
  have:b.sum.toNat=0\/b.sum.toNat=1\/b.sum.toNat=2\/b.sum.toNat=3\/b.sum.toNat=4\/b.sum.toNat=5:=by lia
  rcases this with e|e|e|e|e|e<;>rw[e]<;>decide
 exact⟨c1,by lia⟩
structure AskOk (L:Nat) (q:Ask4):Prop where
 hl:q.h.length=L
 fl:q.f.length=L
 hn:Nn q.h
 fn:Nn q.f
 wt:wtF q.h+wtF q.f=q.d
 d1:1<=q.d
 dL:q.d<=L
 L5:L<=5
 k6:q.k<=6
def muF (q:Ask4):Int:=6*q.d+q.f.sum
section
variable {L:Nat}{q:Ask4}
theorem AskOk.sums (a:AskOk L q):0<=q.h.sum/\q.h.sum<=5/\0<=q.f.sum/\q.f.sum<=5:=by
 obtain⟨h1,h2⟩:=dw (i:=1) (by decide) a.hn;obtain⟨f1,f2⟩:=dw (i:=1) (by decide) a.fn;have w1:=de (i:=1) (by decide) a.hn;have w2:=de (i:=1) (by decide) a.fn;have:=a.wt;have:=a.dL;have:=a.L5;unfold wtF at*
 lia
theorem AskOk.held (a:AskOk L q) {x:Sm4} (hx:x∈gD q):AskOk L x.2.2/\muF x.2.2+1<=muF q/\x.1=1/\∃w:Int,x.2.1=[w]/\1<=w/\w<=5:=by
 unfold gD at hx;obtain⟨p,hp,hx⟩:=B6.mp hx;have hp:=AX.mp hp;unfold du at hx;split at hx
 .next hf=>
  rw[AR.mp hx];have M4:p<q.h.length:=by rw[a.hl,<-a.fl];exact hp
  have h5:=a.L5;have fl:=a.fl;refine⟨⟨by rw[eD];exact a.hl,by rw[eD];exact fl,lL M4 a.hn (by have:=a.hn p;lia),lL hp a.fn (by lia), ?_,a.d1,a.dL,h5,a.k6⟩, ?_,rfl,_,rfl,by lia,by lia⟩
  .have:=a.wt;show wtF (wmF q.h p 1)+wtF (wmF q.f p (-1))=q.d;unfold wtF at*
   rw[lK M4,lK hp];lia
  .show 6*q.d+(wmF q.f p (-1)).sum+1<=6*q.d+q.f.sum;rw[lF hp];lia
 .cases hx
theorem AskOk.few (a:AskOk L q) (d2:2<=q.d) {kp fr:Rl Int} (hk:kp∈rwF q.h) (hf:fr∈rbF 8 q.f (q.d-1-wtF kp) 0):AskOk L ⟨q.d-1,q.k+fr.sum-q.f.sum-q.d+1,kp,fr⟩/\6*(q.d-1)+fr.sum+1<=muF q/\Le kp q.h/\Le q.f fr/\fr.sum<=5:=by
 have l1:=p6 a.hn hk;obtain⟨l2,e⟩:=wG hf a.fn (Le.self a.fn);have n1:=(Le.nn l1).1;have n2:=(Le.nn l2).2;have w1:=de (i:=1) (by decide) n1;have w2:=de (i:=1) (by decide) a.fn;obtain⟨g1,g2⟩:=l2.gain (i:=1) (by decide);obtain⟨s1,s2⟩:=dw (i:=1) (by decide) n2;have h5:=a.L5;have dL:=a.dL;have k6:=a.k6;have sf:=a.sums;unfold wtF at e w1 w2;refine⟨⟨l1.len.trans a.hl,l2.len.symm.trans a.fl,n1,n2, ?_, ?_, ?_,h5, ?_⟩, ?_,l1,l2, ?_⟩
 .show wtF kp+wtF fr=q.d-1;unfold wtF;lia
 .show 1<=q.d-1;lia
 .show q.d-1<=L;lia
 .show q.k+fr.sum-q.f.sum-q.d+1<=6;lia
 .unfold muF;lia
 .lia
theorem p9 {x:Sm4} (hx:x∈iy q):∃kp∈rwF q.h,∃fr∈rbF 8 q.f (q.d-1-wtF kp) 0,x=ix q kp fr:=by
 unfold iy at hx;obtain⟨kp,hk,hx⟩:=B6.mp hx;unfold dM at hx;obtain⟨fr,hf,rfl⟩:=Ac.mp hx;exact⟨kp,hk,fr,hf,rfl⟩
theorem AskOk.less (a:AskOk L q) (d2:2<=q.d) {x:Sm4} (hx:x∈ci q):AskOk L x.2.2/\muF x.2.2+1<=muF q:=by
 unfold ci at hx;rcases B9.mp hx with hx|hx
 .exact⟨(a.held hx).1,(a.held hx).2.1⟩
 .obtain⟨kp,hk,fr,hf,rfl⟩:=p9 hx;obtain⟨h1,h2,_⟩:=a.few d2 hk hf;exact⟨h1,h2⟩
end
theorem AskOk.mu (a:AskOk L q):6<=muF q/\muF q<=35:=by
 have:=a.sums;have:=a.d1;have:=a.dL;have:=a.L5;unfold muF;lia
theorem wJ {L:Nat}:∀{n m:Nat}{q:Ask4},AskOk L q->muF q<=n->muF q<=m->fJ n q=fJ m q
 |0,_,q,a,h,_=>by have:=a.mu;lia
 |_+1,0,q,a,_,h=>by have:=a.mu;lia
 |n+1,m+1,q,a,h1,h2=>by
  unfold fJ;split
  .rfl
  .split
   .rfl
   .next hd=>
    refine B' List.sum (BA λx hx=> ?_);obtain⟨b,c⟩:=a.less (by have:=a.d1;lia) hx;rw[wJ b (n:=n) (m:=m) (by lia) (by lia)]
def cF (q:Ask4):Int:=fJ 36 q
def Ja (h:q.k<0):cF q=0:=A6 h
theorem Jb (h:¬q.k<0) (hd:q.d=1):cF q=if q.k=0 then 1 else 0:=by
 unfold cF fJ;rw[A5 h,A6 hd]
theorem Jc (a:AskOk L q) (h:¬q.k<0) (hd:¬q.d=1):cF q=((ci q).map λx=>x.1*cy x.2.1*cF x.2.2).sum:=by
 have e:cF q=fJ 37 q:=wJ a (by have:=a.mu;lia) (by have:=a.mu;lia);rw[e];unfold fJ;rw[A5 h,A5 hd];rfl
theorem wK:∀{t:Rl Int}{i:Int},wtG i (t++[0])=wtG i t
 |[],i=>by simp[wtG]
 |x::t,i=>by
  show i*x+wtG (i+1) (t++[0])=i*x+wtG (i+1) t;rw[wK]
def bi (n:Nat) (t:Rl Int):Rl Int:=t++List.replicate (n-t.length) 0
theorem Jd :∀{t:Rl Int}{i:Int},wtG i (t++List.replicate n 0)=wtG i t:=by
 induction n with
 |zero=>intro t i;simp
 |succ n ih=>
  intro t i;rw[List.replicate_succ',<-BG,wK,ih]
def cS:Nat->Nat->Nat->Rl (Rl Int)
 |_,0,_=>[[]]
 |i,n+1,b=>(List.range (b/i+1)).flatMap λx=>(cS (i+1) n (b-i*x)).map ((x:Int):: ·)
theorem jE:∀{n i b:Nat}{t:Rl Int},1<=i->t.length=n->Nn t->wtG (i:Int) t<=b->t∈cS i n b
 |0,i,b,t,_,hl,_,_=>by rw[CJ.mp hl];exact AD
 |n+1,i,b,[],_,hl,_,_=>nomatch hl
 |n+1,i,b,x::t,hi,hl,hn,hw=>by
  obtain⟨x0,tn⟩:=Nn.cons.mp hn;obtain⟨m,rfl⟩:=B7 x0;have w:=de (i:=(i:Int)+1) (by lia) tn;unfold wtG at hw;have hm:i*m<=b:=by
   have:((i*m:Nat):Int)=(i:Int)*(m:Int):=Int.natCast_mul i m;lia
  unfold cS;refine B6.mpr ⟨m,AX.mpr (Nat.lt_succ_of_le ((Nat.le_div_iff_mul_le (by lia)).mpr (by rw[Nat.mul_comm];exact hm))),Ac.mpr ⟨t,jE (by lia) (by simpa using hl) tn ?_,rfl⟩⟩;have:((i*m:Nat):Int)=(i:Int)*(m:Int):=Int.natCast_mul i m;show wtG ((i:Int)+1) t<=_;lia
def wL:Bool:=(List.range 6).all λL=>decide ((cS 1 L 5).length<=19)
theorem Je:wL=true:=by ac_nf
theorem Jf (a b:Rl Int):cy (a++b)=cy a*cy b:=by
 have go:∀(b:Rl Int) (x:Int),b.foldl (· * ·) x=x*b.foldl (· * ·) 1:=λb=>by
  induction b with
  |nil=>intro x;simp
  |cons y b ih=>
   intro x;rw[Bz,Bz,ih,ih (1*y),Int.one_mul,Int.mul_assoc]
 unfold cy;rw[Bx,go]
def cL:Rl (Rl Int):=[[],[1],[1,3],[1,12,21,15],[1,27,225,675,666,378,105],[1,48,882,7915]]
def cT (d k:Nat):Int:=(cL.getD d []).getD k 0
theorem Jg:∀e:Nat,e<4->∀k:Nat,k<7->cF ⟨((e+1:Nat):Int),(k:Int),bi (e+1) [],bi (e+1) [((e+1:Nat):Int)]⟩=cT (e+1) k:=by ac_nf
theorem Jh:∀k:Nat,k<4->cF ⟨((5:Nat):Int),(k:Int),bi 5 [],bi 5 [((5:Nat):Int)]⟩=cT 5 k:=by ac_nf
theorem Ji (h:Wide d k):cF ⟨(d:Int),(k:Int),bi d [],bi d [(d:Int)]⟩=cT d k:=by
 obtain⟨d1,h⟩:=h;rcases h with⟨d4,k6⟩|⟨rfl,k3⟩
 .obtain⟨e,rfl⟩:∃e,d=e+1:=⟨d-1,by lia⟩;exact Jg e (by lia) k (by lia)
 .exact Jh k (by lia)
def jF (d k:Nat):Int:=((cf d k).map (lJ d)).sum
def fg (d x n:Nat):Rl Pt:=(List.range n).map λj:Nat=>((x:Int),(d:Int)-(x:Int)-(j:Int))
def fh (d n:Nat):Rl Pt:=(List.range n).flatMap λx=>fg d x (d+1-x)
def bv (d:Nat):Rl Pt:=fh d (d+1)
theorem wM (d n:Nat):fh d (n+1)=fh d n++fg d n (d+1-n):=by unfold fh;rw[Az,BI,List.flatMap_singleton]
theorem Jj (d x n:Nat):fg d x (n+1)=fg d x n++[((x:Int),(d:Int)-(x:Int)-(n:Int))]:=by unfold fg;rw[Az,A7];rfl
theorem wN (d x n:Nat):(fg d x n).length=n:=by simp[fg]
theorem Jk (d n:Nat) (hn:n<=d+1) (hd:d<=5):(fh d n).length<=36:=by
 have:∀m,m<=6->(fh d m).length<=6*m:=λm hm=>by
  induction m with
  |zero=>simp[fh]
  |succ m ih=>
   have:=ih (by lia);rw[wM,AE,wN];lia
 have:=this n (by lia);lia
def lvA {α:Type}:Rl α->Nat->Rl (Rl α)
 |row,0=>[row]
 |[],_+1=>[]
 |x::row,k+1=>(lvA row (k+1)).map (x:: ·)++lvA row k
theorem qc {α:Type}:∀(row:Rl α) (k:Nat),row.length<k->lvA row k=[]
 |_,0,h=>by lia
 |[],_+1,_=>rfl
 |x::row,k+1,h=>by
  simp only[Ad] at h;rw[lvA,qc row (k+1) (by lia),qc row k (by lia)];rfl
theorem jG {α:Type}:∀(row:Rl α) (k:Nat),(lvA row k).length<=2^row.length
 |[],0=>by simp[lvA]
 |[],_+1=>by simp[lvA]
 |x::row,0=>by
  rw[lvA];exact Nat.one_le_two_pow
 |x::row,k+1=>by
  rw[lvA,AE,A1,Ad,Cz];have h1:=jG row (k+1);have h2:=jG row k;lia
theorem lN {α:Type}:∀(row:Rl α) (k:Nat) (ws:Rl α),ws∈lvA row k->ws.length<=row.length
 |row,0,ws,h=>by
  have:ws=row:=by cases row<;>simpa[lvA] using h
  rw[this];exact AB _
 |[],_+1,ws,h=>by simp[lvA] at h
 |x::row,k+1,ws,h=>by
  rw[lvA] at h;rcases B9.mp h with q|q
  .obtain⟨us,hu,rfl⟩:=Ac.mp q;have:=lN row (k+1) us hu;simp;lia
  .have:=lN row k ws q;simp;lia
def df (d:Nat):Rl Pt:=((bv d).drop 1).dropLast
def p0 (d:Nat):Pt:=(0,(d:Int))
def pl (d:Nat):Pt:=((d:Int),0)
def bt (d k:Nat):Rl (Rl Pt):=(lvA (df d) k).map λw=>[p0 d]++w++[pl d]
def dy (d k:Nat):Prop:=1<=d/\((d<=3/\k<=6)\/(d=4/\k<=2))
def bX (H0 H:Hp) (Wq:Rl (Rl V)) (vs:Rl V):Prop:=vs.length=Wq.length/\∀(i:Nat) ws,Wq[i]? =some ws->∃a,vs[i]? =some (.ref a)/\H0 a=none/\H a=some (.lst ws)
theorem bX.nil {H0:Hp}:bX H0 H [] []:=⟨rfl,λi ws h=>by simp at h⟩
theorem bX.mono {H0 H0':Hp}{Wq:Rl (Rl V)}(h:bX H0 H Wq vs) (s0:af H0' H0) (s:af H H'):bX H0' H' Wq vs:=⟨h.1,λi ws e=>by
 obtain⟨a,e1,e2,e3⟩:=h.2 i ws e;exact⟨a,e1,s0.free e2,s _ _ e3⟩⟩
theorem bX.append {H0:Hp}{Wq W':Rl (Rl V)}{vs':Rl V} (h:bX H0 H Wq vs) (h':bX H0 H W' vs'):bX H0 H (Wq++W') (vs++vs'):=by
 refine⟨by rw[AE,AE,h.1,h'.1],λi ws e=> ?_⟩;rcases Bd i Wq.length with q|q
 .rw [Bn q] at e;rw[Bn (by rw[h.1];exact q)];exact h.2 i ws e
 .rw [BS q] at e;rw[BS (by rw[h.1];exact q),h.1];exact h'.2 _ ws e
theorem bX.one {H0:Hp}(h0:H0 a=none) (h:H a=some (.lst ws)):bX H0 H [ws] [.ref a]:=⟨rfl,λi us e=>by
 match i,e with
 |0,e=>cases e;exact⟨a,rfl,h0,h⟩
 |i+1,e=>simp at e⟩
def upE (d:Nat):Rl Pt:=(List.range (d+1)).map λi:Nat=>((i:Int),(d:Int)-(i:Int))
def loE (d:Nat):Rl Pt:=((List.range (d+1)).map λi:Nat=>((0:Int),(d:Int)-(i:Int)))++(List.range d).map λi:Nat=>((1:Int)+(i:Int),(0:Int))
abbrev Pc:=Rl Pt
def zP:Pt:=(0,0)
def crn (a b c:Pt):Int:=(b.1-a.1)*(c.2-b.2)-(b.2-a.2)*(c.1-b.1)
def bw (ps:Rl Pt) (QJ:Int):Rp Nat:=((List.range (ps.length-2)).find? λi=>decide (crn (ps.getD i zP) (ps.getD (i+1) zP) (ps.getD (i+2) zP)*QJ>0)).map (· +1)
def aH (a b c:Pt):Pt:=(a.1+c.1-b.1,a.2+c.2-b.2)
def bu (d:Nat) (p:Pt):Bool:=decide (p.1>=0)&&(decide (p.2>=0)&&decide (p.1+p.2<=(d:Int)))
def aW (d:Nat) (ps:Rl Pt) (QJ:Int):Rl (Pc×Rl Pt):=match bw ps QJ with
 |none=>[]
 |some p=>[([ps.getD (p-1) zP,ps.getD p zP,ps.getD (p+1) zP],ps.take p++ps.drop (p+1))]++
  if bu d (aH (ps.getD (p-1) zP) (ps.getD p zP) (ps.getD (p+1) zP))=true then [([ps.getD (p-1) zP,ps.getD p zP,ps.getD (p+1) zP,aH (ps.getD (p-1) zP) (ps.getD p zP) (ps.getD (p+1) zP)],ps.take p++[aH (ps.getD (p-1) zP) (ps.getD p zP) (ps.getD (p+1) zP)]++ps.drop (p+1))] else []
def inB (p:Pt):Bool:=decide (-20<=p.1)&&decide (p.1<=20)&&decide (-20<=p.2)&&decide (p.2<=20)
def psB (ps:Rl Pt):Bool:=ps.all inB&&decide (ps.length<=30)
def pcD (c:Pc):D:= .t (c.map pt)
theorem qe {α:Type}{f:α->D} (z:α) {H:Hp}{Wq:Rl α}{vs:Rl V} (h:Iss H (Wq.map f) vs):∀(l:Rl Nat),(∀i∈l,i<Wq.length)->Iss H ((l.map λi=>Wq.getD i z).map f) (l.map λi=>vs.getD i .non)
 |[],_=>ax
 |i::l,hl=>by
  have hi:i<Wq.length:=hl i (by simp);have hr:i<vs.length:=by rw[h.length,A1];exact hi
  refine au ?_ (qe z h l λj hj=>hl j (by simp[hj]));obtain⟨d,hd,h1⟩:=h.of_get (A3 hr);rw[AC,A3 hi] at hd;cases hd;show Is H (f (Wq.getD i z)) (vs.getD i .non);rw[A',A',A3 hi,A3 hr];exact h1
theorem Jl (t:aB H H') {p:Pt}(h:Is H (pt p) v):Is H' (pt p) v:=by
 obtain⟨a,rfl,ha⟩:=kD h;exact gj (t _ _ ha)
theorem qf {H H':Hp} (t:aB H H'):∀{ps:Rl Pt}{vs:Rl V},Iss H (ps.map pt) vs->Iss H' (ps.map pt) vs
 |[],_,h=>by rw[bn h];exact ax
 |p::ps,_,h=>by
  obtain⟨u,us,rfl,h1,h2⟩:=aI h;exact au (Jl t h1) (qf t h2)
theorem wO (t:aB H H') {c:Pc}(h:Is H (pcD c) v):Is H' (pcD c) v:=by
 obtain⟨a,vs,rfl,ha,hi⟩:=bB h;exact bA (t _ _ ha) (qf t hi)
def jH {H0:Hp} (s:af H0 H):aB H (nw H0 H):=λa xs e=>lB s e
theorem wP {H0:Hp}(s:af H0 H) (n:H0 a=none) (h:Is H (pts ps) (.ref a)):Is (nw H0 H) (pts ps) (.ref a):=by
 obtain⟨_,vs,e,ha,hi⟩:=aA h;cases e;exact aD (by rw[cJ n];exact ha) (qf (jH s) hi)
theorem Jm {H0 H1:Hp}(n:H1 a=none) (s:af H1 H2):af (nw H0 H1) (hid (nw H0 H2) a):=λb o e=>by
 have hb:b≠a:=by rintro rfl;rw[bN _ _ e] at n;cases n
 rw[dX hb];exact fF s b o e
theorem fj (h:j<ps.length):atI (ps.map pt) (j:Int)=some (pt (ps.getD j zP)):=by
 refine gU (j:=j) rfl ?_;rw[AC,A3 h,A',A3 h];rfl
theorem dN (h:j<ps.length):ps.getD j zP∈ps:=by
 rw[A',A3 h];exact D' h
theorem wQ (h:psB ps=true):(∀p∈ps,-20<=p.1/\p.1<=20/\-20<=p.2/\p.2<=20)/\ps.length<=30:=by
 unfold psB inB at h;simp only[AA,AV,AT] at h;exact⟨λp hp=>by have:=h.1 p hp;lia,h.2⟩
theorem wR {p:Nat->Bool}:∀{n i:Nat},i<n->(∀j<i,p j=false)->p i=true->(List.range n).find? p=some i
 |0,i,h,_,_=>absurd h (by lia)
 |n+1,i,h,hb,hp=>by
  rw[Az,List.find?_append];by_cases e:i=n
  .subst e;have:(List.range i).find? p=none:=by
    rw[List.find?_eq_none];intro j hj;rw[hb j (AX.mp hj)];decide
   rw[this];simp[hp]
  .rw [wR (n:=n) (by lia) hb hp];rfl
theorem Jn {p:Nat->Bool}(h:∀j<n,p j=false):(List.range n).find? p=none:=by
 rw[List.find?_eq_none];intro j hj;rw[h j (AX.mp hj)];decide
theorem jI {s:Int}(h:bw ps s=some p):1<=p/\p+1<ps.length:=by
 unfold bw at h;obtain⟨i,hi,rfl⟩:=A8.mp h;have:=AX.mp (List.mem_of_find?_eq_some hi);lia
def wkP (p:Pt):Rl Int:=[p.1,p.2]
def wk (ps:Rl Pt):Rl (Rl Int):=ps.map wkP
theorem qg {a b:Rl Pt} (h:wk a=wk b):a=b:=by
 induction a generalizing b with
 |nil=>cases b with
  |nil=>rfl
  |cons=>cases h
 |cons p a ih=>cases b with
  |nil=>cases h
  |cons q b=>
   unfold wk at h;rw[AL,AL] at h;injection h with h1 h2;unfold wkP at h1;simp only[C',and_true] at h1;rw[ih h2,Prod.ext h1.1 h1.2]
def lam (p:Pt):Int:=10*p.1-p.2
def ay (d:Nat) (ps:Rl Pt):Prop:=(∀p∈ps,bu d p=true)/\(ps.map lam).Pairwise (· < ·)
theorem cj {p:Pt}:bu d p=true↔0<=p.1/\0<=p.2/\p.1+p.2<=d:=by
 unfold bu;simp only[AA,AV,ge_iff_le]
def arF:Rl Pt->Int
 |p::q::r=>(q.1-p.1)*(p.2+q.2)+arF (q::r)
 |_=>0
theorem qh {p:Pt}(h:ay d (p::r)):ay d r:=⟨λq hq=>h.1 q (AK _ hq),(Ap.mp (by simpa using h.2)).2⟩
theorem qi {p q:Pt}(hd:d<=4) (h:ay d (p::q::r)):p.1<=q.1:=by
 have h1:=cj.mp (h.1 p AD);have h2:=cj.mp (h.1 q (AK _ AD));have h3:lam p<lam q:=by
  have:=h.2;rw[AL,AL] at this;exact(Ap.mp this).1 _ AD
 unfold lam at h3;lia
theorem wT {d:Nat} (hd:d<=4):∀{r:Rl Pt}{p:Pt},ay d (p::r)->arF (p::r)<=2*(d:Int)*((d:Int)-p.1)
 |[],p,h=>by
  have h1:=cj.mp (h.1 p AD);show(0:Int)<=_;exact Bm (by lia) (by lia)
 |q::r,p,h=>by
  have h1:=cj.mp (h.1 p AD);have h2:=cj.mp (h.1 q (AK _ AD));have h3:=qi hd h;have ih:=wT hd (qh h);have e:(q.1-p.1)*(p.2+q.2)<=(q.1-p.1)*(2*(d:Int)):=CL (by lia) (by lia);have e2:2*(d:Int)*((d:Int)-p.1)=(q.1-p.1)*(2*(d:Int))+2*(d:Int)*((d:Int)-q.1):=by
   rw[BN (q.1-p.1),<-DI];congr 1
   lia
  show(q.1-p.1)*(p.2+q.2)+arF (q::r)<=_;lia
theorem fK {d:Nat} (hd:d<=4):∀{ps:Rl Pt},ay d ps->0<=arF ps
 |[],_=>C5 0
 |[_],_=>C5 0
 |p::q::r,h=>by
  have h1:=cj.mp (h.1 p AD);have h2:=cj.mp (h.1 q (AK _ AD));have h3:=qi hd h;have ih:=fK hd (qh h);have:=Bm (a:=q.1-p.1) (b:=p.2+q.2) (by lia) (by lia);show 0<=(q.1-p.1)*(p.2+q.2)+arF (q::r);lia
theorem iz (hd:d<=4) (h:ay d ps):arF ps<=32:=by
 cases ps with
 |nil=>show(0:Int)<=32;lia
 |cons p r=>
  have h1:=cj.mp (h.1 p AD);have h2:=wT hd h;have h3:2*(d:Int)*((d:Int)-p.1)<=2*(d:Int)*4:=CL (by lia) (by lia);lia
theorem qj (a:Pt) (r:Rl Pt):∀l:Rl Pt,arF (l++a::r)=arF (l++[a])+arF (a::r)
 |[]=>by show arF (a::r)=0+arF (a::r);lia
 |[p]=>by
  show(a.1-p.1)*(p.2+a.2)+arF (a::r)=(a.1-p.1)*(p.2+a.2)+0+arF (a::r);lia
 |p::q::l=>by
  have ih:=qj a r (q::l);show(q.1-p.1)*(p.2+q.2)+arF (q::l++a::r)=(q.1-p.1)*(p.2+q.2)+arF (q::l++[a])+arF (a::r);lia
theorem iA (l:Rl Pt) (a b c:Pt) (r:Rl Pt):arF (l++a::c::r)=arF (l++a::b::c::r)+crn a b c:=by
 rw[qj a (c::r) l,qj a (b::c::r) l];show _+((c.1-a.1)*(a.2+c.2)+arF (c::r))=_+((b.1-a.1)*(a.2+b.2)+((c.1-b.1)*(b.2+c.2)+arF (c::r)))+crn a b c;unfold crn;simp only[Int.sub_mul,DI,Int.mul_sub];have:=BN;rw[BN b.2 c.1,BN b.2 b.1,BN a.2 c.1,BN a.2 b.1];lia
theorem lO (l:Rl Pt) (a b c:Pt) (r:Rl Pt):arF (l++a::aH a b c::c::r)=arF (l++a::b::c::r)+2*crn a b c:=by
 have h1:=iA l a b c r;have h2:=iA l a (aH a b c) c r;have h3:crn a (aH a b c) c= -crn a b c:=by
  unfold crn aH;simp only[Int.sub_mul,DI,Int.mul_sub,Int.add_mul];rw[BN b.2 c.1,BN b.2 b.1,BN a.2 c.1,BN a.2 b.1,BN a.2 a.1,BN c.2 c.1,BN c.2 b.1,BN b.2 a.1,BN c.2 a.1];lia
 lia
theorem Jo {L R:Rl Int}{A B C F:Int} (h:(L++A::B::C::R).Pairwise (· < ·)) (h1:A<F) (h2:F<C):(L++A::F::C::R).Pairwise (· < ·):=by
 rw[List.pairwise_append] at h⊢;obtain⟨hl,hr,hx⟩:=h;obtain⟨r1,hr⟩:=Ap.mp hr;obtain⟨r2,hr⟩:=Ap.mp hr;obtain⟨r3,hr⟩:=Ap.mp hr;refine⟨hl,Ap.mpr ⟨λy hy=> ?_,Ap.mpr ⟨λy hy=> ?_,Ap.mpr ⟨r3,hr⟩⟩⟩,λx Mm y hy=> ?_⟩
 .rcases AJ.mp hy with rfl|hy
  .exact h1
  .exact r1 y (AK _ hy)
 .rcases AJ.mp hy with rfl|hy
  .exact h2
  .have:=r3 y hy;lia
 .rcases AJ.mp hy with rfl|hy
  .exact hx x Mm _ AD
  rcases AJ.mp hy with rfl|hy
  .have:=hx x Mm A AD;lia
  .exact hx x Mm y (AK _ (AK _ hy))
theorem lP (h1:1<=p) (h2:p+1<ps.length):∃l a b c r,ps=l++a::b::c::r/\p=l.length+1/\ps.getD (p-1) zP=a/\ps.getD p zP=b/\ps.getD (p+1) zP=c/\ps.take p=l++[a]/\ps.drop (p+1)=c::r:=by
 obtain⟨i,rfl⟩:∃i,p=i+1:=⟨p-1,by lia⟩;have e0:ps.drop i=ps[i]::ps[i+1]::ps[i+2]::ps.drop (i+3):=by
  rw[As (by lia),As (by lia),As (by lia)]
 have e1:ps=ps.take i++ps[i]::ps[i+1]::ps[i+2]::ps.drop (i+3):=by rw[<-e0,Bp]
 refine⟨ps.take i,ps[i],ps[i+1],ps[i+2],ps.drop (i+3),e1,by rw[Ag];lia, ?_, ?_, ?_, ?_, ?_⟩
 .simp [List.getD,show i<ps.length by lia]
 .simp [List.getD,show i+1<ps.length by lia]
 .simp [List.getD,show i+1+1<ps.length by lia]
 .rw [AW,A3 (by lia)];rfl
 .rw [As (by lia)]
theorem wU (h:bw ps 1=some p):(1<=p/\p+1<ps.length)/\0<crn (ps.getD (p-1) zP) (ps.getD p zP) (ps.getD (p+1) zP):=by
 refine⟨jI h, ?_⟩;unfold bw at h;obtain⟨i,hi,rfl⟩:=A8.mp h;have:=List.find?_some hi;rw[AV] at this;show 0<crn (ps.getD i zP) (ps.getD (i+1) zP) (ps.getD (i+2) zP);lia
theorem wV {l:Rl Pt}{a b:Pt} (h:ay d (l++a::b::c::r)):ay d (l++a::c::r):=by
 have s:(l++a::c::r).Sublist (l++a::b::c::r):=List.Sublist.append_left (List.Sublist.cons₂ a (List.sublist_cons_self b _)) l;exact⟨λp hp=>h.1 p (s.subset hp),h.2.sublist (s.map lam)⟩
theorem wX {l:Rl Pt}{a b:Pt} (h:ay d (l++a::b::c::r)) (hf:bu d (aH a b c)=true):ay d (l++a::aH a b c::c::r):=by
 refine⟨λp hp=> ?_, ?_⟩
 .have:p∈l++a::b::c::r\/p=aH a b c:=by
   rcases B9.mp hp with hp|hp
   .exact .inl (Bt _ hp)
   rcases AJ.mp hp with hp|hp
   .exact .inl (Al _ (by rw[hp];exact AD))
   rcases AJ.mp hp with hp|hp
   .exact .inr hp
   .exact .inl (Al _ (AK _ (AK _ hp)))
  rcases this with hp|hp
  .exact h.1 p hp
  .rw [hp];exact hf
 .have h2:=h.2;rw[A7,AL,AL,AL] at h2⊢;obtain⟨_,hr,_⟩:=List.pairwise_append.mp h2;obtain⟨r1,hr⟩:=Ap.mp hr;obtain⟨r2,hr⟩:=Ap.mp hr;have e1:=r1 (lam b) AD;have e2:=r2 (lam c) AD;refine Jo h2 ?_ ?_
  .unfold lam aH at*;dsimp only at*;lia
  .unfold lam aH at*;dsimp only at*;lia
theorem jJ (h:ay d ps) {x:Pc×Rl Pt} (hx:x∈aW d ps 1):ay d x.2/\arF ps+1<=arF x.2/\x.2.length<=ps.length:=by
 unfold aW at hx;cases hT:bw ps 1 with
 |none=>rw[hT] at hx;exact nomatch hx
 |some p=>
  rw[hT] at hx;dsimp only at hx;obtain⟨⟨p1,p2⟩,hc⟩:=wU hT;obtain⟨l,a,b,c,r,e,ep,ga,gb,gc,et,ed⟩:=lP p1 p2;rw[ga,gb,gc,et,ed] at hx;rw[ga,gb,gc] at hc;have hl:=B' List.length e;rw[e] at h;rcases B9.mp hx with hx|hx
  .rw [AR.mp hx];have ea:l++[a]++c::r=l++a::c::r:=by simp
   dsimp only;rw[ea];refine⟨wV h, ?_, ?_⟩
   .have:=iA l a b c r;rw[e];lia
   .simp at hl⊢;lia
  .cases hP:bu d (aH a b c) with
   |false=>rw[hP] at hx;simp at hx
   |true=>
    rw[hP,A6 rfl] at hx;rw[AR.mp hx];have ea:l++[a]++[aH a b c]++c::r=l++a::aH a b c::c::r:=by simp
    dsimp only;rw[ea];refine⟨wX h hP, ?_, ?_⟩
    .have:=lO l a b c r;rw[e];lia
    .simp at hl⊢;lia
def abI (i:Int):Int:=if i<0 then -i else i
def pwF (c:Pc):Int:=if c.length=3 then abI (crn (c.getD 0 zP) (c.getD 1 zP) (c.getD 2 zP)) else 1
def wF (d:Nat):Nat->Rl Pt->Int
 |0,_=>0
 |n+1,ps=>if ps=upE d then 1 else((aW d ps 1).map λx=>pwF x.1*wF d n x.2).sum
theorem wY {d:Nat} (hd:d<=4):∀{n m:Nat}{ps:Rl Pt},ay d ps->33-arF ps<=n->33-arF ps<=m->wF d n ps=wF d m ps
 |0,m,ps,h,h1,h2=>by have:=iz hd h;lia
 |n+1,0,ps,h,h1,h2=>by have:=iz hd h;lia
 |n+1,m+1,ps,h,h1,h2=>by
  unfold wF;by_cases e:ps=upE d
  .rw [A6 e,A6 e]
  .rw [A5 e,A5 e];congr 1
   refine BA λx hx=> ?_;obtain⟨a,b,_⟩:=jJ h hx;rw[wY hd a (by lia) (by lia) (m:=m)]
theorem Jp (d n:Nat) (ps:Rl Pt):wF d (n+1) ps=if ps=upE d then 1 else((aW d ps 1).map λx=>pwF x.1*wF d n x.2).sum:=by rw[wF]
theorem Jq (hd:d<=4) (hn:33<=n) (hm:33<=m) (h:ay d ps):wF d (n+1) ps=if ps=upE d then 1 else((aW d ps 1).map λx=>pwF x.1*wF d m x.2).sum:=by
 rw[Jp];by_cases e:ps=upE d
 .rw [A6 e,A6 e]
 .rw [A5 e,A5 e];congr 1
  refine BA λx hx=> ?_;obtain⟨a,b,_⟩:=jJ h hx;have:=fK hd h;rw[wY hd a (n:=n) (m:=m) (by lia) (by lia)]
def iB:Nat:=40
def wW (d:Nat) (ps:Rl Pt):Int:=wF d iB ps
theorem wZ (hd:d<=4) (h:ay d ps):wW d ps=if ps=upE d then 1 else((aW d ps 1).map λx=>pwF x.1*wW d x.2).sum:=by
 obtain⟨n,hn⟩:∃n,iB=n+1:=⟨39,rfl⟩;have h33:33<=n:=by have:iB=40:=rfl;lia
 unfold wW;rw[hn];exact Jq hd h33 (by lia) h
section
variable {κ:Type} [DecidableEq κ]
def tK (R:Rl (κ×Int)):Rl (κ×V):=R.map λx=>(x.1,V.int x.2)
def dz:Rl (κ×Int)->κ->Int
 |[],_=>0
 |(a,b)::r,k=>if a=k then b else dz r k
def cm:Rl (κ×Int)->κ->Int->Rl (κ×Int)
 |[],k,v=>[(k,v)]
 |(a,b)::r,k,v=>if a=k then(a,v)::r else(a,b)::cm r k v
theorem w4 (R:Rl (κ×Int)):(tK R).length=R.length:=by unfold tK;rw[A1]
theorem gF (k:κ):∀R:Rl (κ×Int),aR (tK R) k=if k∈R.map (·.1) then some (.int (dz R k)) else none
 |[]=>rfl
 |(a,b)::r=>by
  have ih:=gF k r;show aR ((a,V.int b)::tK r) k=_;by_cases e:a=k
  .subst e;rw[cC rfl];simp[dz]
  .rw [cO e,ih];have:¬k=a:=λz=>e z.symm;show _=if k∈a::r.map (·.1) then some (V.int (if a=k then b else dz r k)) else none
   rw[A5 e];by_cases h:k∈r.map (·.1)
   .rw [A6 h,A6 (AK _ h)]
   .rw [A5 h,A5 λz=>(AJ.mp z).elim this h]
theorem qk (k:κ) (v:Int):∀R:Rl (κ×Int),(cm R k v).map (·.1)=if k∈R.map (·.1) then R.map (·.1) else R.map (·.1)++[k]
 |[]=>by simp[cm]
 |(a,b)::r=>by
  have ih:=qk k v r;unfold cm;by_cases e:a=k
  .subst e;simp
  .rw [A5 e,AL,ih];have:¬k=a:=λz=>e z.symm;show _=if k∈a::r.map (·.1) then a::r.map (·.1) else a::r.map (·.1)++[k]
   by_cases h:k∈r.map (·.1)
   .rw [A6 h,A6 (AK _ h)]
   .rw [A5 h,A5 λz=>(AJ.mp z).elim this h];rfl
theorem w6 {k:κ}{v:Int}{R:Rl (κ×Int)} (h:(R.map (·.1)).Nodup):((cm R k v).map (·.1)).Nodup:=by
 rw[qk];by_cases e:k∈R.map (·.1)
 .rw [A6 e];exact h
 .rw [A5 e];refine List.nodup_append.mpr ⟨h,by simp,λa ha b hb z=> ?_⟩;rw[AR.mp hb] at z;exact e (z▸ha)
theorem ql {k:κ}{v:Int}:∀{R:Rl (κ×Int)}{x:κ×Int},x∈cm R k v->x∈R\/x=(k,v)
 |[],x,h=> .inr (AR.mp h)
 |(a,b)::r,x,h=>by
  unfold cm at h;by_cases e:a=k
  .rw [A6 e] at h;rcases AJ.mp h with h|h
   .exact .inr (by rw[h,e])
   .exact .inl (AK _ h)
  .rw [A5 e] at h;rcases AJ.mp h with h|h
   .exact .inl (by rw[h];exact AD)
   .exact(ql h).imp (AK _) id
theorem qm {k:κ}{v:Int}:∀{R:Rl (κ×Int)},(R.map (·.1)).Nodup->aZ (tK R) k (.int v)=tK (cm R k v)
 |[],_=>rfl
 |(a,b)::r,nd=>by
  rw[AL,Be] at nd;have ih:=qm (k:=k) (v:=v) nd.2;unfold aZ at ih⊢;show(if(((a,V.int b)::tK r).any λkv=>decide (kv.1=k))=true then _ else _)=_;rw[List.any_cons];by_cases e:a=k
  .subst e;rw[Ar rfl,Bool.true_or,A6 rfl];unfold cm;rw[A6 rfl];show((a,V.int b)::tK r).map _=(a,V.int v)::tK r;rw[AL,A6 rfl];congr 1
   conv=>rhs;rw[<-List.map_id (tK r)]
   refine BA λx hx=> ?_;obtain⟨y,hy,rfl⟩:=Ac.mp hx;rw[A5 λz=>nd.1 (Ac.mpr ⟨y,hy,z⟩)];rfl
  .rw [Aj e,Bool.false_or];unfold cm;rw[A5 e];show _=(a,V.int b)::tK (cm r k v);rw[<-ih];by_cases c:((tK r).any λkv=>decide (kv.1=k))=true
   .rw [A6 c,A6 c];show((a,V.int b)::tK r).map _=_;rw[AL,A5 e]
   .rw [A5 c,A5 c];rfl
end
theorem lQ {α:Type} [DecidableEq α]:∀{l L:Rl α},l.Nodup->(∀x∈l,x∈L)->l.length<=L.length
 |[],L,_,_=>AO _
 |x::r,L,nd,h=>by
  rw[Be] at nd;have hx:x∈L:=h x AD;have:=lQ (L:=L.erase x) nd.2 λy hy=>(List.mem_erase_of_ne λe:y=x=>nd.1 (e▸hy)).mpr (h y (AK _ hy));rw[List.length_erase_of_mem hx] at this;have:=List.length_pos_of_mem hx;rw[Ad];lia
def gG:Rl Pt->Rl (Rl Pt)
 |[]=>[[]]
 |x::r=>gG r++(gG r).map (x:: ·)
theorem w8:∀r:Rl Pt,(gG r).length=2^r.length
 |[]=>rfl
 |x::r=>by
  unfold gG;rw[AE,A1,w8 r,Ad,Cz];lia
theorem lR:∀{row ps:Rl Pt},(row.map lam).Pairwise (· < ·)->(ps.map lam).Pairwise (· < ·)->(∀p∈ps,p∈row)->ps∈gG row
 |[],[],_,_,_=>AR.mpr rfl
 |[],p::r,_,_,h=>absurd (h p AD) (by simp)
 |x::row,ps,h1,h2,h3=>by
  rw[AL] at h1;obtain⟨hx,h1⟩:=Ap.mp h1;unfold gG;cases ps with
  |nil=>exact Bt _ (lR h1 h2 λp hp=>nomatch hp)
  |cons p r=>
   rw[AL] at h2;obtain⟨hp,h2⟩:=Ap.mp h2;have far:∀q∈r,q∈row:=λq hq=>by
    rcases AJ.mp (h3 q (AK _ hq)) with e|e
    .exfalso;have a1:=hp (lam q) (Ac.mpr ⟨q,hq,rfl⟩);rcases AJ.mp (h3 p AD) with e2|e2
     .rw [e,e2] at a1;lia
     .have:=hx (lam p) (Ac.mpr ⟨p,e2,rfl⟩);rw[e] at a1;lia
    .exact e
   rcases AJ.mp (h3 p AD) with e|e
   .rw [e];exact Al _ (Ac.mpr ⟨r,lR h1 h2 far,rfl⟩)
   .refine Bt _ (lR h1 (by rw[AL];exact Ap.mpr ⟨hp,h2⟩) λq hq=> ?_);rcases AJ.mp hq with rfl|hq
    .exact e
    .exact far q hq
def ptB:Bool:=(List.range 5).all λd=>((bv d).map lam).Pairwise (· < ·)&&decide ((bv d).length<=15)&&(bv d).all (bu d)&&(List.range 5).all λx=>(List.range 5).all λy=> !decide (x+y<=d)||(bv d).contains ((x:Int),(y:Int))
theorem Jr:ptB=true:=by ac_nf
theorem w9 (hd:d<=4):ay d (bv d)/\(bv d).length<=15/\∀p,bu d p=true->p∈bv d:=by
 have h:=Jr;unfold ptB at h;rw[AT] at h;have h:=h d (AX.mpr (by lia));simp only[AA,AV,AT] at h;obtain⟨⟨⟨h1,h2⟩,h3⟩,h4⟩:=h;refine⟨⟨h3,h1⟩,h2,λp hp=> ?_⟩;obtain⟨p1,p2,p3⟩:=cj.mp hp;have h4:=h4 p.1.toNat (AX.mpr (by lia)) p.2.toNat (AX.mpr (by lia));rw[CA,Bool.not_eq_true',decide_eq_false_iff_not] at h4;have h4:=h4.resolve_left (by lia);rw[List.contains_iff_mem] at h4;have e:((p.1.toNat:Int),(p.2.toNat:Int))=p:=Prod.ext (show((p.1.toNat:Int))=p.1 by lia) (show((p.2.toNat:Int))=p.2 by lia)
 rwa [e] at h4
theorem xa (hd:d<=4) (nd:(R.map (·.1)).Nodup) (h:∀x∈R,∃ps,ay d ps/\x.1=wk ps):R.length<=32768:=by
 obtain⟨h1,h2,h3⟩:=w9 hd;have e:(R.map (·.1)).length<=((gG (bv d)).map wk).length:=lQ nd λk hk=>by
  obtain⟨x,hx,rfl⟩:=Ac.mp hk;obtain⟨ps,ok,e⟩:=h x hx;rw[e];exact Ac.mpr ⟨ps,lR h1.2 ok.2 λp hp=>h3 p (ok.1 p hp),rfl⟩
 rw[A1,A1,w8] at e;have:2^(bv d).length<=2^15:=Bs (by decide) h2;lia
theorem Js (hd:d<=4) (h:ay d ps):ps.length<=15:=by
 obtain⟨h1,h2,h3⟩:=w9 hd;have nd:ps.Nodup:=List.Pairwise.of_map lam (λa b Nr e=>by rw[e] at Nr;lia) h.2;have:=lQ nd λp hp=>h3 p (h.1 p hp);lia
theorem xb (hd:d<=4) (h:ay d ps):psB ps=true:=by
 unfold psB inB;simp only[AA,AV,AT];refine⟨λp hp=> ?_,by have:=Js hd h;lia⟩;have:=cj.mp (h.1 p hp);lia
def upB:Bool:=(List.range 5).all λd=>decide (((upE d).map lam).Pairwise (· < ·))&&(upE d).all (bu d)&&decide (bw (upE d) 1=none)
theorem Jt:upB=true:=by ac_nf
theorem jK (hd:d<=4):ay d (upE d)/\bw (upE d) 1=none:=by
 have h:=Jt;unfold upB at h;rw[AT] at h;have h:=h d (AX.mpr (by lia));simp only[AA,AV,AT] at h;exact⟨⟨h.1.2,h.1.1⟩,h.2⟩
theorem xc {d:Nat} (hd:d<=4):∀{r:Rl Pt}{p:Pt},ay d (p::r)->arF (p::r)<=((d:Int)-p.1)*((d:Int)-p.1)
 |[],p,h=>by
  show(0:Int)<=_;have h1:=cj.mp (h.1 p AD);exact Bm (by lia) (by lia)
 |q::r,p,h=>by
  have h1:=cj.mp (h.1 p AD);have h2:=cj.mp (h.1 q (AK _ AD));have h3:=qi hd h;have ih:=xc hd (qh h);have e:(q.1-p.1)*(p.2+q.2)<=(q.1-p.1)*(((d:Int)-p.1)+((d:Int)-q.1)):=CL (by lia) (by lia);have sq:∀u v:Int,u*u=(u-v)*(u+v)+v*v:=λu v=>by
   rw[Int.sub_mul,DI,DI,BN v u];lia
  have e2:=sq ((d:Int)-p.1) ((d:Int)-q.1);rw[show(d:Int)-p.1-((d:Int)-q.1)=q.1-p.1 by lia] at e2;show(q.1-p.1)*(p.2+q.2)+arF (q::r)<=_;lia
theorem Ju (hd:d<=4) (h:ay d ps):arF ps<=16:=by
 cases ps with
 |nil=>show(0:Int)<=16;lia
 |cons p r=>
  have h1:=cj.mp (h.1 p AD);have h2:=xc hd h;have h3:((d:Int)-p.1)*((d:Int)-p.1)<=4*4:=Ca (by lia) (by lia) (by lia) (by lia);lia
theorem xf (h:bw ps (-1)=some p):(1<=p/\p+1<ps.length)/\crn (ps.getD (p-1) zP) (ps.getD p zP) (ps.getD (p+1) zP)<0:=by
 refine⟨jI h, ?_⟩;unfold bw at h;obtain⟨i,hi,rfl⟩:=A8.mp h;have:=List.find?_some hi;rw[AV] at this;show crn (ps.getD i zP) (ps.getD (i+1) zP) (ps.getD (i+2) zP)<0;lia
theorem jL (h:ay d ps) {x:Pc×Rl Pt} (hx:x∈aW d ps (-1)):ay d x.2/\arF x.2+1<=arF ps/\x.2.length<=ps.length:=by
 unfold aW at hx;cases hT:bw ps (-1) with
 |none=>rw[hT] at hx;exact nomatch hx
 |some p=>
  rw[hT] at hx;dsimp only at hx;obtain⟨⟨p1,p2⟩,hc⟩:=xf hT;obtain⟨l,a,b,c,r,e,ep,ga,gb,gc,et,ed⟩:=lP p1 p2;rw[ga,gb,gc,et,ed] at hx;rw[ga,gb,gc] at hc;have hl:=B' List.length e;rw[e] at h;rcases B9.mp hx with hx|hx
  .rw [AR.mp hx];have ea:l++[a]++c::r=l++a::c::r:=by simp
   dsimp only;rw[ea];refine⟨wV h, ?_, ?_⟩
   .have:=iA l a b c r;rw[e];lia
   .simp at hl⊢;lia
  .cases hP:bu d (aH a b c) with
   |false=>rw[hP] at hx;simp at hx
   |true=>
    rw[hP,A6 rfl] at hx;rw[AR.mp hx];have ea:l++[a]++[aH a b c]++c::r=l++a::aH a b c::c::r:=by simp
    dsimp only;rw[ea];refine⟨wX h hP, ?_, ?_⟩
    .have:=lO l a b c r;rw[e];lia
    .simp at hl⊢;lia
def vF (d:Nat):Nat->Rl Pt->Int
 |0,_=>0
 |n+1,ps=>if ps=loE d then 1 else((aW d ps (-1)).map λx=>pwF x.1*vF d n x.2).sum
theorem xg {d:Nat} (hd:d<=4):∀{n m:Nat}{ps:Rl Pt},ay d ps->arF ps+1<=n->arF ps+1<=m->vF d n ps=vF d m ps
 |0,m,ps,h,h1,h2=>by have:=fK hd h;lia
 |n+1,0,ps,h,h1,h2=>by have:=fK hd h;lia
 |n+1,m+1,ps,h,h1,h2=>by
  unfold vF;by_cases e:ps=loE d
  .rw [A6 e,A6 e]
  .rw [A5 e,A5 e];congr 1
   refine BA λx hx=> ?_;obtain⟨a,b,_⟩:=jL h hx;rw[xg hd a (by lia) (by lia) (m:=m)]
theorem Jv (d n:Nat) (ps:Rl Pt):vF d (n+1) ps=if ps=loE d then 1 else((aW d ps (-1)).map λx=>pwF x.1*vF d n x.2).sum:=by rw[vF]
theorem Jw (hd:d<=4) (hn:33<=n) (hm:33<=m) (h:ay d ps):vF d (n+1) ps=if ps=loE d then 1 else((aW d ps (-1)).map λx=>pwF x.1*vF d m x.2).sum:=by
 rw[Jv];by_cases e:ps=loE d
 .rw [A6 e,A6 e]
 .rw [A5 e,A5 e];congr 1
  refine BA λx hx=> ?_;obtain⟨a,b,_⟩:=jL h hx;have:=Ju hd h;rw[xg hd a (n:=n) (m:=m) (by lia) (by lia)]
def vW (d:Nat) (ps:Rl Pt):Int:=vF d iB ps
theorem xh (hd:d<=4) (h:ay d ps):vW d ps=if ps=loE d then 1 else((aW d ps (-1)).map λx=>pwF x.1*vW d x.2).sum:=by
 obtain⟨n,hn⟩:∃n,iB=n+1:=⟨39,rfl⟩;have h33:33<=n:=by have:iB=40:=rfl;lia
 unfold vW;rw[hn];exact Jw hd h33 (by lia) h
def loB:Bool:=(List.range 5).all λd=>decide (((loE d).map lam).Pairwise (· < ·))&&(loE d).all (bu d)&&decide (bw (loE d) (-1)=none)
theorem Jx:loB=true:=by ac_nf
theorem jM (hd:d<=4):ay d (loE d)/\bw (loE d) (-1)=none:=by
 have h:=Jx;unfold loB at h;rw[AT] at h;have h:=h d (AX.mpr (by lia));simp only[AA,AV,AT] at h;exact⟨⟨h.1.2,h.1.1⟩,h.2⟩
structure Side (d:Nat) (sg:Int) (e0:Rl Pt) (Wq mu:Rl Pt->Int):Prop where
 sd:sg=1\/sg= -1
 eq:∀ps,ay d ps->Wq ps=if ps=e0 then 1 else((aW d ps sg).map λx=>pwF x.1*Wq x.2).sum
 st:∀ps x,ay d ps->x∈aW d ps sg->ay d x.2/\mu x.2+1<=mu ps
 lo:∀ps,ay d ps->0<=mu ps/\mu ps<=32
 eok:ay d e0
 en:bw e0 sg=none
theorem qo (hd:d<=4):Side d 1 (upE d) (wW d) (λps=>32-arF ps) where
 sd:= .inl rfl
 eq:=λps h=>wZ hd h
 st:=λps x h hx=>⟨(jJ h hx).1,by have:=(jJ h hx).2.1;lia⟩
 lo:=λps h=>by have:=iz hd h;have:=fK hd h;lia
 eok:=(jK hd).1
 en:=(jK hd).2
theorem qp (hd:d<=4):Side d (-1) (loE d) (vW d) arF where
 sd:= .inr rfl
 eq:=λps h=>xh hd h
 st:=λps x h hx=>⟨(jL h hx).1,(jL h hx).2.1⟩
 lo:=λps h=>by have:=iz hd h;have:=fK hd h;lia
 eok:=(jM hd).1
 en:=(jM hd).2
theorem Side.way {mu:Rl Pt->Int} (S:Side d sg e0 Wq mu) (ok:ay d qs) (hT:bw qs sg=some p):Wq qs=abI (crn (qs.getD (p-1) zP) (qs.getD p zP) (qs.getD (p+1) zP))*Wq (qs.take p++qs.drop (p+1))+if bu d (aH (qs.getD (p-1) zP) (qs.getD p zP) (qs.getD (p+1) zP))=true then Wq (qs.take p++[aH (qs.getD (p-1) zP) (qs.getD p zP) (qs.getD (p+1) zP)]++qs.drop (p+1)) else 0:=by
 have MF:qs≠e0:=λe=>by rw[e,S.en] at hT;cases hT
 rw[S.eq _ ok,A5 MF];unfold aW;rw[hT];dsimp only;by_cases c:bu d (aH (qs.getD (p-1) zP) (qs.getD p zP) (qs.getD (p+1) zP))=true
 .rw [A6 c,A6 c];simp[pwF]
 .rw [A5 c,A5 c];simp[pwF]
theorem Side.none {d:Nat}{sg:Int}{e0:Rl Pt}{Wq mu:Rl Pt->Int} (S:Side d sg e0 Wq mu) {qs:Rl Pt} (ok:ay d qs) (hT:bw qs sg=none):Wq qs=if qs=e0 then 1 else 0:=by
 rw[S.eq _ ok];unfold aW;rw[hT];rfl
theorem Side.step {mu:Rl Pt->Int} (S:Side d sg e0 Wq mu) (ok:ay d qs) (hT:bw qs sg=some p):(ay d (qs.take p++qs.drop (p+1))/\mu (qs.take p++qs.drop (p+1))+1<=mu qs)/\(bu d (aH (qs.getD (p-1) zP) (qs.getD p zP) (qs.getD (p+1) zP))=true->ay d (qs.take p++[aH (qs.getD (p-1) zP) (qs.getD p zP) (qs.getD (p+1) zP)]++qs.drop (p+1))/\mu (qs.take p++[aH (qs.getD (p-1) zP) (qs.getD p zP) (qs.getD (p+1) zP)]++qs.drop (p+1))+1<=mu qs):=by
 have e:aW d qs sg=[([qs.getD (p-1) zP,qs.getD p zP,qs.getD (p+1) zP],qs.take p++qs.drop (p+1))]++if bu d (aH (qs.getD (p-1) zP) (qs.getD p zP) (qs.getD (p+1) zP))=true then [([qs.getD (p-1) zP,qs.getD p zP,qs.getD (p+1) zP,aH (qs.getD (p-1) zP) (qs.getD p zP) (qs.getD (p+1) zP)],qs.take p++[aH (qs.getD (p-1) zP) (qs.getD p zP) (qs.getD (p+1) zP)]++qs.drop (p+1))] else []:=by
  unfold aW;rw[hT]
 refine⟨?_,λc=> ?_⟩
 .exact S.st qs ([qs.getD (p-1) zP,qs.getD p zP,qs.getD (p+1) zP],qs.take p++qs.drop (p+1)) ok (by rw[e];exact Bt _ AD)
 .exact S.st qs ([qs.getD (p-1) zP,qs.getD p zP,qs.getD (p+1) zP,aH (qs.getD (p-1) zP) (qs.getD p zP) (qs.getD (p+1) zP)],qs.take p++[aH (qs.getD (p-1) zP) (qs.getD p zP) (qs.getD (p+1) zP)]++qs.drop (p+1)) ok (by rw[e,A6 c];exact Al _ AD)
theorem Jy (hd:d<=4) {a b:Pt} (ha:bu d a=true) (hb:bu d b=true) (hc:bu d c=true):(crn a b c).natAbs<=32:=by
 have h1:=cj.mp ha;have h2:=cj.mp hb;have h3:=cj.mp hc;have m:∀x y:Int,-4<=x->x<=4->-4<=y->y<=4->(x*y).natAbs<=16:=λx y a1 a2 b1 b2=>by
  rw[Int.natAbs_mul];exact D0 (show x.natAbs<=4 by lia) (show y.natAbs<=4 by lia)
 have m1:=m (b.1-a.1) (c.2-b.2) (by lia) (by lia) (by lia) (by lia);have m2:=m (b.2-a.2) (c.1-b.1) (by lia) (by lia) (by lia) (by lia);unfold crn;clear h1 h2 h3 m ha hb hc hd;lia
theorem Side.big {d:Nat} (hd:d<=4) {sg:Int}{e0:Rl Pt}{Wq mu:Rl Pt->Int} (S:Side d sg e0 Wq mu):∀(n:Nat) {ps:Rl Pt},ay d ps->mu ps<n->(Wq ps).natAbs<=64^n
 |0,ps,h,hn=>by have:=(S.lo ps h).1;lia
 |n+1,ps,h,hn=>by
  have one:0<64^n:=Nat.pow_pos (by decide);rw[Cz];cases hT:bw ps sg with
  |none=>
   rw[S.none h hT];split<;>(show _<=_)<;>simp<;>lia
  |some p=>
   obtain⟨⟨l1,l2⟩,mm⟩:=S.step h hT;obtain⟨p1,p2⟩:=jI hT;have ih1:=S.big hd n l1 (by lia);have c32:=Jy hd (h.1 _ (dN (ps:=ps) (j:=p-1) (by lia))) (h.1 _ (dN (ps:=ps) (j:=p) (by lia))) (h.1 _ (dN (ps:=ps) (j:=p+1) (by lia)));rw[S.way h hT];have a32:(abI (crn (ps.getD (p-1) zP) (ps.getD p zP) (ps.getD (p+1) zP))).natAbs<=32:=by unfold abI;split<;>lia
   have e1:(abI (crn (ps.getD (p-1) zP) (ps.getD p zP) (ps.getD (p+1) zP))*Wq (ps.take p++ps.drop (p+1))).natAbs<=32*64^n:=by
    rw[Int.natAbs_mul];exact D0 a32 ih1
   by_cases c:bu d (aH (ps.getD (p-1) zP) (ps.getD p zP) (ps.getD (p+1) zP))=true
   .rw [A6 c];have ih2:=S.big hd n (mm c).1 (by have:=(mm c).2;lia);have:=Int.natAbs_add_le (abI (crn (ps.getD (p-1) zP) (ps.getD p zP) (ps.getD (p+1) zP))*Wq (ps.take p++ps.drop (p+1))) (Wq (ps.take p++[aH (ps.getD (p-1) zP) (ps.getD p zP) (ps.getD (p+1) zP)]++ps.drop (p+1)));lia
   .rw [A5 c,Int.add_zero];lia
theorem Side.bits (hd:d<=4) {mu:Rl Pt->Int} (S:Side d sg e0 Wq mu) (h:ay d ps):(Wq ps).natAbs<2^512:=by
 have h1:=S.big hd 33 h (by have:=(S.lo ps h).2;lia);have h2:(64:Nat)^33<2^512:=by
  have e:(64:Nat)^33=2^198:=by decide
  rw[e];exact Nat.pow_lt_pow_right (by decide) (by decide)
 lia
def qq (d:Nat) (w:Rl Pt):Bool:=w.all (bu d)&&decide ((w.map lam).Pairwise (· < ·))
theorem Jz {w:Rl Pt} (h:qq d w=true):ay d w:=by
 unfold qq at h;simp only[AA,AV,AT] at h;exact h
def eI (d:Nat) (L:Rl (Rl Pt)):Int:=(L.map λw=>wW d w*vW d w).sum
def Tr (Mk:Int) (ns:Rl Int) (lo:Int) (zs:Rl Int):Prop:=
 (zs=[]/\lo=0/\∀z∈ns,z=0)\/∃a b:Nat,ns=List.replicate a 0++zs++List.replicate b 0/\lo=Mk+a/\zs.head? ≠some 0/\zs.getLast? ≠some 0/\zs≠[]
theorem xk {a a':Nat}(h:List.replicate a (0:Int)++xs=List.replicate a' 0++ys) (hx:xs.head? ≠some 0) (hxn:xs≠[]) (hy:ys.head? ≠some 0) (hyn:ys≠[]):a=a'/\xs=ys:=by
 induction a generalizing a' with
 |zero=>
  cases a' with
  |zero=>exact⟨rfl,by simpa using h⟩
  |succ n=>
   rw[At] at h;simp only[List.replicate_zero,List.nil_append,Cg] at h;subst h;simp at hx
 |succ m ih=>
  cases a' with
  |zero=>
   rw[At] at h;simp only[List.replicate_zero,List.nil_append,Cg] at h;subst h;simp at hy
  |succ n=>
   rw[At,At] at h;simp only[Cg,C',true_and] at h;obtain⟨e,f⟩:=ih h;exact⟨by lia,f⟩
theorem JA {b b':Nat}(h:xs++List.replicate b (0:Int)=ys++List.replicate b' 0) (hx:xs.getLast? ≠some 0) (hxn:xs≠[]) (hy:ys.getLast? ≠some 0) (hyn:ys≠[]):xs=ys:=by
 have h':=B' List.reverse h;simp only[List.reverse_append,List.reverse_replicate] at h';have:=(xk h' (by simpa using hx) (by simpa using hxn) (by simpa using hy) (by simpa using hyn)).2;exact List.reverse_inj.mp this
theorem Tr.unique (h:Tr Mk ns lo zs) (h':Tr Mk ns Ny N5):lo=Ny/\zs=N5:=by
 have key:∀{lo:Int}{zs:Rl Int},(∃a b:Nat,ns=List.replicate a 0++zs++List.replicate b 0/\lo=Mk+a/\zs.head? ≠some 0/\zs.getLast? ≠some 0/\zs≠[])->¬∀z∈ns,z=0:=by
  rintro lo zs ⟨a,b,e,-,h1,-,h2⟩ hz;cases zs with
  |nil=>exact h2 rfl
  |cons z r=>
   have:z=0:=hz z (by rw[e];simp);subst this;simp at h1
 rcases h with⟨e1,e2,e3⟩|h
 .rcases h' with⟨f1,f2,f3⟩|h'
  .exact⟨by lia,by rw[e1,f1]⟩
  .exact absurd e3 (key h')
 .rcases h' with⟨f1,f2,f3⟩|h'
  .exact absurd f3 (key h)
  .obtain⟨a,b,e,e2,e3,e4,e5⟩:=h;obtain⟨a',b',f,f2,f3,f4,f5⟩:=h';rw[e,BG,BG] at f;have hh:∀{zs:Rl Int}{b:Nat},zs.head? ≠some 0->zs≠[]->(zs++List.replicate b (0:Int)).head? ≠some 0:=fun{zs b} h1 h2=>by
    cases zs with
    |nil=>exact absurd rfl h2
    |cons z r=>simpa using h1
   obtain⟨ea,eb⟩:=xk f (hh e3 e5) (by simp[e5]) (hh f3 f5) (by simp[f5]);exact⟨by rw[e2,f2,ea],JA eb e4 e5 f4 f5⟩
theorem Tr.self (h1:zs.head? ≠some 0) (h2:zs.getLast? ≠some 0) (h3:zs≠[]):Tr Mk zs Mk zs:= .inr ⟨0,0,by simp,by simp,h1,h2,h3⟩
theorem Tr.ends (h:Tr Mk ns lo zs):(zs=[]/\lo=0)\/(zs.head? ≠some 0/\zs.getLast? ≠some 0/\zs≠[]):=by
 rcases h with⟨e1,e2,e3⟩|⟨a,b,e,-,h1,h2,h3⟩
 .exact .inl ⟨e1,e2⟩
 .exact .inr ⟨h1,h2,h3⟩
def Ma (ns:Rl Int) (n:Nat):Rl Nat:=(List.range n).filter λk=>decide (ns.getD k 0≠0)
theorem xm {b:Nat} (h:ns=ks++List.replicate b 0) (hl:ks.getLast? ≠some 0) (hi:i<ks.length) (ht:ks.take i=List.replicate i 0) (hx:ks.getD i 0≠0):Tr Mk ns (Mk+i) (ks.drop i):=by
 refine .inr ⟨i,b, ?_,rfl, ?_, ?_, ?_⟩
 .rw [h,<-ht,Bp]
 .rw [List.head?_drop];intro z;exact hx (by rw[List.getD,z];rfl)
 .rw [List.getLast?_drop,A5 (by lia)];exact hl
 .intro z;have:=B' List.length z;simp at this;lia
theorem JB (hi:i<ks.length) (ht:ks.take i=List.replicate i 0) (hx:ks.getD i 0=0):ks.take (i+1)=List.replicate (i+1) 0:=by
 have e:ks[i]=0:=by simpa[List.getD,hi] using hx
 rw[AW,ht,A3 hi,e,List.replicate_succ'];rfl
theorem JC (hi:i<ks.length) (hl:ks.getLast? ≠some 0) (hx:ks.getD i 0=0):i+1<ks.length:=by
 by_cases h:i+1<ks.length
 .exact h
 .exfalso;refine hl ?_;rw[List.getLast?_eq_getElem?,show ks.length-1=i by lia,A3 hi];simpa[List.getD,hi] using hx
theorem JD {cs:Rl Int}{b:Nat}{z:Int} (h:ns=cs++[z]++List.replicate b 0) (hz:z=0):ns=cs++List.replicate (b+1) 0:=by
 rw[h,hz,At];simp
def bd:Rl Int->Nat->Rl Int->Rl Int
 |[],_,_=>[]
 |t::ts,p+1,zs=>t::bd ts p zs
 |t::ts,0,[]=>t::ts
 |t::ts,0,z::zs=>(t+z)::bd ts 0 zs
theorem eJ:∀(ts:Rl Int) (p:Nat) (zs:Rl Int),(bd ts p zs).length=ts.length
 |[],_,_=>rfl
 |t::ts,p+1,zs=>by simp[bd,eJ ts p zs]
 |t::ts,0,[]=>rfl
 |t::ts,0,z::zs=>by simp[bd,eJ ts 0 zs]
theorem qr:∀(ts:Rl Int) (p:Nat),bd ts p []=ts
 |[],_=>rfl
 |t::ts,p+1=>by simp[bd,qr ts p]
 |t::ts,0=>rfl
theorem lS:∀(ts:Rl Int) (p:Nat) (ws:Rl Int) (z:Int),p+ws.length<ts.length->(bd ts p ws).set (p+ws.length) ((bd ts p ws).getD (p+ws.length) 0+z)=bd ts p (ws++[z])
 |[],_,_,_,h=>by simp at h
 |t::ts,p+1,ws,z,h=>by
  have:=lS ts p ws z (by simp at h;lia);rw[show p+1+ws.length=p+ws.length+1 by lia];simp only[bd,List.set_cons_succ,DU];rw[this]
 |t::ts,0,[],z,h=>by
  cases ts<;>simp[bd]
 |t::ts,0,w::ws,z,h=>by
  have:=lS ts 0 ws z (by simp at h⊢;lia);rw[Nat.zero_add] at this;simp only[bd,Ad,Nat.zero_add,List.set_cons_succ,DU,Cg];rw[this]
def cv (xs ys:Rl Int):Nat->Rl Int
 |0=>List.replicate (xs.length+ys.length) 0
 |i+1=>bd (cv xs ys i) i (ys.map (xs.getD i 0* ·))
theorem lT (xs ys:Rl Int):∀i,(cv xs ys i).length=xs.length+ys.length
 |0=>by simp[cv]
 |i+1=>by rw[cv,eJ,lT xs ys i]
def dO (xs ys:Rl Int):Rl Int:=bd (bd (List.replicate (max xs.length ys.length) 0) 0 xs) 0 ys
def dA (Mk:Int) (ns:Rl Int):Int×Rl Int:=
 let ks:=(ns.reverse.dropWhile (· ==0)).reverse
 let a:=(ks.takeWhile (· ==0)).length
 if ks.isEmpty then(0,[]) else(Mk+a,ks.drop a)
def aP (x y:Int×Rl Int):Int×Rl Int:=
 if x.2.isEmpty then dA y.1 y.2 else if y.2.isEmpty then dA x.1 x.2 else
  let Mk:=if y.1<x.1 then y.1 else x.1
  dA Mk (dO (List.replicate (x.1-Mk).toNat 0++x.2) (List.replicate (y.1-Mk).toNat 0++y.2))
def bE (x y:Int×Rl Int):Int×Rl Int:=dA (x.1+y.1) (cv x.2 y.2 x.2.length)
theorem qt {p:Int->Bool}:∀{l:Rl Int}{x:Int},(l.dropWhile p).head? =some x->p x=false
 |[],_,h=>by simp at h
 |y::l,x,h=>by
  rw[List.dropWhile_cons] at h;by_cases hp:p y=true
  .rw [A6 hp] at h;exact qt h
  .rw [A5 hp] at h;simp at h;subst h;simpa using hp
theorem xn:∀(l:Rl Int),l.takeWhile (· ==0)=List.replicate (l.takeWhile (· ==0)).length 0:=λl=>by
 refine List.eq_replicate_iff.mpr ⟨rfl,λb hb=> ?_⟩;induction l with
 |nil=>simp at hb
 |cons y l ih=>
  rw[List.takeWhile_cons] at hb;by_cases hp:(y==0)=true
  .rw [A6 hp] at hb;rcases AJ.mp hb with e|e
   .rw [e];exact D8.mp hp
   .exact ih e
  .rw [A5 hp] at hb;simp at hb
theorem JE (l:Rl Int):l.drop (l.takeWhile (· ==0)).length=l.dropWhile (· ==0):=by
 induction l with
 |nil=>rfl
 |cons y l ih=>
  rw[List.takeWhile_cons,List.dropWhile_cons];by_cases hp:(y==0)=true
  .rw [A6 hp,A6 hp];exact ih
  .rw [A5 hp,A5 hp];rfl
theorem JF (l:Rl Int):l.take (l.takeWhile (· ==0)).length=l.takeWhile (· ==0):=by
 induction l with
 |nil=>rfl
 |cons y l ih=>
  rw[List.takeWhile_cons];by_cases hp:(y==0)=true
  .rw [A6 hp];simp[ih]
  .rw [A5 hp];rfl
theorem jN (Mk:Int) (ns:Rl Int):Tr Mk ns (dA Mk ns).1 (dA Mk ns).2:=by
 have hb:ns=(ns.reverse.dropWhile (· ==0)).reverse++List.replicate (ns.reverse.takeWhile (· ==0)).length 0:=by
  have e:=B' List.reverse (List.takeWhile_append_dropWhile (p:=(· ==(0:Int))) (l:=ns.reverse));rw[List.reverse_append,List.reverse_reverse,xn ns.reverse,List.reverse_replicate] at e;exact e.symm
 have hd:∀x,(ns.reverse.dropWhile (· ==0)).head? =some x->(x==0)=false:=λx h=>qt (p:=λx=>x==0) h;unfold dA;dsimp only;generalize (ns.reverse.dropWhile (· ==0))=ds at hb hd⊢;generalize (ns.reverse.takeWhile (· ==0)).length=b at hb;by_cases hk:ds.reverse.isEmpty=true
 .rw [A6 hk];rw[List.isEmpty_iff.mp hk] at hb;refine .inl ⟨rfl,rfl,λz hz=> ?_⟩;rw[hb] at hz;exact List.eq_of_mem_replicate (by simpa using hz)
 .rw [A5 hk];have hl:ds.reverse.getLast? ≠some 0:=λz=>by
   rw[List.getLast?_reverse] at z;have:=hd 0 z;simp at this
  have hn:ds.reverse≠[]:=λz=>hk (by rw[z];rfl);generalize ds.reverse=ks at hb hl hn⊢;have hle:(ks.takeWhile (· ==0)).length<=ks.length:=(List.takeWhile_prefix (· ==0)).length_le;have ht:ks.take (ks.takeWhile (· ==0)).length=List.replicate (ks.takeWhile (· ==0)).length 0:=by rw[JF];exact xn ks
  have hi:(ks.takeWhile (· ==0)).length<ks.length:=by
   rcases Bd (ks.takeWhile (· ==0)).length ks.length with h|h
   .exact h
   .exfalso;rw[C2 h] at ht;refine hl ?_;rw[ht,List.getLast?_replicate,A5];intro z;rw[z] at ht;exact hn ht
  refine xm hb hl hi ht ?_;intro z;have e:(ks.dropWhile (· ==0)).head? =some 0:=by
   rw[<-JE,List.head?_drop,A3 hi];simpa[List.getD,hi] using z
  have:=qt (p:=λx=>x==0) e;simp at this
theorem Tr.toC (h:Tr Mk ns lo zs):(lo,zs)=dA Mk ns:=by
 obtain⟨e1,e2⟩:=h.unique (jN Mk ns);exact Prod.ext e1 e2
def dP (w:Nat):Rl Int:=(List.range (2*w-1)).map λp=>1-((p:Nat):Int)%2
def cz (w:Nat):Int×Rl Int:=(1-(w:Int),dP w)
theorem qu (w:Nat):(dP w).length=2*w-1:=by simp[dP]
theorem xo {w:Nat} (h:i<2*w-1):(dP w).getD i 0=1-(i:Int)%2:=by
 simp[dP,List.getD,h]
theorem JG {w:Nat} (h:1<=w) :Tr Mk (dP w) Mk (dP w):=by
 have l:=qu w;refine Tr.self ?_ ?_ ?_
 .rw [List.head?_eq_getElem?];intro z;have g:=xo (w:=w) (i:=0) (by lia);rw[List.getD,z] at g;simp at g
 .rw [List.getLast?_eq_getElem?];intro z;have g:=xo (w:=w) (i:=(dP w).length-1) (by lia);rw[List.getD,z] at g;simp only[Option.getD_some] at g;lia
 .intro z;rw[z] at l;simp at l;lia
theorem JH {w:Nat}:∀x∈dP w,-100<=x/\x<=100:=λx hx=>by
 obtain⟨p,_,e⟩:=Ac.mp hx;lia
def gz (zs:Rl Int) (k:Int):Int:=if 0<=k then zs.getD k.toNat 0 else 0
theorem fL (zs:Rl Int) (i:Nat):gz zs (i:Int)=zs.getD i 0:=by
 unfold gz;rw[A6 (by lia),Ae]
theorem iC {k:Int} (h:k<0):gz zs k=0:=by
 unfold gz;rw[A5 (by lia)]
theorem xp {k:Int} (h:(zs.length:Int)<=k):gz zs k=0:=by
 unfold gz;split
 .rw [List.getD,D7 (by lia)];rfl
 .rfl
theorem eK (k:Int):gz [] k=0:=by
 unfold gz;split<;>simp
theorem fM (x:Int) (xs:Rl Int) (k:Int):gz (x::xs) k=(if k=0 then x else 0)+gz xs (k-1):=by
 by_cases h:k<0
 .rw [iC h,iC (by lia),A5 (by lia)];rfl
 .obtain⟨n,rfl⟩:∃n:Nat,k=n:=⟨k.toNat,by lia⟩;cases n with
  |zero=>rw[fL,A6 (by lia),iC (by lia)];simp
  |succ n=>
   rw[fL,A5 (by lia),show((n+1:Nat):Int)-1=(n:Int) by lia,fL];simp
theorem qv (xs ys:Rl Int) (k:Int):gz (xs++ys) k=gz xs k+gz ys (k-xs.length):=by
 induction xs generalizing k with
 |nil=>rw[eK,List.nil_append];simp
 |cons x xs ih=>
  rw[Cg,fM,fM,ih];rw[show k-1-(xs.length:Int)=k-((x::xs).length:Int) by simp;lia];lia
theorem lU (n:Nat) (k:Int):gz (List.replicate n 0) k=0:=by
 induction n generalizing k with
 |zero=>exact eK k
 |succ n ih=>rw[At,fM,ih];split<;>rfl
theorem lV:∀(ts:Rl Int) (p:Nat) (zs:Rl Int) (k:Int),p+zs.length<=ts.length->gz (bd ts p zs) k=gz ts k+gz zs (k-p)
 |[],p,zs,k,h=>by
  have:zs=[]:=CJ.mp (by rw[DO] at h;lia);rw[this,eK];simp[bd,eK]
 |t::ts,p+1,zs,k,h=>by
  rw[bd,fM,fM,lV ts p zs (k-1) (by simp at h;lia),show k-1-(p:Int)=k-((p+1:Nat):Int) by lia];lia
 |t::ts,0,[],k,h=>by
  rw[bd,eK];simp
 |t::ts,0,z::zs,k,h=>by
  rw[bd,fM,fM,lV ts 0 zs (k-1) (by simp at h⊢;lia),show k-((0:Nat):Int)=k by lia,fM z,show k-1-((0:Nat):Int)=k-1 by lia];split<;>lia
theorem Tr.coef (h:Tr Mk ns lo zs) (p:Int):gz zs (p-lo)=gz ns (p-Mk):=by
 rcases h with⟨e1,e2,e3⟩|⟨a,b,e,e2,_⟩
 .subst e1;rw[eK];by_cases h1:p-Mk<0
  .rw [iC h1]
  .obtain⟨n,hn⟩:∃n:Nat,p-Mk=n:=⟨(p-Mk).toNat,by lia⟩;rw[hn,fL,List.getD];cases q:ns[n]? with
   |none=>rfl
   |some z=>exact(e3 z (AU q)).symm
 .rw [e,qv,qv,lU,lU,Am,e2];rw[show p-Mk-(a:Int)=p-(Mk+(a:Int)) by lia];lia
theorem lW (h1:zs.head? ≠some 0) (h2:zs.getLast? ≠some 0) (h3:zs≠[]):gz zs 0≠0/\gz zs ((zs.length:Int)-1)≠0:=by
 have hp:0<zs.length:=DT.mpr h3;constructor
 .rw [show(0:Int)=((0:Nat):Int) from rfl,fL,List.getD,<-List.head?_eq_getElem?];cases q:zs.head? with
  |none=>exact absurd (List.head?_eq_none_iff.mp q) h3
  |some z=>exact λe=>h1 (by rw[q];exact B' some e)
 .rw [show(zs.length:Int)-1=((zs.length-1:Nat):Int) by lia,fL,List.getD,<-List.getLast?_eq_getElem?];cases q:zs.getLast? with
  |none=>exact absurd (List.getLast?_eq_none_iff.mp q) h3
  |some z=>exact λe=>h2 (by rw[q];exact B' some e)
theorem JI {low':Int}{ns':Rl Int} (h:Tr Mk ns lo zs) (h':Tr low' ns' Ny N5) (e:∀p,gz zs (p-lo)=gz N5 (p-Ny)):lo=Ny/\zs=N5:=by
 rcases h.ends with⟨a1,a2⟩|⟨a1,a2,a3⟩<;>rcases h'.ends with⟨b1,b2⟩|⟨b1,b2,b3⟩
 .exact⟨by lia,by rw[a1,b1]⟩
 .exfalso;have:=e Ny;rw[a1,eK,Int.sub_self] at this;exact(lW b1 b2 b3).1 this.symm
 .exfalso;have:=e lo;rw[b1,eK,Int.sub_self] at this;exact(lW a1 a2 a3).1 this
 .obtain⟨c1,c2⟩:=lW a1 a2 a3;obtain⟨d1,d2⟩:=lW b1 b2 b3;have pa:0<zs.length:=DT.mpr a3;have pb:0<N5.length:=DT.mpr b3;have l1:Ny<=lo:=by
   rcases(by lia:lo<Ny\/Ny<=lo) with q|q
   .have:=e lo;rw[Int.sub_self,iC (by lia:lo-Ny<0)] at this;exact absurd this c1
   .exact q
  have l2:lo<=Ny:=by
   rcases(by lia:Ny<lo\/lo<=Ny) with q|q
   .have:=e Ny;rw[Int.sub_self,iC (by lia:Ny-lo<0)] at this;exact absurd this.symm d1
   .exact q
  obtain rfl:lo=Ny:=by lia
  have n1:zs.length<=N5.length:=by
   rcases Bd N5.length zs.length with q|q
   .have:=e (lo+((zs.length:Int)-1));rw[show lo+((zs.length:Int)-1)-lo=(zs.length:Int)-1 by lia,xp (zs:=N5) (by lia)] at this;exact absurd this c2
   .exact q
  have n2:N5.length<=zs.length:=by
   rcases Bd zs.length N5.length with q|q
   .have:=e (lo+((N5.length:Int)-1));rw[show lo+((N5.length:Int)-1)-lo=(N5.length:Int)-1 by lia,xp (zs:=zs) (by lia)] at this;exact absurd this.symm d2
   .exact q
  refine⟨rfl,DA (by lia) λi p q=> ?_⟩;have:=e (lo+(i:Int));rw[show lo+(i:Int)-lo=(i:Int) by lia,fL,fL] at this;simpa[List.getD,p,q] using this
theorem xq (n:Nat) (zs:Rl Int) (k:Int):gz (List.replicate n 0++zs) k=gz zs (k-n):=by
 rw[qv,lU,Am];lia
theorem JJ (xs ys:Rl Int) (k:Int):gz (dO xs ys) k=gz xs k+gz ys k:=by
 unfold dO;rw[lV _ _ _ _ (by rw[eJ,Am];lia),lV _ _ _ _ (by rw[Am];lia),lU];simp
theorem lX (x y:Int×Rl Int):∃Mk ns,Tr Mk ns (aP x y).1 (aP x y).2/\∀p,gz ns (p-Mk)=gz x.2 (p-x.1)+gz y.2 (p-y.1):=by
 unfold aP;by_cases h1:x.2.isEmpty=true
 .rw [A6 h1];exact⟨y.1,y.2,jN _ _,λp=>by rw[List.isEmpty_iff.mp h1,eK];lia⟩
 .rw [A5 h1];by_cases h2:y.2.isEmpty=true
  .rw [A6 h2];exact⟨x.1,x.2,jN _ _,λp=>by rw[List.isEmpty_iff.mp h2,eK];lia⟩
  .rw [A5 h2];have hl:(if y.1<x.1 then y.1 else x.1)<=x.1/\(if y.1<x.1 then y.1 else x.1)<=y.1:=by split<;>lia
   dsimp only;generalize (if y.1<x.1 then y.1 else x.1)=Mk at hl⊢;refine⟨Mk,_,jN _ _,λp=> ?_⟩;rw[JJ,xq,xq,show p-Mk-((x.1-Mk).toNat:Int)=p-x.1 by lia,show p-Mk-((y.1-Mk).toNat:Int)=p-y.1 by lia]
abbrev Sh:=Int×Rl Int
variable {s y:Sh}
def zer:Sh:=(0,[])
def ofN (n:Int):Sh:=dA 0 [n]
def iD (ws:Rl Int):Sh:=ws.foldl (λt w=>bE t (cz w.toNat)) (ofN 1)
def Sup (a b:Int) (s:Sh):Prop:= -a<=s.1/\s.1+s.2.length<=b+1
theorem Sup.mono {a b a' b':Int}(h:Sup a b s) (h1:a<=a') (h2:b<=b'):Sup a' b' s:=by unfold Sup at*;lia
theorem jO {a b:Int}(a0:0<=a) (b0:0<=b) (h1: -a<=Mk) (h2:Mk+ns.length<=b+1):Sup a b (dA Mk ns):=by
 have t:=jN Mk ns;generalize dA Mk ns=s at t⊢;unfold Sup;rcases t with⟨e,e2,_⟩|⟨p,q,e,e2,_⟩
 .rw [e,e2];simp;lia
 .have l:=B' List.length e;simp at l;lia
theorem qw {a b c d:Int}{x:Sh} (a0:0<=a) (b0:0<=b) (c0:0<=c) (d0:0<=d) (hx:Sup a b x) (hy:Sup c d y):Sup (a+c) (b+d+1) (bE x y):=by
 unfold bE;unfold Sup at hx hy;refine jO (by lia) (by lia) (by lia) ?_;rw[lT];lia
theorem JK (xs ys:Rl Int):(dO xs ys).length=max xs.length ys.length:=by unfold dO;rw[eJ,eJ,Am]
theorem JL {a b:Int}{x:Sh} (a0:0<=a) (b0:0<=b) (hx:Sup a b x) (hy:Sup a b y):Sup a b (aP x y):=by
 unfold aP;unfold Sup at hx hy;split
 .exact jO a0 b0 (by lia) (by lia)
 split
 .exact jO a0 b0 (by lia) (by lia)
 .have hl:(if y.1<x.1 then y.1 else x.1)<=x.1/\(if y.1<x.1 then y.1 else x.1)<=y.1/\-a<=(if y.1<x.1 then y.1 else x.1):=by split<;>lia
  dsimp only;generalize (if y.1<x.1 then y.1 else x.1)=Mk at hl⊢;refine jO a0 b0 (by lia) ?_;rw[JK,AE,AE,Am,Am];lia
theorem lY {w:Nat} (h:1<=w):Sup (w-1) (w-1) (cz w):=by
 unfold Sup cz;dsimp only;rw[qu];lia
theorem qx {a b:Int} (a0:0<=a) (b0:0<=b):Sup a b zer:=by unfold Sup zer;simp;lia
theorem lZ {α:Type}{a b:Int} (a0:0<=a) (b0:0<=b) {f:α->Sh}:∀{l:Rl α}{t:Sh},Sup a b t->(∀x∈l,Sup a b (f x))->Sup a b (l.foldl (λt x=>aP t (f x)) t)
 |[],_,h,_=>h
 |x::l,_,h,hl=>lZ a0 b0 (l:=l) (JL a0 b0 h (hl x AD)) λy hy=>hl y (AK _ hy)
theorem JM (n:Int):Sup 0 0 (ofN n):=jO (by lia) (by lia) (by lia) (by simp)
theorem l6:ofN 0=zer:=by decide
def wsF (d:Nat) (sg:Int) (e0:Rl Pt):Nat->Rl Pt->Sh
 |0,_=>zer
 |n+1,ps=>if ps=e0 then ofN 1 else(aW d ps sg).foldl (λt x=>aP t (bE (cz (pwF x.1).toNat) (wsF d sg e0 n x.2))) zer
def wS (d:Nat) (sg:Int) (e0:Rl Pt) (ps:Rl Pt):Sh:=wsF d sg e0 40 ps
structure SdM (d:Nat) (sg:Int) (e0:Rl Pt) (mu:Rl Pt->Int):Prop where
 sd:sg=1\/sg= -1
 st:∀ps x,ay d ps->x∈aW d ps sg->ay d x.2/\mu x.2+pwF x.1<=mu ps/\1<=pwF x.1
 lo:∀ps,ay d ps->0<=mu ps/\mu ps<=32
theorem ma {α β:Type}{f g:β->α->β}:∀{l:Rl α}{t:β},(∀t,∀x∈l,f t x=g t x)->l.foldl f t=l.foldl g t
 |[],_,_=>rfl
 |x::l,t,h=>by
  rw[Bz,Bz,h t x AD];exact ma λt y hy=>h t y (AK _ hy)
section
variable {d:Nat}{sg:Int}{e0:Rl Pt}{mu:Rl Pt->Int} (S:SdM d sg e0 mu)
include S
theorem SdM.fuel:∀{n m:Nat}{ps:Rl Pt},ay d ps->mu ps+1<=n->mu ps+1<=m->wsF d sg e0 n ps=wsF d sg e0 m ps
 |0,m,ps,h,h1,h2=>by have:=(S.lo ps h).1;lia
 |n+1,0,ps,h,h1,h2=>by have:=(S.lo ps h).1;lia
 |n+1,m+1,ps,h,h1,h2=>by
  unfold wsF;by_cases e:ps=e0
  .rw [A6 e,A6 e]
  .rw [A5 e,A5 e];refine ma λt x hx=> ?_;obtain⟨a,b,c⟩:=S.st ps x h hx;rw[SdM.fuel a (by lia) (by lia) (m:=m)]
theorem SdM.eq (h:ay d ps):wS d sg e0 ps=if ps=e0 then ofN 1 else(aW d ps sg).foldl (λt x=>aP t (bE (cz (pwF x.1).toNat) (wS d sg e0 x.2))) zer:=by
 have u:wS d sg e0 ps=if ps=e0 then ofN 1 else(aW d ps sg).foldl (λt x=>aP t (bE (cz (pwF x.1).toNat) (wsF d sg e0 39 x.2))) zer:=by unfold wS;rw[wsF]
 rw[u];by_cases e:ps=e0
 .rw [A6 e,A6 e]
 .rw [A5 e,A5 e];refine ma λt x hx=> ?_;obtain⟨a,b,c⟩:=S.st ps x h hx;have:=(S.lo ps h).2;unfold wS;rw[S.fuel a (n:=39) (m:=40) (by lia) (by lia)]
theorem SdM.sup:∀(n:Nat) {ps:Rl Pt},ay d ps->mu ps<n->Sup (mu ps) (2*mu ps) (wS d sg e0 ps)
 |0,ps,h,hn=>by have:=(S.lo ps h).1;lia
 |n+1,ps,h,hn=>by
  have m0:=(S.lo ps h).1;rw[S.eq h];by_cases e:ps=e0
  .rw [A6 e];exact(JM 1).mono (by lia) (by lia)
  .rw [A5 e];refine lZ m0 (by lia) (qx m0 (by lia)) λx hx=> ?_;obtain⟨a,b,c⟩:=S.st ps x h hx;have ih:=SdM.sup n a (by lia);have q0:=(S.lo _ a).1;obtain⟨w,hw⟩:=B7 (show 0<=pwF x.1 by lia);rw[hw,Ae];exact(qw (by lia) (by lia) q0 (by lia) (lY (w:=w) (by lia)) ih).mono (by lia) (by lia)
theorem SdM.sup' (h:ay d ps):Sup 32 64 (wS d sg e0 ps):=by
 have:=S.lo ps h;exact(S.sup 33 h (by lia)).mono (by lia) (by lia)
end
theorem xr (h:ay d ps) {x:Pc×Rl Pt} (hx:x∈aW d ps 1):arF ps+pwF x.1<=arF x.2/\1<=pwF x.1:=by
 unfold aW at hx;cases hT:bw ps 1 with
 |none=>rw[hT] at hx;exact nomatch hx
 |some p=>
  rw[hT] at hx;dsimp only at hx;obtain⟨⟨p1,p2⟩,hc⟩:=wU hT;obtain⟨l,a,b,c,r,e,ep,ga,gb,gc,et,ed⟩:=lP p1 p2;rw[ga,gb,gc,et,ed] at hx;rw[ga,gb,gc] at hc;rcases B9.mp hx with hx|hx
  .rw [AR.mp hx];have ea:l++[a]++c::r=l++a::c::r:=by simp
   have pe:pwF [a,b,c]=abI (crn a b c):=rfl;dsimp only;rw[ea,e,pe];have:=iA l a b c r;unfold abI;rw[A5 (by lia)];lia
  .cases hP:bu d (aH a b c) with
   |false=>rw[hP] at hx;simp at hx
   |true=>
    rw[hP,A6 rfl] at hx;rw[AR.mp hx];have ea:l++[a]++[aH a b c]++c::r=l++a::aH a b c::c::r:=by simp
    have pe:pwF [a,b,c,aH a b c]=1:=rfl;dsimp only;rw[ea,e,pe];have:=lO l a b c r;lia
theorem xt (h:ay d ps) {x:Pc×Rl Pt} (hx:x∈aW d ps (-1)):arF x.2+pwF x.1<=arF ps/\1<=pwF x.1:=by
 unfold aW at hx;cases hT:bw ps (-1) with
 |none=>rw[hT] at hx;exact nomatch hx
 |some p=>
  rw[hT] at hx;dsimp only at hx;obtain⟨⟨p1,p2⟩,hc⟩:=xf hT;obtain⟨l,a,b,c,r,e,ep,ga,gb,gc,et,ed⟩:=lP p1 p2;rw[ga,gb,gc,et,ed] at hx;rw[ga,gb,gc] at hc;rcases B9.mp hx with hx|hx
  .rw [AR.mp hx];have ea:l++[a]++c::r=l++a::c::r:=by simp
   have pe:pwF [a,b,c]=abI (crn a b c):=rfl;dsimp only;rw[ea,e,pe];have:=iA l a b c r;unfold abI;rw[A6 (by lia)];lia
  .cases hP:bu d (aH a b c) with
   |false=>rw[hP] at hx;simp at hx
   |true=>
    rw[hP,A6 rfl] at hx;rw[AR.mp hx];have ea:l++[a]++[aH a b c]++c::r=l++a::aH a b c::c::r:=by simp
    have pe:pwF [a,b,c,aH a b c]=1:=rfl;dsimp only;rw[ea,e,pe];have:=lO l a b c r;lia
theorem sdL (hd:d<=4):SdM d 1 (upE d) (λps=>32-arF ps) where
 sd:= .inl rfl
 st:=λps x h hx=>⟨(jJ h hx).1,by have:=(xr h hx).1;lia,(xr h hx).2⟩
 lo:=λps h=>by have:=iz hd h;have:=fK hd h;lia
theorem sdR (hd:d<=4):SdM d (-1) (loE d) arF where
 sd:= .inr rfl
 st:=λps x h hx=>⟨(jL h hx).1,(xt h hx).1,(xt h hx).2⟩
 lo:=λps h=>by have:=iz hd h;have:=fK hd h;lia
def smS (s:Sh):Bool:=decide (s.2.length<=100)&&decide (-100<=s.1)&&decide (s.1<=100)&&s.2.all λx=>decide (-(10^18)<=x)&&decide (x<=10^18)
def Sms (s:Sh):Prop:=s.2.length<=100/\-100<=s.1/\s.1<=100
theorem eO (h:smS s=true):Sms s/\∀x∈s.2,-(10^18)<=x/\x<=10^18:=by
 unfold smS at h;simp only[AA,AV,AT] at h;exact⟨⟨h.1.1.1,h.1.1.2,h.1.2⟩,h.2⟩
theorem Sup.sms {a b:Int}(h:Sup a b s) (ha:a<=33) (hb:b<=65):Sms s:=by
 unfold Sup at h;unfold Sms;lia
def wsX (x:Rl Lf):Rl Int:=x.map λp=>p.2.2
def gH (x:Rl Lf):Rl Int:=wsX x++wsX x
def gI:Rl Int->Sh->Bool
 |[],t=>smS t
 |w::l,t=>smS t&&decide (1<=w)&&decide (w<=50)&&gI l (bE t (cz w.toNat))
def fk (d:Nat) (x:Rl Lf):Sh:=bE (ofN (hmD d x)) (iD (gH x))
def fm (d:Nat) (w:Rl Pt):Sh:=bE (wS d 1 (upE d) w) (wS d (-1) (loE d) w)
theorem xu:∀{l:Rl Int}{t:Sh},gI l t=true->∀i w,l[i]? =some w->smS ((l.take i).foldl (λt w=>bE t (cz w.toNat)) t)=true/\1<=w/\w<=50
 |[],_,_,i,w,hw=>by simp at hw
 |x::l,t,h,i,w,hw=>by
  rw[gI] at h;simp only[AA,AV] at h;obtain⟨⟨⟨c1,c2⟩,c3⟩,c4⟩:=h;cases i with
  |zero=>cases hw;exact⟨c1,c2,c3⟩
  |succ i=>exact xu c4 i w hw
theorem iE {α β:Type}{f:β->α->β}{l:Rl α}{t:β}{x:α} (h:l[i]? =some x):(l.take (i+1)).foldl f t=f ((l.take i).foldl f t) x:=by
 rw[AW,h,Bx];rfl
def xv (t:Rl Int):Nat:=t.foldl (λn x=>n*8+x.toNat) 0
def xw (q:Ask4):Nat:=((q.d.toNat*8+q.k.toNat)*32768+xv q.h)*32768+xv q.f
def md (q r:Ask4):Bool:=decide (q.d=r.d)&&decide (q.k=r.k)&&decide (q.h=r.h)&&decide (q.f=r.f)
theorem JN {r:Ask4} (h:md q r=true):q=r:=by
 unfold md at h;simp only[AA,AV] at h;obtain⟨⟨⟨a,b⟩,c⟩,e⟩:=h;cases q;cases r;simp only at a b c e;rw[a,b,c,e]
def okQ (L:Nat) (q:Ask4):Bool:=decide (q.h.length=L)&&decide (q.f.length=L)&&q.h.all (λx=>decide (0<=x))&&q.f.all (λx=>decide (0<=x))&&decide (wtF q.h+wtF q.f=q.d)&&decide (2<=q.d)&&decide (q.d<=L)&&decide (L<=5)&&decide (0<=q.k)&&decide (q.k<=6)
theorem xx {t:Rl Int} (h:t.all (λx=>decide (0<=x))=true):Nn t:=λi=>by
 rw[A'];cases e:t[i]? with
 |none=>exact C5 0
 |some x=>simpa using List.all_eq_true.mp h x (AU e)
theorem JO (h:okQ L q=true):AskOk L q/\¬q.k<0/\¬q.d=1:=by
 unfold okQ at h;simp only[AA,AV] at h;obtain⟨⟨⟨⟨⟨⟨⟨⟨⟨a,b⟩,c⟩,e⟩,f⟩,g⟩,i⟩,j⟩,k⟩,l⟩:=h;exact⟨⟨a,b,xx c,xx e,f,by lia,i,j,l⟩,by lia,by lia⟩
def xz (L K:Nat):Rl Ask4:=(List.range (L-1)).flatMap λe:Nat=>(List.range 6).flatMap λm:Nat=>(cS 1 L (e+2)).flatMap λh=>((cS 1 L (e+2)).filter λf=>decide (f.sum=(m:Int))&&decide (wtF h+wtF f=((e+2:Nat):Int))).flatMap λf=>(List.range (K+1)).map λk:Nat=>⟨((e+2:Nat):Int),(k:Int),h,f⟩
theorem JP {K:Nat}(a:AskOk L q) (d2:2<=q.d) (k0:0<=q.k) (hk:q.k<=K):q∈xz L K:=by
 obtain⟨n,hn⟩:=B7 (show 0<=q.d by lia);obtain⟨e,rfl⟩:∃e,n=e+2:=⟨n-2,by lia⟩;obtain⟨k,N4⟩:=B7 k0;have wh:=de (i:=1) (by decide) a.hn;have wf:=de (i:=1) (by decide) a.fn;have w:=a.wt;have dL:=a.dL;have sf:=a.sums;have L5:=a.L5;have w1:wtF q.h=wtG 1 q.h:=rfl;have w2:wtF q.f=wtG 1 q.f:=rfl;refine B6.mpr ⟨e,AX.mpr (by lia),B6.mpr ⟨q.f.sum.toNat,AX.mpr (by lia),B6.mpr ⟨q.h,jE (by decide) a.hl a.hn (by show wtG 1 q.h<=_;lia),B6.mpr ⟨q.f,DL.mpr ⟨jE (by decide) a.fl a.fn (by show wtG 1 q.f<=_;lia), ?_⟩,Ac.mpr ⟨k,AX.mpr (by lia), ?_⟩⟩⟩⟩⟩
 .rw [AA];exact⟨Ar (by lia),Ar (by lia)⟩
 .rw [<-hn,<-N4]
def sOn (x:Sm4):Sh:=bE (ofN x.1) (iD x.2.1)
def shE:Nat->Ask4->Sh
 |0,_=>zer
 |n+1,q=>if q.d=1\/q.k<0 then ofN (if q.k=0 then 1 else 0) else(ci q).foldl (λt x=>aP t (bE (sOn x) (shE n x.2.2))) zer
theorem xA {L:Nat}:∀{n m:Nat}{q:Ask4},AskOk L q->muF q<=n->muF q<=m->shE n q=shE m q
 |0,_,q,a,h,_=>by have:=a.mu;lia
 |_+1,0,q,a,_,h=>by have:=a.mu;lia
 |n+1,m+1,q,a,h1,h2=>by
  unfold shE;split
  .rfl
  .next hd=>
   refine ma λt x hx=> ?_;obtain⟨b,c⟩:=a.less (by have:=a.d1;lia) hx;rw[xA b (n:=n) (m:=m) (by lia) (by lia)]
def sF (q:Ask4):Sh:=shE 36 q
theorem qy (h:q.d=1\/q.k<0):sF q=ofN (if q.k=0 then 1 else 0):=by
 unfold sF shE;rw[A6 h]
theorem xB (a:AskOk L q) (h:¬(q.d=1\/q.k<0)):sF q=(ci q).foldl (λt x=>aP t (bE (sOn x) (sF x.2.2))) zer:=by
 have e:sF q=shE 37 q:=xA a (by have:=a.mu;lia) (by have:=a.mu;lia);rw[e];unfold shE;rw[A5 h];rfl
def jP (x:Sm4) (v acc:Sh):Bool:=smS acc&&gI x.2.1 (ofN 1)&&smS (iD x.2.1)&&smS (ofN x.1)&&smS (sOn x)&&smS v&&smS (bE (sOn x) v)
def wlS (f:Ask4->Rp Sh):Rl Sm4->Sh->Rp Sh
 |[],t=>bif smS t then some t else none
 |x::r,t=>(f x.2.2).bind λv=>bif jP x v t then wlS f r (aP t (bE (sOn x) v)) else none
abbrev TbS:=Rl (Nat×Ask4×Sh)
def me (n:Nat):TbS->Rp (Ask4×Sh)
 |[]=>none
 |e::t=>bif Nat.beq e.1 n then some e.2 else me n t
theorem xC {n:Nat}{e:Ask4×Sh}:∀{t:TbS},me n t=some e->∃m,(m,e)∈t
 |[],h=>nomatch h
 |x::t,h=>by
  unfold me at h;cases c:Nat.beq x.1 n with
  |true=>rw[c] at h;cases h;exact⟨x.1,AD⟩
  |false=>rw[c] at h;obtain⟨m,hm⟩:=xC (t:=t) h;exact⟨m,AK _ hm⟩
def qz (t:TbS) (q:Ask4):Rp Sh:=if q.d=1\/q.k<0 then some (ofN (if q.k=0 then 1 else 0)) else(me (xw q) t).bind λe=>bif md e.1 q then some e.2 else none
def gdS (q:Ask4):Prop:=wlS (λq=>some (sF q)) (ci q) zer=some (sF q)
def iF (t:TbS):Prop:=∀e∈t,e.2.2=sF e.2.1/\gdS e.2.1
theorem JQ {t:TbS} (h:iF t) {v:Sh} (e:qz t q=some v):v=sF q:=by
 unfold qz at e;split at e
 .next c=>cases e;rw[qy c]
 .obtain⟨x,hx,e⟩:=A9.mp e;cases s:md x.1 q with
  |false=>rw[s] at e;cases e
  |true=>
   rw[s] at e;cases e;obtain⟨m,hm⟩:=xC hx;rw[<-JN s];exact(h _ hm).1
theorem xD {f:Ask4->Rp Sh} (h:∀{q v},f q=some v->v=sF q):∀{l:Rl Sm4}{t s:Sh},wlS f l t=some s->wlS (λq=>some (sF q)) l t=some s/\s=l.foldl (λt x=>aP t (bE (sOn x) (sF x.2.2))) t
 |[],t,s,e=>by
  refine⟨e, ?_⟩;unfold wlS at e;cases c:smS t with
  |true=>rw[c] at e;exact(Ak e).symm
  |false=>rw[c] at e;cases e
 |x::r,t,s,e=>by
  unfold wlS at e⊢;obtain⟨v,hv,e⟩:=A9.mp e;have hv:=h hv;subst hv;rw[Option.bind_some];cases c:jP x (sF x.2.2) t with
  |true=>rw[c] at e;exact xD h e
  |false=>rw[c] at e;cases e
theorem xE:∀{l:Rl Sm4}{t s:Sh},wlS (λq=>some (sF q)) l t=some s->∀i x,l[i]? =some x->jP x (sF x.2.2) ((l.take i).foldl (λt x=>aP t (bE (sOn x) (sF x.2.2))) t)=true
 |[],_,_,_,i,w,hw=>by simp at hw
 |x::l,t,s,h,i,w,hw=>by
  unfold wlS at h;rw[Option.bind_some] at h;cases c:jP x (sF x.2.2) t with
  |false=>rw[c] at h;cases h
  |true=>
   rw[c] at h;cases i with
   |zero=>cases hw;exact c
   |succ i=>exact xE h i w hw
def iG (L:Nat) (o:Rp TbS) (q:Ask4):Rp TbS:=o.bind λt=>bif okQ L q then(wlS (qz t) (ci q) zer).map λs=>(xw q,q,s)::t else none
theorem JR {t u:TbS}(h:iF t) (e:iG L (some t) q=some u):iF u/\(∃x∈u,x.2.1=q)/\∀x∈t,x∈u:=by
 unfold iG at e;simp only[Option.bind_some] at e;cases c:okQ L q with
 |false=>rw[c] at e;cases e
 |true=>
  rw[c] at e;obtain⟨s,hs,rfl⟩:=A8.mp e;obtain⟨a,k0,d1⟩:=JO c;refine⟨λx hx=> ?_,⟨_,AD,rfl⟩,λx hx=>AK _ hx⟩;rcases AJ.mp hx with rfl|hx
  .obtain⟨w1,w2⟩:=xD (λe=>JQ h e) hs;have es:s=sF q:=by rw[w2,<-xB a (by lia)]
   exact⟨es,by unfold gdS;rw[<-es];exact w1⟩
  .exact h x hx
theorem xF {L:Nat}:∀(qs:Rl Ask4),qs.foldl (iG L) none=none
 |[]=>rfl
 |q::qs=>xF qs
theorem xG {L:Nat}:∀{qs:Rl Ask4}{t u:TbS},iF t->qs.foldl (iG L) (some t)=some u->iF u/\(∀q∈qs,∃x∈u,x.2.1=q)/\∀x∈t,x∈u
 |[],t,u,h,e=>by cases e;exact⟨h,(λq hq=>nomatch hq),λx hx=>hx⟩
 |q::qs,t,u,h,e=>by
  rw[Bz] at e;cases c:iG L (some t) q with
  |none=>rw[c,xF] at e;cases e
  |some m=>
   rw[c] at e;obtain⟨h1,⟨x,hx,ex⟩,h3⟩:=JR h c;obtain⟨g1,g2,g3⟩:=xG h1 e;refine⟨g1,λr hr=> ?_,λy hy=>g3 y (h3 y hy)⟩;rcases AJ.mp hr with rfl|hr
   .exact⟨x,g3 x hx,ex⟩
   .exact g2 r hr
def xH (L K:Nat):Rp TbS:=(xz L K).foldl (iG L) (some [])
def iH (L K:Nat) (p:TbS->Ask4->Sh->Bool):Bool:=match xH L K with
 |none=>false
 |some t=>t.all λe=>p t e.2.1 e.2.2
theorem mf {K:Nat}{p:TbS->Ask4->Sh->Bool} (h:iH L K p=true):∃t,iF t/\∀q,AskOk L q->2<=q.d->0<=q.k->q.k<=K->gdS q/\p t q (sF q)=true:=by
 unfold iH at h;cases c:xH L K with
 |none=>rw[c] at h;cases h
 |some t=>
  rw[c] at h;obtain⟨g1,g2,_⟩:=xG (t:=[]) (λe he=>nomatch he) c;refine⟨t,g1,λq a d2 k0 hk=> ?_⟩;obtain⟨x,hx,rfl⟩:=g2 q (JP a d2 k0 hk);obtain⟨e,g⟩:=g1 x hx;have:=AT.mp h x hx;rw[<-e];exact⟨g,this⟩
theorem JS (t x y:Sh):aP (aP t x) y=aP (aP t y) x:=by
 obtain⟨l1,n1,a1,b1⟩:=lX (aP t x) y;obtain⟨l2,n2,a2,b2⟩:=lX (aP t y) x;obtain⟨l3,n3,a3,b3⟩:=lX t x;obtain⟨l4,n4,a4,b4⟩:=lX t y;obtain⟨e1,e2⟩:=JI a1 a2 λp=>by rw[a1.coef,a2.coef,b1,b2,a3.coef,a4.coef,b3,b4];lia
 exact Prod.ext e1 e2
def xI {α:Type}{f:α->Sh}{l l':Rl α} (h:l.Perm l') (t:Sh):l.foldl (λt x=>aP t (f x)) t=l'.foldl (λt x=>aP t (f x)) t:=h.foldl_eq' (λx _ y _ z=>JS z (f x) (f y)) t
def gJ (s:Sh):Bool:=decide (-30<=s.1)&&decide (s.1+(s.2.length:Int)<=31)
theorem qA (h:gJ s=true):Sup 30 30 s:=by
 unfold gJ at h;simp only[AA,AV] at h;unfold Sup;lia
theorem xJ {α:Type}{f:α->Sh}{l:Rl α} (h:∀x∈l,gJ (f x)=true) (i:Nat):Sms ((l.take i).foldl (λt x=>aP t (f x)) zer):=
 (lZ (by lia) (by lia) (qx (by lia) (by lia)) λx hx=>qA (h x (CY hx))).sms (by lia) (by lia)
def v91 (d k:Nat):Sh:=([[(0,[1])],[(0,[1]),(0,[3])],[(0,[1]),(-2,[1,0,10,0,1]),(0,[21]),(0,[15])],[(0,[1]),(-2,[3,0,21,0,3]),(-4,[3,0,33,0,153,0,33,0,3]),(-6,[1,0,13,0,94,0,459,0,94,0,13,0,1]),(-2,[45,0,576,0,45]),(0,[378]),(0,[105])],[(0,[1]),(-2,[6,0,36,0,6]),(-4,[15,0,156,0,540,0,156,0,15]),(-6,[20,0,268,0,1555,0,4229,0,1555,0,268,0,20])]].getD (d-1) []).getD k zer
def mkD (d:Nat) (x:Rl Lf):Rl (Rl Int):=(x++ff d (bI d x)).map bU
def mkB (d:Nat) (x:Rl Lf):Bool:=((x++ff d (bI d x)).all λm=>decide (1<=m.1)&&decide (m.1<m.2.1)&&decide (m.2.1<=(d:Int)+1))&&decide ((x++ff d (bI d x)).length<=15)&&ssB (mkD d x)
def mh (c:Nat->Nat->Rp Bool) (n:Nat):Bool:=decide (n<2)||match gm c n with
 |none=>false
 |some p=>decide (p.size<=1000)&&p.toList.isPerm (List.range n)
def sDr (d k:Nat):Bool:=mh (λi j=>(cf d k)[i]?.bind λx=>(cf d k)[j]?.map λy=>gx x y) (cf d k).length
def qB (d:Nat) (x:Rl Lf):Bool:=gI (gH x) (ofN 1)&&smS (iD (gH x))&&smS (ofN (hmD d x))&&gJ (fk d x)
def f92 (d k:Nat):Bool:=okB d k&&(cf d k).all (λx=>gC d x&&mkB d x&&qB d x)&&decide ((cf d k).length<=1000)
def Fl (d k:Nat):Prop:=f92 d k=true/\sDr d k=true/\jF d k=cT d k/\(cf d k).foldl (λt x=>aP t (fk d x)) zer=v91 d k
def a92 (d k:Nat):Bool:=f92 d k&&sDr d k&&decide (jF d k=cT d k)&&decide ((cf d k).foldl (λt x=>aP t (fk d x)) zer=v91 d k)
theorem JT:((List.range 7).all (a92 1))=true:=by ac_nf
theorem JU:((List.range 7).all (a92 2))=true:=by ac_nf
theorem JV:((List.range 7).all (a92 3))=true:=by ac_nf
theorem JW:((List.range 7).all (a92 4))=true:=by ac_nf
theorem JX:((List.range 3).all (a92 5))=true:=by ac_nf
theorem JY:f92 5 3=true:=by ac_nf
theorem JZ:sDr 5 3=true:=by ac_nf
theorem J0:jF 5 3=cT 5 3:=by ac_nf
theorem J1:(cf 5 3).foldl (λt x=>aP t (fk 5 x)) zer=v91 5 3:=by ac_nf
theorem qC (h:Wide d k):Fl d k:=by
 unfold Wide at h;have go:∀{m n:Nat},((List.range n).all (a92 m))=true->∀{k},k<n->Fl m k:=λh k hk=>by
  have:=AT.mp h k (AX.mpr hk);unfold a92 at this;simp only[AA,AV] at this;exact⟨this.1.1.1,this.1.1.2,this.1.2,this.2⟩
 have hd:d=1\/d=2\/d=3\/d=4\/(d=5/\k<3)\/(d=5/\k=3):=by lia
 rcases hd with rfl|rfl|rfl|rfl|⟨rfl,hk⟩|⟨rfl,rfl⟩
 .exact go JT (by lia)
 .exact go JU (by lia)
 .exact go JV (by lia)
 .exact go JW (by lia)
 .exact go JX hk
 .exact⟨JY,JZ,J0,J1⟩
theorem xK (h:Wide d k):(okB d k=true/\(cf d k).length<=1000/\sDr d k=true)/\(∀x∈cf d k,(gC d x=true/\mkB d x=true)/\qB d x=true):=by
 obtain⟨a,b,_⟩:=qC h;unfold f92 at a;simp only[AA,AV,AT] at a;exact⟨⟨a.1.1,a.2,b⟩,a.1.2⟩
def sWy (d k:Nat):Bool:=mh (λi j=>(bt d k)[i]?.bind λx=>(bt d k)[j]?.map λy=>gk x y) (bt d k).length
def jQ (d:Nat) (w:Rl Pt):Bool:=smS (wS d 1 (upE d) w)&&gJ (fm d w)
def w92 (d k:Nat):Bool:=decide ((bt d k).length<=1000)&&(bt d k).all (qq d)&&sWy d k&&decide (eI d (bt d k)=cT d k)
def g92 (d k:Nat):Bool:=(bt d k).all (jQ d)&&decide ((bt d k).foldl (λt w=>aP t (fm d w)) zer=v91 d k)
def Wv (d k:Nat):Prop:=(∀w∈bt d k,jQ d w=true)/\(bt d k).foldl (λt w=>aP t (fm d w)) zer=v91 d k
def Wy (d k:Nat):Prop:=(((bt d k).length<=1000/\sWy d k=true)/\(∀w∈bt d k,ay d w)/\eI d (bt d k)=cT d k)/\Wv d k
theorem jR (h:g92 d k=true):Wv d k:=by
 unfold g92 at h;simp only[AA,AV,AT] at h;exact h
theorem iI (h:w92 d k=true) (g:Wv d k):Wy d k:=by
 unfold w92 at h;simp only[AA,AV,AT] at h;exact⟨⟨⟨h.1.1.1,h.1.2⟩,λw hw=>Jz (h.1.1.2 w hw),h.2⟩,g⟩
theorem J2:((List.range 7).all (w92 1))=true:=by ac_nf
theorem J':((List.range 7).all (w92 2))=true:=by ac_nf
theorem Ka:((List.range 3).all (w92 3))=true:=by ac_nf
theorem Kb:w92 3 3=true:=by ac_nf
theorem Kc:w92 3 4=true:=by ac_nf
theorem Kd:w92 3 5=true:=by ac_nf
theorem Ke:w92 3 6=true:=by ac_nf
theorem Kf:((List.range 2).all (w92 4))=true:=by ac_nf
theorem Kg:w92 4 2=true:=by ac_nf
theorem Kh:((List.range 7).all (g92 1))=true:=by ac_nf
theorem Ki:((List.range 7).all (g92 2))=true:=by ac_nf
theorem Kj:((List.range 3).all (g92 3))=true:=by ac_nf
theorem Kk:g92 3 3=true:=by ac_nf
theorem Kl:g92 3 4=true:=by ac_nf
theorem Km:g92 3 5=true:=by ac_nf
theorem Kn:g92 3 6=true:=by ac_nf
theorem Ko:((List.range 2).all (g92 4))=true:=by ac_nf
def gW (l:Rl (Rl Pt)) (t u:Sh):Bool:=l.all (jQ 4)&&decide (l.foldl (λt w=>aP t (fm 4 w)) t=u)
def m42:Sh:=(-4,[2,0,16,0,49,0,16,0,2])
def n42:Sh:=(-4,[3,0,33,0,150,0,33,0,3])
theorem Kp:gW ((bt 4 2).take 26) zer m42=true:=by ac_nf
theorem Kq:gW (((bt 4 2).drop 26).take 26) m42 n42=true:=by ac_nf
theorem Kr:gW (((bt 4 2).drop 26).drop 26) n42 (v91 4 2)=true:=by ac_nf
theorem g42:Wv 4 2:=by
 have go:∀{l a b:Rl (Rl Pt)}{t m u:Sh},l=a++b->gW a t m=true->gW b m u=true->gW l t u=true:=λe h1 h2=>by
  unfold gW at*
  simp only[AA,AV] at*
  rw[e,List.all_append,Bx,h1.2,h1.1,h2.1];exact⟨rfl,h2.2⟩
 have h:=go (Bp 26 (bt 4 2)).symm Kp (go (Bp 26 _).symm Kq Kr);unfold gW at h;simp only[AA,AV,AT] at h;exact h
theorem mi (h:dy d k):Wy d k:=by
 unfold dy at h;have go:∀{m n:Nat},((List.range n).all (w92 m))=true->((List.range n).all (g92 m))=true->∀{k},k<n->Wy m k:=λh g k hk=>iI (AT.mp h k (AX.mpr hk)) (jR (AT.mp g k (AX.mpr hk)));have hd:d=1\/d=2\/(d=3/\k<3)\/(d=3/\k=3)\/(d=3/\k=4)\/(d=3/\k=5)\/(d=3/\k=6)\/(d=4/\k<2)\/(d=4/\k=2):=by lia
 rcases hd with rfl|rfl|⟨rfl,hk⟩|⟨rfl,rfl⟩|⟨rfl,rfl⟩|⟨rfl,rfl⟩|⟨rfl,rfl⟩|⟨rfl,hk⟩|⟨rfl,rfl⟩
 .exact go J2 Kh (by lia)
 .exact go J' Ki (by lia)
 .exact go Ka Kj hk
 .exact iI Kb (jR Kk)
 .exact iI Kc (jR Kl)
 .exact iI Kd (jR Km)
 .exact iI Ke (jR Kn)
 .exact go Kf Ko hk
 .exact iI Kg g42
def p91 (_:TbS) (q:Ask4) (v:Sh):Bool:=if q.f=q.d::List.replicate (q.f.length-1) 0 then decide (v=v91 q.d.toNat q.k.toNat) else true
theorem Kt:iH 2 6 p91=true:=by ac_nf
theorem Ku:iH 3 6 p91=true:=by ac_nf
theorem Kv:iH 4 6 p91=true:=by ac_nf
theorem Kw:iH 5 3 p91=true:=by ac_nf
def KL (L:Nat):Int:=if L=5 then 3 else 6
theorem xL (a:AskOk L q) (d2:2<=q.d) (k0:0<=q.k) (hk:q.k<=KL L):gdS q/\p91 [] q (sF q)=true:=by
 have dL:=a.dL;have L5:=a.L5;have hL:L=2\/L=3\/L=4\/L=5:=by lia
 rcases hL with rfl|rfl|rfl|rfl
 .obtain⟨t,_,h⟩:=mf Kt;exact h q a d2 k0 hk
 .obtain⟨t,_,h⟩:=mf Ku;exact h q a d2 k0 hk
 .obtain⟨t,_,h⟩:=mf Kv;exact h q a d2 k0 hk
 .obtain⟨t,_,h⟩:=mf Kw;exact h q a d2 k0 hk
theorem Kx (a:AskOk L q) (d2:2<=q.d) {x:Sm4} (hx:x∈ci q):x.2.2.k<=q.k:=by
 unfold ci at hx;rcases B9.mp hx with hx|hx
 .unfold gD at hx;obtain⟨p,_,hx⟩:=B6.mp hx;unfold du at hx;split at hx
  .rw [AR.mp hx];exact C5 _
  .cases hx
 .obtain⟨kp,hk,fr,hf,rfl⟩:=p9 hx;have:=(AskOk.few (q:=⟨q.d,6,q.h,q.f⟩) ⟨a.hl,a.fl,a.hn,a.fn,a.wt,a.d1,a.dL,a.L5,C5 _⟩ d2 hk hf).1.k6;show q.k+fr.sum-q.f.sum-q.d+1<=q.k;simp only at this;lia
theorem Ky:∀k:Nat,k<7->sF ⟨1,(k:Int),bi 1 [],bi 1 [1]⟩=v91 1 k:=by ac_nf
theorem Kz (d:Nat):bi d [(d:Int)]=(d:Int)::List.replicate ((bi d [(d:Int)]).length-1) 0:=by
 unfold bi;simp
theorem KA (h:Wide d k) (a:AskOk d ⟨d,k,bi d [],bi d [(d:Int)]⟩):sF ⟨d,k,bi d [],bi d [(d:Int)]⟩=v91 d k:=by
 unfold Wide at h;by_cases d1:d=1
 .subst d1;exact Ky k (by lia)
 .have:=(xL a (by show(2:Int)<=(d:Int);lia) (by show(0:Int)<=(k:Int);lia) (by show(k:Int)<=KL d;unfold KL;split<;>lia)).2
  unfold p91 at this;rw[A6 (Kz d)] at this;exact B2 this
def b91 (d k:Nat):Bool:=let s:=v91 d k;decide (dA (1-s.1-s.2.length) s.2.reverse=s)&&decide (s.2.reverse=s.2)&&s.2.all (λx=>decide (0<=x))&&decide (s.2.length=0\/2*s.1=1-s.2.length)&&decide (s.2.sum=cT d k)&&decide (s.2.length<=100)&&decide (-100<=s.1)&&decide (s.1<=100)
theorem KB (h:Wide d k):b91 d k=true:=by
 have:((List.range 6).all λd=>(List.range 7).all λk=>b91 d k||decide (d=0)||(decide (d=5)&&decide (3<k)))=true:=by ac_nf
 unfold Wide at h;have:=AT.mp (AT.mp this d (AX.mpr (by lia))) k (AX.mpr (by lia));simp only[CA,AA,AV] at this;rcases this with(e|e)|e
 .exact e
 .lia
 .lia
inductive spCell (K:W.Frag) (vs:List V) (H:Hp) (Q:VK) (E':XK):Prop
 |mk (a:Addr) (ns:List Int) (k:Int):vs=[.ref a, .int k]->SqL K H a (ns.map V.int)->0<=k->(∀z,Q (.int z) H)->spCell K vs H Q E'
inductive spNumber (K:W.Frag) (vs:List V) (H:Hp) (Q:VK) (E':XK):Prop
 |mk (a:Addr) (ns:List Int) (k:Int):vs=[.ref a, .int k]->SqL K H a (ns.map V.int)->0<=k->k<=100000->(∀z,0<=z->Q (.int z) H)->spNumber K vs H Q E'
theorem KC (h:i<ks.length):atI (ks.map V.int) (i:Int)=some (.int (ks.getD i 0)):=iU (by rw[AC,A3 h];simp[List.getD,h])
def But (b:Rg) (H H':Hp):Prop:=∀c o,H c=some o->c≠b->H' c=some o
theorem KD (h:i<=ks.length):bT (ks.map V.int) (some (i:Int)) none=(ks.drop i).map V.int:=by
 unfold bT;rw[HT.sIx_nat,HT.sIx_none,A1,DK h,DC,C2 (by simp)]
inductive spWln (K:W.Frag) (vs:List V) (H:Hp) (Q:VK) (E':XK):Prop
 |mk (a:Addr) (ns:List Int):vs=[.ref a]->SqL K H a (ns.map V.int)->ns.length<=1000->(∀(l:Addr) (ks:List Int) (b:Nat) (H':Hp),af H H'->H l=none->H' l=some (.lst (ks.map V.int))->ns=ks++List.replicate b 0->(ks=[]\/ks.getLast? ≠some 0)->Q (.ref l) H')->spWln K vs H Q E'
def iJ (H:Hp) (Q:VK) (P:Int->Rl Int->Prop):Prop:=∀(t l:Rg) (lo:Int) (zs:Rl Int) (H':Hp),af H H'->H l=none->H' t=some (.tup [.int lo, .ref l])->H' l=some (.lst (zs.map V.int))->P lo zs->Q (.ref t) H'
inductive spShade (K:W.Frag) (vs:List V) (H:Hp) (Q:VK) (E':XK):Prop
 |mk (Mk:Int) (a:Addr) (ns:List Int):vs=[.int Mk, .ref a]->SqL K H a (ns.map V.int)->ns.length<=1000->iJ H Q (Tr Mk ns)->spShade K vs H Q E'
theorem iJ.mk {P:Int->Rl Int->Prop} (k:iJ H Q P) (s:af H H2) {t:Rg}(nl:H2 l=none) (nt:(upd H2 l (.lst (zs.map V.int))) t=none) (p:P lo zs):Q (.ref t) (upd (upd H2 l (.lst (zs.map V.int))) t (.tup [.int lo, .ref l])):=by
 refine k t l lo zs _ ((s.put (s.free nl)).put (s.free (af.new nl|>.free nt))) (s.free nl) ak ?_ p;rw[aw (bj ak nt),ak]
inductive spTurned (K:W.Frag) (vs:List V) (H:Hp) (Q:VK) (E':XK):Prop
 |mk (t p:Addr) (lo:Int) (zs:List Int):vs=[.ref t]->SqT K H t [.int lo, .ref p]->SqL K H p (zs.map V.int)->zs.length<=1000->iJ H Q (Tr (1-lo-zs.length) zs.reverse)->spTurned K vs H Q E'
inductive spAtOne (K:W.Frag) (vs:List V) (H:Hp) (Q:VK) (E':XK):Prop
 |mk (t p:Addr) (lo:Int) (zs:List Int):vs=[.ref t]->SqT K H t [.int lo, .ref p]->SqL K H p (zs.map V.int)->Q (.int zs.sum) H->spAtOne K vs H Q E'
def But.of_same {b:Rg}(s:af H H'):But b H H':=λc o e _=>s _ _ e
def But.trans {b:Rg}(s:But b H H') (t:But b H' H''):But b H H'':=λc o e n=>t c o (s c o e n) n
theorem But.upd {b:Rg}{H:Hp}{o:HO}:But b H (L2.upd H b o):=λc u e n=>by rw[aw n];exact e
theorem But.same {b:Rg}{H1:Hp} (s:af H H1) (nb:H b=none) (t:But b H1 H2):af H H2:=λc o e=>t c o (s c o e) (by rintro rfl;rw[nb] at e;cases e)
inductive sp_law (K:W.Frag) (vs:List V) (H:Hp) (Q:VK) (E':XK):Prop
 |mk (a:Addr) (ns:List Int):vs=[.ref a]->SqL K H a (ns.map V.int)->ns.length<=63->(∀H',Q (.bl true) H')->sp_law K vs H Q E'
theorem qE :bT vs none (some (k:Int))=vs.take k:=by
 unfold bT;rw[HT.sIx_nat,HT.sIx_none,Db,Nat.sub_zero];exact List.take_eq_take_iff.mpr (by lia)
theorem xM {l:Rl Int}(h:i<l.length):(l.map V.int)[i]? =some (.int (l.getD i 0)):=by
 rw[AC,A3 h];simp[List.getD,h]
theorem mj (n:Nat):(List.replicate n [V.int 0]).flatten=(List.replicate n (0:Int)).map V.int:=by
 induction n with
 |zero=>rfl
 |succ n ih=>rw[At,At,CQ,ih];rfl
inductive spList (f:List Int->List Int->List Int) (B:List Int->List Int->Prop) (K:W.Frag) (vs:List V) (H:Hp) (Q:VK) (E':XK):Prop
 |mk (a c:Addr) (xs ys:List Int):vs=[.ref a, .ref c]->SqL K H a (xs.map V.int)->SqL K H c (ys.map V.int)->xs.length<=400->ys.length<=400->B xs ys->(∀(l:Addr) (H':Hp),af H H'->H l=none->H' l=some (.lst ((f xs ys).map V.int))->Q (.ref l) H')->spList f B K vs H Q E'
inductive spStretch (vs:List V) (H:Hp) (Q:VK) (E':XK):Prop
 |mk (w:Nat):vs=[.int w]->1<=w->w<=60->(iJ H Q (λlo zs=>lo=1-(w:Int)/\zs=dP w))->spStretch vs H Q E'
inductive spTwo (B:List Int->Prop) (f:Int×List Int->Int×List Int->Int×List Int) (E':W.Frag) (vs:List V) (H:Hp) (Q:VK) (E2:XK):Prop
 |mk (t u p q:Addr) (l1 l2:Int) (z1 z2:List Int):vs=[.ref t, .ref u]->H t=some (.tup [.int l1, .ref p])->H p=some (.lst (z1.map V.int))->H u=some (.tup [.int l2, .ref q])->H q=some (.lst (z2.map V.int))->z1.length<=100->z2.length<=100->-100<=l1->l1<=100->-100<=l2->l2<=100->B z1->(iJ H Q (λlo zs=>(lo,zs)=f (l1,z1) (l2,z2)))->spTwo B f E' vs H Q E2
def stD (x:Rl Lf×Int):D:= .t [lfs x.1, .i x.2]
def Lok (p:Lf):Prop:=0<=p.2.1-p.1/\p.2.1-p.1<=10/\1<=p.2.2/\p.2.2<=20
inductive spBetQ (vs:List V) (H:Hp) (Q:VK) (E':XK):Prop
 |mk (i lo hi:Int):vs=[.int i, .int lo, .int hi]->lo<=i->i<=hi->Q .non H->spBetQ vs H Q E'
inductive spDegQ (vs:List V) (H:Hp) (Q:VK) (E':XK):Prop
 |mk (i:Int):vs=[.int i]->1<=i->i<=5->Q .non H->spDegQ vs H Q E'
inductive spWidQ (vs:List V) (H:Hp) (Q:VK) (E':XK):Prop
 |mk (d k:Nat):vs=[.int d, .int k]->Wide d k->Q .non H->spWidQ vs H Q E'
inductive spEndQ (vs:List V) (H:Hp) (Q:VK) (E':XK):Prop
 |mk (n:Nat) (dv:V) (ps:List Lf):vs=[.int n,dv]->1<=n->n<=5->Is H (lfs ps) dv->((∀p∈ps,Okl n p))->(∀l H',af H H'->H l=none->H' l=some (.lst ((bI n ps).map V.int))->Q (.ref l) H')->spEndQ vs H Q E'
inductive spLost (vs:List V) (H:Hp) (Q:VK) (E':XK):Prop
 |mk (v:V) (p:Lf):vs=[v]->Is H (lf p) v->Lok p->Q (.int (ce p)) H->spLost vs H Q E'
inductive spLfr (vs:List V) (H:Hp) (Q:VK) (E':XK):Prop
 |mk (d f n:Nat) (sp:Int):vs=[.int d, .int f, .int n, .int sp]->f<=d->d<=5->n<=20->(∀l H',af H H'->H l=none->Is H' (lfs (cZ f (d-f) n sp)) (.ref l)->Q (.ref l) H')->spLfr vs H Q E'
inductive spLeav (n:Nat) (E':W.Frag) (vs:List V) (H:Hp) (Q:VK) (E2:XK):Prop
 |mk (v:V) (ls:List Lf) (wt sp:Int):vs=[v, .int wt, .int sp]->Is H (lfs ls) v->((∀p∈ls,Lok p))->0<=wt->wt<n->(cw n ls wt sp).length<=1000->ls.length<=200->n<=100->(∀l H',af H H'->H l=none->Is (nw H H') (.l ((cw n ls wt sp).map lfs)) (.ref l)->Q (.ref l) H')->spLeav n E' vs H Q E2
inductive spWith (vs:List V) (H:Hp) (Q:VK) (E':XK):Prop
 |mk (d f:Nat) (v:V) (x:List Lf×Int):vs=[.int d, .int ((f+1:Nat):Int),v, .int x.2]->f<d->d<=5->Is H (lfs x.1) v->stB d f x=true->(∀l H',af H H'->H l=none->Is (nw H H') (.l ((dJ d (f+1) x.1 x.2).map stD)) (.ref l)->Q (.ref l) H')->spWith vs H Q E'
theorem KE {n:String}:W.kitOne K (.type n) (.type n)=some true:=by
 unfold W.kitOne;simp
theorem xN {x:Rl Lf×Int}(h:Is H (stD x) v):∃t u,v= .ref t/\H t=some (.tup [u, .int x.2])/\Is H (lfs x.1) u:=by
 obtain⟨t,vs,rfl,ht,hi⟩:=bB h;obtain⟨u,us,rfl,h1,h2⟩:=aI hi;obtain⟨u2,us2,rfl,h3,h4⟩:=aI h2;rw[az h3,bn h4] at ht;exact⟨t,u,rfl,ht,h1⟩
theorem KF {ps:Rl Lf}:∀x∈ps.map bU,x.length=3:=λx hx=>by
 obtain⟨p,_,rfl⟩:=Ac.mp hx;rfl
theorem xO (k:But a H H'):af (hid H a) H':=λb o e=>by
 have hb:b≠a:=by rintro rfl;rw[E7] at e;cases e
 rw[dX hb] at e;exact k _ _ e hb
theorem ml (h:i<=vs.length):bT vs (some (i:Int)) none=vs.drop i:=by
 unfold bT;rw[HT.sIx_nat,HT.sIx_none,DK h,C2 (by simp)]
def Snd.good {ps:Rl Lf} (h:Snd d ps):hU d ps:=⟨h.ok,h.nn⟩
theorem Snd.okl {d:Nat}{ps:Rl Lf} (h:Snd d ps):∀p∈ps,Okl d p:=h.good.okl
def KG (h:∀i:Nat,0<=ns.getD i 0):0<=jd ns:=h _
theorem Snd.ends {ps:Rl Lf} (h:Snd d ps) (i:Nat):0<=(bI d ps).getD i 0:=by
 rcases Bd i d with c|c
 .rw [II h.okl c];exact h.nn i c
 .rw [A',D7 (by rw[lw d ps h.okl];exact c)];exact C5 _
inductive spSou (vs:List V) (H:Hp) (Q:VK) (E':XK):Prop
 |mk (n:Nat) (dv:V) (ps:List Lf):vs=[.int n,dv]->1<=n->n<=5->Is H (lfs ps) dv->Snd n ps->(∀H',af H H'->Q (.bl true) H')->spSou vs H Q E'
inductive spNeS (vs:List V) (H:Hp) (Q:VK) (E':XK):Prop
 |mk (n:Nat) (dv:V) (ps:List Lf):vs=[.int n,dv]->1<=n->n<=5->Is H (lfs ps) dv->Snd n ps->(∀H',af H H'->Q .non H')->spNeS vs H Q E'
inductive spEnM (vs:List V) (H:Hp) (Q:VK) (E':XK):Prop
 |mk (n:Nat) (dv:V) (ps:List Lf):vs=[.int n,dv]->1<=n->n<=5->Is H (lfs ps) dv->Snd n ps->(ff n (bI n ps)).length<=20->(∀l H',af H H'->H l=none->Is H' (lfs (ff n (bI n ps))) (.ref l)->Q (.ref l) H')->spEnM vs H Q E'
theorem xP {xs:Rl V}{qs:Rl Lf}(s:af H H') (hl:H l=some (.lst xs)) (h:Iss H (qs.map lf) vs):Iss (upd H' l o) (qs.map lf) vs:=
 lx (λa ys e=>by rw[aw (by rintro rfl;rw[hl] at e;cases e)];exact s _ _ e) h
theorem KH {p q:Lf}(h:Is H (lf p) v) (k:Is H (lf q) v):p=q:=by
 obtain⟨a,rfl,ha⟩:=fE h;obtain⟨b,e,hb⟩:=fE k;cases e;rw[ha] at hb;obtain⟨a1,a2,a3⟩:=p;obtain⟨b1,b2,b3⟩:=q;simp at hb;simp[hb]
theorem KI {wt:Rl Lf}{m:Lf}(h:Iss H (wt.map lf) Pz) (k:Is H (lf m) v):FC K H 1 Pz v (λj=>decide (wt.getD j (0,0,0)=m)):=by
 have bP:∀(j:Nat) z,Pz[j]? =some z->Is H (lf (wt.getD j (0,0,0))) z:=λj z hz=>by
  obtain⟨d',No,h1⟩:=bD h hz;rw[List.getD,No];exact h1
 refine⟨by decide,λj z hz=>⟨?_,vM (bP j z hz) k⟩,λi j z hi hj=> ?_⟩
 .obtain⟨a,e,_⟩:=fE (bP j z hz);exact⟨a,e⟩
 .show decide (wt.getD i (0,0,0)=m)=decide (wt.getD j (0,0,0)=m);rw[KH (bP i z hi) (bP j z hj)]
def ti (t:Rl Int):D:=tI t
inductive spCho (vs:List V) (H:Hp) (Q:VK) (E':XK):Prop
 |mk (n:Int) (k:Nat):vs=[.int n, .int k]->(k:Int)<=n->n<=15->Q (.int (chF n k)) H->spCho vs H Q E'
inductive spWm (vs:List V) (H:Hp) (Q:VK) (E':XK):Prop
 |mk (v:V) (t:List Int) (p:Nat) (m:Int):vs=[v, .int p, .int m]->Is H (tI t) v->p<t.length->t.length<=5->(∀u H',af H H'->Is H' (tI (wmF t p m)) u->Q u H')->spWm vs H Q E'
def KJ (t:Rl Int) (a:Nat):Prop:=t.length<=5/\(∀i:Nat,0<=t.getD i 0)/\t.sum+(a:Int)<=15
inductive spPB (n:Nat) (E':W.Frag) (vs:List V) (H:Hp) (Q:VK) (E2:XK):Prop
 |mk (v:V) (t:List Int) (p g a:Nat):vs=[v, .int p, .int ((p:Int)+(g:Int)), .int a]->Is H (tI t) v->g<n->n<=6->p+g<t.length->KJ t a->(∀l H',af H H'->H l=none->Is H' (.l ((pbF g t p a).map prD)) (.ref l)->Q (.ref l) H')->spPB n E' vs H Q E2
def xQ (d:Nat) (mk:Rl Lf):Prop:=(∀m∈mk,1<=m.1/\m.1<m.2.1/\m.2.1<=(d:Int)+1)/\mk.length<=15
inductive spHMO (vs:List V) (H:Hp) (Q:VK) (E':XK):Prop
 |mk (d:Nat) (v:V) (mk:List Lf):vs=[.int d,v]->1<=d->d<=5->Is H (lfs mk) v->xQ d mk->ssB (mk.map bU)=true->(∀H',af H H'->Q (.int (hmF d mk)) H')->spHMO vs H Q E'
theorem KM {x:Rl Lf} (h:mkB d x=true):xQ d (x++ff d (bI d x))/\ssB (mkD d x)=true:=by
 unfold mkB at h;simp only[AA,AV,AT] at h;exact⟨⟨λm hm=>⟨(h.1.1 m hm).1.1,(h.1.1 m hm).1.2,(h.1.1 m hm).2⟩,h.1.2⟩,h.2⟩
inductive spHM (vs:List V) (H:Hp) (Q:VK) (E':XK):Prop
 |mk (d:Nat) (v:V) (ps:List Lf):vs=[.int d,v]->1<=d->d<=5->Is H (lfs ps) v->Snd d ps->mkB d ps=true->(∀H',af H H'->Q (.int (hmF d (ps++ff d (bI d ps)))) H')->spHM vs H Q E'
theorem KN {t:Rl Int}(H':Hp) (vs:Rl V) (h:Iss H' (t.map .i) vs):Iss H' ((t.take p).map .i) (bT vs none (some (p:Int))):=by
 rw[qE,List.map_take];exact h.take p
theorem KO {t:Rl Int}(hp:p<=t.length) (H':Hp) (vs:Rl V) (h:Iss H' (t.map .i) vs):Iss H' ((t.drop p).map .i) (bT vs (some (p:Int)) none):=by
 rw[ml (by rw[h.length,A1];exact hp),DC];exact h.drop p
theorem xR:∀{g:Nat}{t:Rl Int}{p a:Nat},(pbF g t p a).length<=(a+1)^g
 |0,t,p,a=>by simp[pbF]
 |g+1,t,p,a=>by
  have go:∀n,n<=a+1->((List.range n).flatMap λh:Nat=>(pbF g (wmF t p (h:Int)) (p+1) (a-h)).map λx=>(x.1,chF (t.getD p 0+(h:Int)) h*x.2)).length<=n*(a+1)^g:=by
   intro n hn;induction n with
   |zero=>simp
   |succ n ih=>
    rw[iq,AE,A1];have h1:=ih (by lia);have h2:=xR (g:=g) (t:=wmF t p (n:Int)) (p:=p+1) (a:=a-n);have h3:(a-n+1)^g<=(a+1)^g:=Nat.pow_le_pow_left (by lia) g;rw[Cf];lia
  have:=go (a+1) (AB _);rw[Cz,Nat.mul_comm];exact this
theorem KP {g:Nat}{t:Rl Int}{a:Nat} (hg:g<=5) (ha:a<=15):(pbF g t p a).length<=1048576:=by
 have h1:=xR (g:=g) (t:=t) (p:=p) (a:=a);have h2:(a+1)^g<=16^g:=Nat.pow_le_pow_left (by lia) g;have h3:16^g<=16^5:=Bs (by decide) hg;lia
theorem mn (h:n<=1048576):n<sizeLine:=by rw[Av];lia
def qF {t:Rg}(h:H t=some (.tup [u, .int x.2])) (k:Is H (tI x.1) u):Is H (prD x) (.ref t):=bA h (au k (au bz ax))
theorem qG (h:Is H (prD x) v):∃t u,v= .ref t/\H t=some (.tup [u, .int x.2])/\Is H (tI x.1) u:=by
 obtain⟨t,vs,rfl,ht,hi⟩:=bB h;obtain⟨u1,us,rfl,MH,hi⟩:=aI hi;obtain⟨u2,us,rfl,MY,hi⟩:=aI hi;rw[bn hi,az MY] at ht;exact⟨t,u1,rfl,ht,MH⟩
theorem KQ (s:aB H H') {t:Rl Int}(h:Is H (tI t) v):Is H' (tI t) v:=by
 obtain⟨a,rfl,ha⟩:=bL h;exact dY (s _ _ ha)
theorem mo (s:aB H H') (h:Is H (prD x) v):Is H' (prD x) v:=by
 obtain⟨a,u,rfl,ha,hu⟩:=qG h;exact qF (s _ _ ha) (KQ s hu)
theorem xS {H H':Hp} (s:aB H H'):∀{xs:Rl (Rl Int×Int)}{vs:Rl V},Iss H (xs.map prD) vs->Iss H' (xs.map prD) vs
 |[],_,h=>by rw[bn h];exact ax
 |x::xs,_,h=>by
  obtain⟨u,us,rfl,q,r⟩:=aI h;exact au (mo s q) (xS s r)
theorem KR {r:Rl Nat}{t:Rl Int}(h:∀i:Nat,0<=t.getD i 0) (hs:t.sum+(r.sum:Nat)<=15) (hl:r.length<=5): -(2^64)<cg t p r/\cg t p r<2^64:=by
 obtain⟨a,b⟩:=wd (p:=p) h hs;have:(6435:Int)^r.length<=6435^5:=by
  have:r.length=0\/r.length=1\/r.length=2\/r.length=3\/r.length=4\/r.length=5:=by lia
  rcases this with e|e|e|e|e|e<;>rw[e]<;>decide
 lia
theorem KS {wt:Rl Lf}{m:Lf}(h:Iss H (wt.map lf) Pz) (k:Is H (lf m) v):nA K H 1 Pz v (λj=>decide (wt.getD j (0,0,0)=m)):=by
 obtain⟨a,b,c⟩:=KI (K:=K) h k;exact⟨a,λj z hz=>⟨(b j z hz).1,(b j z hz).2.told⟩,c⟩
theorem KU (xs:Rl Lf):(c9 xs).Nodup:=(pU xs).imp fun{a b} h e=>by subst e;exact lD h
theorem xT {α β:Type} (f:β->α->β) (b:β) (xs:Rl α) (j:Nat) (x:α) (h:xs[j]? =some x):(xs.take (j+1)).foldl f b=f ((xs.take j).foldl f b) x:=by
 rw[AW,h,Bx];rfl
theorem KW (cnt:Lf->Nat) (m:Lf) (ms:Rl Lf):TF cnt (m::ms)=iw (TF cnt ms) (m.1-1).toNat (spR (m.2.1-m.1-1).toNat (cnt m)):=by funext t;rfl
def KY {rs:Rl (Rl Nat)}{D:Tab}{acc:Tab} (h:D[j]? =some x):stP p rs (D.take (j+1)) acc=inP x.1 x.2 p rs (stP p rs (D.take j) acc):=xT _ _ D j x h
def KZ {d:Rg}{Mc:Rl (Rl Key×V)}(h:H d=some (.dT Mc)):aB H (upd H d o):=(LTS.dict h).2
theorem qH {κ:Type} [DecidableEq κ] {k:κ}:∀{R:Rl (κ×Int)},k∈R.map (·.1)->(k,dz R k)∈R
 |[],h=>nomatch h
 |(a,b)::r,h=>by
  unfold dz;by_cases e:a=k
  .rw [A6 e,e];exact AD
  .rw [A5 e];rw[AL,AJ] at h;exact AK _ (qH (h.resolve_left λz=>e z.symm))
theorem qI {κ:Type} [DecidableEq κ] {k:κ}{v:Int}:∀{R:Rl (κ×Int)},dz (cm R k v) k=v/\k∈(cm R k v).map (·.1)
 |[]=>by simp[cm,dz]
 |(a,b)::r=>by
  obtain⟨h1,h2⟩:=qI (k:=k) (v:=v) (R:=r);unfold cm;by_cases e:a=k
  .rw [A6 e];exact⟨A6 e,by rw[AL,e];exact AD⟩
  .rw [A5 e];exact⟨by unfold dz;rw[A5 e];exact h1,by rw[AL];exact AK _ h2⟩
def rwL (t:Rl Int):D:= .l (t.map .i)
def qD (q:Ask4):D:= .t [.i q.d, .i q.k,tI q.h,tI q.f]
def smD (x:Sm4):D:= .t [.i x.1,rwL x.2.1,qD x.2.2]
def kq (q:Ask4):Rl (Mx Int):=[.inl q.d, .inl q.k, .inr q.h, .inr q.f]
theorem xU {r:Ask4} (h:kq q=kq r):q=r:=by
 obtain⟨a,b,c,d⟩:=q;obtain⟨a',b',c',d'⟩:=r;unfold kq at h;simp only[C',Sum.inl.injEq,Sum.inr.injEq,and_true] at h;obtain⟨rfl,rfl,rfl,rfl⟩:=h;rfl
def iK (h:Is H (qD q) v):IsK H (kq q) v:=⟨rfl,h⟩
theorem iL {t:Rl Int}(h:Is H (rwL t) v):∃a,v= .ref a/\H a=some (.lst (t.map V.int)):=by
 obtain⟨a,vs,rfl,ha,hi⟩:=aA h;rw[gX hi] at ha;exact⟨a,rfl,ha⟩
def gK {t:Rl Int}(h:H a=some (.lst (t.map V.int))):Is H (rwL t) (.ref a):=aD h (fA t)
theorem xV {H0:Hp}{t:Rl Int}(n:H0 a=none) (h:Is H (rwL t) (.ref a)):Is (nw H0 H) (rwL t) (.ref a):=by
 obtain⟨_,e,ha⟩:=iL h;cases e;exact gK (by rw[cJ n];exact ha)
theorem fN (t:aB H H') (h:Is H (tI xs) v):Is H' (tI xs) v:=by
 obtain⟨a,rfl,ha⟩:=bL h;exact dY (t _ _ ha)
theorem iM {H H':Hp} (t:aB H H'):∀{ts:Rl (Rl Int)}{vs:Rl V},Iss H (ts.map tI) vs->Iss H' (ts.map tI) vs
 |[],_,h=>by rw[bn h];exact ax
 |p::ps,_,h=>by
  obtain⟨u,us,rfl,h1,h2⟩:=aI h;exact au (fN t h1) (iM t h2)
theorem xW (t:aB H H') (h:Is H (qD q) v):Is H' (qD q) v:=by
 obtain⟨a,vs,rfl,ha,hi⟩:=bB h;obtain⟨u1,us,rfl,h1,hi⟩:=aI hi;obtain⟨u2,us,rfl,h2,hi⟩:=aI hi;obtain⟨u3,us,rfl,h3,hi⟩:=aI hi;obtain⟨u4,us,rfl,h4,hi⟩:=aI hi;rw[bn hi,az h1,az h2] at ha;exact bA (t _ _ ha) (au bz (au bz (au (fN t h3) (au (fN t h4) ax))))
def dg (t:Rl Int):Prop:=Nn t/\t.length<=5/\(t=[]\/∃s x,t=s++[x]/\0<x)
inductive spIsR (vs:List V) (H:Hp) (Q:VK) (E':XK):Prop
 |mk (v:V) (t:List Int):vs=[v]->Is H (rwL t) v->dg t->Q (.bl true) H->spIsR vs H Q E'
inductive spRwL (vs:List V) (H:Hp) (Q:VK) (E':XK):Prop
 |mk (v:V) (t:List Int):vs=[v]->Is H (rwL t) v->t.length<=5->(∀H',af H H'->Q (.int (wtF t)) H')->spRwL vs H Q E'
inductive spRwT (vs:List V) (H:Hp) (Q:VK) (E':XK):Prop
 |mk (v:V) (t:List Int):vs=[v]->Is H (tI t) v->t.length<=5->(∀H',af H H'->Q (.int (wtF t)) H')->spRwT vs H Q E'
inductive spNeR (vs:List V) (H:Hp) (Q:VK) (E':XK):Prop
 |mk (d:Int) (v1 v2:V) (a b:List Int):vs=[.int d,v1,v2]->Is H (rwL a) v1->Is H (rwL b) v2->dg a->dg b->wtF a+wtF b=d->(∀H',af H H'->Q .non H')->spNeR vs H Q E'
inductive spPrd (vs:List V) (H:Hp) (Q:VK) (E':XK):Prop
 |mk (v:V) (ws:List Int):vs=[v]->Is H (rwL ws) v->((∀w∈ws,1<=w/\w<=5))->Q (.int (cy ws)) H->spPrd vs H Q E'
inductive spFil (vs:List V) (H:Hp) (Q:VK) (E':XK):Prop
 |mk (v:V) (t:List Int) (n:Nat):vs=[v, .int n]->Is H (rwL t) v->t.length<=n->n<=5->(∀u H',af H H'->Is H' (tI (bi n t)) u->Q u H')->spFil vs H Q E'
inductive spRwn (vs:List V) (H:Hp) (Q:VK) (E':XK):Prop
 |mk (v:V) (t:List Int):vs=[v]->Is H (tI t) v->Nn t->t.sum<=5->t.length<=5->(∀l H',af H H'->H l=none->Is H' (.l ((rwF t).map tI)) (.ref l)->Q (.ref l) H')->spRwn vs H Q E'
inductive spRby (n:Nat) (E':W.Frag) (vs:List V) (H:Hp) (Q:VK) (E2:XK):Prop
 |mk (v:V) (t:List Int) (wt:Int) (fi:Nat):vs=[v, .int wt, .int fi]->Is H (tI t) v->Nn t->t.length<=5->(wt-wtF t).toNat+1<=n->n<=8->-1000<=wt->wt<=1000->-1000<=wtF t->wtF t<=1000->fi<=5->(∀l H',af H H'->H l=none->Is H' (.l ((rbF n t wt fi).map tI)) (.ref l)->Q (.ref l) H')->spRby n E' vs H Q E2
inductive spChs (vs:List V) (H:Hp) (Q:VK) (E':XK):Prop
 |mk (v1 v2:V) (b a:List Int):vs=[v1,v2]->Is H (tI b) v1->Is H (tI a) v2->Le a b->b.sum<=5->(∀H',af H H'->Q (.int (cx b a)) H')->spChs vs H Q E'
inductive spWgn (vs:List V) (H:Hp) (Q:VK) (E':XK):Prop
 |mk (v1 v2:V) (f fr:List Int):vs=[v1,v2]->Is H (tI f) v1->Is H (tI fr) v2->Le f fr->fr.length<=5->fr.sum<=5->(∀l H',af H H'->H l=none->Is H' (rwL (wgF f fr)) (.ref l)->Q (.ref l) H')->spWgn vs H Q E'
inductive spOne (g:Ask4->List Sm4) (vs:List V) (H:Hp) (Q:VK) (E':XK):Prop
 |mk (v1 v2:V) (q:Ask4) (L:Nat):vs=[.int q.d, .int q.k,v1,v2]->Is H (tI q.h) v1->Is H (tI q.f) v2->AskOk L q->2<=q.d->(∀l H',af H H'->H l=none->Is (nw H H') (.l ((g q).map smD)) (.ref l)->Q (.ref l) H')->spOne g vs H Q E'
inductive spSms (vs:List V) (H:Hp) (Q:VK) (E':XK):Prop
 |mk (v:V) (q:Ask4) (L:Nat):vs=[v]->Is H (qD q) v->AskOk L q->2<=q.d->(∀l H',af H H'->H l=none->Is (nw H H') (.l ((ci q).map smD)) (.ref l)->Q (.ref l) H')->spSms vs H Q E'
theorem qJ:∀{a b:Rl Int}{k:Int},Le a b->((wgG k a b).length:Int)=b.sum-a.sum
 |[],[],_,_=>rfl
 |x::a,y::b,k,h=>by
  show((List.replicate (y-x).toNat k++wgG (k+1) a b).length:Int)=_;have:=qJ (k:=k+1) h.2.2;have h1:=h.2.1;rw[AE,Am,Aq,Aq];lia
theorem xX:∀{a b:Rl Int}{k:Int},Le a b->∀w∈wgG k a b,k<=w/\w<k+a.length
 |[],[],_,_,w,h=>nomatch h
 |x::a,y::b,k,h,w,hw=>by
  rcases B9.mp (show w∈List.replicate (y-x).toNat k++wgG (k+1) a b from hw) with hw|hw
  .have:=List.eq_of_mem_replicate hw;rw[Ad];lia
  .have:=xX h.2.2 w hw;rw[Ad];lia
def KnQ (L:Nat) (R:Rl (Rl (Mx Int)×Int)):Prop:=(R.map (·.1)).Nodup/\∀x∈R,∃q,AskOk L q/\0<=q.k/\x=(kq q,cF q)
def K0 (L:Nat):Rl (Rl (Mx Int)):=(List.range 6).flatMap λd:Nat=>(List.range 7).flatMap λk:Nat=>(cS 1 L 5).flatMap λh=>(cS 1 L 5).map λf=>kq ⟨(d:Int),(k:Int),h,f⟩
theorem jS {α β:Type}{g:α->Rl β}{m:Nat}:∀{xs:Rl α},(∀x∈xs,(g x).length<=m)->(xs.flatMap g).length<=xs.length*m
 |[],_=>AO _
 |x::xs,h=>by
  rw[Bl,AE,Ad,Cf];have:=jS (xs:=xs) λy hy=>h y (AK _ hy);have:=h x AD;lia
theorem K1 (h:L<=5):(K0 L).length<=15162:=by
 have r:(cS 1 L 5).length<=19:=by
  have h1:=Je;unfold wL at h1;rw[AT] at h1;simpa using h1 L (AX.mpr (by lia))
 have e1:∀(d k:Nat) (h':Rl Int),((cS 1 L 5).map λf=>kq ⟨(d:Int),(k:Int),h',f⟩).length<=19:=λd k h'=>by rw[A1];exact r
 have e2:∀(d k:Nat),((cS 1 L 5).flatMap λh=>(cS 1 L 5).map λf=>kq ⟨(d:Int),(k:Int),h,f⟩).length<=361:=λd k=>BH (jS λh' _=>e1 d k h') (by lia);have e3:∀d:Nat,((List.range 7).flatMap λk:Nat=>(cS 1 L 5).flatMap λh=>(cS 1 L 5).map λf=>kq ⟨(d:Int),(k:Int),h,f⟩).length<=2527:=λd=>by
  have:=jS (xs:=List.range 7) (m:=361) λk _=>e2 d k;rw[Bk] at this;exact this
 have:=jS (xs:=List.range 6) (m:=2527) λd _=>e3 d;rw[Bk] at this;exact this
theorem xY {ks:Rl (Rl (Mx Int))} (nd:ks.Nodup) (h:∀x∈ks,∃q,AskOk L q/\0<=q.k/\x=kq q) (h5:L<=5):ks.length<=15162:=by
 refine BH (lQ nd λx hx=> ?_) (K1 h5);obtain⟨q,a,k0,rfl⟩:=h x hx;have wh:=de (i:=1) (by decide) a.hn;have wf:=de (i:=1) (by decide) a.fn;have w:=a.wt;have d1:=a.d1;have dL:=a.dL;have k6:=a.k6;unfold wtF at w;refine B6.mpr ⟨q.d.toNat,AX.mpr (by lia),B6.mpr ⟨q.k.toNat,AX.mpr (by lia),B6.mpr ⟨q.h,jE (by decide) a.hl a.hn (by show wtG 1 q.h<=5;lia),Ac.mpr ⟨q.f,jE (by decide) a.fl a.fn (by show wtG 1 q.f<=5;lia), ?_⟩⟩⟩⟩;show kq ⟨((q.d.toNat:Nat):Int),((q.k.toNat:Nat):Int),q.h,q.f⟩=kq q;rw[show((q.d.toNat:Nat):Int)=q.d by lia,show((q.k.toNat:Nat):Int)=q.k by lia]
theorem KnQ.len {R:Rl (Rl (Mx Int)×Int)} (h:KnQ L R) (h5:L<=5):R.length<=15162:=by
 rw[<-A1 (f:=(·.1))];refine xY h.1 (λx hx=> ?_) h5;obtain⟨y,hy,rfl⟩:=Ac.mp hx;obtain⟨q,a,k0,rfl⟩:=h.2 y hy;exact⟨q,a,k0,rfl⟩
theorem KnQ.get {L:Nat}{R:Rl (Rl (Mx Int)×Int)} (h:KnQ L R) {q:Ask4} (hk:kq q∈R.map (·.1)):dz R (kq q)=cF q:=by
 obtain⟨r,_,_,e⟩:=h.2 _ (qH hk);simp only[DB] at e;rw[e.2,xU e.1]
def KnQ.put {R:Rl (Rl (Mx Int)×Int)} (h:KnQ L R) (a:AskOk L q) (k0:0<=q.k):KnQ L (cm R (kq q) (cF q)):=
 ⟨w6 h.1,λx hx=>(ql hx).elim (λhx=>h.2 x hx) λe=>⟨q,a,k0,e⟩⟩
theorem dh {Mc:Rl (Rl (Mx Int)×V)} (d:DM P w H a Mc) (k:But a H H'):LTS H H':=by
 obtain⟨_,_,xs,_,e⟩:=d;exact⟨λb ys h=>k _ _ h (by rintro rfl;rw[e] at h;cases h),λb ys h=>k _ _ h (by rintro rfl;rw[e] at h;cases h)⟩
inductive spCnt (P:Program) (w:World) (n:Nat) (vs:List V) (H:Hp) (Q:VK) (E':XK):Prop
 |mk (v:V) (kn:Addr) (q:Ask4) (L:Nat) (R:List (List (Mx Int)×Int)):vs=[v, .ref kn]->Is H (qD q) v->AskOk L q->muF q+1<=(n:Int)->DM P w H kn (tK R)->KnQ L R->(∀R' H',But kn H H'->DM P w H' kn (tK R')->KnQ L R'->Q (.int (cF q)) H')->spCnt P w n vs H Q E'
inductive spAsk (vs:List V) (H:Hp) (Q:VK) (E':XK):Prop
 |mk (d k:Nat) (v1 v2:V) (a b:List Int):vs=[.int d, .int k,v1,v2]->Wide d k->Is H (rwL a) v1->Is H (rwL b) v2->dg a->dg b->wtF a+wtF b=d->a.length<=d->b.length<=d->(∀u H',af H H'->Is H' (qD ⟨d,k,bi d a,bi d b⟩) u->Q u H')->spAsk vs H Q E'
inductive spByE (vs:List V) (H:Hp) (Q:VK) (E':XK):Prop
 |mk (d k:Nat) (v1 v2:V) (a b:List Int):vs=[.int d, .int k,v1,v2]->Wide d k->Is H (rwL a) v1->Is H (rwL b) v2->dg a->dg b->wtF a+wtF b=d->a.length<=d->b.length<=d->(∀H',af H H'->Q (.int (cF ⟨d,k,bi d a,bi d b⟩)) H')->spByE vs H Q E'
theorem K2 (a:AskOk L q) (d2:2<=q.d) {x:Sm4} (hx:x∈ci q):(0<=x.1/\x.1<=1024)/\(∀w∈x.2.1,1<=w/\w<=5)/\x.2.1.length<=5:=by
 unfold ci at hx;rcases B9.mp hx with hx|hx
 .obtain⟨_,_,e1,w,e2,w1,w5⟩:=a.held hx;rw[e1,e2];exact⟨⟨by decide,by decide⟩,λy hy=>by rw[AR.mp hy];exact⟨w1,w5⟩,by simp⟩
 .obtain⟨kp,hk,fr,hf,rfl⟩:=p9 hx;obtain⟨_,_,l1,l2,f5⟩:=a.few d2 hk hf;have c1:=lM l1 a.sums.2.1;have c2:=lM l2 f5;have m1:=Bm c1.1 c2.1;have m2:=Ca c1.2 c2.2 c2.1 (by decide);refine⟨⟨m1,by show _*_<=1024;lia⟩,λw hw=> ?_, ?_⟩
  .have:=xX (k:=1) l2 w hw;have:=a.fl;have:=a.L5;lia
  .have:=qJ (k:=1) l2;have:=a.sums;show(wgG 1 q.f fr).length<=5;lia
theorem xZ:∀{ws:Rl Int},(∀w∈ws,1<=w/\w<=5)->0<=cy ws/\cy ws<=5^ws.length
 |[],_=>by simp[cy]
 |w::ws,h=>by
  obtain⟨h1,h2⟩:=xZ λx hx=>h x (AK _ hx);obtain⟨w1,w5⟩:=h w AD;rw[show w::ws=[w]++ws from rfl,Jf,show cy [w]=w by show 1*w=w;lia];refine⟨Bm (by lia) h1, ?_⟩;rw[AE,Int.pow_add];exact Ca w5 h2 h1 (Int.pow_nonneg (by decide))
inductive spWorth (vs:List V) (H:Hp) (Q:VK) (E':XK):Prop
 |mk (dv:V) (ps:List Lf) (d:Nat):vs=[dv]->Is H (lfs ps) dv->((∀p∈ps,True/\1<=p.2.2/\p.2.2<=2^20))->Q (.int (fI ps)) H->spWorth vs H Q E'
inductive spCtF (f:Nat->Nat->Int) (vs:List V) (H:Hp) (Q:VK) (E':XK):Prop
 |mk (d k:Nat):vs=[.int d, .int k]->Wide d k->(∀H',af H H'->Q (.int (f d k)) H')->spCtF f vs H Q E'
def fO (x:Pc×Rl Pt):D:= .t [pcD x.1,pts x.2]
def Sd (s:Int):Prop:=s=1\/s= -1
inductive spCrn (vs:List V) (H:Hp) (Q:VK) (E':XK):Prop
 |mk (a b c:V) (p q r:Pt):vs=[a,b,c]->Is H (pt p) a->Is H (pt q) b->Is H (pt r) c->inB p=true->inB q=true->inB r=true->Q (.int (crn p q r)) H->spCrn vs H Q E'
inductive spIsP (vs:List V) (H:Hp) (Q:VK) (E':XK):Prop
 |mk (d:Nat) (v:V) (p:Pt):vs=[.int d,v]->Is H (pt p) v->Q (.bl (bu d p)) H->spIsP vs H Q E'
def x6:Rp Nat->V
 |none=> .non
 |some p=> .int p
inductive spTurn (vs:List V) (H:Hp) (Q:VK) (E':XK):Prop
 |mk (v:V) (ps:List Pt) (s:Int):vs=[v, .int s]->Is H (pts ps) v->psB ps=true->Sd s->Q (x6 (bw ps s)) H->spTurn vs H Q E'
inductive spSteps (vs:List V) (H:Hp) (Q:VK) (E':XK):Prop
 |mk (d:Nat) (v:V) (ps:List Pt) (s:Int):vs=[.int d,v, .int s]->Is H (pts ps) v->psB ps=true->Sd s->(∀l H',af H H'->H l=none->Is (nw H H') (.l ((aW d ps s).map fO)) (.ref l)->Q (.ref l) H')->spSteps vs H Q E'
inductive spLv (n:Nat) (K:W.Frag) (vs:List V) (H:Hp) (Q:VK) (E':XK):Prop
 |mk (a:Addr) (rs:List V) (k:Nat):vs=[.ref a, .int k]->SqL K H a rs->rs.length<n->rs.length<=20->(∀(l:Addr) (us:List V) (H':Hp),af H H'->H l=none->H' l=some (.lst us)->bX H H' (lvA rs k) us->Q (.ref l) H')->spLv n K vs H Q E'
theorem K3 (ps:Rl Pt):nK (wk ps)= .t (ps.map pt):=by
 unfold nK wk;rw[BM];rfl
theorem iN (h:Is H (.t (ps.map pt)) v):Is H (nK (wk ps)) v:=by
 rw[K3];exact h
theorem bK (d:DN P w H a Mc) (k:But a H H'):LTS H H':=by
 obtain⟨_,_,xs,_,e⟩:=d;exact⟨λb ys h=>k _ _ h (by rintro rfl;rw[e] at h;cases h),λb ys h=>k _ _ h (by rintro rfl;rw[e] at h;cases h)⟩
def KnG (d:Nat) (e0:Rl Pt) (Wq:Rl Pt->Int) (R:Rl (Rl (Rl Int)×Int)):Prop:=(R.map (·.1)).Nodup/\(∀x∈R,∃ps,ay d ps/\x=(wk ps,Wq ps))/\wk e0∈R.map (·.1)
theorem KnG.len (h:KnG d e0 Wq R) (hd:d<=4):R.length<=32768:=xa hd h.1 λx hx=>by
 obtain⟨ps,ok,e⟩:=h.2.1 x hx;exact⟨ps,ok,by rw[e]⟩
theorem KnG.get {d:Nat}{e0:Rl Pt}{Wq:Rl Pt->Int}{R:Rl (Rl (Rl Int)×Int)} (h:KnG d e0 Wq R) {ps:Rl Pt} (hk:wk ps∈R.map (·.1)):dz R (wk ps)=Wq ps:=by
 obtain⟨qs,_,e⟩:=h.2.1 _ (qH hk);have e1:=qg (B' Prod.fst e);have e2:dz R (wk ps)=Wq qs:=B' Prod.snd e;rw[e2,e1]
theorem KnG.put (h:KnG d e0 Wq R) (ok:ay d ps):KnG d e0 Wq (cm R (wk ps) (Wq ps)):=
 ⟨w6 h.1,λx hx=>(ql hx).elim (λhx=>h.2.1 x hx) λe=>⟨ps,ok,e⟩,by
  rw[qk];split
  .exact h.2.2
  .exact Bt _ h.2.2⟩
inductive spWoG (P:Program) (w:World) (n:Nat) (vs:List V) (H:Hp) (Q:VK) (E':XK):Prop
 |mk (d:Nat) (v:V) (kn:Addr) (ps:List Pt) (R:List (List (List Int)×Int)) (sg:Int) (e0:List Pt) (Wq mu:List Pt->Int):vs=[.int d,v, .int sg, .ref kn]->Side d sg e0 Wq mu->1<=d->d<=4->Is H (pts ps) v->ay d ps->mu ps+1<=n->DN P w H kn (tK R)->KnG d e0 Wq R->(∀R' H',But kn H H'->DN P w H' kn (tK R')->KnG d e0 Wq R'->Q (.int (Wq ps)) H')->spWoG P w n vs H Q E'
inductive spKnG (P:Program) (w:World) (e0:Nat->List Pt) (Wq:Nat->List Pt->Int) (vs:List V) (H:Hp) (Q:VK) (E':XK):Prop
 |mk (d:Nat):vs=[.int d]->1<=d->d<=4->(∀kn R H',af H H'->H kn=none->DN P w H' kn (tK R)->KnG d (e0 d) (Wq d) R->Q (.ref kn) H')->spKnG P w e0 Wq vs H Q E'
inductive spPw (vs:List V) (H:Hp) (Q:VK) (E':XK):Prop
 |mk (v:V) (c:Pc):vs=[v]->Is H (pcD c) v->((∀p∈c,inB p=true))->((c.length=3\/c.length=4))->Q (.int (pwF c)) H->spPw vs H Q E'
theorem x8 (hd:d<=4) (h:ay d ps) {x:Pc×Rl Pt} (hx:x∈aW d ps sg):(∀p∈x.1,inB p=true)/\(x.1.length=3\/x.1.length=4):=by
 have inb:∀p,bu d p=true->inB p=true:=λp hp=>by
  have:=cj.mp hp;unfold inB;simp only[AA,AV];lia
 unfold aW at hx;cases hT:bw ps sg with
 |none=>rw[hT] at hx;exact nomatch hx
 |some p=>
  rw[hT] at hx;dsimp only at hx;obtain⟨p1,p2⟩:=jI hT;have i1:=inb _ (h.1 _ (dN (ps:=ps) (j:=p-1) (by lia)));have i2:=inb _ (h.1 _ (dN (ps:=ps) (j:=p) (by lia)));have i3:=inb _ (h.1 _ (dN (ps:=ps) (j:=p+1) (by lia)));rcases B9.mp hx with hx|hx
  .rw [AR.mp hx];refine⟨λq hq=> ?_, .inl rfl⟩;simp only[AJ,Au,Bo] at hq;rcases hq with rfl|rfl|rfl
   .exact i1
   .exact i2
   .exact i3
  .cases hP:bu d (aH (ps.getD (p-1) zP) (ps.getD p zP) (ps.getD (p+1) zP)) with
   |false=>rw[hP] at hx;simp at hx
   |true=>
    rw[hP,A6 rfl] at hx;rw[AR.mp hx];refine⟨λq hq=> ?_, .inr rfl⟩;simp only[AJ,Au,Bo] at hq;rcases hq with rfl|rfl|rfl|rfl
    .exact i1
    .exact i2
    .exact i3
    .exact inb _ hP
theorem DN.but {b:Rg}{MQ:Rl (Rl (Rl Int)×V)} (d:DN P w H a Mc) (e:DN P w H b MQ) (k:But b H H') (n:a≠b):DN P w H' a Mc:=by
 obtain⟨z,y,xs,r,h⟩:=id d;exact d.keeps ((k _ _ h n).trans h.symm) (bK e k).2
theorem K4 {L M:Rl (Rl Pt)} (h:L.Perm M):eI d L=eI d M:=by
 unfold eI;induction h with
 |nil=>rfl
 |cons x _ ih=>rw[AL,AL,Aq,Aq,ih]
 |swap x y l=>simp only[AL,Aq];lia
 |trans _ _ i1 i2=>rw[i1,i2]
def qK (a b:Rg) (H H':Hp):Prop:=∀c o,H c=some o->c≠a->c≠b->H' c=some o
theorem K5 {c:Pc} (h:∀p∈c,inB p=true) (hl:c.length=3\/c.length=4): -(2^64)<pwF c/\pwF c<2^64:=by
 unfold pwF;by_cases e:c.length=3
 .rw [A6 e];have g:∀j,j<c.length->-20<=(c.getD j zP).1/\(c.getD j zP).1<=20/\-20<=(c.getD j zP).2/\(c.getD j zP).2<=20:=λj hj=>by
   have:=h _ (dN hj);unfold inB at this;simp only[AA,AV] at this;lia
  have g0:=g 0 (by lia);have g1:=g 1 (by lia);have g2:=g 2 (by lia);generalize c.getD 0 zP=a at g0;generalize c.getD 1 zP=b at g1;generalize c.getD 2 zP=e at g2;have m:∀x y:Int,-40<=x->x<=40->-40<=y->y<=40->-1600<=x*y/\x*y<=1600:=λx y a1 a2 b1 b2=>by
   have:(x*y).natAbs<=1600:=by
    rw[Int.natAbs_mul];exact D0 (show x.natAbs<=40 by lia) (show y.natAbs<=40 by lia)
   lia
  have m1:=m (b.1-a.1) (e.2-b.2) (by lia) (by lia) (by lia) (by lia);have m2:=m (b.2-a.2) (e.1-b.1) (by lia) (by lia) (by lia) (by lia);unfold abI crn;split<;>lia
 .rw [A5 e];lia
inductive spCbW (vs:List V) (H:Hp) (Q:VK) (E':XK):Prop
 |mk (d k:Nat):vs=[.int d, .int k]->dy d k->(∀H',af H H'->Q (.int (eI d (bt d k))) H')->spCbW vs H Q E'
inductive spNarQ (vs:List V) (H:Hp) (Q:VK) (E':XK):Prop
 |mk (d k:Nat):vs=[.int d, .int k]->dy d k->Q .non H->spNarQ vs H Q E'
inductive spEdQ (f:Nat->List Pt) (vs:List V) (H:Hp) (Q:VK) (E':XK):Prop
 |mk (n:Nat):vs=[.int n]->1<=n->n<=5->(∀l H',af H H'->H l=none->Is H' (pts (f n)) (.ref l)->Q (.ref l) H')->spEdQ f vs H Q E'
inductive spWayP (vs:List V) (H:Hp) (Q:VK) (E':XK):Prop
 |mk (d k:Nat):vs=[.int d, .int k]->dy d k->((bt d k).length<=1000/\sWy d k=true)->(∀(L:List (List Pt)) l H',L.Perm (bt d k)->af H H'->H l=none->Is H' (.l (L.map pts)) (.ref l)->Q (.ref l) H')->spWayP vs H Q E'
inductive spDrP (vs:List V) (H:Hp) (Q:VK) (E':XK):Prop
 |mk (d k:Nat):vs=[.int d, .int k]->Wide d k->(okB d k=true/\(cf d k).length<=1000/\sDr d k=true)->(∀(L:List (List Lf)) l H',L.Perm (cf d k)->af H H'->H l=none->Is (nw H H') (.l (L.map lfs)) (.ref l)->Q (.ref l) H')->spDrP vs H Q E'
theorem x9 {α:Type}{f:Rl α->D}{lt:Rl α->Rl α->Bool}{L:Rl (Rl α)}(Mf:H acc=some (.lst vs)) (MU:Iss H (L.map f) vs) (hf:∀x v,Is H (f x) v->∃a ys,v= .ref a/\H a=some (.lst ys)) (QA:∀x y v w,Is H (f x) v->Is H (f y) w->Ask K H v w (lt x y)) (hl:L.length<=1000) (hs:mh (λi j=>L[i]?.bind λx=>L[j]?.map λy=>lt x y) L.length=true) (kk:∀(p:Rl Nat) q,p.Perm (List.range L.length)->H q=none->Q (.ref q) (upd H q (.lst (p.map λi=>vs.getD i .non)))):tZ K [.ref acc] H Q:=by
 have OY:vs.length=L.length:=by rw[MU.length,A1]
 unfold mh at hs;by_cases Mh:L.length<2
 .refine .inl ⟨acc,vs,rfl,SqL.of Mf,by lia,λq nq=> ?_⟩;have:=kk (List.range L.length) q (List.Perm.refl _) nq;rw[<-OY,show(List.range vs.length).map (λi=>vs.getD i V.non)=vs from DA (by simp) λi h1 h2=>by simp[List.getD,h2]] at this;exact this
 .rw [Aj Mh,Bool.false_or] at hs;cases ho:gm (λi j=>L[i]?.bind λx=>L[j]?.map λy=>lt x y) L.length with
  |none=>rw[ho] at hs;cases hs
  |some p=>
   rw[ho] at hs;simp only[AA,AV] at hs;have pp:=List.isPerm_iff.mp hs.2;refine .inr ⟨acc,vs,_,p,rfl,SqL.of Mf,by lia,by lia,hs.1,λr OC=> ?_,λi j bb hb=> ?_,by rw[OY];exact ho,λi hi=>by rw[OY];exact AX.mp (pp.mem_iff.mp hi),λq nq=>kk p.toList q pp nq⟩
   .obtain⟨i,hi,rfl⟩:=DH.mp OC;obtain⟨w,_,hy⟩:=bD MU (A3 hi);obtain⟨a,ys,e1,e2⟩:=hf _ _ hy;exact⟨a,ys,e1,SqL.of e2⟩
   .obtain⟨w1,h1,hb⟩:=A9.mp hb;obtain⟨w2,h2,rfl⟩:=A8.mp hb;obtain⟨x,hx,Mm⟩:=MU.get (j:=i) (x:=f w1) (by rw[AC,h1];rfl);obtain⟨y,hy,M0⟩:=MU.get (j:=j) (x:=f w2) (by rw[AC,h2];rfl);exact⟨x,y,hx,hy,QA _ _ _ _ Mm M0⟩
theorem yb {α:Type}{L:Rl (Rl α)}{p:Rl Nat} (pp:p.Perm (List.range L.length)):(p.map λi=>L.getD i []).Perm L:=by
 have:=pp.map λi=>L.getD i [];rw[show(List.range L.length).map (λi=>L.getD i [])=L from DA (by simp) λi h1 h2=>by simp[List.getD,h2]] at this;exact this
theorem K6 {α:Type} (f:α->Int) {L M:Rl α} (h:L.Perm M):(L.map f).sum=(M.map f).sum:=by
 induction h with
 |nil=>rfl
 |cons x _ ih=>rw[AL,AL,Aq,Aq,ih]
 |swap x y l=>simp only[AL,Aq];lia
 |trans _ _ i1 i2=>rw[i1,i2]
def shD (s:Sh):D:= .t [.i s.1, .l (s.2.map .i)]
theorem jT (h:Is H (shD s) v):∃t p,v= .ref t/\H t=some (.tup [.int s.1, .ref p])/\H p=some (.lst (s.2.map V.int)):=by
 obtain⟨t,vs,rfl,ht,hi⟩:=bB h;obtain⟨u1,us,rfl,MH,hi⟩:=aI hi;obtain⟨u2,us,rfl,MY,hi⟩:=aI hi;rw[bn hi,az MH] at ht;obtain⟨p,xs,rfl,hp,hx⟩:=aA MY;rw[gX hx] at hp;exact⟨t,p,rfl,ht,hp⟩
def jU {t p:Rg} (ht:H t=some (.tup [.int s.1, .ref p])) (hp:H p=some (.lst (s.2.map V.int))):Is H (shD s) (.ref t):=bA ht (au bz (au (aD hp (fA _)) ax))
def Ent (z:Rl Int):Prop:=∀x∈z,-(10^18)<=x/\x<=10^18
inductive spMx (B:List Int->Prop) (f:Sh->Sh->Sh) (vs:List V) (H:Hp) (Q:VK) (E':XK):Prop
 |mk (v u:V) (x y:Sh):vs=[v,u]->Is H (shD x) v->Is H (shD y) u->Sms x->Sms y->B x.2->(∀v' H',af H H'->Is H' (shD (f x y)) v'->Q v' H')->spMx B f vs H Q E'
inductive spStS (vs:List V) (H:Hp) (Q:VK) (E':XK):Prop
 |mk (w:Nat):vs=[.int w]->1<=w->w<=60->(∀v' H',af H H'->Is H' (shD (cz w)) v'->Q v' H')->spStS vs H Q E'
inductive spOf (vs:List V) (H:Hp) (Q:VK) (E':XK):Prop
 |mk (n:Int):vs=[.int n]->(∀v' H',af H H'->Is H' (shD (ofN n)) v'->Q v' H')->spOf vs H Q E'
inductive spStr (vs:List V) (H:Hp) (Q:VK) (E':XK):Prop
 |mk (v:V) (ws:List Int):vs=[v]->Is H (.l (ws.map .i)) v->gI ws (ofN 1)=true->(∀v' H',af H H'->Is H' (shD (iD ws)) v'->Q v' H')->spStr vs H Q E'
def KnS (d:Nat) (e0:Rl Pt) (Wq:Rl Pt->Sh) (H:Hp) (Mc:Rl (Rl (Rl Int)×V)):Prop:=(Mc.map (·.1)).Nodup/\(∀x∈Mc,∃ps,ay d ps/\x.1=wk ps)/\(∀ps v,aR Mc (wk ps)=some v->Is H (shD (Wq ps)) v)/\∃v,aR Mc (wk e0)=some v
theorem KnS.lts {d:Nat}{e0:Rl Pt}{Wq:Rl Pt->Sh}{H H':Hp}{Mc:Rl (Rl (Rl Int)×V)} (h:KnS d e0 Wq H Mc) (s:LTS H H'):KnS d e0 Wq H' Mc:=⟨h.1,h.2.1,λps v e=>(h.2.2.1 ps v e).lts s,h.2.2.2⟩
theorem KnS.len (hd:d<=4) {Wq:Rl Pt->Sh}(h:KnS d e0 Wq H Mc):Mc.length<=32768:=by
 have e:((Mc.map λx=>(x.1,(0:Int))).map (·.1))=Mc.map (·.1):=by rw[BM];rfl
 have:=xa hd (R:=Mc.map λx=>(x.1,(0:Int))) (by rw[e];exact h.1) λx hx=>by
  obtain⟨y,hy,rfl⟩:=Ac.mp hx;exact h.2.1 y hy
 rwa [A1] at this
theorem mq {κ:Type} [DecidableEq κ] {Mc:Rl (κ×V)}{k:κ}:(∀x∈aZ Mc k v,x.1∈Mc.map (·.1)\/x.1=k)/\((Mc.map (·.1)).Nodup->((aZ Mc k v).map (·.1)).Nodup):=by
 cases e:aR Mc k with
 |none=>
  refine⟨λx hx=> ?_,λnd=> ?_⟩
  rotate_left 1
  .rw [ss v e,A7];refine List.nodup_append.mpr ⟨nd,by simp,λa ha b hb z=> ?_⟩;rw[List.map_singleton,AR] at hb;rw[z,hb] at ha;have:=fw k Mc;rw[e] at this;obtain⟨y,hy,ey⟩:=Ac.mp ha;rw[List.any_eq_true.mpr ⟨y,hy,Ar ey⟩] at this;cases this
  rw[ss v e] at hx;rcases B9.mp hx with hx|hx
  .exact .inl (Ac.mpr ⟨x,hx,rfl⟩)
  .rw [AR.mp hx];exact .inr rfl
 |some y=>
  have hk:aZ Mc k v=Mc.map λkv=>if kv.1=k then(kv.1,v) else kv:=by
   have:=fw k Mc;rw[e] at this;unfold aZ;rw[A6 (show _=true from this)]
  have ek:(aZ Mc k v).map (·.1)=Mc.map (·.1):=by
   rw[hk,BM];refine BA λx _=> ?_;show(if x.1=k then(x.1,v) else x).1=x.1;split<;>rfl
  exact⟨λx hx=> .inl (by rw[<-ek];exact Ac.mpr ⟨x,hx,rfl⟩),λnd=>by rw[ek];exact nd⟩
theorem KnS.put {Wq:Rl Pt->Sh}(h:KnS d e0 Wq H Mc) (ok:ay d ps) (hv:Is H (shD (Wq ps)) v):KnS d e0 Wq H (aZ Mc (wk ps) v):=by
 refine⟨mq.2 h.1,λx hx=> ?_,λqs u e=> ?_, ?_⟩
 .rcases mq.1 x hx with e|e
  .obtain⟨y,hy,ey⟩:=Ac.mp e;rw[<-ey];exact h.2.1 y hy
  .exact⟨ps,ok,e⟩
 .rw [iX] at e;split at e
  .rename_i q;rw[qg q];cases e;exact hv
  .exact h.2.2.1 qs u e
 .rw [iX];split
  .exact⟨_,rfl⟩
  .exact h.2.2.2
theorem KnS.one {Wq:Rl Pt->Sh}(ok:ay d e0) (h:Is H (shD (Wq e0)) v):KnS d e0 Wq H [(wk e0,v)]:=by
 refine⟨by simp,λx hx=>⟨e0,ok,by rw[AR.mp hx]⟩,λps u e=> ?_,v,cC rfl⟩;by_cases q:wk e0=wk ps
 .rw [cC q] at e;cases e;rw[<-qg q];exact h
 .rw [cO q] at e;cases e
inductive spWSh (P:Program) (w:World) (n:Nat) (vs:List V) (H:Hp) (Q:VK) (E':XK):Prop
 |mk (d:Nat) (v:V) (kn:Addr) (ps:List Pt) (Mc:List (List (List Int)×V)) (sg:Int) (e0:List Pt) (mu:List Pt->Int):vs=[.int d,v, .int sg, .ref kn]->SdM d sg e0 mu->d<=4->Is H (pts ps) v->ay d ps->mu ps+1<=n->DN P w H kn Mc->KnS d e0 (wS d sg e0) H Mc->(∀MQ v' H',But kn H H'->DN P w H' kn MQ->KnS d e0 (wS d sg e0) H' MQ->Is H' (shD (wS d sg e0 ps)) v'->Q v' H')->spWSh P w n vs H Q E'
inductive spSWQ (vs:List V) (H:Hp) (Q:VK) (E':XK):Prop
 |mk (d k:Nat):vs=[.int d, .int k]->dy d k->(∀v' H',af H H'->Is H' (shD (v91 d k)) v'->Q v' H')->spSWQ vs H Q E'
inductive spSFQ (vs:List V) (H:Hp) (Q:VK) (E':XK):Prop
 |mk (d k:Nat):vs=[.int d, .int k]->Wide d k->(∀v' H',af H H'->Is H' (shD (v91 d k)) v'->Q v' H')->spSFQ vs H Q E'
def KnE (L:Nat) (H:Hp) (Mc:Rl (Rl (Mx Int)×V)):Prop:=(Mc.map (·.1)).Nodup/\(∀x∈Mc,∃q,AskOk L q/\0<=q.k/\x.1=kq q)/\∀q v,aR Mc (kq q)=some v->Is H (shD (sF q)) v
theorem KnE.lts {L:Nat}{H H':Hp}{Mc:Rl (Rl (Mx Int)×V)} (h:KnE L H Mc) (s:LTS H H'):KnE L H' Mc:=⟨h.1,h.2.1,λq v e=>(h.2.2 q v e).lts s⟩
theorem KnE.len {Mc:Rl (Rl (Mx Int)×V)} (h:KnE L H Mc) (h5:L<=5):Mc.length<=15162:=by
 rw[<-A1 (f:=(·.1))];refine xY h.1 (λx hx=> ?_) h5;obtain⟨y,hy,rfl⟩:=Ac.mp hx;exact h.2.1 y hy
theorem KnE.put {Mc:Rl (Rl (Mx Int)×V)} (h:KnE L H Mc) (a:AskOk L q) (k0:0<=q.k) (hv:Is H (shD (sF q)) v):KnE L H (aZ Mc (kq q) v):=by
 refine⟨mq.2 h.1,λx hx=> ?_,λr u e=> ?_⟩
 .rcases mq.1 x hx with e|e
  .obtain⟨y,hy,ey⟩:=Ac.mp e;rw[<-ey];exact h.2.1 y hy
  .exact⟨q,a,k0,e⟩
 .rw [iX] at e;split at e
  .rename_i z;rw[xU z];cases e;exact hv
  .exact h.2.2 r u e
inductive spESh (P:Program) (w:World) (n:Nat) (vs:List V) (H:Hp) (Q:VK) (E':XK):Prop
 |mk (v:V) (kn:Addr) (q:Ask4) (L:Nat) (Mc:List (List (Mx Int)×V)):vs=[v, .ref kn]->Is H (qD q) v->AskOk L q->q.k<=KL L->muF q+1<=(n:Int)->DM P w H kn Mc->KnE L H Mc->(∀MQ v' H',But kn H H'->DM P w H' kn MQ->KnE L H' MQ->Is H' (shD (sF q)) v'->Q v' H')->spESh P w n vs H Q E'
inductive spSE (vs:List V) (H:Hp) (Q:VK) (E':XK):Prop
 |mk (d k:Nat) (v1 v2:V) (a b:List Int):vs=[.int d, .int k,v1,v2]->Wide d k->Is H (rwL a) v1->Is H (rwL b) v2->dg a->dg b->wtF a+wtF b=d->a.length<=d->b.length<=d->(∀v' H',af H H'->Is H' (shD (sF ⟨d,k,bi d a,bi d b⟩)) v'->Q v' H')->spSE vs H Q E'
section
variable {P:Rh}{w:Rj}{K:W.Frag}{mg:Str->Rp OO}{base:Rn} (T:Fns K mg)
theorem K7:OKQ T.X66 P w base 1 (spCell K):=by
 refine FbO T.X66 Iu λ_ _ _ _ H vs Q E hr h=> ?_;obtain⟨a,ns,k,rfl,hS,h0,kk⟩:=h;refine⟨_,(aj (aU (aQ fX (pv 1) (aY dE (by rfl) T.n_len CW (ab (pv 0) ae)) (aE _)) (ai (am (ao ge (pv 0) (pv 1) (λ_ _=>rfl)))) aT)
  (ai (am ag))), ?_⟩
 refine⟨_,rfl,_,rfl,a,_,rfl, .inl hS,_,_,rfl,rfl,_,rfl, ?_⟩;refine bH (λh=> ?_) (λ_=>kk 0);rw[A1] at h;have hk:k.toNat<ns.length:=by lia
 refine⟨_,rfl,_,rfl,a,_,k, .int ns[k.toNat],rfl,rfl,hS, ?_,kk _⟩;have e:((k.toNat:Nat):Int)=k:=by lia
 have:=iU (xs:=ns.map V.int) (j:=k.toNat) (v:= .int ns[k.toNat]) (by simp[hk]);rw[e] at this;exact this
theorem K8:OKQ T.X67 P w base 2 (spNumber K):=by
 refine FbO T.X67 jz λ_ _ _ _ H vs Q E hr h=> ?_;obtain⟨a,ns,k,rfl,hS,h0,h1,kk⟩:=h;refine⟨_,(aj (pSA (i:=2) jz.nd (pcq (K7 T) hr T.X66 (ab (pv 0) (ab (pv 1) ae))))
  (aj (aU (aQ iT (aY mH (by rfl) T.n_abs boot_abs (ab (pv 2) ae)) (ah rE ag ag) (aE _)) (ai (am (aY mH (by rfl) T.n_abs boot_abs (ab (pv 2) ae)))) aT)
  (aj (pSA (i:=3) jz.nd (ah gO (ah aK (ah aK (ah aK (ah bq (pv 2) (ah aK (ah bq ag (pv 1)) ag)) (ah bq (ah bq ag (pv 1)) (pv 1))) (ah bq ag (pv 1))) ag) ag))
  (aj (pSA (i:=3) jz.nd (ah gO (ah aK (ah bq (pv 3) ag) ag) ag))
  (aj (pSA (i:=4) jz.nd (ah gO (ah aK (ah aK (ah bq (pv 3) ag) (ah bq ag (pv 1))) ag) ag))
  (ai (am (ah aK (ah bq (pv 3) ag) (ah bq (pv 4) (ah aK (ah gO (pv 3) ag) ag)))))))))), ?_⟩
 refine⟨_,rfl,_,rfl,a,ns,k,rfl,hS,h0,λz=> ?_⟩;refine⟨_,rfl,z,rfl,10,18,rfl,rfl,⟨by decide,by decide,by decide⟩,_,_,rfl,rfl,_,rfl, ?_⟩;refine bH (λ_=> ?_) (λ_=> ?_)
 .exact⟨_,rfl,z,rfl,kk _ (by split<;>lia)⟩
 .refine⟨_,rfl,_,rfl,_,_,rfl,rfl, .inl ⟨by decide,by decide⟩,_,_,rfl,rfl,_,_,rfl,rfl, .inr ⟨by lia,by lia⟩, ?_⟩;refine⟨_,rfl,_,_,rfl,rfl, .inl ⟨by decide,by decide⟩,_,rfl,_,_,rfl,rfl, .inr ⟨by lia,by lia⟩,_,_,rfl,rfl, ?_⟩;refine⟨_,rfl,_,_,rfl,rfl, .inl ⟨by decide,by decide⟩,_,_,rfl,rfl,_,_,rfl,rfl,_,_,rfl,rfl,(show(0:Int)<2147483629 by decide), ?_⟩;refine⟨_,rfl,_,_,rfl,rfl, .inr ⟨by decide,by decide⟩,_,_,rfl,rfl,_,_,rfl,rfl,(show(0:Int)<2147483647 by decide), ?_⟩;dsimp only;generalize (z*(2*k+3)+7919*k*k+104729*k+12345)%2147483629=u;have e1:0<=(u*48271+97)%2147483647:=by lia
  generalize (u*48271+97)%2147483647=v at e1⊢;refine⟨_,rfl,_,_,rfl,rfl, .inr ⟨by decide,by decide⟩,_,rfl,_,_,rfl,rfl, .inl ⟨by decide,by decide⟩,_,_,rfl,rfl,_,_,rfl,rfl,_,_,rfl,rfl,(show(0:Int)<998244353 by decide), ?_⟩;dsimp only;have e2:0<=(v*69621+31*k+7)%998244353:=by lia
  generalize (v*69621+31*k+7)%998244353=x at e2⊢;refine⟨_,rfl,_,_,rfl,rfl, .inr ⟨by decide,by decide⟩,_,rfl,_,rfl,_,_,rfl,rfl,(show(0:Int)<1009 by decide),_,_,rfl,rfl,_,_,rfl,rfl, .inr ⟨by lia,by lia⟩,_,_,rfl,rfl, ?_⟩;exact kk _ (Int.add_nonneg (by lia) (Bm e2 (by lia)))
theorem yc:OKQ T.X0 P w base 1 sp_whole:=by
 refine FbO T.X0 HM λ_ _ _ _ H vs Q E hr h=> ?_;obtain⟨v,rfl,ht,kk⟩:=h;refine⟨_,(ai (am (j7 (aY mP (by rfl) T.n_isinstance boot_isinstance (ab (pv 0) (ab (mC (v:= .ty "int") (by rfl) T.n_int boot_int (by rfl)) ae))) (j6 (zm (aY mP (by rfl) T.n_isinstance boot_isinstance (ab (pv 0) (ab (mC (v:= .ty "bool") (by rfl) T.n_bool boot_bool (by rfl)) ae)))))))), ?_⟩;rcases ht with⟨i,rfl⟩|⟨b,rfl⟩|rfl|⟨x,rfl⟩|⟨a,xs,rfl,ha⟩|⟨a,xs,rfl,ha⟩
 .exact⟨_,rfl,_,"int",_,true,rfl, .int i,sG,true,rfl,cB ⟨_,rfl,_,"bool",_,false,rfl, .int i,EE,false,rfl,kk⟩⟩
 .exact⟨_,rfl,_,"int",_,true,rfl, .bl b,EF,true,rfl,cB ⟨_,rfl,_,"bool",_,true,rfl, .bl b,sG,true,rfl,kk⟩⟩
 .exact⟨_,rfl,_,"int",_,false,rfl, .non,Fk,false,rfl,bh kk⟩
 .exact⟨_,rfl,_,"int",_,false,rfl, .str x,Fm,false,rfl,bh kk⟩
 .exact⟨_,rfl,_,"int",_,false,rfl, .lst ha,Fn,false,rfl,bh kk⟩
 .exact⟨_,rfl,_,"int",_,false,rfl, .tup ha,Fo,false,rfl,bh kk⟩
theorem jV:OKQ T.X1 P w base 2 spBetQ:=by
 refine FbO T.X1 HN λ_ _ _ _ H vs Q E hr h=> ?_;obtain⟨i,lo,hi,rfl,h1,h2,kk⟩:=h;refine⟨_,(ai (aU (dB (eT (fR (pcq (yc T) hr T.X0 (ab (pv 0) ae)))) (dB (aQ fX (pv 0) (pv 1) (aE _)) (eS (aQ eV (pv 0) (pv 2) (aE _))))).pt (ai j8) aT)), ?_⟩;refine⟨_,rfl,_,rfl, .inl ⟨_,rfl⟩,true,rfl,bh ⟨_,rfl,_,rfl,i,lo,rfl,rfl,_,rfl,bH (λhl=>absurd hl (by lia)) (λ_=> ?_)⟩⟩;exact⟨_,rfl,_,rfl,i,hi,rfl,rfl,_,rfl,bH (λhl=>absurd hl (by lia)) (λ_=>kk)⟩
theorem jW:OKQ T.X4 P w base 3 spDegQ:=by
 refine FbO T.X4 HR λ_ _ _ _ H vs Q E hr h=> ?_;obtain⟨i,rfl,h1,h2,kk⟩:=h;refine⟨_,(ai (aX (pcq (jV T) hr T.X1 (ab (pv 0) (ab ag (ab ag ae)))))), ?_⟩;exact⟨_,rfl,i,1,5,rfl,h1,h2,kk⟩
theorem mr:OKQ T.X3 P w base 3 spWidQ:=by
 refine FbO T.X3 HQ λ_ _ _ _ H vs Q E hr h=> ?_;obtain⟨d,k,rfl,hW,kk⟩:=h;refine⟨_,(aj (aX (pcq (jV T) hr T.X1 (ab (pv 0) (ab ag (ab ag ae)))))
  (ai (aX (pcq (jV T) hr T.X1 (ab (pv 1) (ab ag (ab (tJ (gN (v:= .ref T.a_WIDE) (by rfl) T.m_WIDE (by rfl)) (pv 0) (λ_ _=>rfl)) ae))))))), ?_⟩
 unfold Wide at hW;refine⟨_,rfl,d,1,5,rfl,by lia,by lia, ?_⟩;obtain⟨hi,hl,hN⟩:∃hi:Int,([(1,6),(2,6),(3,6),(4,6),(5,3)]:Rl (Int×Int)).lookup (d:Int)=some hi/\(k:Int)<=hi:=by
  have hd:d=1\/d=2\/d=3\/d=4\/d=5:=by lia
  rcases hd with rfl|rfl|rfl|rfl|rfl
  .exact⟨6,rfl,by lia⟩
  .exact⟨6,rfl,by lia⟩
  .exact⟨6,rfl,by lia⟩
  .exact⟨6,rfl,by lia⟩
  .exact⟨3,rfl,by lia⟩
 exact⟨_,rfl,_,rfl,T.a_WIDE,_,d,hi,rfl,T.D_WIDE,rfl,hl,k,0,hi,rfl,by lia,hN,kk⟩
theorem qL:OKQ T.X2 P w base 3 spNarQ:=by
 refine FbO T.X2 HP λ_ _ _ _ H vs Q E hr h=> ?_;obtain⟨d,k,rfl,hW,kk⟩:=h;refine⟨_,(aj (aX (pcq (jV T) hr T.X1 (ab (pv 0) (ab ag (ab ag ae)))))
  (ai (aX (pcq (jV T) hr T.X1 (ab (pv 1) (ab ag (ab (tJ (gN (v:= .ref T.a_NARROW) (by rfl) T.m_NARROW (by rfl)) (pv 0) (λ_ _=>rfl)) ae))))))), ?_⟩
 unfold dy at hW;refine⟨_,rfl,d,1,4,rfl,by lia,by lia, ?_⟩;obtain⟨hi,hl,hN⟩:∃hi:Int,([(1,6),(2,6),(3,6),(4,2)]:Rl (Int×Int)).lookup (d:Int)=some hi/\(k:Int)<=hi:=by
  have hd:d=1\/d=2\/d=3\/d=4:=by lia
  rcases hd with rfl|rfl|rfl|rfl
  .exact⟨6,rfl,by lia⟩
  .exact⟨6,rfl,by lia⟩
  .exact⟨6,rfl,by lia⟩
  .exact⟨2,rfl,by lia⟩
 exact⟨_,rfl,_,rfl,T.a_NARROW,_,d,hi,rfl,T.D_NARROW,rfl,hl,k,0,hi,rfl,by lia,hN,kk⟩
theorem qM:OKQ T.X25 P w base 4 spEndQ:=by
 refine FbO T.X25 ju λ_ _ _ _ H vs Q E hr h=> ?_;obtain⟨n,dv,ps,rfl,n1',n5',hd,hok,k2⟩:=h;refine⟨_,(aj (aX (pcq (jW T) hr T.X4 (ab (pv 0) ae)))
  (aj (pSA (i:=2) ju.nd (ah jc (aV (ab ag ae)) (pv 0)))
  (aj (aN AN rfl (bm (pv 1)) (bZ rfl (aO (pGA (i:=3) ju.nd) (aO (pGA (i:=4) ju.nd) (aO (pGA (i:=5) ju.nd) bS)))) (aj (j' (pv 2) (ah aL (pv 3) ag) kB (pv 5) zA km)
  (ai (j' (pv 2) (ah aL (pv 4) ag) kB (pv 5) fT km))))
  (ai (am (pv 2)))))), ?_⟩
 refine⟨_,rfl,n,rfl,by lia,by lia, ?_⟩;refine⟨(zB rfl),λl1 H1 n1 s1 h1=> ?_⟩;refine⟨_,rfl, .i 1,n,aD h1 (au bz ax),rfl,by lia,by lia,AZ (aF (by lia)),λl H2 n2 s2 h2=> ?_⟩;rw[Ae] at h2;obtain⟨_,vs2,e2,Mq,NW⟩:=aA h2;cases e2;rw[<-Cq] at NW;rw[gX NW] at Mq;have Pi:=s1.trans s2;obtain⟨da,Mt,rfl,Nx,NF⟩:=aA hd;have Mg:Mt.length=ps.length:=by rw[NF.length,A1]
 refine⟨_,rfl,da,rfl,⟨_,SqL.of (Pi _ _ Nx)⟩,bO (xs:=Mt) (λi σ H3=>(∃v3 v4 v5,σ=[some (.int n),some (.ref da),some (.ref l),v3,v4,v5])/\af H H3/\H3 l=some (.lst (((ps.take i).foldl cY (List.replicate n 1)).map V.int)))
  ⟨⟨none,none,none,rfl⟩,Pi,Mq⟩ (λi σ H3 _ h=>SqL.of (h.2.1 _ _ Nx)) ?_ ?_⟩
 .rintro i y σ H3 hi ⟨⟨v3,v4,v5,rfl⟩,s3,Nz⟩;obtain⟨p,M4,hy⟩:=bD NF hi;obtain⟨t,rfl,hta⟩:=fE hy;obtain⟨o1,o2,o3,o4⟩:=hok p (AU M4);have el:=(lv (ps.take i) (List.replicate n 1) (by simp) λq hq=>hok q (CY hq)).1;have en:(ps.take (i+1)).foldl cY (List.replicate n 1)=cY ((ps.take i).foldl cY (List.replicate n 1)) p:=by
   rw[AW,M4,Bx];rfl
  rw[en];generalize (ps.take i).foldl cY (List.replicate n 1)=e at Nz el⊢;have nl:H l=none:=s1.free n2;refine⟨t,_,rfl,SqT.of (s3 _ _ hta),rfl, ?_⟩;refine⟨_,_,rfl,_,_,rfl,_,_,rfl,rfl, ?_⟩;have j1:(p.1-1).toNat<e.length:=by lia
  have j2:(p.2.1-1).toNat<e.length:=by lia
  have k1:p.1-1=((p.1-1).toNat:Int):=by lia
  have kq:p.2.1-1=((p.2.1-1).toNat:Int):=by lia
  have g1:(e.map V.int)[(p.1-1).toNat]? =some (.int (e.getD (p.1-1).toNat 0)):=by
   exact pI j1
  refine⟨_,rfl,_,rfl,_,_,rfl,rfl, ?_⟩;refine⟨l,_,(p.1-1).toNat,_,_,rfl,rfl,k1,SqL.of Nz,g1, ?_⟩;refine⟨_,rfl,_,_,rfl,rfl,l,_,_,(p.1-1).toNat,rfl,rfl,Nz,by rw[k1,A1];exact kA j1, ?_⟩;rw[<-map_set];have j2':(p.2.1-1).toNat<(e.set (p.1-1).toNat (e.getD (p.1-1).toNat 0-p.2.2)).length:=by rw[By];exact j2
  have g2:((e.set (p.1-1).toNat (e.getD (p.1-1).toNat 0-p.2.2)).map V.int)[(p.2.1-1).toNat]? =some (.int ((e.set (p.1-1).toNat (e.getD (p.1-1).toNat 0-p.2.2)).getD (p.2.1-1).toNat 0)):=by
   exact pI j2'
  refine⟨_,rfl,_,rfl,_,_,rfl,rfl, ?_⟩;refine⟨l,_,(p.2.1-1).toNat,_,_,rfl,rfl,kq,SqL.of ak,g2, ?_⟩;refine⟨_,rfl,_,_,rfl,rfl,l,_,_,(p.2.1-1).toNat,rfl,rfl,ak,by rw[kq,A1];exact kA j2', ?_⟩;rw[<-map_set,yZ];exact⟨⟨_,_,_,rfl⟩,s3.put nl,ak⟩
 .rintro σ H3 ⟨⟨v3,v4,v5,rfl⟩,s3,Nz⟩;rw[Mg,AS] at Nz;exact⟨_,rfl,k2 l H3 s3 (s1.free n2) Nz⟩
theorem mw:OKQ T.X27 P w base 1 spLost:=by
 refine FbO T.X27 HZ λ_ _ _ _ H vs Q E hr h=> ?_;obtain⟨v,p,rfl,hv,⟨p1,p2,p3,p4⟩,kk⟩:=h;refine⟨_,(ai (am (ah aL (ah bq (ah aL (ao aM (pv 0) ag (λ_ _=>rfl)) (ao aM (pv 0) ag (λ_ _=>rfl))) (ao aM (pv 0) ag (λ_ _=>rfl))) ag))), ?_⟩;refine⟨_,rfl,_,1,_,hv,rfl,rfl,λu hu=> ?_⟩;rw[az hu];refine⟨_,rfl,_,0,_,hv,rfl,rfl,λu hu=> ?_⟩;rw[az hu];refine⟨_,_,rfl,rfl,_,rfl,_,2,_,hv,rfl,rfl,λu hu=> ?_⟩;rw[az hu];exact⟨_,_,rfl,rfl, .inr ⟨by lia,by lia⟩,_,_,rfl,rfl,kk⟩
theorem K9:OKQ T.X28 P w base 2 spLfr:=by
 refine FbO T.X28 kS λ_ _ _ _ H vs Q E hr h=> ?_;obtain⟨d,f,n,sp,rfl,fd,d5,n20,kk⟩:=h;refine⟨_,(aj (pSA (i:=4) kS.nd (aV ae))
  (aj (aN AN rfl (fU (by rfl) T.n_range (ab (ah aK (pv 1) ag) (ab (ah aK (pv 0) ag) ae))) (pGA (i:=5) kS.nd) (ai (aN AN rfl (fU (by rfl) T.n_range (ab ag (ab (ah aK (pv 2) ag) ae))) (pGA (i:=6) kS.nd) (ai (aU (aQ kg (pcq (mw T) hr T.X27 (ab (bC (ab (pv 1) (ab (pv 5) (ab (pv 6) ae)))) ae)) (pv 3) (aE _)) (ai (aX (cq Af BE BD dF (pv 4) (ab (bC (ab (pv 1) (ab (pv 5) (ab (pv 6) ae)))) ae)))) aT)))))
  (ai (am (pv 4))))), ?_⟩
 refine⟨AO _,λfo H1 n1 s1 h1=> ?_⟩;refine⟨_,rfl,_,_,rfl,rfl,_,rfl,_,_,rfl,rfl,_,_,rfl,⟨by lia,by lia,by lia,by lia⟩, ?_⟩;rw[show((d:Int)+1-((f:Int)+1)).toNat=d-f by lia];refine dC (lo:=(f:Int)+1) (n:=d-f) (λi σ H2=>(∃v5 v6,σ=[some (.int d),some (.int f),some (.int n),some (.int sp),some (.ref fo),v5,v6])/\af H H2/\∃vs,H2 fo=some (.lst vs)/\Iss H2 ((cZ f i n sp).map lf) vs) ⟨⟨none,none,rfl⟩,s1,[],h1,ax⟩ ?_ ?_
 .rintro i σ H2 hi ⟨⟨v5,v6,rfl⟩,s2,vs2,MV,QK⟩;refine⟨_,rfl,_,_,rfl,rfl,_,_,rfl,⟨by decide,by decide,by lia,by lia⟩, ?_⟩;rw[show((n:Int)+1-1).toNat=n by lia];refine dC (lo:=1) (n:=n) (λj σ H3=>(∃v6,σ=[some (.int d),some (.int f),some (.int n),some (.int sp),some (.ref fo),some (.int ((f:Int)+1+(i:Int))),v6])/\af H H3/\∃vs,H3 fo=some (.lst vs)/\Iss H3 ((cZ f i n sp++eC f ((f:Int)+1+(i:Int)) j sp).map lf) vs) ⟨⟨v6,rfl⟩,s2,vs2,MV,by simpa[eC] using QK⟩ ?_ ?_
  .rintro j σ H3 hj ⟨⟨v6,rfl⟩,s3,vs3,Mo,OZ⟩;have vl:vs3.length<=200:=by
    rw[OZ.length,A1,AE];have a:=pM f n sp i;have b:=vS f ((f:Int)+1+(i:Int)) j sp;have:i*n<=5*20:=D0 (by lia) n20;lia
   refine⟨_,rfl,_,rfl,_,rfl,(zB rfl),λt H4 nt s4 ht=>⟨.ref t,((f:Int),(f:Int)+1+(i:Int),1+(j:Int)),rfl,jC ht,⟨?_, ?_, ?_, ?_⟩,_,rfl,_,_,rfl,rfl,_,rfl,bH (λc=> ?_) (λc=> ?_)⟩⟩
   .show 0<=(f:Int)+1+(i:Int)-(f:Int);lia
   .show(f:Int)+1+(i:Int)-(f:Int)<=10;lia
   .show 1<=1+(j:Int);lia
   .show 1+(j:Int)<=20;lia
   .refine⟨_,rfl, .inl ⟨rfl,_,SqL.of (s4 _ _ Mo)⟩,_,rfl,_,rfl,_,rfl,(zB rfl),λt2 H5 nt2 s5 ht2=>⟨fo,vs3,_,rfl,rfl,s5 _ _ (s4 _ _ Mo),aF (by lia),⟨_,rfl⟩,(s3.trans (s4.trans s5)).put n1,_,ak, ?_⟩⟩;rw[vQ,A6 c,<-BG];refine lx (aB.upd (s5 _ _ (s4 _ _ Mo))) ?_;rw[A7];exact(OZ.mono (s4.trans s5)).append (au (jC ht2) ax)
   .refine⟨⟨_,rfl⟩,s3.trans s4,vs3,s4 _ _ Mo, ?_⟩;rw[vQ,A5 c,BK];exact OZ.mono s4
  .rintro σ H3 ⟨⟨v6,rfl⟩,s3,vs3,Mo,OZ⟩;exact⟨⟨_,_,rfl⟩,s3,vs3,Mo,by rw[vR];exact OZ⟩
 .rintro σ H2 ⟨⟨v5,v6,rfl⟩,s2,vs2,MV,QK⟩;exact⟨_,rfl,kk fo H2 s2 n1 (aD MV QK)⟩
theorem yd:∀n:Nat,FnOk P w K mg base CX0 (n+1) T.f29 T.d29 ["lifts","weight","spare"] (spLeav n K)
 |0=>⟨λvs H Q E h=>by obtain⟨_,_,_,_,_,_,_,h,h',_⟩:=h;lia,λA outer s H args us vs Q E _ _ _ _ h=>by obtain⟨_,_,_,_,_,_,_,h,h',_⟩:=h;lia⟩
 |n+1=>by
  have ih:=yd n;refine T.X29.F.ok jv (λvs H Q E h=> ?_) (λMy A outer s H vs Q E hr h=> ?_)
  .obtain⟨_,_,_,_,rfl,_⟩:=h;rfl
  .obtain⟨v,ls,wt,sp,rfl,hv,hok,w0,w1,hL,hl,hn,kk⟩:=h;refine⟨_,(aj (pSA (i:=3) jv.nd (aV (ab (aV ae) ae)))
   (aj (aN AN rfl (gT (by rfl) T.n_enumerate (pv 0)) (bZ rfl (aO (pGA (i:=4) jv.nd) (aO (pGA (i:=5) jv.nd) bS))) (ai (aU (j5 (aQ kg (ao aM (pv 5) ag (λ_ _=>rfl)) (pv 1) (aE _)) (j4 (aQ kg (pcq (mw T) hr T.X27 (ab (pv 5) ae) (by lia)) (pv 2) (aE _)))).pt (ai (aN AN rfl (bm (dQ ih hr (by rfl) T.X29.m T.X29.F.kp T.X29.B .nil dG (ab (dD eW (pv 0) (di (pv 4)) dS) (ab (ah aL (pv 1) (ao aM (pv 5) ag (λ_ _=>rfl))) (ab (ah aL (pv 2) (pcq (mw T) hr T.X27 (ab (pv 5) ae) (by lia))) ae))))) (pGA (i:=6) jv.nd) (ai (aX (cq Af BE BD dF (pv 3) (ab (ah dI (aV (ab (pv 5) ae)) (pv 6)) ae)))))) aT)))
   (ai (am (pv 3))))), ?_⟩
   obtain⟨da,Mt,rfl,Nx,NF⟩:=aA hv;have PB:Mt.length=ls.length:=by rw[NF.length,A1]
   refine⟨AO _,λe0 H1 ne s1 he=>⟨(zB rfl),λfo H2 nf s2 Nh=> ?_⟩⟩;have Pj:H fo=none:=s1.free nf;have e0fo:e0≠fo:=by rintro rfl;rw[he] at nf;cases nf
   have acc0:Acc H H2 fo (([[]]:Rl (Rl Lf)).map lfs):=⟨[.ref e0],Nh,au (aD (vs:=[]) (by rw[dX e0fo,cJ ne];exact s2 _ _ he) ax) ax⟩;have tot:∀i:Nat,i<ls.length->1+((List.range i).flatMap (c8 n ls wt sp)).length+(c8 n ls wt sp i).length<=1000:=λi hi=>by
    have:=lC (c8 n ls wt sp) hi;rw[pK,AE,Ba] at hL;lia
   refine⟨_,rfl,da,rfl,⟨_,SqL.of (s2 _ _ (s1 _ _ Nx))⟩,i9 (xs:=Mt) (λi σ H3=>(∃v4 v5 v6,σ=[some (.ref da),some (.int wt),some (.int sp),some (.ref fo),v4,v5,v6])/\af H H3/\Acc H H3 fo (([[]]++(List.range i).flatMap (c8 n ls wt sp)).map lfs)) ⟨⟨none,none,none,rfl⟩,s1.trans s2,by simpa using acc0⟩ (λi σ H3 _ h=>SqL.of (h.2.1 _ _ Nx)) ?_ ?_⟩
   .rintro i y σ H3 pa hi ⟨⟨v4,v5,v6,rfl⟩,s3,Mf⟩ np;obtain⟨p,M4,hy⟩:=bD NF hi;have Qa:i<ls.length:=(AF.mp M4).1;obtain⟨p1,p2,p3,p4⟩:=id (hok p (AU M4));have tt:=tot i Qa;have s34:af H3 (upd H3 pa (.tup [.int i,y])):=af.new np;have On:=Mf.mono s34;have stay:c8 n ls wt sp i=[]->Acc H (upd H3 pa (.tup [.int i,y])) fo (([[]]++(List.range (i+1)).flatMap (c8 n ls wt sp)).map lfs):=λe=>by
     rw[iq,e,BK];exact On
    have hlf:Is (upd H3 pa (.tup [.int i,y])) (lf p) y:=(hy.mono s3).mono s34;refine⟨pa,_,rfl,SqT.of ak,rfl,_,_,rfl,_,_,rfl,rfl, ?_⟩;generalize upd H3 pa (.tup [.int i,y])=H4 at s34 On stay hlf⊢;have s4:af H H4:=s3.trans s34;refine⟨_,rfl,_,2,_,hlf,rfl,rfl,λu hu=> ?_⟩;rw[az hu];refine⟨_,rfl,_,_,rfl,rfl,_,rfl,bH (λc1=> ?_) (λc1=> ?_)⟩
    .refine⟨_,rfl,y,p,rfl,hlf,⟨p1,p2,p3,p4⟩,_,rfl,_,_,rfl,rfl,_,rfl,bH (λc2=> ?_) (λc2=> ?_)⟩
     .have eG:c8 n ls wt sp i=(cw n (ls.drop i) (wt-p.2.2) (sp-ce p)).map (p:: ·):=by
       unfold c8;rw[M4];exact A6 ⟨c1,c2⟩
      rw[eG,A1] at tt;refine⟨_,rfl,_,rfl,i,rfl,da,_,rfl,SqL.of (s4 _ _ Nx), ?_⟩;rw[ml (by lia)];intro l2 n2;have s45:af H4 (upd H4 l2 (.lst (Mt.drop i))):=af.new n2;have Mq:(upd H4 l2 (.lst (Mt.drop i))) l2=some (.lst (Mt.drop i)):=ak;generalize upd H4 l2 (.lst (Mt.drop i))=H5 at s45 Mq⊢;have s5:=s4.trans s45;have hdr:Is H5 (lfs (ls.drop i)) (.ref l2):=aD Mq (by rw[DC];exact(NF.drop i).mono s5);refine⟨_,rfl,_,rfl,_,2,_,hlf.mono s45,rfl,rfl,λu hu=> ?_⟩;rw[az hu];refine⟨_,_,rfl,rfl,_,rfl,_,rfl,y,p,rfl,hlf.mono s45,⟨p1,p2,p3,p4⟩,_,_,rfl,rfl, ?_⟩;refine⟨.ref l2,ls.drop i,wt-p.2.2,sp-ce p,rfl,hdr,λq hq=>hok q (DF hq),by lia,by lia,by lia,by rw[Br];lia,by lia,λrl H6 s6 N1 Oo=> ?_⟩;obtain⟨PD,MD,Pk⟩:=On.mono s45;have O0:H6 fo=some (.lst PD):=s6 _ _ MD;obtain⟨_,M7,e,QL,Nt⟩:=aA Oo;cases e;have O1:H6 rl=some (.lst M7):=bN _ _ QL;have O2:rl≠fo:=by rintro rfl;rw[MD] at N1;cases N1
      have M5:M7.length=(cw n (ls.drop i) (wt-p.2.2) (sp-ce p)).length:=by rw[Nt.length,A1]
      have QM:Iss (hid H6 fo) ((cw n (ls.drop i) (wt-p.2.2) (sp-ce p)).map lfs) M7:=(Nt.mono (lA (af.refl H5) MD)).mono (dH bN);have s56:=s5.trans s6;refine⟨rl,rfl,⟨_,SqL.of O1⟩,bO (xs:=M7) (λj σ H7=>(∃v6,σ=[some (.ref da),some (.int wt),some (.int sp),some (.ref fo),some (.int i),some y,v6])/\af H H7/\But fo H6 H7/\Acc H H7 fo (([[]]++(List.range i).flatMap (c8 n ls wt sp)++((cw n (ls.drop i) (wt-p.2.2) (sp-ce p)).take j).map (p:: ·)).map lfs)) ⟨⟨_,rfl⟩,s56,λ_ _ e _=>e,by simpa using (On.mono s45).mono s6⟩ (λj σ H7 _ h=>SqL.of (h.2.2.1 _ _ O1 O2)) ?_ ?_⟩
      .rintro j x σ H7 hj ⟨⟨v6,rfl⟩,s7,O3,vs7,QN,hi7⟩;obtain⟨r,OC,hx⟩:=bD QM hj;have hjl:j<(cw n (ls.drop i) (wt-p.2.2) (sp-ce p)).length:=(AF.mp OC).1;have hx7:Is H7 (lfs r) x:=hx.mono (xO O3);have ritem:=(pO (λq hq=>(hok q (DF hq)).2.2.1) (by lia) (AU OC)).1;have vl:vs7.length<=999:=by
        rw[hi7.length,A1,AE,AE,A1,Ag,Ba];lia
       have hy7:Is H7 (lf p) y:=hy.mono s7;refine⟨_,rfl, .inl ⟨rfl,_,SqL.of QN⟩,_,rfl,(zB rfl),λq1 H8 n8 s8 h8=>⟨_,rfl,[lf p],r.map lf,aD h8 (au (hy7.mono s8) ax),hx7.mono s8,AZ (aF (by rw[A1];show 1+r.length<=1000;lia)),λq2 H9 n9 s9 h9=> ?_⟩⟩;have PF:=s8.trans s9;refine⟨fo,vs7,_,rfl,rfl,PF _ _ QN,aF (by lia),⟨_,rfl⟩,(s7.trans PF).put Pj,O3.trans ((But.of_same PF).trans But.upd), ?_⟩;rw[AW,OC];have:=Acc.add s7 PF QN hi7 (vO (ps:=p::r) PF (s8.free n9) h9);simpa using this
      .rintro σ H7 ⟨⟨v6,rfl⟩,s7,_,Qb⟩;refine⟨⟨_,_,_,rfl⟩,s7, ?_⟩;rw[M5,AS,<-eG,BG,<-iq] at Qb;exact Qb
     .refine⟨⟨_,_,_,rfl⟩,s4,stay ?_⟩;unfold c8;rw[M4];exact A5 λz=>c2 z.2
    .refine bh ⟨⟨_,_,_,rfl⟩,s4,stay ?_⟩;unfold c8;rw[M4];exact A5 λz=>c1 z.1
   .rintro σ H3 ⟨⟨v4,v5,v6,rfl⟩,s3,Mf⟩;rw[PB,<-pK] at Mf;exact⟨_,rfl,kk fo H3 s3 Pj (Mf.is Pj)⟩
theorem K':OKQ T.X30 P w base 10 spWith:=by
 refine FbO T.X30 ii λMy A outer s H vs Q E hr h=> ?_;obtain⟨d,f,v,x,rfl,fd,d5,hv,NQ,kk⟩:=h;refine⟨_,(aj (pSA (i:=4) ii.nd (ao ge (pcq (qM T) hr T.X25 (ab (pv 0) (ab (pv 2) ae))) (ah aL (pv 1) ag) (λ_ _=>rfl)))
  (aj (pSA (i:=5) ii.nd (aV ae))
  (aj (aN AN rfl (bm (pcq (yd T 8) hr T.X29 (ab (pcq (K9 T) hr T.X28 (ab (pv 0) (ab (pv 1) (ab (pv 4) (ab (pv 3) ae))))) (ab (pv 4) (ab (pv 3) ae))))) (pGA (i:=6) ii.nd) (aj (pSA (i:=7) ii.nd (ah aL (pv 4) (aY (gi rfl) (by rfl) T.n_sum Di (ab (dn (XN:=["d","floor","drawing","spare","there","found","lifts","ends","left"]) (sc:=al jw) (N:=["lift"]) (own:=1) (js:=[]) rfl (by ac_nf) rfl rfl (bm (pv 6)) (λ_ _ _ _=>(bV (i:=0) (show List.Nodup (["lift"]:Rl Str) by ac_nf) rfl (Or.inl rfl) (.inr rfl))) (dm (by decide)) (λ_ _ _ _=>cV) (λ_ _ _ _=>(ao aM (pv 0) ag (λ_ _=>rfl)))) ae))))
  (aj (pSA (i:=8) ii.nd (ah aL (ah aL (pv 3) (aY (gi rfl) (by rfl) T.n_sum Di (ab (dn (XN:=["d","floor","drawing","spare","there","found","lifts","ends","left"]) (sc:=al jw) (N:=["lift"]) (own:=1) (js:=[]) rfl (by ac_nf) rfl rfl (bm (pv 6)) (λ_ _ _ _=>(bV (i:=0) (show List.Nodup (["lift"]:Rl Str) by ac_nf) rfl (Or.inl rfl) (.inr rfl))) (dm (by decide)) (λ_ _ _ _=>cV) (λ_ _ _ _=>(pcq (mw T) hr T.X27 (ab (pv 0) ae)))) ae))) (ah bq (pv 7) (ah aL (pv 0) (pv 1)))))
  (ai (aU (aQ iT (pv 8) ag (aE _)) (ai (aX (cq Af BE BD dF (pv 5) (ab (bC (ab (ah dI (pv 2) (pv 6)) (ab (pv 8) ae))) ae)))) aT)))))
  (ai (am (pv 5)))))), ?_⟩
 obtain⟨b1,b2,b3,b4,b5,b6,b7⟩:=IF NQ;have okl:∀p∈x.1,Okl d p:=λp hp=>by
  obtain⟨o1,o2,o3,o4,o5⟩:=pP.mp (b1 p hp);exact⟨o1,by lia,by lia,o3⟩
 have elen:=lw d x.1 okl;refine⟨_,rfl,_,rfl,d,v,x.1,rfl,by lia,d5,hv,okl,λel H1 s1 nel hel=> ?_⟩;refine⟨_,rfl,_,_,rfl,rfl,el,_,_, .int (thF d (f+1) x.1),rfl,rfl,SqL.of hel,gU (j:=f) (by lia) (by rw[pI (by lia)];rfl), ?_⟩;unfold dJ at kk;generalize thF d (f+1) x.1=th at b3 b4 b7 kk⊢;obtain⟨n,rfl⟩:=B7 b3;refine⟨AO _,λfo H2 nf s2 Nh=> ?_⟩;have Pj:H fo=none:=s1.free nf;have OD:=s1.trans s2;refine⟨_,rfl,_,rfl,_,rfl,_,rfl,d,f+1,n,x.2,rfl,by lia,d5,by lia,λl0 H3 s3 Op Ni=> ?_⟩;refine⟨_,rfl,_,rfl, .ref l0,cZ ((f+1:Nat):Int) (d-(f+1)) n x.2,(n:Int),x.2,rfl,Ni,λp hp=> ?_,by lia,by lia, ?_, ?_,by decide,λrl H4 s4 N1 Oo=> ?_⟩
 .obtain⟨e1,e2,e3,e4,e5⟩:=pN hp;exact⟨by lia,by lia,by lia,by lia⟩
 .exact BH b7 (by decide)
 .have:=pM ((f+1:Nat):Int) n x.2 (d-(f+1));have:(d-(f+1))*n<=5*8:=D0 (by lia) (by lia);lia
 have eL:cw 8 (cZ ((f+1:Nat):Int) (d-(f+1)) n x.2) (n:Int) x.2=gy d (f+1) n x.2:=by unfold gy;rw[Ae]
 have Qc:∀r∈gy d (f+1) n x.2,r.length<=8/\0<=(r.map (·.2.2)).sum/\(r.map (·.2.2)).sum<=(n:Int)/\∀p∈r,Lok p:=λr hr=>by
  rw[<-eL] at hr;obtain⟨i1,i2,i3,i4⟩:=pO (λq hq=>(pN hq).2.2.2.1) (by lia) hr;exact⟨i1,i2,i3,λp hp=>by
   obtain⟨e1,e2,e3,e4,e5⟩:=pN (i4 p hp);exact⟨by lia,by lia,by lia,by lia⟩⟩
 rw[eL] at Oo;generalize gy d (f+1) n x.2=L at Oo Qc kk b7;have MI:=OD.trans s3;have Mo:H3 fo=some (.lst []):=s3 _ _ Nh;have hfo4:H4 fo=some (.lst []):=s4 _ _ Mo;obtain⟨_,M7,e,QL,Nt⟩:=aA Oo;cases e;have O4:H4 rl=some (.lst M7):=bN _ _ QL;have O2:rl≠fo:=by rintro rfl;rw[Mo] at N1;cases N1
 have M5:M7.length=L.length:=by rw[Nt.length,A1]
 have QM:Iss (hid H4 fo) (L.map lfs) M7:=(Nt.mono (lA (af.refl H3) Mo)).mono (dH bN);have s04:=MI.trans s4;refine⟨rl,rfl,⟨_,SqL.of O4⟩,bO (xs:=M7) (λj σ H5=>(∃v6 v7 v8,σ=[some (.int d),some (.int ((f+1:Nat):Int)),some v,some (.int x.2),some (.int n),some (.ref fo),v6,v7,v8])/\af H H5/\But fo H4 H5/\Acc H H5 fo ((((L.take j).filter λls=>decide (0<=fe d (f+1) n x.2 ls)).map λls=>(x.1++ls,fe d (f+1) n x.2 ls)).map stD)) ⟨⟨none,none,none,rfl⟩,s04,λ_ _ e _=>e,Acc.start hfo4⟩ (λj σ H5 _ h=>SqL.of (h.2.2.1 _ _ O4 O2)) ?_ ?_⟩
 .rintro j y σ H5 hj ⟨⟨v6,v7,v8,rfl⟩,s5,Ox,PD,MD,Pk⟩;obtain⟨r,OC,hy⟩:=bD QM hj;have hy5:Is H5 (lfs r) y:=hy.mono (xO Ox);obtain⟨i1,i2,i3,i4⟩:=Qc r (AU OC);obtain⟨ya,ys,rfl,PH,hyi⟩:=aA hy5;have PJ:ys.length=r.length:=by rw[hyi.length,A1]
  have vl:PD.length<=200:=by
   rw[Pk.length,A1,A1];refine BH (List.length_filter_le _ _) ?_;rw[Ag];lia
  refine⟨_,rfl,_,rfl,ya,rfl,⟨_,SqL.of PH⟩,λacc na=> ?_⟩;refine fy (xs:=ys) (own:=1) (js:=[]) (λi H6=>af H5 H6/\H6 acc=some (.lst (((r.take i).map (·.2.2)).map V.int))) ⟨af.new na,ak⟩ (λi H6 _ h=>SqL.of (h.1 _ _ PH)) ?_ ?_ dq cW ?_
  .rintro i z H6 hz ⟨s6,Mf⟩;obtain⟨p,M4,hzi⟩:=bD hyi hz;refine dW ?_;refine⟨_,rfl,_,2,_,hzi.mono s6,rfl,rfl,λu hu=> ?_⟩;rw[az hu];refine⟨acc,_,_,rfl,rfl,Mf,aF ?_,s6.put na, ?_⟩
   .rw [A1,A1,Ag];lia
   .rw [ak,AW,M4,A7,A7];rfl
  .rintro H6 ⟨s6,Mf⟩;rw[PJ,AS] at Mf;refine⟨acc,_,rfl,SqL.of Mf,_,_,rfl,rfl, ?_⟩;clear Mf;refine⟨_,rfl,_,rfl,ya,rfl,⟨_,SqL.of (s6 _ _ PH)⟩,λac2 na2=> ?_⟩;refine fy (xs:=ys) (own:=1) (js:=[]) (λi H7=>af H6 H7/\H7 ac2=some (.lst (((r.take i).map ce).map V.int))) ⟨af.new na2,ak⟩ (λi H7 _ h=>SqL.of (h.1 _ _ (s6 _ _ PH))) ?_ ?_ dq cW ?_
   .rintro i z H7 hz ⟨s7,Mf⟩;obtain⟨p,M4,hzi⟩:=bD hyi hz;refine dW ?_;refine⟨_,rfl,z,p,rfl,(hzi.mono s6).mono s7,i4 p (AU M4),ac2,_,_,rfl,rfl,Mf,aF ?_,s7.put na2, ?_⟩
    .rw [A1,A1,Ag];lia
    .rw [ak,AW,M4,A7,A7];rfl
   .rintro H7 ⟨s7,Mf⟩;rw[PJ,AS] at Mf;have OE:=s6.trans s7;refine⟨ac2,_,rfl,SqL.of Mf,_,_,rfl,rfl,_,rfl,_,rfl,_,rfl,_,_,rfl,rfl,_,_,rfl,rfl, .inr ⟨by lia,by lia⟩,_,_,rfl,rfl, ?_⟩;refine⟨_,rfl,_,_,rfl,rfl,_,rfl,bH (λc=> ?_) (λc=> ?_)⟩
    .have hv7:Is H7 (lfs x.1) v:=(hv.mono s5).mono OE;refine⟨_,rfl, .inl ⟨rfl,_,SqL.of (OE _ _ MD)⟩,_,rfl,_,rfl,x.1.map lf,r.map lf,hv7,hy5.mono OE,AZ (aF (by rw[A1,A1];lia)),λq1 H8 n8 s8 h8=>⟨_,rfl,(zB rfl),λt H9 nt s9 ht=> ?_⟩⟩;have s59:=OE.trans (s8.trans s9);refine⟨fo,PD,_,rfl,rfl,s59 _ _ MD,aF (by lia),⟨_,_,_,rfl⟩,(s5.trans s59).put Pj,Ox.trans ((But.of_same s59).trans But.upd), ?_⟩;rw[AW,OC,Cr];have ef:(Option.toList (some r)).filter (λls=>decide (0<=fe d (f+1) n x.2 ls))=[r]:=by
      have c':0<=fe d (f+1) n x.2 r:=c;simp[c']
     rw[ef,A7,A7];rw[<-A7] at h8;have isx:Is (nw H5 H9) (stD (x.1++r,fe d (f+1) n x.2 r)) (.ref t):=bA (by rw[cJ ((OE.trans s8).free nt)];exact ht) (au (vO s59 (OE.free n8) (Is.mono (s:=s9) h8)) (au bz ax));exact Acc.add s5 s59 MD Pk isx
    .refine⟨⟨_,_,_,rfl⟩,s5.trans OE,Ox.trans (But.of_same OE), ?_⟩;rw[AW,OC,Cr];have ef:(Option.toList (some r)).filter (λls=>decide (0<=fe d (f+1) n x.2 ls))=[]:=by
      have c':¬0<=fe d (f+1) n x.2 r:=c;simp[c']
     rw[ef,BK];exact Acc.mono OE ⟨PD,MD,Pk⟩
   .rintro σ H R R' k ⟨v1,e1,v2,p,e2,h1,h2,h⟩;exact⟨v1,e1,v2,p,e2,h1,h2,k _ _ h⟩
  .rintro σ H R R' k ⟨v1,e1,xs,i,d,h1,e2,e3,h⟩;exact⟨v1,e1,xs,i,d,h1,e2,e3,λu hu=>k _ _ (h u hu)⟩
 .rintro σ H5 ⟨⟨v6,v7,v8,rfl⟩,s5,_,Mf⟩;rw[M5,AS] at Mf;exact⟨_,rfl,kk fo H5 s5 Pj (Mf.is Pj)⟩
theorem ye:FnOk P w K mg base (CX0) 11 T.f31 T.d31 ["d","k"] spDrP:=by
 refine FbO T.X31 gr λ_ _ _ _ H vs Q E hr h=> ?_;obtain⟨d,k,rfl,hW,⟨g1,g3,g6⟩,kk⟩:=h;refine⟨_,(aj (aX (pcq (mr T) hr T.X3 (ab (pv 0) (ab (pv 1) ae))))
  (aj (pSA (i:=2) gr.nd (aV (ab (bC (ab (aV ae) (ab (pv 1) ae))) ae)))
  (aj (aN AN rfl (fU (by rfl) T.n_range (ab ag (ab (ah aK (pv 0) ag) ae))) (pGA (i:=3) gr.nd) (aj (pSA (i:=4) gr.nd (aV ae))
  (aj (aN AN rfl (bm (pv 2)) (bZ rfl (aO (pGA (i:=5) gr.nd) (aO (pGA (i:=6) gr.nd) bS))) (ai (aX (cq Af CF CD iV (pv 4) (ab (pcq (K' T) hr T.X30 (ab (pv 0) (ab (pv 3) (ab (pv 5) (ab (pv 6) ae))))) ae)))))
  (ai (pSA (i:=2) gr.nd (pv 4))))))
  (ai (am (aY (ud hr) (by rfl) T.n_sorted boot_sorted (ab (dn (XN:=["d","k","begun","floor","longer","drawing","spare"]) (sc:=al kT) (N:=["drawing","spare"]) (own:=2) (js:=[]) rfl (by ac_nf) rfl rfl (bm (pv 2)) (λ_ _ _ _=>(m3 (K:=K) rfl rfl (aO (bV (i:=0) (show List.Nodup (["drawing","spare"]:Rl Str) by ac_nf) rfl (Or.inl rfl) (.inr rfl)) (aO (bV (i:=1) (show List.Nodup (["drawing","spare"]:Rl Str) by ac_nf) rfl (Or.inl rfl) (.inr rfl)) bS)))) mY (λ_ _ _ _=>(sK (aQ cN (pv 1) ag (aE _)))) (λ_ _ _ _=>(pv 0))) ae))))))), ?_⟩
 refine⟨_,rfl,_,rfl,d,k,rfl,hW, ?_⟩;obtain⟨gA,gB⟩:=IG g1;have d15:1<=d/\d<=5:=by unfold Wide at hW;lia
 refine⟨AO _,λe0 H1 ne0 s1 he0=>⟨_,rfl,(zB rfl),λt0 H2 nt0 s2 ht0=>⟨(zB rfl),λbg H3 nb s3 QO=> ?_⟩⟩⟩;have MI:=(s1.trans s2).trans s3;have nbH:H bg=none:=(s1.trans s2).free nb;have is0:Is (nw H H3) (.l ((bR d k 0).map stD)) (.ref bg):=aD (by rw[cJ nbH];exact QO) (au (bA (by rw[cJ (s1.free nt0)];exact s3 _ _ ht0) (au (aD (vs:=[]) (by rw[cJ ne0];exact s3 _ _ (s2 _ _ he0)) ax) (au bz ax))) ax);refine⟨_,rfl,_,_,rfl,rfl,_,_,rfl,⟨by decide,by decide,by lia,by lia⟩, ?_⟩;rw[show((d:Int)+1-1).toNat=d by lia];refine dC (lo:=1) (n:=d) (λf σ H4=>∃bg,(∃v3 v4 v5 v6,σ=[some (.int d),some (.int k),some (.ref bg),v3,v4,v5,v6])/\af H H4/\Is (nw H H4) (.l ((bR d k f).map stD)) (.ref bg)) ⟨bg,⟨none,none,none,none,rfl⟩,MI,is0⟩ ?_ ?_
 .clear is0 MI nbH QO;rintro f σ H4 hf ⟨bg,⟨v3,v4,v5,v6,rfl⟩,s4,QO⟩;obtain⟨NQ,Mg⟩:=gA f hf;refine⟨AO _,λlo H5 nlo s5 hlo=> ?_⟩;have hbg4:=QO.mono bN;obtain⟨_,bvs,e,hb4,hbi⟩:=aA hbg4;cases e;have QP:bvs.length=(bR d k f).length:=by rw[hbi.length,A1]
  refine⟨_,rfl,bg,rfl,⟨_,SqL.of (s5 _ _ hb4)⟩,bO (xs:=bvs) (λj σ H6=>(∃v5 v6,σ=[some (.int d),some (.int k),some (.ref bg),some (.int (1+(f:Int))),some (.ref lo),v5,v6])/\af H4 H6/\Acc H4 H6 lo ((((bR d k f).take j).flatMap λx=>dJ d (f+1) x.1 x.2).map stD)) ⟨⟨_,_,rfl⟩,s5,Acc.start hlo⟩ (λj σ H6 _ h=>SqL.of (h.2.1 _ _ hb4)) ?_ ?_⟩
  .rintro j y σ H6 hj ⟨⟨v5,v6,rfl⟩,s6,vs6,Oa,hi6⟩;obtain⟨x,Mm,hy⟩:=bD hbi hj;obtain⟨t,u,rfl,ht,hu⟩:=xN (hy.mono s6);have e1:(1+(f:Int))=((f+1:Nat):Int):=by lia
   have tk:(((bR d k f).take (j+1)).flatMap λx=>dJ d (f+1) x.1 x.2)=(((bR d k f).take j).flatMap λx=>dJ d (f+1) x.1 x.2)++dJ d (f+1) x.1 x.2:=by
    rw[AW,Mm,BI];simp
   have vl:vs6.length+(dJ d (f+1) x.1 x.2).length<=900:=by
    rw[hi6.length,A1];have hjl:j<(bR d k f).length:=(AF.mp Mm).1;have:(((bR d k f).take (j+1)).flatMap λx=>dJ d (f+1) x.1 x.2).length<=(bR d k (f+1)).length:=by
     show _<=((bR d k f).flatMap λx=>dJ d (f+1) x.1 x.2).length
     conv=>rhs;rw[<-Bp (j+1) (bR d k f)]
     rw[BI,AE];lia
    rw[tk,AE] at this;lia
   refine⟨t,_,rfl,SqT.of ht,rfl,_,_,rfl,_,_,rfl,rfl, ?_⟩;refine⟨_,rfl, .inl ⟨rfl,_,SqL.of Oa⟩,_,rfl,_,rfl,_,rfl,_,rfl,d,f,u,x,by rw[e1];rfl,hf,d15.2,hu,NQ x (AU Mm),λwl H7 s7 nwl hwl=> ?_⟩;obtain⟨_,us,e,hwl',hwi⟩:=aA hwl;cases e;have ul:us.length=(dJ d (f+1) x.1 x.2).length:=by rw[hwi.length,A1]
   refine⟨lo,wl,vs6,us,rfl,rfl,s7 _ _ Oa,bN _ _ hwl',AZ (aF (by lia)),⟨_,_,rfl⟩,(s6.trans s7).put nlo, ?_⟩;rw[tk,A7];exact Acc.adds s6 s7 Oa hi6 hwi
  .rintro σ H6 ⟨⟨v5,v6,rfl⟩,s6,Mf⟩;rw[QP,AS] at Mf;exact⟨_,rfl,lo,⟨_,_,_,_,rfl⟩,s4.trans s6,(Mf.is nlo).mono (pJ s4)⟩
 .clear is0 MI nbH QO;rintro σ H4 ⟨bg,⟨v3,v4,v5,v6,rfl⟩,s4,QO⟩;obtain⟨_,bvs,e,hb4,hbi⟩:=aA QO;cases e;have hb4':=bN _ _ hb4;have QP:bvs.length=(bR d k d).length:=by rw[hbi.length,A1]
  refine⟨_,rfl,bg,rfl,⟨_,SqL.of hb4'⟩,λacc na=> ?_⟩;refine fy (xs:=bvs) (own:=2) (js:=[]) (λj H5=>af H4 H5/\∃vs,H5 acc=some (.lst vs)/\Iss (nw H H4) (((((bR d k d).take j).filter λx=>decide (x.2=0)).map (·.1)).map lfs) vs) ⟨af.new na,[],ak,ax⟩ (λj H5 _ h=>SqL.of (h.1 _ _ hb4')) ?_ ?_ mZ ?_ ?_
  .rintro j y H5 hj ⟨s5,vs,Mf,hi⟩;obtain⟨x,Mm,hy⟩:=bD hbi hj;obtain⟨t,u,rfl,ht,hu⟩:=xN hy;have vl:vs.length<=900:=by
    rw[hi.length,A1,A1];refine BH (List.length_filter_le _ _) ?_;rw[Ag];obtain⟨d',rfl⟩:∃d',d=d'+1:=⟨d-1,by lia⟩;have:=(gA d' (by lia)).2;lia
   refine⟨t,_,rfl,SqT.of (s5 _ _ (bN _ _ ht)),rfl,_,_,rfl,_,_,rfl,rfl, ?_⟩;refine⟨_,rfl,rfl,_,rfl,cP (λc=> ?_) (λc=> ?_)⟩
   .refine⟨_,rfl,acc,vs,_,rfl,rfl,Mf,aF (by lia),s5.put na,_,ak, ?_⟩;rw[AW,Mm,Cr];have ef:(Option.toList (some x)).filter (λx=>decide (x.2=0))=[x]:=by simp[c]
    rw[ef,A7,A7];exact hi.append (au hu ax)
   .refine⟨s5,vs,Mf, ?_⟩;rw[AW,Mm,Cr];have ef:(Option.toList (some x)).filter (λx=>decide (x.2=0))=[]:=by simp[c]
    rw[ef,BK];exact hi
  .rintro H5 ⟨s5,vs,Mf,hi⟩;rw[QP,AS] at hi;have hi:Iss (nw H H4) ((cf d k).map lfs) vs:=hi;have Pl:=s4.trans s5;have hv5:Iss H5 ((cf d k).map lfs) vs:=(hi.mono bN).mono s5;have OY:vs.length=(cf d k).length:=by rw[hi.length,A1]
   refine x9 Mf hv5 (λx v h=>let ⟨a,ys,e1,e2,_⟩:=aA h;⟨a,ys,e1,e2⟩) (λ_ _ _ _ h h'=>IC h h') g3 g6 λp q pp nq=> ?_;refine kk (p.map λi=>(cf d k).getD i []) q _ (yb pp) (Pl.put (Pl.free nq)) (Pl.free nq) ?_;exact aD (by rw[cJ (Pl.free nq)];exact ak) ((qe [] hi p λi h=>AX.mp (pp.mem_iff.mp h)).mono (fF (s5.trans (af.new nq))))
  .rintro σ H R R' k' ⟨v1,e1,e2,b,e3,h⟩;exact⟨v1,e1,e2,b,e3,k' _ _ h⟩
  .rintro σ H R R' k' ⟨v1,e1,h⟩;exact⟨v1,e1,k' _ _ h⟩
theorem La:OKQ T.X26 P w base 5 spSou:=by
 refine FbO T.X26 HY λ_ _ _ _ H vs Q E hr h=> ?_;obtain⟨n,dv,ps,rfl,n1,n5,hd,hs,kk⟩:=h;refine⟨_,(ai (am (fY iT (aY (Ft rfl) (by rfl) T.n_min boot_min (ab (pcq (qM T) hr T.X25 (ab (pv 0) (ab (pv 1) ae))) ae)) ag (aE _)))), ?_⟩;refine⟨_,rfl,_,rfl,n,dv,ps,rfl,n1,n5,hd,hs.okl,λl H1 s1 nl hl=> ?_⟩;refine⟨l,_,rfl,SqL.of hl,by rw[lw n ps hs.okl];lia,_,_,rfl,rfl, ?_⟩;show Q (.bl (decide (0<=jd (bI n ps)))) H1;rw[Ar (KG hs.ends)];exact kk H1 s1
theorem Lb:OKQ T.X33 P w base 6 spNeS:=by
 refine FbO T.X33 Ia λ_ _ _ _ H vs Q E hr h=> ?_;obtain⟨n,dv,ps,rfl,n1,n5,hd,hs,kk⟩:=h;refine⟨_,(aj (aX (pcq (jW T) hr T.X4 (ab (pv 0) ae)))
  (ai (aU (eT (fR (pcq (La T) hr T.X26 (ab (pv 0) (ab (pv 1) ae))))) (ai j8) aT))), ?_⟩
 exact⟨_,rfl,n,rfl,by lia,by lia,_,rfl,_,rfl,n,dv,ps,rfl,n1,n5,hd,hs,λH1 s1=>⟨true,rfl,bh (kk H1 s1)⟩⟩
theorem Lc:OKQ T.X34 P w base 5 spEnM:=by
 refine FbO T.X34 kW λ_ _ _ _ H vs Q E hr h=> ?_;obtain⟨n,dv,ps,rfl,n1,n5,hd,hs,Mg,kk⟩:=h;refine⟨_,(aj (pSA (i:=2) kW.nd (aV ae))
  (aj (aN AN rfl (gT (by rfl) T.n_enumerate (pcq (qM T) hr T.X25 (ab (pv 0) (ab (pv 1) ae)))) (bZ rfl (aO (pGA (i:=3) kW.nd) (aO (pGA (i:=4) kW.nd) bS))) (ai (aX (cq Af CF CD iV (pv 2) (ab (ah jc (aV (ab (bC (ab (ah aK (pv 3) ag) (ab (ah aK (pv 0) ag) (ab ag ae)))) ae)) (pv 4)) ae)))))
  (ai (am (pv 2))))), ?_⟩
 refine⟨AO _,λfo H1 nf s1 Nh=> ?_⟩;refine⟨_,rfl,_,rfl,n,dv,ps,rfl,n1,n5,hd.mono s1,hs.okl,λe H2 s2 ne he=> ?_⟩;have el:=lw n ps hs.okl;have efo:e≠fo:=by rintro rfl;rw[Nh] at ne;cases ne
 refine⟨e,rfl,⟨_,SqL.of he⟩,i9 (xs:=(bI n ps).map V.int) (λi σ H3=>(∃v3 v4,σ=[some (.int n),some dv,some (.ref fo),v3,v4])/\af H H3/\H3 e=some (.lst ((bI n ps).map V.int))/\∃vs,H3 fo=some (.lst vs)/\Iss H3 (((List.range i).flatMap (fH n (bI n ps))).map lf) vs)
  ⟨⟨none,none,rfl⟩,s1.trans s2,he,[],s2 _ _ Nh,ax⟩ (λi σ H3 _ h=>SqL.of h.2.2.1) ?_ ?_⟩
 .rintro i x σ H3 p hx ⟨⟨v3,v4,rfl⟩,s3,he3,vs,hf3,hi3⟩ np;rw[AC] at hx;obtain⟨x,Mm,rfl⟩:=A8.mp hx;have hi:i<n:=by have:=(AF.mp Mm).1;lia
  have ex:(bI n ps).getD i 0=x:=by rw[List.getD,Mm];rfl
  have x0:0<=x:=by rw[<-ex];exact hs.ends i
  have pre:((List.range i).flatMap (fH n (bI n ps))).length+x.toNat<=20:=by
   have:=lC (fH n (bI n ps)) hi;have e2:(fH n (bI n ps) i).length=x.toNat:=by unfold fH;rw[Am,ex]
   unfold ff at Mg;lia
  refine⟨p,_,rfl,SqT.of ak,rfl,_,_,rfl,_,_,rfl,rfl, ?_⟩;have s4:af H3 (upd H3 p (.tup [.int i, .int x])):=af.new np;generalize upd H3 p (.tup [.int i, .int x])=H4 at s4⊢;refine⟨_,rfl, .inl ⟨rfl,_,SqL.of (s4 _ _ hf3)⟩,_,rfl,_,_,rfl,rfl,_,rfl,_,_,rfl,rfl,(zB rfl),λt H5 nt s5 ht=>⟨(zB rfl),λl1 H6 n6 s6 h6=> ?_⟩⟩;have htl:Is H6 (lf (1+(i:Int),(n:Int)+1,1)) (.ref t):=jC (s6 _ _ (by rw[ht];show some (HO.tup [V.int ((i:Int)+1),_,_])=_;rw[Int.add_comm]));refine⟨_,rfl,lf (1+(i:Int),(n:Int)+1,1),x,aD h6 (au htl ax),rfl,by lia,by lia,AZ (aF (by lia)),λl2 H7 n7 s7 h7=> ?_⟩;obtain⟨_,us,e2,Mq,NW⟩:=aA h7;cases e2;have s47:af H3 H7:=((s4.trans s5).trans s6).trans s7;have hf7:=s47 _ _ hf3;have ul:us.length=x.toNat:=by rw[NW.length,Am]
  have vl:=hi3.length;rw[A1] at vl;refine⟨fo,l2,vs,us,rfl,rfl,hf7,Mq,AZ (aF (by lia)),⟨_,_,rfl⟩,(s3.trans s47).put nf,by rw[aw efo];exact s47 _ _ he3,_,ak, ?_⟩;rw[iq,A7];refine(xP s47 hf3 hi3).append (xP (af.refl H7) hf7 ?_);have:(fH n (bI n ps) i).map lf=List.replicate x.toNat (lf (1+(i:Int),(n:Int)+1,1)):=by unfold fH;rw[ex,Cq]
  rw[this];exact NW
 .rintro σ H3 ⟨⟨v3,v4,rfl⟩,s3,he3,vs,hf3,hi3⟩;rw[A1,el] at hi3;exact⟨_,rfl,kk fo H3 s3 nf (aD hf3 hi3)⟩
theorem qN:OKQ T.X5 P w base 1 spCho:=by
 refine FbO T.X5 kN λ_ _ _ _ H vs Q E hr h=> ?_;obtain⟨n,k,rfl,h1,h2,kk⟩:=h;refine⟨_,(aj (aU (dB (aQ fX (pv 1) ag (aE _)) (eS (aQ eV (pv 1) (pv 0) (aE _)))).pt (ai (am ag)) aT)
  (aj (pSA (i:=2) kN.nd ag)
  (aj (aN AN rfl (eU (by rfl) T.n_range (ab (pv 1) ae)) (pGA (i:=3) kN.nd) (ai (pSA (i:=2) kN.nd (ah zO (ah bq (pv 2) (ah aL (pv 0) (pv 3))) (ah aK (pv 3) ag)))))
  (ai (am (pv 2)))))), ?_⟩
 refine⟨_,rfl,_,_,rfl,rfl,_,rfl,bH (λh=>absurd h (by lia)) (λ_=> ?_)⟩;refine⟨_,rfl,_,rfl,_,_,rfl,rfl,_,rfl,bH (λh=>absurd h (by lia)) (λ_=> ?_)⟩;refine⟨_,rfl,(k:Int),rfl,by lia,by lia,dC (lo:=0) (n:=(k:Int).toNat) (λi σ H2=>(∃v3,σ=[some (.int n),some (.int k),some (.int (chF n i)),v3])/\H2=H) ⟨⟨none,rfl⟩,rfl⟩ ?_ ?_⟩
 .rintro i σ H2 hi ⟨⟨v3,rfl⟩,rfl⟩;refine⟨_,rfl,_,rfl,_,rfl,_,_,rfl,rfl,_,_,rfl,rfl, .inr ⟨by lia,by lia⟩,_,rfl,_,_,rfl,rfl,_,_,rfl,rfl,⟨by lia,by lia⟩,⟨some (.int (0+(i:Int))), ?_⟩,rfl⟩;rw[show chF n (i+1)=chF n i*(n-(0+(i:Int)))/((0+(i:Int))+1) by rw[D1];rfl];rfl
 .rintro σ H2 ⟨⟨v3,rfl⟩,rfl⟩;rw[Ae];exact⟨_,rfl,kk⟩
theorem jX:OKQ T.X12 P w base 1 spWm:=by
 refine FbO T.X12 HU λ_ _ _ _ H vs Q E hr h=> ?_;obtain⟨v,t,p,m,rfl,hv,hp,hl,kk⟩:=h;refine⟨_,(ai (am (ah nI (ah nI (dD uR (pv 0) dS (di (pv 1))) (bC (ab (ah aK (ao aM (pv 0) (pv 1) (λ_ _=>rfl)) (pv 2)) ae))) (dD uR (pv 0) (di (ah aK (pv 1) ag)) dS)))), ?_⟩;have Mg:∀vs:Rl V,vs.length=(t.map D.i).length->vs.length=t.length:=λvs e=>by rw[e,A1]
 refine⟨_,rfl,_,rfl,(p:Int),rfl,t.map .i,(t.take p).map .i,hv,KN,λvs e h=> ?_,λu1 H1 s1 MH=> ?_⟩
 .have e:=Mg vs e;rw[HT.sIx_nat] at h;lia
 refine⟨_,rfl,_,rfl,t.map .i,(p:Int), .i (t.getD p 0),hv.mono s1,rfl, ?_,λu hu=> ?_⟩
 .refine gU (j:=p) rfl ?_;rw[AC,A3 hp];simp[List.getD,hp]
 rw[az hu];refine⟨_,rfl,_,_,rfl,rfl,(zB rfl),λq2 H2 n2 s2 h2=> ?_⟩;have MY:Is H2 (.t [.i (t.getD p 0+m)]) (.ref q2):=bA h2 (au bz ax);refine⟨_,_,MH.mono s2,MY,AZ (aF (by rw[A1,Ag];show _+1<=1000;lia)),λu3 H3 s3 QQ=> ?_⟩;refine⟨_,rfl,_,rfl,_,_,rfl,rfl,(p:Int)+1,rfl,t.map .i,(t.drop (p+1)).map .i,((hv.mono s1).mono s2).mono s3, ?_,λvs e h=> ?_,λu4 H4 s4 hu4=> ?_⟩
 .rw [show((p:Int)+1)=((p+1:Nat):Int) by lia];exact KO (by lia)
 .have e:=Mg vs e;rw[show((p:Int)+1)=((p+1:Nat):Int) by lia,HT.sIx_nat] at h;lia
 refine⟨_,_,QQ.mono s4,hu4,AZ (aF (by rw[AE,A1,A1,Ag,Br];show _+1+_<=1000;lia)),λu5 H5 s5 hu5=> ?_⟩;refine kk u5 H5 ((((s1.trans s2).trans s3).trans s4).trans s5) ?_;have e:(t.take p).map D.i++[D.i (t.getD p 0+m)]++(t.drop (p+1)).map D.i=(wmF t p m).map D.i:=by
  unfold wmF;rw[<-IN hp,A7,A7];rfl
 rw[e] at hu5;exact hu5
theorem yf:∀n:Nat,FnOk P w K mg base CX0 (n+2) T.f35 T.d35 ["numbers","first","last","alike"] (spPB n K)
 |0=>⟨λvs H Q E h=>(by obtain⟨_,_,_,_,_,_,_,h,_⟩:=h;exact absurd h (Nat.not_lt_zero _)),λA outer s H args us vs Q E _ _ _ _ h=>(by obtain⟨_,_,_,_,_,_,_,h,_⟩:=h;exact absurd h (Nat.not_lt_zero _))⟩
 |n+1=>by
  have ih:=yf n;refine T.X35.F.ok ij (λvs H Q E h=> ?_) (λMy A outer s H vs Q E hr h=> ?_)
  .obtain⟨_,_,_,_,_,rfl,_⟩:=h;rfl
  .obtain⟨v,t,p,g,a,rfl,hv,hg,hn,hp,⟨kl,kn,ks⟩,kk⟩:=h;refine⟨_,(aj (aU (aQ cN (pv 1) (pv 2) (aE _)) (ai (am (aV (ab (bC (ab (pcq (jX T) hr T.X12 (ab (pv 0) (ab (pv 1) (ab (pv 3) ae))) (by lia)) (ab (pcq (qN T) hr T.X5 (ab (ah aK (ao aM (pv 0) (pv 1) (λ_ _=>rfl)) (pv 3)) (ab (pv 3) ae)) (by lia)) ae))) ae)))) aT)
   (aj (pSA (i:=4) ij.nd (aV ae))
   (aj (aN AN rfl (eU (by rfl) T.n_range (ab (ah aK (pv 3) ag) ae)) (pGA (i:=5) ij.nd) (aj (pSA (i:=6) ij.nd (pcq (qN T) hr T.X5 (ab (ah aK (ao aM (pv 0) (pv 1) (λ_ _=>rfl)) (pv 5)) (ab (pv 5) ae)) (by lia)))
   (ai (aN AN rfl (bm (dQ ih hr (by rfl) T.X35.m T.X35.F.kp T.X35.B .nil dG (ab (pcq (jX T) hr T.X12 (ab (pv 0) (ab (pv 1) (ab (pv 5) ae))) (by lia)) (ab (ah aK (pv 1) ag) (ab (pv 2) (ab (ah aL (pv 3) (pv 5)) ae)))))) (bZ rfl (aO (pGA (i:=7) ij.nd) (aO (pGA (i:=8) ij.nd) bS))) (ai (aX (cq Af BE BD dF (pv 4) (ab (bC (ab (pv 7) (ab (ah bq (pv 6) (pv 8)) ae))) ae))))))))
   (ai (am (pv 4)))))), ?_⟩
   have kp:=(ir kn).2 p;have kp0:=kn p;have at_p:∀{H':Hp},af H H'->∀{v':V},Is H' (tI t) v'->atI (t.map D.i) (p:Int)=some (.i (t.getD p 0)):=λ_ _ _=>by
    refine gU (j:=p) rfl ?_;rw[AC,A3 (by lia)];simp[List.getD,show p<t.length by lia]
   refine⟨_,rfl,_,rfl,rfl,_,rfl,cP (λe=> ?_) (λe=> ?_)⟩
   .have hg0:g=0:=by lia
    subst hg0;refine⟨_,rfl,_,rfl,_,rfl,v,t,p,a,rfl,hv,by lia,kl,λu1 H1 s1 MH=> ?_⟩;refine⟨_,rfl,_,rfl,t.map .i,(p:Int),_,hv.mono s1,rfl,at_p s1 (hv.mono s1),λu hu=> ?_⟩;rw[az hu];refine⟨_,rfl,_,_,rfl,rfl,_,rfl,t.getD p 0+a,a,rfl,by lia,by lia, ?_⟩;refine⟨(zB rfl),λq2 H2 n2 s2 h2=>⟨(zB rfl),λq3 H3 n3 s3 h3=> ?_⟩⟩;have OD:=s1.trans s2;refine kk q3 H3 (OD.trans s3) (OD.free n3) (aD h3 (au ((qF (x:=(wmF t p (a:Int),chF (t.getD p 0+(a:Int)) a)) h2 (MH.mono s2)).mono s3) ax))
   .obtain⟨g,rfl⟩:∃g',g=g'+1:=⟨g-1,by lia⟩;refine⟨AO _,λfo H1 nf s1 Nh=> ?_⟩;have big:=KP (g:=g+1) (t:=t) (p:=p) (a:=a) (by lia) (by have:=(ir kn).1;lia);have a15:(a:Int)<=15:=by have:=(ir kn).1;lia
    refine⟨_,rfl,_,_,rfl,rfl,_,rfl,by lia,by lia, ?_⟩;rw[show((a:Int)+1).toNat=a+1 by lia];refine dC (lo:=0) (n:=a+1) (λh σ H2=>(∃v5 v6 v7 v8,σ=[some v,some (.int p),some (.int ((p:Int)+((g+1:Nat):Int))),some (.int a),some (.ref fo),v5,v6,v7,v8])/\af H H2/\∃vs,H2 fo=some (.lst vs)/\Iss H2 (((List.range h).flatMap λh:Nat=>(pbF g (wmF t p (h:Int)) (p+1) (a-h)).map λx=>(x.1,chF (t.getD p 0+(h:Int)) h*x.2)).map prD) vs) ⟨⟨none,none,none,none,rfl⟩,s1,[],Nh,ax⟩ ?_ ?_
    .rintro h σ H2 hh ⟨⟨v5,v6,v7,v8,rfl⟩,s2,vs2,hf2,NW⟩;rw[D1];have hb:∀j,j<=(pbF g (wmF t p (h:Int)) (p+1) (a-h)).length->((List.range h).flatMap λh:Nat=>(pbF g (wmF t p (h:Int)) (p+1) (a-h)).map λx=>(x.1,chF (t.getD p 0+(h:Int)) h*x.2)).length+j<=1048576:=λj hj=>by
      have:=lC (λh:Nat=>(pbF g (wmF t p (h:Int)) (p+1) (a-h)).map λx=>(x.1,chF (t.getD p 0+(h:Int)) h*x.2)) hh;rw[A1] at this;unfold pbF at big;lia
     rw[iq];generalize ((List.range h).flatMap λh:Nat=>(pbF g (wmF t p (h:Int)) (p+1) (a-h)).map λx=>(x.1,chF (t.getD p 0+(h:Int)) h*x.2))=pr at NW hb⊢;obtain⟨c1,c2⟩:=vY (n:=t.getD p 0+(h:Int)) (k:=h) (by lia) (by lia);refine⟨_,rfl,_,rfl,t.map .i,(p:Int),_,hv.mono s2,rfl,at_p s2 (hv.mono s2),λu hu=> ?_⟩;rw[az hu];refine⟨_,rfl,_,_,rfl,rfl,_,rfl,t.getD p 0+(h:Int),h,rfl,by lia,by lia, ?_⟩;refine⟨_,rfl,_,rfl,_,rfl,v,t,p,(h:Int),rfl,hv.mono s2,by lia,kl,λu3 H3 s3 QQ=> ?_⟩;refine⟨_,rfl,_,_,rfl,rfl,_,rfl,_,rfl,_,rfl,_,_,rfl,rfl,u3,wmF t p (h:Int),p+1,g,a-h, ?_,QQ,by lia,by lia,by rw[eD];lia,⟨by rw[eD];exact kl,λi=> ?_, ?_⟩,λrl H4 s4 N1 Oo=> ?_⟩
     .have e1:((p:Int)+1)=((p+1:Nat):Int):=by lia
      have e2:(p:Int)+((g+1:Nat):Int)=((p+1:Nat):Int)+(g:Int):=by lia
      have e3:(a:Int)-(h:Int)=((a-h:Nat):Int):=by lia
      show [u3,V.int ((p:Int)+1),V.int ((p:Int)+((g+1:Nat):Int)),V.int ((a:Int)-(h:Int))]=_;rw[e1,e2,e3]
     .rw [lE (by lia)];have:=kn i;split<;>lia
     .rw [lF (by lia)];lia
     obtain⟨_,M7,e,O4,Nt⟩:=aA Oo;cases e;generalize pbF g (wmF t p (h:Int)) (p+1) (a-h)=O at Nt hb⊢;have M5:M7.length=O.length:=by rw[Nt.length,A1]
     have s24:=s3.trans s4;have hf4:=s24 _ _ hf2;have O2:rl≠fo:=by rintro rfl;rw[s3 _ _ hf2] at N1;cases N1
     refine⟨rl,rfl,⟨_,SqL.of O4⟩,bO (xs:=M7) (λj σ H5=>(∃v7 v8,σ=[some v,some (.int p),some (.int ((p:Int)+((g+1:Nat):Int))),some (.int a),some (.ref fo),some (.int h),some (.int (chF (t.getD p 0+(h:Int)) h)),v7,v8])/\af H H5/\H5 rl=some (.lst M7)/\aB H4 H5/\∃vs,H5 fo=some (.lst vs)/\Iss H5 ((pr++(O.take j).map λx=>(x.1,chF (t.getD p 0+(h:Int)) h*x.2)).map prD) vs) ⟨⟨_,_,rfl⟩,s2.trans s24,O4,aB.of_same (af.refl H4),vs2,hf4,by simpa using NW.mono s24⟩ (λj σ H5 _ h=>SqL.of h.2.2.1) ?_ ?_⟩
     .rintro j y σ H5 hj ⟨⟨v7,v8,rfl⟩,s5,Ob,t5,PD,QR,Pk⟩;obtain⟨x,Mm,hy⟩:=bD Nt hj;have hjl:j<O.length:=(AF.mp Mm).1;obtain⟨q,u6,rfl,hq,hu6⟩:=qG (mo t5 hy);have vl:=Pk.length;rw[A1,AE,A1,Ag] at vl;have hbj:=hb (j+1) (by lia);refine⟨q,_,rfl,SqT.of hq,rfl,_,_,rfl,_,_,rfl,rfl, ?_⟩;refine⟨_,rfl, .inl ⟨rfl,_,SqL.of QR⟩,_,rfl,_,rfl,_,rfl,_,_,rfl,rfl, .inl ⟨by lia,by lia⟩,(zB rfl),λq6 H6 n6 s6 h6=> ?_⟩;refine⟨fo,PD,_,rfl,rfl,s6 _ _ QR,mn (by lia),⟨_,_,rfl⟩,(s5.trans s6).put nf,by rw[aw O2];exact s6 _ _ Ob,(t5.trans (aB.of_same s6)).trans (aB.upd (s6 _ _ QR)),_,ak, ?_⟩;have ez:(pr++(O.take (j+1)).map λx=>(x.1,chF (t.getD p 0+(h:Int)) h*x.2))=(pr++(O.take j).map λx=>(x.1,chF (t.getD p 0+(h:Int)) h*x.2))++[(x.1,chF (t.getD p 0+(h:Int)) h*x.2)]:=by
       rw[AW,Mm,Option.toList_some,A7,BG];rfl
      rw[ez,A7];refine(xS ((aB.of_same s6).trans (aB.upd (s6 _ _ QR))) Pk).append ?_;exact au (mo (aB.upd (s6 _ _ QR)) (qF (x:=(x.1,chF (t.getD p 0+(h:Int)) h*x.2)) h6 (hu6.mono s6))) ax
     .rintro σ H5 ⟨⟨v7,v8,rfl⟩,s5,Ob,t5,PD,QR,Pk⟩;rw[M5,AS] at Pk;exact⟨⟨_,_,_,_,rfl⟩,s5,PD,QR,Pk⟩
    .rintro σ H2 ⟨⟨v5,v6,v7,v8,rfl⟩,s2,vs2,hf2,NW⟩;exact⟨_,rfl,kk fo H2 s2 nf (aD hf2 NW)⟩
theorem Ld:OKQ T.X36 P w base 9 spHMO:=by
 refine FbO T.X36 fD λ_ _ _ _ H vs Q E hr h=> ?_;obtain⟨d,v,mk,rfl,d1,d5,hv,⟨mok,mlen⟩,QG,kk⟩:=h;refine⟨_,(aj (pSA (i:=2) fD.nd (GZ (kr hr) (dR fz (by rfl) T.n_tuple De (ab (ah jc (aV (ab ag ae)) (pv 0)) ae)) ag))
  (aj (aN AN rfl (bm (GJ (GE hr) hr.hd (by rfl) T.n_sorted (by rfl) T.n_set (ab (pv 1) ae))) (pGA (i:=3) fD.nd) (aj (pSA (i:=4) fD.nd Ey)
  (aj (aN AN rfl (GW (pv 2)) (pGA (i:=5) fD.nd) (ai (aN AN rfl (bm (pcq (yf T 6) hr T.X35 (ab (pv 5) (ab (ah aL (ao aM (pv 3) ag (λ_ _=>rfl)) ag) (ab (ah aL (ao aM (pv 3) ag (λ_ _=>rfl)) ag) (ab (cq Af PySem.F.slot_list_count PySem.F.type_list_count (Gf hr) (pv 1) (ab (pv 3) ae)) ae)))))) (bZ rfl (aO (pGA (i:=6) fD.nd) (aO (pGA (i:=7) fD.nd) bS))) (ai (Ew (kr hr) (pv 4) (pv 6) (ah aK (EB (kr hr) (pv 4) (pv 6) ag ⟨rfl,rfl,rfl,rfl⟩) (ah bq (Ev (kr hr) (pv 2) (pv 5) (λ_ _=>rfl)) (pv 7))) rfl)))))
  (ai (pSA (i:=2) fD.nd (pv 4))))))
  (ai (am (G1 rfl (by rfl) T.n_sum (pv 2)))))), ?_⟩
 obtain⟨wa,Pz,rfl,hwa,hwi⟩:=aA hv;have wlen:Pz.length=mk.length:=by rw[hwi.length,A1]
 refine λkd nkd=> ?_;have s0:af H (upd H kd (.dT [])):=af.new nkd;have QS:upd H kd (.dT []) kd=some (.dT []):=ak;generalize upd H kd (.dT [])=H0 at s0 QS⊢;refine⟨(zB rfl),λl1 H1 n1 s1 h1=> ?_⟩;refine⟨_,rfl, .i 0,d,aD h1 (au bz ax),rfl,by lia,by lia,AZ (aF (by lia)),λl2 H2 n2 s2 h2=> ?_⟩;refine⟨.ref l2,_,rfl,h2,λt3 H3 n3 s3 h3=> ?_⟩;have MI:=(s1.trans s2).trans s3;have hkd3:=MI _ _ QS;rw[Ae] at h3;have ht3:H3 t3=some (.tup ((bJ (List.replicate d 0)).map kV)):=by
  rw[<-Cq] at h3;obtain⟨a,e,ha⟩:=bL (xs:=List.replicate d 0) h3;cases e;rw[lG];exact ha
 refine⟨hkd3,bJ (List.replicate d 0),t3,rfl,ht3, ?_⟩;have e0:aZ ([]:Rl (Rl Key×V)) (bJ (List.replicate d 0)) (.int 1)=bp [(List.replicate d 0,1)]:=wy [] _ _;rw[e0];have sH:af H (upd H3 kd (.dT (bp [(List.replicate d 0,1)]))):=(s0.trans MI).put nkd;have Pg:upd H3 kd (.dT (bp [(List.replicate d 0,1)])) kd=some (.dT (bp [(List.replicate d 0,1)])):=ak;generalize upd H3 kd (.dT (bp [(List.replicate d 0,1)]))=H4 at sH Pg⊢;clear h1 h2 h3 ht3 hkd3 MI s1 s2 s3 n1 n2 n3 QS s0 e0 H0 H1 H2 H3;have tab0:TabOk d 0 [(List.replicate d 0,(1:Int))]:=by
  refine⟨by simp,λx hx=> ?_⟩;rw[AR.mp hx];refine⟨by simp,by simp,λi=> ?_⟩;rw[A',List.getElem?_replicate];split<;>simp
 refine⟨_,rfl, .ref wa,mk.map bU,3,rfl,by rw[<-vL];exact hv.mono sH,by decide,KF,QG,λNf l0 H5 nd mem so Op s5 hq=> ?_⟩;have ey:=IL nd mem so;subst ey;rw[<-vL] at hq;clear nd mem so;have hhm:bG [(List.replicate d 0,(1:Int))] (TF (λm=>mk.count m) (c9 mk))=hmF d mk:=by
  simp[bG,hmF]
 have hS:∀m∈c9 mk,m∈mk:=λm hm=>pT.mp hm;have hSn:=KU mk;generalize hcn:(λm=>mk.count m)=cnt at hhm;generalize hmF d mk=tot at hhm kk;generalize c9 mk=S at hq hhm hS hSn;obtain⟨_,Mr,e,Ni,MP⟩:=aA hq;cases e;have ME:Mr.length=S.length:=by rw[MP.length,A1]
 refine⟨l0,rfl,⟨_,SqL.of Ni⟩,bO (xs:=Mr) (λi σ H6=>(∃kd D n,(∃v3 v4 v5 v6 v7,σ=[some (.int d),some (.ref wa),some (.ref kd),v3,v4,v5,v6,v7])/\H6 kd=some (.dT (bp D))/\TabOk d n D/\n=((S.take i).map cnt).sum/\bG D (TF cnt (S.drop i))=tot/\H kd=none)/\af H H6/\H6 l0=some (.lst Mr)/\aB H5 H6) ⟨⟨kd,_,0,⟨none,none,none,none,none,rfl⟩,s5 _ _ Pg,tab0,rfl,hhm,nkd⟩,sH.trans s5,Ni,aB.of_same (af.refl H5)⟩ (λi σ H6 _ h=>SqL.of h.2.2.1) ?_ ?_⟩
 .rintro i y σ H6 hi ⟨⟨kd,D,n,⟨v3,v4,v5,v6,v7,rfl⟩,O5,tab,hn,Oy,nkd⟩,s6,hl6,t6⟩;obtain⟨x,Mm,hy⟩:=bD MP hi;have Qa:i<S.length:=(AF.mp Mm).1;have exi:S[i]=x:=(AF.mp Mm).2;obtain⟨ya,rfl,PH⟩:=fE hy;obtain⟨o1,o2,o3⟩:=mok x (hS x (AU Mm));have PZ:((S.take (i+1)).map cnt).sum=n+cnt x:=by
   rw[AW,Mm,A7,CN,<-hn];simp
  have hn15:n+cnt x<=15:=by
   have:=wA mk (S.take (i+1)) (hSn.sublist (List.take_sublist _ _));rw[hcn,PZ] at this;lia
  rw[As Qa,exi,KW] at Oy;obtain⟨p,hp⟩:∃p:Nat,x.1-1=(p:Int):=⟨(x.1-1).toNat,by lia⟩;obtain⟨g,hg⟩:∃g:Nat,x.2.1-x.1-1=(g:Int):=⟨(x.2.1-x.1-1).toNat,by lia⟩;rw[hp,hg,Ae,Ae] at Oy;have rok:pW p d n (n+cnt x) (spR g (cnt x)):=λr hr=>by
   obtain⟨e1,e2⟩:=pV hr;exact⟨by lia,by lia⟩
  obtain⟨tab',sum'⟩:=pY rok (TF cnt (S.drop (i+1))) tab.key (acc:=[]) ⟨by simp,λx hx=>nomatch hx⟩;refine λf nf=> ?_;have s7:af H6 (upd H6 f (.dT [])):=af.new nf;have hf7:upd H6 f (.dT []) f=some (.dT (bp [])):=ak;have Pj:H f=none:=s6.free nf;have fkd:f≠kd:=by rintro rfl;rw[O5] at nf;cases nf
  generalize upd H6 f (.dT [])=H7 at s7 hf7⊢;refine⟨_,rfl,kd,bp D,rfl, .inl (s7 _ _ O5),λo H8 hk8 O6=> ?_⟩;have l8:LTS H7 H8:=LTS.rd (.inl (s7 _ _ O5)) O6;have s8:af H H8:=λb u e=>by rw[O6 b (by rintro rfl;rw[nkd] at e;cases e)];exact s7 _ _ (s6 _ _ e)
  refine GX (λj σ H9=>(∃v5 v6 v7,σ=[some (.int d),some (.ref wa),some (.ref kd),some (.ref ya),some (.ref f),v5,v6,v7])/\af H H9/\H9 kd=some (.frz o (.dT (bp D)))/\H9 l0=some (.lst Mr)/\aB H5 H9/\H9 f=some (.dT (bp (stP p (spR g (cnt x)) (D.take j) [])))) ⟨⟨_,_,_,rfl⟩,s8,hk8,l8.1 _ _ (s7 _ _ hl6),(t6.trans (aB.of_same s7)).trans l8.2,by rw[O6 f fkd];exact hf7⟩ (λj σ H9 _ h=>h.2.2.1) ?_ ?_
  .rintro j k c b σ H9 hj ⟨⟨v5,v6,v7,rfl⟩,s9,hk9,hl9,t9,Qd⟩ hb;unfold bp at hj;rw[AC] at hj;obtain⟨⟨t,cv⟩,hD,ekc⟩:=A8.mp hj;simp only[DB] at ekc;obtain⟨rfl,rfl⟩:=ekc;rw[lG] at hb;have hDm:(t,cv)∈D:=AU hD;obtain⟨k1,k2,k3⟩:t.length=d/\t.sum=(n:Int)/\∀i:Nat,0<=t.getD i 0:=tab.key _ hDm;have hx9:Is H9 (lf x) (.ref ya):=jC (t9 _ _ PH);have hw9:=hwi.mono s9;rw[KY hD];have Qe:=(pY rok (λ_=>0) (xs:=D.take j) (λy hy=>tab.key y (CY hy)) (acc:=[]) ⟨by simp,λx hx=>nomatch hx⟩).1;generalize stP p (spR g (cnt x)) (D.take j) []=ac at Qd Qe⊢;refine⟨_,rfl,_,rfl,_,0,_,hx9,rfl,rfl,λu1 MH=> ?_⟩;rw[az MH];refine⟨_,_,rfl,rfl,_,rfl,_,1,_,hx9,rfl,rfl,λu2 MY=> ?_⟩;rw[az MY];refine⟨_,_,rfl,rfl,_,rfl, .inl ⟨rfl,_,SqL.of (s9 _ _ hwa)⟩,_,rfl,wa,Pz, .ref ya,1,_,rfl,rfl,SqL.of (s9 _ _ hwa),KS hw9 hx9, ?_⟩;rw[wlen,IX];refine⟨.ref b,t,p,g,cnt x, ?_,dY hb,by lia,by decide,by lia,⟨by lia,k3,by lia⟩,λrl H10 Oc N1 Oo=> ?_⟩
   .show [V.ref b,V.int (x.1-1),V.int (x.2.1-2),V.int (mk.count x:Nat)]=_;rw[hp,show x.2.1-2=(p:Int)+(g:Int) by lia,<-hcn]
   rw[wb (by lia),BM] at Oo;obtain⟨_,M7,e,Qf,Nt⟩:=aA Oo;cases e;have QF:∀r∈spR g (cnt x),r.length=g+1/\r.sum=cnt x:=λr hr=>pV hr;generalize spR g (cnt x)=rs at Nt rok QF⊢;have M5:M7.length=rs.length:=by rw[Nt.length,A1]
   have hk10:=Oc _ _ hk9;have hf10:=Oc _ _ Qd;have rlf:rl≠f:=by rintro rfl;rw[Qd] at N1;cases N1
   have l0f:l0≠f:=by rintro rfl;rw[hl9] at Qd;cases Qd
   refine⟨rl,rfl,⟨_,SqL.of Qf⟩,bO (xs:=M7) (λm σ H11=>(∃v6 v7,σ=[some (.int d),some (.ref wa),some (.ref kd),some (.ref ya),some (.ref f),some (.ref b),v6,v7])/\af H H11/\H11 kd=some (.frz o (.dT (bp D)))/\H11 l0=some (.lst Mr)/\aB H10 H11/\H11 rl=some (.lst M7)/\H11 f=some (.dT (bp (inP t cv p (rs.take m) ac)))) ⟨⟨_,_,rfl⟩,s9.trans Oc,hk10,Oc _ _ hl9,aB.of_same (af.refl H10),Qf,hf10⟩ (λm σ H11 _ h=>SqL.of h.2.2.2.2.2.1) ?_ ?_⟩
   .rintro m z σ H11 hm ⟨⟨v6,v7,rfl⟩,QT,PK,QU,t11,Qg,Od⟩;obtain⟨r,OC,hz⟩:=bD Nt hm;obtain⟨q,u6,rfl,hq,hu6⟩:=qG (mo t11 hz);obtain⟨ua,rfl,hua⟩:=bL hu6;obtain⟨r1,r2⟩:=QF r (AU OC);have hua':H11 ua=some (.tup ((bJ (ck t p r)).map kV)):=by rw[lG];exact hua
    have hb11:H11 b=some (.tup ((bJ t).map kV)):=by rw[lG];exact t11 _ _ (Oc _ _ hb)
    have tabm:=(pX (v:=cv) ⟨k1,k2,k3⟩ (λ_=>0) (rs:=rs.take m) (λr hr=>rok r (CY hr)) Qe).1;refine⟨q,_,rfl,SqT.of hq,rfl,_,_,rfl,_,_,rfl,rfl, ?_⟩;refine⟨_,rfl,f,rfl, .inr ⟨_, .inl Od⟩,_,rfl,_,fx.t Od hua', ?_⟩;rw[IU];refine⟨_,rfl,_,rfl,kd, .int cv,rfl, .inr ⟨bp D,bJ t,b, .inr ⟨o,PK⟩,rfl,hb11,(IV tab.nd hDm).symm⟩,_,rfl,_,_,rfl,rfl, .inr (KR k3 (by lia) (by lia)),_,_,rfl,rfl,_,rfl,_,rfl,f,_,rfl,i5.t Od hua' ?_, ?_⟩
    .rw [wx];exact mn (tabm.size d5 hn15)
    .rw [show inP t cv p (rs.take (m+1)) ac=iu (inP t cv p (rs.take m) ac) (ck t p r) (cv*cg t p r) from xT _ _ rs m r OC];rw[wy];exact⟨⟨_,_,rfl⟩,QT.put Pj,by rw[aw fkd.symm];exact PK,by rw[aw l0f];exact QU,t11.trans (KZ Od),by rw[aw rlf];exact Qg,ak⟩
   .rintro σ H11 ⟨⟨v6,v7,rfl⟩,QT,PK,QU,t11,Qg,Od⟩;rw[M5,AS] at Od;exact⟨⟨_,_,_,rfl⟩,QT,PK,QU,(t9.trans (aB.of_same Oc)).trans t11,Od⟩
  .rintro σ H9 ⟨⟨v5,v6,v7,rfl⟩,s9,hk9,hl9,t9,Qd⟩;rw[wx,AS] at Qd;refine⟨_,rfl,⟨f,_,n+cnt x,⟨_,_,_,_,_,rfl⟩,Qd,tab',PZ.symm, ?_,Pj⟩,s9,hl9,t9⟩;rw[sum',Oy];simp[bG]
 .rintro σ H6 ⟨⟨kd,D,n,⟨v3,v4,v5,v6,v7,rfl⟩,O5,tab,hn,Oy,nkd⟩,s6,hl6,t6⟩;refine⟨_,rfl,kd,bp D,D.map (·.2),rfl, .inl O5,IW D, ?_⟩;rw[ME,List.drop_length] at Oy;have:(D.map (·.2)).sum=tot:=by rw[<-IT,<-Oy];rfl
  rw[this];exact kk H6 s6
theorem yg:OKQ T.X37 P w base 10 spHM:=by
 refine FbO T.X37 Ib λ_ _ _ _ H vs Q E hr h=> ?_;obtain⟨d,dv,ps,rfl,d1,d5,hd,hs,QG,kk⟩:=h;refine⟨_,(aj (aX (pcq (Lb T) hr T.X33 (ab (pv 0) (ab (pv 1) ae))))
  (ai (am (pcq (Ld T) hr T.X36 (ab (pv 0) (ab (ah dI (pv 1) (pcq (Lc T) hr T.X34 (ab (pv 0) (ab (pv 1) ae)))) ae)))))), ?_⟩
 obtain⟨hM,QG⟩:=KM QG;have pl:=hM.2;rw[AE] at pl;refine⟨_,rfl,_,rfl,d,dv,ps,rfl,d1,d5,hd,hs,λH1 s1=> ?_⟩;refine⟨_,rfl,_,rfl,_,rfl,_,rfl,d,dv,ps,rfl,d1,d5,hd.mono s1,hs,by lia,λl2 H2 s2 n2 h2=> ?_⟩;refine⟨_,_,(hd.mono s1).mono s2,h2,AZ (aF (by rw[A1,A1];lia)),λl3 H3 n3 s3 h3=> ?_⟩;rw[<-A7] at h3;refine⟨d, .ref l3,_,rfl,d1,d5,h3,hM,QG,λH4 s4=>kk H4 (((s1.trans s2).trans s3).trans s4)⟩
theorem Lg:OKQ T.X32 P w base 1 spWorth:=by
 refine FbO T.X32 kU λ_ _ _ _ H vs Q E hr h=> ?_;obtain⟨dv,ps,d,rfl,hd,hok,kk⟩:=h;refine⟨_,(aj (pSA (i:=1) kU.nd ag)
  (aj (aN AN rfl (bm (pv 0)) (pGA (i:=2) kU.nd) (ai (fS (i:=1) kU.nd rfl (by trivial) (ah rE (ao aM (pv 2) ag (λ_ _=>rfl)) ag) m4)))
  (ai (am (pv 1))))), ?_⟩
 obtain⟨da,Mt,rfl,Nx,NF⟩:=aA hd;have PB:Mt.length=ps.length:=by rw[NF.length,A1]
 refine⟨_,rfl,da,rfl,⟨_,SqL.of Nx⟩,bO (xs:=Mt) (λi σ H2=>(∃v2,σ=[some (.ref da),some (.int (fI (ps.take i))),v2])/\H2=H) ⟨⟨none,rfl⟩,rfl⟩ (λi σ H2 _ h=>by rw[h.2];exact SqL.of Nx) ?_ ?_⟩
 .rintro i x σ H2 hi ⟨⟨v2,rfl⟩,rfl⟩;obtain⟨p,M4,hy⟩:=bD NF hi;obtain⟨_,w1,w2⟩:=hok p (AU M4);have b1:p.2.2.natAbs<2^64:=by lia
  have b2:p.2.2^(2:Int).toNat<2^64:=by
   show p.2.2^2<2^64;have:p.2.2*p.2.2<=2^20*2^20:=Ca w2 w2 (by lia) (by decide);rw[Int.pow_succ,Int.pow_succ,Int.pow_zero,Int.one_mul];lia
  have b3: -(2^64)<p.2.2^(2:Int).toNat:=by
   show _<p.2.2^2;have h0:0<=p.2.2*p.2.2:=Bm (by lia) (by lia);have h1:p.2.2^2=p.2.2*p.2.2:=by rw[Int.pow_succ,Int.pow_succ,Int.pow_zero,Int.one_mul]
   rw[h1];lia
  refine⟨_,rfl,_,rfl,_,2,_,hy,rfl,rfl,λu hu=> ?_⟩;rw[az hu];refine⟨_,_,rfl,rfl,⟨by decide,by decide,b1⟩,_,_,rfl,rfl, .inr ⟨b3,b2⟩,⟨some x, ?_⟩,rfl⟩;rw[AW,M4];unfold fI;rw[Bx];rfl
 .rintro σ H2 ⟨⟨v2,rfl⟩,rfl⟩;rw[PB,AS];exact⟨_,rfl,kk⟩
theorem Lh:OKQ T.X38 P w base 12 (spCtF jF):=by
 refine FbO T.X38 Ic λ_ _ _ _ H vs Q E hr h=> ?_;obtain⟨d,k,rfl,hW,kk⟩:=h;refine⟨_,(aj (aX (pcq (mr T) hr T.X3 (ab (pv 0) (ab (pv 1) ae))))
  (ai (am (aY (gi rfl) (by rfl) T.n_sum Di (ab (dn (XN:=["d","k"]) (sc:=al kX) (N:=["drawing","d"]) (own:=1) (js:=[0]) rfl (by ac_nf) rfl rfl (bm (pcq (ye T) hr T.X31 (ab (pv 0) (ab (pv 1) ae)))) (λ_ _ _ _=>(bV (i:=0) (show List.Nodup (["drawing","d"]:Rl Str) by ac_nf) rfl (Or.inl rfl) (.inr rfl))) (dm (by decide)) (λ_ _ _ _=>cV) (λ_ _ _ _=>(ah bq (pcq (Lg T) hr T.X32 (ab (pv 0) ae)) (pcq (yg T) hr T.X37 (ab (pv 1) (ab (pv 0) ae)))))) ae))))), ?_⟩
 obtain⟨g1,g4'⟩:=xK hW;have g4:∀x∈cf d k,gC d x=true/\mkB d x=true:=λx hx=>(g4' x hx).1;have d15:1<=d/\d<=5:=by unfold Wide at hW;lia
 refine⟨_,rfl,_,rfl,d,k,rfl,hW, ?_⟩;refine⟨_,rfl,_,rfl,d,k,rfl,hW,g1,λL l H1 pL s1 nl hl=> ?_⟩;have g4:∀x∈L,gC d x=true/\mkB d x=true:=λx hx=>g4 x (pL.mem_iff.mp hx);have g5:L.length<=1000:=by have:=pL.length_eq;have:=g1.2.1;lia
 rw[show jF d k=(L.map (lJ d)).sum from(K6 (lJ d) pL).symm] at kk;clear pL;have hl:=hl.mono bN;obtain⟨_,Mr,e,M6,MP⟩:=aA hl;cases e;have ME:Mr.length=L.length:=by rw[MP.length,A1]
 refine⟨l,rfl,⟨_,SqL.of M6⟩,λacc na=> ?_⟩;refine fy (xs:=Mr) (own:=1) (js:=[0]) (λi H3=>af H1 H3/\H3 acc=some (.lst (((L.take i).map (lJ d)).map V.int))) ⟨af.new na,ak⟩ (λi H3 _ h=>SqL.of (h.1 _ _ M6)) ?_ ?_ dq cW ?_
 .rintro i y H3 hi ⟨s3,Mf⟩;obtain⟨x,hx,hy⟩:=bD MP hi;have il:i<L.length:=(AF.mp hx).1;obtain⟨g41,g42⟩:=g4 x (AU hx);obtain⟨o1,o2,o3,o4,o5⟩:=wC g41;have OR:=hy.mono s3;refine dW ?_;refine⟨_,rfl,y,x,d,rfl,OR,(λp hp=>⟨trivial,(o2 p hp).2⟩),_,rfl,_,rfl,d,y,x,rfl,d15.1,d15.2,OR,o1,g42,λH4 s4=> ?_⟩;refine⟨_,_,rfl,rfl, .inl ⟨by lia,by lia⟩,acc,_,_,rfl,rfl,s4 _ _ Mf,aF (by rw[A1,A1,Ag];lia),(s3.trans s4).put na, ?_⟩;rw[ak,AW,hx,A7,A7];rfl
 .rintro H3 ⟨s3,Mf⟩;rw[ME,AS] at Mf;exact⟨acc,_,rfl,SqL.of Mf,kk H3 (s1.trans s3)⟩
 .rintro σ H R R' k' ⟨v1,e1,dv,ps,d',e2,i1,o1,v2,e3,v3,e4,n,dv2,ps2,e5,a1,a2,i2,sn,sb,kk2⟩;exact⟨v1,e1,dv,ps,d',e2,i1,o1,v2,e3,v3,e4,n,dv2,ps2,e5,a1,a2,i2,sn,sb,λH' s'=>let ⟨i,j,x1,x2,x3,x4⟩:=kk2 H' s';⟨i,j,x1,x2,x3,k' _ _ x4⟩⟩
theorem yh:OKQ T.X6 P w base 2 spIsR:=by
 refine FbO T.X6 vB λMy A outer s H vs Q E hr h=> ?_;obtain⟨v,t,rfl,hv,⟨tn,tl,tt⟩,kk⟩:=h;refine⟨_,(aj (aU (eT (fR (aY mP (by rfl) T.n_isinstance boot_isinstance (ab (pv 0) (ab (mC (v:= .ty "list") (by rfl) T.n_list boot_list (by rfl)) ae))))) (ai (am fQ)) aT)
  (aj (aN AN rfl (bm (pv 0)) (pGA (i:=1) vB.nd) (ai (aU (dB (eT (fR (pcq (yc T) hr T.X0 (ab (pv 1) ae)))) (eS (aQ fX (pv 1) ag (aE _)))).pt (ai (am fQ)) aT)))
  (ai (am (zj (HL (pv 0)) (j6 (fY eV (ao ge (pv 0) (fV fW ag) (λ_ _=>rfl)) ag (aE _)))))))), ?_⟩
 obtain⟨a,rfl,ha⟩:=iL hv;refine⟨_,rfl,_,"list",_,true,rfl, .lst ha,KE,true,rfl,bh ?_⟩;refine⟨_,rfl,a,rfl,⟨_,SqL.of ha⟩,bO (xs:=t.map V.int) (λi σ H2=>(∃v1,σ=[some (.ref a),v1])/\H2=H) ⟨⟨none,rfl⟩,rfl⟩ (λi σ H2 _ h=>by rw[h.2];exact SqL.of ha) ?_ ?_⟩
 .rintro i y σ H2 hi ⟨⟨v1,rfl⟩,rfl⟩;rw[AC] at hi;obtain⟨x,hx,rfl⟩:=A8.mp hi;have x0:0<=x:=by
   have:=tn i;rw[A',hx] at this;exact this
  refine⟨_,rfl,_,rfl, .inl ⟨_,rfl⟩,true,rfl,bh ⟨_,rfl,_,_,rfl,rfl,_,rfl,bH (λh=>absurd h (by lia)) (λ_=>⟨⟨_,rfl⟩,rfl⟩)⟩⟩
 .rintro σ H2 ⟨⟨v1,rfl⟩,rfl⟩;refine⟨_,rfl,a,_,rfl,SqL.of ha,_,rfl, ?_⟩;rcases tt with rfl|⟨s,x,rfl,x0⟩
  .exact cB kk
  .have e0:((s++[x]).map V.int).isEmpty=false:=by
    cases s<;>rfl
   rw[e0];refine bh ⟨_,rfl,1,rfl,a,_,-1, .int x,rfl,rfl,SqL.of ha, ?_,_,_,rfl,rfl, ?_⟩
   .unfold atI ixN;rw[A1,AE,A5 (by decide),A6 (by simp;lia)];show((s++[x]).map V.int)[((-1:Int)+((s.length+1:Nat):Int)).toNat]? =_;rw[show((-1:Int)+((s.length+1:Nat):Int)).toNat=s.length by lia,AC,BS (AB _),Nat.sub_self];rfl
   .show Q (.bl (decide (0<x))) H2;rw[Ar x0];exact kk
theorem yi {t:Rl Int}{x:Int} (h:t[i]? =some x):((List.range (i+1)).map λj:Nat=>((j:Int)+1)*t.getD j 0)=((List.range i).map λj:Nat=>((j:Int)+1)*t.getD j 0)++[((i:Int)+1)*x]:=by
 rw[Az,A7,AL,DX,A',h];rfl
theorem yj (t:Rl Int):((List.range t.length).map λj:Nat=>((j:Int)+1)*t.getD j 0).sum=wtF t:=by
 have go:∀(t:Rl Int) (i:Int),((List.range t.length).map λj:Nat=>((j:Int)+i)*t.getD j 0).sum=wtG i t:=λt=>by
  induction t with
  |nil=>intro i;rfl
  |cons x t ih=>
   intro i;rw[Ad,List.range_succ_eq_map,AL,BM,Aq];unfold wtG;rw[<-ih (i+1)];congr 1
   .simp
   .refine B' List.sum (BA λj _=> ?_);show(((j+1:Nat):Int)+i)*t.getD j 0=_;rw[show((j+1:Nat):Int)+i=(j:Int)+(i+1) by lia]
 exact go t 1
theorem yk:OKQ T.X7 P w base 1 spRwL:=by
 refine FbO T.X7 vC λ_ _ _ _ H vs Q E hr h=> ?_;obtain⟨v,t,rfl,hv,tl,kk⟩:=h;refine⟨_,(ai (am (aY (gi rfl) (by rfl) T.n_sum Di (ab (dn (XN:=["row"]) (sc:=al jn) (N:=["place","number"]) (own:=2) (js:=[]) rfl (by ac_nf) rfl rfl (gT (by rfl) T.n_enumerate (pv 0)) (λ_ _ _ _=>(m3 (K:=K) rfl rfl (aO (bV (i:=0) (show List.Nodup (["place","number"]:Rl Str) by ac_nf) rfl (Or.inl rfl) (.inr rfl)) (aO (bV (i:=1) (show List.Nodup (["place","number"]:Rl Str) by ac_nf) rfl (Or.inl rfl) (.inr rfl)) bS)))) mY (λ_ _ _ _=>cV) (λ_ _ _ _=>(ah bq (ah aK (pv 0) ag) (pv 1)))) ae)))), ?_⟩;obtain⟨a,rfl,ha⟩:=iL hv;refine⟨_,rfl,a,rfl,⟨_,SqL.of ha⟩,λacc na=> ?_⟩;refine HC (xs:=t.map V.int) (own:=2) (js:=[]) (λi H2=>af H H2/\H2 acc=some (.lst (((List.range i).map λj:Nat=>((j:Int)+1)*t.getD j 0).map V.int))) ⟨af.new na,ak⟩ (λi H2 _ h=>SqL.of (h.1 _ _ ha)) ?_ ?_ mZ cW ?_
 .rintro i y H2 p hi ⟨s2,Mf⟩ np;rw[AC] at hi;obtain⟨x,hx,rfl⟩:=A8.mp hi;have il:i<t.length:=(AF.mp hx).1;have s3:af H2 (upd H2 p (.tup [.int i, .int x])):=af.new np;refine⟨p,_,rfl,SqT.of ak,rfl,_,_,rfl,_,_,rfl,rfl, ?_⟩;refine⟨_,rfl,_,_,rfl,rfl,_,rfl,_,_,rfl,rfl, .inl ⟨by lia,by lia⟩,acc,_,_,rfl,rfl,s3 _ _ Mf,aF (by rw[A1,A1,Bk];lia),(s2.trans s3).put na, ?_⟩;rw[ak,yi hx,A7];rfl
 .rintro H2 ⟨s2,Mf⟩;rw[A1] at Mf;refine⟨acc,_,rfl,SqL.of Mf, ?_⟩;rw[yj];exact kk H2 s2
 .rintro σ H R R' k ⟨v1,e1,i1,i2,e2,e3,v2,e4,i3,i4,e5,e6,c,h⟩;exact⟨v1,e1,i1,i2,e2,e3,v2,e4,i3,i4,e5,e6,c,k _ _ h⟩
theorem yl:OKQ T.X7 P w base 1 spRwT:=by
 refine FbO T.X7 vC λ_ _ _ _ H vs Q E hr h=> ?_;obtain⟨v,t,rfl,hv,tl,kk⟩:=h;refine⟨_,(ai (am (aY (gi rfl) (by rfl) T.n_sum Di (ab (dn (XN:=["row"]) (sc:=al jn) (N:=["place","number"]) (own:=2) (js:=[]) rfl (by ac_nf) rfl rfl (nU (by rfl) T.n_enumerate (pv 0)) (λ_ _ _ _=>(m3 (K:=K) rfl rfl (aO (bV (i:=0) (show List.Nodup (["place","number"]:Rl Str) by ac_nf) rfl (Or.inl rfl) (.inr rfl)) (aO (bV (i:=1) (show List.Nodup (["place","number"]:Rl Str) by ac_nf) rfl (Or.inl rfl) (.inr rfl)) bS)))) mY (λ_ _ _ _=>cV) (λ_ _ _ _=>(ah bq (ah aK (pv 0) ag) (pv 1)))) ae)))), ?_⟩;obtain⟨a,rfl,ha⟩:=bL hv;refine⟨_,rfl,a,rfl,⟨_,SqT.of ha⟩,λacc na=> ?_⟩;refine HB (xs:=t.map V.int) (own:=2) (js:=[]) (λi H2=>af H H2/\H2 acc=some (.lst (((List.range i).map λj:Nat=>((j:Int)+1)*t.getD j 0).map V.int))) ⟨af.new na,ak⟩ (λi H2 _ h=>SqT.of (h.1 _ _ ha)) ?_ ?_ mZ cW ?_
 .rintro i y H2 p hi ⟨s2,Mf⟩ np;rw[AC] at hi;obtain⟨x,hx,rfl⟩:=A8.mp hi;have il:i<t.length:=(AF.mp hx).1;have s3:af H2 (upd H2 p (.tup [.int i, .int x])):=af.new np;refine⟨p,_,rfl,SqT.of ak,rfl,_,_,rfl,_,_,rfl,rfl, ?_⟩;refine⟨_,rfl,_,_,rfl,rfl,_,rfl,_,_,rfl,rfl, .inl ⟨by lia,by lia⟩,acc,_,_,rfl,rfl,s3 _ _ Mf,aF (by rw[A1,A1,Bk];lia),(s2.trans s3).put na, ?_⟩;rw[ak,yi hx,A7];rfl
 .rintro H2 ⟨s2,Mf⟩;rw[A1] at Mf;refine⟨acc,_,rfl,SqL.of Mf, ?_⟩;rw[yj];exact kk H2 s2
 .rintro σ H R R' k ⟨v1,e1,i1,i2,e2,e3,v2,e4,i3,i4,e5,e6,c,h⟩;exact⟨v1,e1,i1,i2,e2,e3,v2,e4,i3,i4,e5,e6,c,k _ _ h⟩
theorem Li:OKQ T.X8 P w base 3 spNeR:=by
 refine FbO T.X8 HS λ_ _ _ _ H vs Q E hr h=> ?_;obtain⟨d,v1,v2,a,b,rfl,h1,h2,r1,r2,e,kk⟩:=h;refine⟨_,(aj (aU (dB (eT (fR (pcq (yh T) hr T.X6 (ab (pv 1) ae)))) (eS (eT (fR (pcq (yh T) hr T.X6 (ab (pv 2) ae)))))).pt (ai j8) aT)
  (ai (aU (aQ iS (ah aK (pcq (yk T) hr T.X7 (ab (pv 1) ae)) (pcq (yk T) hr T.X7 (ab (pv 2) ae))) (pv 0) (aE _)) (ai j8) aT))), ?_⟩
 refine⟨_,rfl,v1,a,rfl,h1,r1,true,rfl,bh ⟨_,rfl,v2,b,rfl,h2,r2,true,rfl,bh ?_⟩⟩;refine⟨_,rfl,v1,a,rfl,h1,r1.2.1,λH1 s1=>⟨_,rfl,v2,b,rfl,h2.mono s1,r2.2.1,λH2 s2=> ?_⟩⟩;exact⟨_,_,rfl,rfl,_,rfl,rfl,_,rfl,EH (λhz=>absurd e hz) λ_=>kk H2 (s1.trans s2)⟩
theorem Lj:OKQ T.X13 P w base 1 spPrd:=by
 refine FbO T.X13 kO λ_ _ _ _ H vs Q E hr h=> ?_;obtain⟨v,ws,rfl,hv,hw,kk⟩:=h;refine⟨_,(aj (pSA (i:=1) kO.nd ag)
  (aj (aN AN rfl (bm (pv 0)) (pGA (i:=2) kO.nd) (ai (fS (i:=1) kO.nd rfl (by trivial) (pv 2) m4)))
  (ai (am (pv 1))))), ?_⟩
 obtain⟨a,rfl,ha⟩:=iL hv;refine⟨_,rfl,a,rfl,⟨_,SqL.of ha⟩,bO (xs:=ws.map V.int) (λi σ H2=>(∃v2,σ=[some (.ref a),some (.int (cy (ws.take i))),v2])/\H2=H) ⟨⟨none,rfl⟩,rfl⟩ (λi σ H2 _ h=>by rw[h.2];exact SqL.of ha) ?_ ?_⟩
 .rintro i y σ H2 hi ⟨⟨v2,rfl⟩,rfl⟩;rw[AC] at hi;obtain⟨x,hx,rfl⟩:=A8.mp hi;obtain⟨x1,x5⟩:=hw x (AU hx);refine⟨_,rfl,_,rfl,_,_,rfl,rfl, .inr ⟨by lia,by lia⟩,⟨some (.int x), ?_⟩,rfl⟩;have e:cy (ws.take (i+1))=cy (ws.take i)*x:=by
   rw[AW,hx];unfold cy;rw[Bx];rfl
  rw[e];rfl
 .rintro σ H2 ⟨⟨v2,rfl⟩,rfl⟩;rw[A1,AS];exact⟨_,rfl,kk⟩
theorem ym:OKQ T.X14 P w base 1 spFil:=by
 refine FbO T.X14 HV λ_ _ _ _ H vs Q E hr h=> ?_;obtain⟨v,t,n,rfl,hv,tn,n5,kk⟩:=h;refine⟨_,(ai (am (dR fz (by rfl) T.n_tuple De (ab (ah dI (pv 0) (ah jc (aV (ab ag ae)) (ah aL (pv 1) (aY dE (by rfl) T.n_len CW (ab (pv 0) ae))))) ae)))), ?_⟩;obtain⟨a,rfl,ha⟩:=iL hv;refine⟨_,rfl,(zB rfl),λl1 H1 n1 s1 h1=> ?_⟩;refine⟨_,rfl,_,rfl,a,_,rfl, .inl (SqL.of (s1 _ _ ha)),_,_,rfl,rfl, .i 0,_,aD h1 (au bz ax),rfl, ?_, ?_, ?_,λl2 H2 n2 s2 h2=> ?_⟩
 .rw [A1];lia
 .rw [A1];lia
 .exact AZ (aF (by rw[A1];lia))
 refine⟨_,_,hv.mono (s1.trans s2),h2,AZ (aF (by rw[A1,Am,A1];lia)),λl3 H3 n3 s3 h3=> ?_⟩;refine⟨_,_,rfl,h3,λl4 H4 n4 s4 h4=>kk _ H4 (((s1.trans s2).trans s3).trans s4) ?_⟩;have e:t.map D.i++List.replicate (((n:Int))-(((t.map V.int).length:Nat):Int)).toNat (D.i 0)=(bi n t).map D.i:=by
  unfold bi;rw[A1,A7,Cq,show((n:Int)-(t.length:Int)).toNat=n-t.length by lia]
 rw[e] at h4;exact h4
theorem Lk:OKQ T.X15 P w base 1 spRwn:=by
 refine FbO T.X15 ie λ_ _ _ _ H vs Q E hr h=> ?_;obtain⟨v,t,rfl,hv,tn,ts,tl,kk⟩:=h;refine⟨_,(aj (pSA (i:=1) ie.nd (aV (ab (bC ae) ae)))
  (aj (aN AN rfl (rq (pv 0)) (pGA (i:=2) ie.nd) (aj (pSA (i:=3) ie.nd (aV ae))
  (aj (aN AN rfl (bm (pv 1)) (pGA (i:=4) ie.nd) (ai (aX (cq Af CF CD iV (pv 3) (ab (dn (XN:=["row","found","number","longer","begun"]) (sc:=al kP) (N:=["here","begun"]) (own:=1) (js:=[4]) rfl (by ac_nf) rfl rfl (eU (by rfl) T.n_range (ab (ah aK (pv 2) ag) ae)) (λ_ _ _ _=>(bV (i:=0) (show List.Nodup (["here","begun"]:Rl Str) by ac_nf) rfl (Or.inl rfl) (.inr rfl))) (dm (by decide)) (λ_ _ _ _=>cV) (λ_ _ _ _=>(ah nI (pv 1) (bC (ab (pv 0) ae))))) ae)))))
  (ai (pSA (i:=1) ie.nd (pv 3))))))
  (ai (am (pv 1))))), ?_⟩
 obtain⟨a,rfl,ha⟩:=bL hv;refine⟨AO _,λe0 H1 ne0 s1 he0=>⟨(zB rfl),λf0 H2 nf0 s2 hf0=> ?_⟩⟩;have OD:=s1.trans s2;refine⟨_,rfl,a,rfl,⟨_,SqT.of (OD _ _ ha)⟩,rB (xs:=t.map V.int) (λi σ H3=>(∃fo v2 v3 v4,σ=[some (.ref a),some (.ref fo),v2,v3,v4]/\H fo=none/\Is H3 (.l ((rwF (t.take i)).map tI)) (.ref fo))/\af H H3) ⟨⟨f0,none,none,none,rfl,s1.free nf0,aD hf0 (au (dY (xs:=[]) (s2 _ _ he0)) ax)⟩,OD⟩ (λi σ H3 _ h=>SqT.of (h.2 _ _ ha)) ?_ ?_⟩
 .rintro i y σ H3 hi ⟨⟨fo,v2,v3,v4,rfl,Nu,Nh⟩,s3⟩;rw[AC] at hi;obtain⟨x,hx,rfl⟩:=A8.mp hi;have il:i<t.length:=(AF.mp hx).1;have x0:0<=x:=by
   have:=tn i;rw[A',hx] at this;exact this
  have nx:rwF (t.take (i+1))=rwS (rwF (t.take i)) x:=by
   rw[AW,hx];unfold rwF;rw[Bx];rfl
  have big:(rwS (rwF (t.take i)) x).length<=32:=by rw[<-nx];exact p7 tn ts (i+1)
  have hFl:∀b∈rwF (t.take i),b.length<=5:=λb hb=>by
   have:=(p6 (I8 tn i) hb).len;rw[Ag] at this;lia
  rw[nx];generalize rwF (t.take i)=F at Nh big hFl;obtain⟨_,fvs,e,Mo,hfi⟩:=aA Nh;cases e;have flen:fvs.length=F.length:=by rw[hfi.length,A1]
  refine⟨AO _,λlo H4 nlo s4 hlo=> ?_⟩;have nloH:H lo=none:=s3.free nlo;have fl:fo≠lo:=by rintro rfl;rw[Mo] at nlo;cases nlo
  have part:∀j,(rwS (F.take j) x).length<=32:=λj=>by
   rw[wD] at big⊢;refine BH (Nat.mul_le_mul_right _ ?_) big;rw[Ag];lia
  refine⟨_,rfl,fo,rfl,⟨_,SqL.of (s4 _ _ Mo)⟩,bO (xs:=fvs) (λj σ H5=>(∃v4,σ=[some (.ref a),some (.ref fo),some (.int x),some (.ref lo),v4])/\af H H5/\H5 fo=some (.lst fvs)/\aB H4 H5/\∃Mr,H5 lo=some (.lst Mr)/\Iss H5 ((rwS (F.take j) x).map tI) Mr) ⟨⟨_,rfl⟩,s3.trans s4,s4 _ _ Mo,aB.of_same (af.refl _),[],hlo,ax⟩ (λj σ H5 _ h=>SqL.of h.2.2.1) ?_ ?_⟩
  .rintro j b σ H5 hj ⟨⟨v4,rfl⟩,s5,MD,t5,Mr,PL,OF⟩;obtain⟨bb,hbb,hb⟩:=bD hfi hj;have hb5:Is H5 (tI bb) b:=fN t5 (hb.mono s4);have nx2:rwS (F.take (j+1)) x=rwS (F.take j) x++(List.range (x+1).toNat).map λh:Nat=>bb++[(h:Int)]:=by
    unfold rwS;rw[AW,hbb,BI];simp
   have pj:=part (j+1);rw[nx2] at pj⊢;rw[AE,A1,Bk] at pj;have ll:Mr.length=(rwS (F.take j) x).length:=by rw[OF.length,A1]
   generalize rwS (F.take j) x=R at OF pj ll;refine⟨_,rfl, .inl ⟨rfl,_,SqL.of PL⟩,_,rfl,_,_,rfl,rfl,_,rfl,by lia,by lia,λacc na=> ?_⟩;have naH:H acc=none:=s5.free na;refine i8 (lo:=0) (n:=(x+1).toNat) (own:=1) (js:=[4]) (λm H6=>af H5 H6/\∃zs,H6 acc=some (.lst zs)/\Iss H6 (((List.range m).map λh:Nat=>bb++[(h:Int)]).map tI) zs) ⟨af.new na,[],ak,ax⟩ ?_ ?_ dq cW ?_
   .rintro m H6 hm ⟨s6,zs,Mf,hz⟩;rw[D1];refine⟨_,rfl,_,rfl,(zB rfl),λq H7 nq s7 hq=> ?_⟩;have OE:=s6.trans s7;refine⟨bb.map .i,[.i (m:Int)],hb5.mono OE,bA hq (au bz ax),AZ (aF (by have:=hFl bb (AU hbb);rw[A1];show _+1<=1000;lia)),λu H8 s8 hu=> ?_⟩;have Qh:=s8 _ _ (s7 _ _ Mf);have zl:zs.length=m:=by rw[hz.length,A1,A1,Bk]
    refine⟨acc,zs,_,rfl,rfl,Qh,aF (by lia),(OE.trans s8).put na,_,ak, ?_⟩;have tu:aB H8 (upd H8 acc (.lst (zs++[u]))):=aB.upd Qh;rw[Az,A7,A7];refine(iM tu ((hz.mono s7).mono s8)).append (au (fN tu ?_) ax);show Is H8 (.t ((bb++[(m:Int)]).map .i)) u;rw[A7];exact hu
   .rintro H6 ⟨s6,zs,Mf,hz⟩;have zl:zs.length=(x+1).toNat:=by rw[hz.length,A1,A1,Bk]
    have Oa:=s6 _ _ PL;refine⟨lo,acc,Mr,zs,rfl,rfl,Oa,Mf,AZ (aF (by lia)),⟨_,rfl⟩,(s5.trans s6).put nloH,by rw[aw fl];exact s6 _ _ MD,(t5.trans (aB.of_same s6)).trans (aB.upd Oa),_,ak, ?_⟩;have tu:aB H6 (upd H6 lo (.lst (Mr++zs))):=aB.upd Oa;rw[A7];exact(iM tu (OF.mono s6)).append (iM tu hz)
   .rintro σ H R R' k ⟨v1,e1,v2,e2,e3,h⟩;refine⟨v1,e1,v2,e2,e3,λq H7 nq s7 hq=> ?_⟩;obtain⟨xs,ys,a1,a2,a3,a4⟩:=h q H7 nq s7 hq;exact⟨xs,ys,a1,a2,a3,λu H8 s8 hu=>k _ _ (a4 u H8 s8 hu)⟩
  .rintro σ H5 ⟨⟨v4,rfl⟩,s5,MD,t5,Mr,PL,OF⟩;rw[flen,AS] at OF;exact⟨_,rfl,⟨lo,_,_,_,rfl,nloH,aD PL OF⟩,s5⟩
 .rintro σ H3 ⟨⟨fo,v2,v3,v4,rfl,Nu,Nh⟩,s3⟩;rw[A1,AS] at Nh;exact⟨_,rfl,kk fo H3 s3 Nu Nh⟩
theorem Ll {t:Rl Int}(h:p<t.length):atI (t.map D.i) (p:Int)=some (.i (t.getD p 0)):=by
 refine gU (j:=p) rfl ?_;rw[AC,A3 h,A',A3 h];rfl
theorem Lm {D M:Int} (hM:(if D<(L:Int) then D else(L:Int))=M) (hl:L<=5) (hD: -2000<=D):M<=5/\-2000<=M/\(M-(fi:Int)).toNat=min L D.toNat-fi:=by
 subst hM;split<;>lia
theorem Ln {D:Int} (hi:i<min L D.toNat-fi) (hl:L<=5) (hm:D.toNat+1<=n+1):fi+i<L/\(D-(1+((fi+i:Nat):Int))).toNat+1<=n/\fi+i<=5/\1+((fi+i:Nat):Int)<=D:=by lia
theorem yn:∀n:Nat,FnOk P w K mg base CX0 (n+2) T.f16 T.d16 ["row","weight","first"] (spRby n K)
 |0=>⟨λvs H Q E h=>(by obtain⟨_,_,_,_,_,_,_,_,h,_⟩:=h;lia),λA outer s H args us vs Q E _ _ _ _ h=>(by obtain⟨_,_,_,_,_,_,_,_,h,_⟩:=h;lia)⟩
 |n+1=>by
  have ih:=yn n;refine T.X16.F.ok kQ (λvs H Q E h=> ?_) (λMy A outer s H vs Q E hr h=> ?_)
  .obtain⟨_,_,_,_,rfl,_⟩:=h;rfl
  .obtain⟨v,t,wt,fi,rfl,hv,tn,tl,hm,n8,b1,b2,b3,b4,f5,kk⟩:=h;refine⟨_,(aj (pSA (i:=3) kQ.nd (ah aL (pv 1) (pcq (yl T) hr T.X7 (ab (pv 0) ae) (by lia))))
   (aj (aU (aQ cN (pv 3) ag (aE _)) (ai (am (aV (ab (pv 0) ae)))) aT)
   (aj (pSA (i:=4) kQ.nd (aV ae))
   (aj (aN AN rfl (fU (by rfl) T.n_range (ab (pv 2) (ab (aY (rM rfl) (by rfl) T.n_min boot_min (ab (aY kE (by rfl) T.n_len CW (ab (pv 0) ae)) (ab (pv 3) ae))) ae))) (pGA (i:=5) kQ.nd) (ai (aX (cq Af CF CD iV (pv 4) (ab (dQ ih hr (by rfl) T.X16.m T.X16.F.kp T.X16.B .nil dG (ab (pcq (jX T) hr T.X12 (ab (pv 0) (ab (pv 5) (ab ag ae))) (by lia)) (ab (pv 1) (ab (pv 5) ae)))) ae)))))
   (ai (am (pv 4))))))), ?_⟩
   refine⟨_,rfl,_,rfl,v,t,rfl,hv,tl,λH1 s1=>⟨_,_,rfl,rfl, ?_⟩⟩;unfold rbF at kk;refine⟨_,rfl,rfl,_,rfl,cP (λe=> ?_) (λe=> ?_)⟩
   .rw [A6 (show wt-wtF t=0 by lia)] at kk;refine⟨_,rfl,(zB rfl),λl H2 nl s2 hl=> ?_⟩;exact kk l H2 (s1.trans s2) (s1.free nl) (aD hl (au (hv.mono (s1.trans s2)) ax))
   .have e:¬wt-wtF t=0:=by lia
    rw[A5 e] at kk;refine⟨AO _,λfo H2 Nu s2 Nh=> ?_⟩;have OD:=s1.trans s2;have nfoH:H fo=none:=s1.free Nu;refine⟨_,rfl,_,rfl,_,_,rfl, .inr (hv.mono OD),_,rfl,_,_,rfl, ?_⟩;generalize hM:(if wt-wtF t<(((t.map D.i).length:Nat):Int) then wt-wtF t else(((t.map D.i).length:Nat):Int))=M;rw[A1] at hM;have eM:=Lm (fi:=fi) hM tl (by lia);refine⟨_,_,rfl,⟨by lia,by lia,by lia,by lia⟩, ?_⟩;rw[eM.2.2];have len5:∀i,i<=5->((List.range i).flatMap λj=>rbF n (wmF t (fi+j) 1) wt (fi+j)).length<=i*5^n:=by
     intro i;induction i with
     |zero=>intro _;exact AO _
     |succ i ih2=>
      intro hi;rw[Az,BI,AE,Cf,Bl,List.flatMap_nil,BK];have:=ih2 (by lia);have:=p8 (n:=n) (wt:=wt) (row:=wmF t (fi+i) 1) (first:=fi+i) (by rw[eD];exact tl);lia
    have p5:5^n<=5^7:=Bs (by decide) (by lia);refine dC (lo:=(fi:Int)) (n:=min t.length (wt-wtF t).toNat-fi) (λi σ H3=>(∃v5,σ=[some v,some (.int wt),some (.int fi),some (.int (wt-wtF t)),some (.ref fo),v5])/\af H H3/\∃zs,H3 fo=some (.lst zs)/\Iss H3 (((List.range i).flatMap λj=>rbF n (wmF t (fi+j) 1) wt (fi+j)).map tI) zs) ⟨⟨none,rfl⟩,OD,[],Nh,ax⟩ ?_ ?_
    .rintro i σ H3 hi ⟨⟨v5,rfl⟩,s3,zs,Mo,hz⟩;obtain⟨hp,q1,q2,q3⟩:=Ln hi tl hm;have ew:wtF (wmF t (fi+i) 1)=wtF t+(1+((fi+i:Nat):Int)):=by rw[<-Int.mul_one (1+((fi+i:Nat):Int))];exact lK hp
     have ed:wt-(wtF t+(1+((fi+i:Nat):Int)))=wt-wtF t-(1+((fi+i:Nat):Int)):=by rw[Int.sub_sub]
     rw[show(fi:Int)+(i:Int)=((fi+i:Nat):Int) by lia];refine⟨_,rfl, .inl ⟨rfl,_,SqL.of Mo⟩,_,rfl,_,rfl,v,t,fi+i,1,rfl,hv.mono s3,hp,tl,λu H4 s4 hu=> ?_⟩;refine⟨_,rfl,_,rfl,u,wmF t (fi+i) 1,wt,fi+i,rfl,hu,lL hp tn (by have:=tn (fi+i);lia),by rw[eD];exact tl,by rw[ew,ed];exact q1,by lia,b1,b2,by rw[ew];clear ew ed;lia,by rw[ew];clear ew ed;lia,q2,λrl H5 s5 N1 Oo=> ?_⟩;obtain⟨_,M7,e,Ob,Nt⟩:=aA Oo;cases e;have Pm:=s4.trans s5;have MD:=Pm _ _ Mo;have l1:=len5 (i+1) (by lia);have nx:((List.range (i+1)).flatMap λj=>rbF n (wmF t (fi+j) 1) wt (fi+j))=((List.range i).flatMap λj=>rbF n (wmF t (fi+j) 1) wt (fi+j))++rbF n (wmF t (fi+i) 1) wt (fi+i):=by
      rw[Az,BI,Bl,List.flatMap_nil,BK]
     rw[nx] at l1⊢;rw[AE] at l1;have l5:(i+1)*5^n<=5*5^7:=D0 (by lia) p5;have d5:5*5^7=390625:=by decide
     have zl:=hz.length;have rl':=Nt.length;rw[A1] at zl rl';generalize ((List.range i).flatMap λj=>rbF n (wmF t (fi+j) 1) wt (fi+j))=R at hz l1 zl;generalize rbF n (wmF t (fi+i) 1) wt (fi+i)=R2 at Nt l1 rl';refine⟨fo,rl,zs,M7,rfl,rfl,MD,Ob,AZ (mn (by clear ew ed q1 q3 hp hi eM hm b1 b2 b3 b4;lia)),⟨_,rfl⟩,(s3.trans Pm).put nfoH,_,ak, ?_⟩;have tu:aB H5 (upd H5 fo (.lst (zs++M7))):=aB.upd MD;rw[A7];exact(iM tu (hz.mono Pm)).append (iM tu Nt)
    .rintro σ H3 ⟨⟨v5,rfl⟩,s3,zs,Mo,hz⟩;exact⟨_,rfl,kk fo H3 s3 nfoH (aD Mo hz)⟩
theorem Lo {a:Rl Int} (h:Le a b):∀{i:Nat}{x y:Int},b[i]? =some x->a[i]? =some y->cx (b.take (i+1)) (a.take (i+1))=cx (b.take i) (a.take i)*chF x y.toNat:=by
 induction a generalizing b with
 |nil=>intro i x y _ hy;simp at hy
 |cons z a ih=>
  cases b with
  |nil=>exact h.elim
  |cons u b=>
   intro i x y hx hy;cases i with
   |zero=>
    have e1:u=x:=by simpa using hx
    have e2:z=y:=by simpa using hy
    subst e1 e2;simp[cx]
   |succ i=>
    rw[BP,BP,BP,BP];show chF u z.toNat*cx (b.take (i+1)) (a.take (i+1))=chF u z.toNat*cx (b.take i) (a.take i)*_;rw[ih h.2.2 (by simpa using hx) (by simpa using hy),Int.mul_assoc]
theorem yo {a:Rl Int} (h:Le a b):∀{i:Nat}{x y:Int},b[i]? =some x->a[i]? =some y->0<=y/\y<=x:=by
 induction a generalizing b with
 |nil=>intro i x y _ hy;simp at hy
 |cons z a ih=>
  cases b with
  |nil=>exact h.elim
  |cons u b=>
   intro i x y hx hy;cases i with
   |zero=>
    have e1:u=x:=by simpa using hx
    have e2:z=y:=by simpa using hy
    subst e1 e2;exact⟨h.1,h.2.1⟩
   |succ i=>exact ih h.2.2 (by simpa using hx) (by simpa using hy)
theorem yp {x:Int} (h:Nn b) (hx:b[i]? =some x):x<=b.sum:=by
 induction b generalizing i with
 |nil=>simp at hx
 |cons y b ih=>
  obtain⟨p,q⟩:=Nn.cons.mp h;have s0:=(dw (i:=1) (by decide) q).1;rw[Aq];cases i with
  |zero=>
   have e1:y=x:=by simpa using hx
   lia
  |succ i=>
   have:=ih q (by simpa using hx);lia
theorem yq:OKQ T.X17 P w base 2 spChs:=by
 refine FbO T.X17 jp λ_ _ _ _ H vs Q E hr h=> ?_;obtain⟨v1,v2,b,a,rfl,NO,Oq,le,bs,kk⟩:=h;refine⟨_,(aj (pSA (i:=2) jp.nd ag)
  (aj (aN AN rfl (HI (by rfl) T.n_zip (ab (pv 0) (ab (pv 1) ae))) (bZ rfl (aO (pGA (i:=3) jp.nd) (aO (pGA (i:=4) jp.nd) bS))) (ai (fS (i:=2) jp.nd rfl (by trivial) (pcq (qN T) hr T.X5 (ab (pv 3) (ab (pv 4) ae))) m4)))
  (ai (am (pv 2))))), ?_⟩
 obtain⟨ba,rfl,hb⟩:=bL NO;obtain⟨aa,rfl,ha⟩:=bL Oq;have ll:=le.len;refine⟨_,rfl,_,rfl,ba,aa,rfl,⟨_,SqT.of hb⟩,⟨_,SqT.of ha⟩,HJ (xs:=b.map V.int) (ys:=a.map V.int) (by rw[A1,A1,ll]) (λi σ H2=>(∃v3 v4,σ=[some (.ref ba),some (.ref aa),some (.int (cx (b.take i) (a.take i))),v3,v4])/\af H H2) ⟨⟨none,none,rfl⟩,af.refl _⟩ (λi σ H2 _ h=>⟨SqT.of (h.2 _ _ hb),SqT.of (h.2 _ _ ha)⟩) ?_ ?_⟩
 .rintro i x y σ H2 p hx hy ⟨⟨v3,v4,rfl⟩,s2⟩ np;rw[AC] at hx hy;obtain⟨x,hx1,rfl⟩:=A8.mp hx;obtain⟨y,hy1,rfl⟩:=A8.mp hy;have hx:=hx1;have hy:=hy1;obtain⟨y0,yx⟩:=yo le hx hy;have x5:=yp (Le.nn le).2 hx;have s3:af H2 (upd H2 p (.tup [.int x, .int y])):=af.new np;refine⟨p,_,rfl,SqT.of ak,rfl,_,_,rfl,_,_,rfl,rfl, ?_⟩;obtain⟨c0,c1⟩:=wH y0 yx (by lia);have c2:(2:Int)^x.toNat<=2^5:=by
   have:x.toNat=0\/x.toNat=1\/x.toNat=2\/x.toNat=3\/x.toNat=4\/x.toNat=5:=by lia
   rcases this with e|e|e|e|e|e<;>rw[e]<;>decide
  have d5:(2:Int)^5=32:=by decide
  refine⟨_,rfl,_,rfl,_,rfl,x,y.toNat, ?_,by lia,by lia, ?_⟩
  .show [V.int x,V.int y]=[V.int x,V.int ((y.toNat:Nat):Int)];rw[show((y.toNat:Nat):Int)=y by lia]
  refine⟨_,_,rfl,rfl, .inr ⟨by lia,by lia⟩,⟨some (.int x),some (.int y), ?_⟩,s2.trans s3⟩;rw[Lo le hx hy];rfl
 .rintro σ H2 ⟨⟨v3,v4,rfl⟩,s2⟩;rw[A1,AS,<-ll,AS];exact⟨_,rfl,kk H2 s2⟩
theorem yr:∀{a b:Rl Int},Le a b->∀{k:Int}{i:Nat}{x y:Int},a[i]? =some x->b[i]? =some y->wgG k (a.take (i+1)) (b.take (i+1))=wgG k (a.take i) (b.take i)++List.replicate (y-x).toNat (k+i)
 |[],_,_,k,i,x,y,hx,_=>by simp at hx
 |z::a,[],h,_,_,_,_,_,_=>h.elim
 |z::a,u::b,h,k,i,x,y,hx,hy=>by
  cases i with
  |zero=>
   have e1:z=x:=by simpa using hx
   have e2:u=y:=by simpa using hy
   subst e1 e2;simp[wgG]
  |succ i=>
   rw[BP,BP,BP,BP];show _++wgG (k+1) (a.take (i+1)) (b.take (i+1))=_++wgG (k+1) (a.take i) (b.take i)++_;rw[yr h.2.2 (by simpa using hx) (by simpa using hy),BG,show k+1+(i:Int)=k+((i+1:Nat):Int) by lia]
theorem qO:∀{a b:Rl Int} (i:Nat),Le a b->Le (a.take i) (b.take i)
 |[],[],i,_=>by rw[List.take_nil];exact trivial
 |x::a,y::b,0,_=>trivial
 |x::a,y::b,i+1,h=>⟨h.1,h.2.1,qO i h.2.2⟩
theorem Lp:OKQ T.X18 P w base 1 spWgn:=by
 refine FbO T.X18 kR λ_ _ _ _ H vs Q E hr h=> ?_;obtain⟨v1,v2,f,fr,rfl,NO,Oq,le,fl5,fs5,kk⟩:=h;refine⟨_,(aj (pSA (i:=2) kR.nd (aV ae))
  (aj (aN AN rfl (nU (by rfl) T.n_enumerate (pv 0)) (bZ rfl (aO (pGA (i:=3) kR.nd) (aO (pGA (i:=4) kR.nd) bS))) (ai (aX (cq Af CF CD iV (pv 2) (ab (ah jc (aV (ab (ah aK (pv 3) ag) ae)) (ah aL (ao aM (pv 1) (pv 3) (λ_ _=>rfl)) (pv 4))) ae)))))
  (ai (am (pv 2))))), ?_⟩
 obtain⟨fa,rfl,hf⟩:=bL NO;have ll:=le.len;refine⟨AO _,λfo H1 Nu s1 Nh=> ?_⟩;refine⟨_,rfl,fa,rfl,⟨_,SqT.of (s1 _ _ hf)⟩,vy (xs:=f.map V.int) (λi σ H2=>(∃v3 v4,σ=[some (.ref fa),some v2,some (.ref fo),v3,v4])/\af H H2/\H2 fo=some (.lst ((wgG 1 (f.take i) (fr.take i)).map V.int))) ⟨⟨none,none,rfl⟩,s1,Nh⟩ (λi σ H2 _ h=>SqT.of (h.2.1 _ _ hf)) ?_ ?_⟩
 .rintro i y σ H2 p hi ⟨⟨v3,v4,rfl⟩,s2,MV⟩ np;rw[AC] at hi;obtain⟨x,hx,rfl⟩:=A8.mp hi;have il:i<f.length:=(AF.mp hx).1;have s3:af H2 (upd H2 p (.tup [.int i, .int x])):=af.new np;have hy:fr[i]? =some (fr.getD i 0):=by
   rw[A',A3 (by lia)];rfl
  obtain⟨x0,xy⟩:=yo le hy hx;have y5:=yp (Le.nn le).2 hy;have lb:(wgG 1 (f.take i) (fr.take i)).length<=1000:=by
   have l1:=qJ (k:=1) (qO i le);have l2:=(dw (i:=1) (by decide) (Le.nn (qO i le)).1).1;have l3:(fr.take i).sum<=fr.sum:=by
    have e:(fr.take i).sum+(fr.drop i).sum=fr.sum:=by rw[<-CN,Bp]
    have nd:Nn (fr.drop i):=λj=>by
     rw[A',List.getElem?_drop];have:=(Le.nn le).2 (i+j);rwa [A'] at this
    have:=(dw (i:=1) (by decide) nd).1;lia
   lia
  refine⟨p,_,rfl,SqT.of ak,rfl,_,_,rfl,_,_,rfl,rfl, ?_⟩;have Mo:=s3 _ _ MV;have MI:=s2.trans s3;generalize upd H2 p (.tup [.int i, .int x])=H3 at s3 Mo MI;refine⟨_,rfl, .inl ⟨rfl,_,SqL.of Mo⟩,_,rfl,_,_,rfl,rfl,(zB rfl),λl1 H4 n1 s4 h1=> ?_⟩;refine⟨_,rfl,_,rfl,fr.map .i,(i:Int),_,(Oq.mono MI).mono s4,rfl,Ll (by lia),λu hu=> ?_⟩;rw[az hu];refine⟨_,rfl,_,_,rfl,rfl, .i ((i:Int)+1),_,aD h1 (au bz ax),rfl,by lia,by lia,AZ (aF (by lia)),λl2 H5 n2 s5 h2=> ?_⟩;rw[<-Cq] at h2;obtain⟨_,e,Mq⟩:=iL h2;cases e;have MD:=s5 _ _ (s4 _ _ Mo);refine⟨fo,l2,_,_,rfl,rfl,MD,Mq,AZ (mn (by rw[A1,A1,Am];lia)),⟨_,_,rfl⟩,((MI.trans s4).trans s5).put Nu, ?_⟩;rw[ak,yr le hx hy,A7,Int.add_comm 1 (i:Int)]
 .rintro σ H2 ⟨⟨v3,v4,rfl⟩,s2,MV⟩;rw[A1,AS,ll,AS] at MV;exact⟨_,rfl,kk fo H2 s2 Nu (gK MV)⟩
theorem Lq:OKQ T.X19 P w base 2 (spOne gD):=by
 refine FbO T.X19 jq λ_ _ _ _ H vs Q E hr h=> ?_;obtain⟨v1,v2,q,L,rfl,NO,Oq,aq,d2,kk⟩:=h;refine⟨_,(aj (pSA (i:=4) jq.nd (aV ae))
  (aj (aN AN rfl (nU (by rfl) T.n_enumerate (pv 3)) (bZ rfl (aO (pGA (i:=5) jq.nd) (aO (pGA (i:=6) jq.nd) bS))) (ai (aU (aQ eV (pv 6) ag (aE _)) (aj (pSA (i:=7) jq.nd (bC (ab (pv 0) (ab (pv 1) (ab (pcq (jX T) hr T.X12 (ab (pv 2) (ab (pv 5) (ab ag ae)))) (ab (pcq (jX T) hr T.X12 (ab (pv 3) (ab (pv 5) (ab (fV fW ag) ae)))) ae))))))
  (ai (aX (cq Af BE BD dF (pv 4) (ab (bC (ab ag (ab (aV (ab (ah aK (pv 5) ag) ae)) (ab (pv 7) ae)))) ae))))) aT)))
  (ai (am (pv 4))))), ?_⟩
 obtain⟨fa,rfl,hf⟩:=bL Oq;have hl:=aq.hl;have fl:=aq.fl;have L5:=aq.L5;refine⟨AO _,λfo H1 Nu s1 Nh=> ?_⟩;refine⟨_,rfl,fa,rfl,⟨_,SqT.of (s1 _ _ hf)⟩,vy (xs:=q.f.map V.int) (λi σ H2=>(∃v5 v6 v7,σ=[some (.int q.d),some (.int q.k),some v1,some (.ref fa),some (.ref fo),v5,v6,v7])/\af H H2/\Acc H H2 fo (((List.range i).flatMap (du q)).map smD)/\((List.range i).flatMap (du q)).length<=i) ⟨⟨none,none,none,rfl⟩,s1,Acc.start Nh,AB _⟩ (λi σ H2 _ h=>SqT.of (h.2.1 _ _ hf)) ?_ ?_⟩
 .rintro i y σ H2 p hi ⟨⟨v5,v6,v7,rfl⟩,s2,⟨zs,MV,hz⟩,pl⟩ np;rw[AC] at hi;obtain⟨x,hx,rfl⟩:=A8.mp hi;have il:i<q.f.length:=(AF.mp hx).1;have ex:q.f.getD i 0=x:=by rw[A',hx];rfl
  have s3:af H2 (upd H2 p (.tup [.int i, .int x])):=af.new np;have nx:(List.range (i+1)).flatMap (du q)=(List.range i).flatMap (du q)++du q i:=by
   rw[Az,BI,Bl,List.flatMap_nil,BK]
  rw[nx];have zl:=hz.length;rw[A1] at zl;generalize (List.range i).flatMap (du q)=R at hz pl zl;refine⟨p,_,rfl,SqT.of ak,rfl,_,_,rfl,_,_,rfl,rfl, ?_⟩;generalize upd H2 p (.tup [.int i, .int x])=H3 at s3;have MI:=s2.trans s3;refine⟨_,rfl,_,_,rfl,rfl,_,rfl,bH (λhg=> ?_) (λhg=> ?_)⟩
  .have hg:x>0:=hg;unfold du;rw[ex,A6 hg];refine⟨_,rfl,_,rfl,_,rfl,_,rfl,v1,q.h,i,1,rfl,NO.mono MI,by lia,by lia,λu1 H4 s4 MH=> ?_⟩;refine⟨_,rfl,_,rfl,1,rfl, .ref fa,q.f,i,-1,rfl,(Oq.mono MI).mono s4,il,by lia,λu2 H5 s5 MY=>⟨(zB rfl),λt6 H6 n6 s6 h6=> ?_⟩⟩;have hq6:Is H6 (qD ⟨q.d,q.k,wmF q.h i 1,wmF q.f i (-1)⟩) (.ref t6):=bA h6 (au bz (au bz (au ((MH.mono s5).mono s6) (au (MY.mono s6) ax))));have s26:=((s3.trans s4).trans s5).trans s6;refine⟨_,rfl, .inl ⟨rfl,_,SqL.of (s26 _ _ MV)⟩,_,rfl,_,_,rfl,rfl,(zB rfl),λl7 H7 n7 s7 h7=>⟨_,rfl,(zB rfl),λt8 H8 n8 s8 h8=> ?_⟩⟩;have Qi:=(s26.trans s7).trans s8;refine⟨fo,zs,_,rfl,rfl,Qi _ _ MV,aF (by lia),⟨_,_,_,rfl⟩,(s2.trans Qi).put Nu, ?_,by rw[AE];show _+1<=_;lia⟩;rw[A7];refine Acc.add s2 Qi MV hz ?_;refine bA (lB Qi h8) (au bz (au (xV (s26.free n7) (gK (t:=[(i:Int)+1]) (s8 _ _ h7))) (au (xW (jH Qi) ((hq6.mono s7).mono s8)) ax)))
  .have hg:¬x>0:=hg;unfold du;rw[ex,A5 hg,BK];exact⟨⟨_,_,_,rfl⟩,MI,Acc.mono s3 ⟨zs,MV,hz⟩,by lia⟩
 .rintro σ H2 ⟨⟨v5,v6,v7,rfl⟩,s2,Mf,_⟩;rw[A1] at Mf;exact⟨_,rfl,kk fo H2 s2 Nu (Mf.is Nu)⟩
theorem yt (h:n<=12600000):n<sizeLine:=by rw[Av];lia
theorem qP {q:Ask4} (hl:q.f.length<=5):∀(F:Rl (Rl Int)),(F.flatMap (dM q)).length<=F.length*390625
 |[]=>AO _
 |x::F=>by
  rw[Bl,AE,Ad,Cf];have h1:=qP hl F;have h2:=p8 (n:=8) (wt:=q.d-1-wtF x) (row:=q.f) (first:=0) hl;have:(dM q x).length<=390625:=by unfold dM;rw[A1];exact h2
  lia
theorem Lr:OKQ T.X20 P w base 11 (spOne iy):=by
 refine FbO T.X20 jr λ_ _ _ _ H vs Q E hr h=> ?_;obtain⟨v1,v2,q,L,rfl,NO,Oq,aq,d2,kk⟩:=h;refine⟨_,(aj (pSA (i:=4) jr.nd (aV ae))
  (aj (aN AN rfl (bm (pcq (Lk T) hr T.X15 (ab (pv 2) ae))) (pGA (i:=5) jr.nd) (ai (aN AN rfl (bm (pcq (yn T 8) hr T.X16 (ab (pv 3) (ab (ah aL (ah aL (pv 0) ag) (pcq (yl T) hr T.X7 (ab (pv 5) ae))) (ab ag ae))))) (pGA (i:=6) jr.nd) (aj (pSA (i:=7) jr.nd (bC (ab (ah aL (pv 0) ag) (ab (ah aK (ah aL (ah aL (ah aK (pv 1) (aY (vA rfl) (by rfl) T.n_sum Di (ab (pv 6) ae))) (aY (vA rfl) (by rfl) T.n_sum Di (ab (pv 3) ae))) (pv 0)) ag) (ab (pv 5) (ab (pv 6) ae))))))
  (ai (aX (cq Af BE BD dF (pv 4) (ab (bC (ab (ah bq (pcq (yq T) hr T.X17 (ab (pv 2) (ab (pv 5) ae))) (pcq (yq T) hr T.X17 (ab (pv 6) (ab (pv 3) ae)))) (ab (pcq (Lp T) hr T.X18 (ab (pv 3) (ab (pv 6) ae))) (ab (pv 7) ae)))) ae))))))))
  (ai (am (pv 4))))), ?_⟩
 obtain⟨fa,rfl,hf⟩:=bL Oq;have hl:=aq.hl;have fl:=aq.fl;have L5:=aq.L5;have sm:=aq.sums;have dL:=aq.dL;have wq:=aq.wt;have wh:=de (i:=1) (by decide) aq.hn;have wf:=de (i:=1) (by decide) aq.fn;refine⟨AO _,λfo H1 Nu s1 Nh=> ?_⟩;refine⟨_,rfl,v1,q.h,rfl,NO.mono s1,aq.hn,by lia,by lia,λkl H2 s2 nkl hkl=> ?_⟩;have OD:=s1.trans s2;obtain⟨_,Mc,e,hkl2,hki⟩:=aA hkl;cases e;have klen:Mc.length=(rwF q.h).length:=by rw[hki.length,A1]
 have k32:(rwF q.h).length<=32:=by have:=p7 aq.hn (by lia) q.h.length;rwa [AS] at this
 have kfo:kl≠fo:=by rintro rfl;rw[Nh] at nkl;cases nkl
 unfold iy at kk;refine⟨kl,rfl,⟨_,SqL.of hkl2⟩,bO (xs:=Mc) (λi σ H3=>(∃v5 v6 v7,σ=[some (.int q.d),some (.int q.k),some v1,some (.ref fa),some (.ref fo),v5,v6,v7])/\af H H3/\H3 kl=some (.lst Mc)/\aB H2 H3/\Acc H H3 fo ((((rwF q.h).take i).flatMap (dM q)).map smD)) ⟨⟨none,none,none,rfl⟩,OD,hkl2,aB.of_same (af.refl _),(Acc.start Nh).mono s2⟩ (λi σ H3 _ h=>SqL.of h.2.2.1) ?_ ?_⟩
 .rintro i y σ H3 hi ⟨⟨v5,v6,v7,rfl⟩,s3,QV,t3,⟨zs,Mo,hz⟩⟩;obtain⟨kp,hkp,hy⟩:=bD hki hi;have il:i<(rwF q.h).length:=(AF.mp hkp).1;have Px:=AU hkp;have lk:=p6 aq.hn Px;have wk0:=de (i:=1) (by decide) (Le.nn lk).1;have wk1:=lk.wt (i:=1) (by decide);have nx:((rwF q.h).take (i+1)).flatMap (dM q)=((rwF q.h).take i).flatMap (dM q)++dM q kp:=by
   rw[AW,hkp,BI];simp
  have bnd:=qP (q:=q) (by lia) ((rwF q.h).take (i+1));rw[nx] at bnd⊢;rw[AE,Ag] at bnd;have zl:=hz.length;rw[A1] at zl;generalize ((rwF q.h).take i).flatMap (dM q)=R at hz bnd zl;have OR:Is H3 (tI kp) y:=fN t3 hy;refine⟨_,rfl,_,rfl,_,_,rfl,rfl,_,rfl,y,kp,rfl,OR,by have:=lk.len;lia,λH4 s4=>⟨_,_,rfl,rfl, ?_⟩⟩;have s04:=s3.trans s4;unfold dM at bnd⊢;rw[A1] at bnd;have few:∀fr∈rbF 8 q.f (q.d-1-wtF kp) 0,AskOk L ⟨q.d-1,q.k+fr.sum-q.f.sum-q.d+1,kp,fr⟩/\6*(q.d-1)+fr.sum+1<=muF q/\Le kp q.h/\Le q.f fr/\fr.sum<=5:=λfr hfr=>aq.few d2 Px hfr;refine⟨.ref fa,q.f,q.d-1-wtF kp,0,rfl,Oq.mono s04,aq.fn,by lia,by unfold wtF at*;lia,by decide,by unfold wtF at*;lia,by unfold wtF at*;lia,by unfold wtF at*;lia,by unfold wtF at*;lia,by decide,λrl H5 s5 N1 Oo=> ?_⟩;obtain⟨_,M7,e,Ob,Nt⟩:=aA Oo;cases e;have M5:M7.length=(rbF 8 q.f (q.d-1-wtF kp) 0).length:=by rw[Nt.length,A1]
  have Pm:=s4.trans s5;have MD:=Pm _ _ Mo;have rfo:rl≠fo:=by rintro rfl;rw[s4 _ _ Mo] at N1;cases N1
  have rkl:kl≠rl:=by rintro rfl;rw[s4 _ _ QV] at N1;cases N1
  generalize rbF 8 q.f (q.d-1-wtF kp) 0=O at Nt few M5 bnd;refine⟨rl,rfl,⟨_,SqL.of Ob⟩,bO (xs:=M7) (λj σ H6=>(∃v6 v7,σ=[some (.int q.d),some (.int q.k),some v1,some (.ref fa),some (.ref fo),some y,v6,v7])/\af H H6/\H6 kl=some (.lst Mc)/\H6 rl=some (.lst M7)/\aB H5 H6/\Acc H H6 fo ((R++(O.take j).map (ix q kp)).map smD)) ⟨⟨_,_,rfl⟩,s3.trans Pm,Pm _ _ QV,Ob,aB.of_same (af.refl _),by simpa using Acc.mono Pm ⟨zs,Mo,hz⟩⟩ (λj σ H6 _ h=>SqL.of h.2.2.2.1) ?_ ?_⟩
  .rintro j b σ H6 hj ⟨⟨v6,v7,rfl⟩,s6,QW,O1,t6,⟨ws,O0,hw⟩⟩;obtain⟨fr,hfr,hb⟩:=bD Nt hj;have jl:j<O.length:=(AF.mp hfr).1;obtain⟨f1,f2,f3,f4,f5⟩:=few fr (AU hfr);have hb6:Is H6 (tI fr) b:=fN t6 hb;have hy6:Is H6 (tI kp) y:=fN t6 (OR.mono Pm);have wl:=hw.length;rw[A1,AE,A1,Ag] at wl;have nx2:(O.take (j+1)).map (ix q kp)=(O.take j).map (ix q kp)++[ix q kp fr]:=by
    rw[AW,hfr,A7];rfl
   rw[nx2,<-BG];obtain⟨ba,rfl,hba⟩:=bL hb6;refine⟨_,rfl,_,_,rfl,rfl,_,rfl,_,rfl,ba,fr,rfl,SqT.of hba,_,_,rfl,rfl,_,rfl,fa,q.f,rfl,SqT.of (s6 _ _ hf),_,_,rfl,rfl,_,rfl,_,_,rfl,rfl,_,_,rfl,rfl,_,rfl,_,rfl,(zB rfl),λt7 H7 n7 s7 h7=> ?_⟩;have hq7:Is H7 (qD ⟨q.d-1,q.k+fr.sum-q.f.sum-q.d+1,kp,fr⟩) (.ref t7):=bA h7 (au bz (au bz (au (hy6.mono s7) (au (hb6.mono s7) ax))));have QX:=s6.trans s7;refine⟨_,rfl, .inl ⟨rfl,_,SqL.of (s7 _ _ O0)⟩,_,rfl,_,rfl,v1,y,q.h,kp,rfl,NO.mono QX,hy6.mono s7,f3,by lia,λH8 s8=> ?_⟩;refine⟨_,rfl,_,rfl, .ref ba, .ref fa,fr,q.f,rfl,(hb6.mono s7).mono s8,(Oq.mono QX).mono s8,f4,f5,λH9 s9=> ?_⟩;have c1:=lM f3 (by lia);have c2:=lM f4 f5;refine⟨_,_,rfl,rfl, .inl ⟨by lia,by lia⟩,_,rfl,_,rfl, .ref fa, .ref ba,q.f,fr,rfl,((Oq.mono QX).mono s8).mono s9,((hb6.mono s7).mono s8).mono s9,f4,by have:=f4.len;lia,f5,λl10 H10 Oc n10 h10=> ?_⟩;refine⟨_,rfl,(zB rfl),λt11 H11 n11 QT h11=> ?_⟩;have s610:=((s7.trans s8).trans s9).trans Oc;have NJ:=s610.trans QT;have n10':H6 l10=none:=((s7.trans s8).trans s9).free n10;refine⟨fo,ws,_,rfl,rfl,NJ _ _ O0,yt (by lia),⟨_,_,rfl⟩,(s6.trans NJ).put Nu,by rw[aw kfo];exact NJ _ _ QW,by rw[aw rfo];exact NJ _ _ O1,(t6.trans (aB.of_same NJ)).trans (aB.upd (NJ _ _ O0)), ?_⟩;rw[A7];refine Acc.add s6 NJ O0 hw ?_;refine bA (lB NJ h11) (au bz (au (xV n10' (h10.mono QT)) (au (xW (jH NJ) ((((hq7.mono s8).mono s9).mono Oc).mono QT)) ax)))
  .rintro σ H6 ⟨⟨v6,v7,rfl⟩,s6,QW,O1,t6,Mf⟩;rw[M5,AS] at Mf;exact⟨⟨_,_,_,rfl⟩,s6,QW,(t3.trans (aB.of_same Pm)).trans t6,Mf⟩
 .rintro σ H3 ⟨⟨v5,v6,v7,rfl⟩,s3,QV,t3,Mf⟩;rw[klen,AS] at Mf;exact⟨_,rfl,kk fo H3 s3 Nu (Mf.is Nu)⟩
theorem Ls (a:AskOk L q):(gD q).length<=5/\(iy q).length<=12500000:=by
 have h5:=a.L5;have fl:=a.fl;have k32:(rwF q.h).length<=32:=by have:=p7 a.hn a.sums.2.1 q.h.length;rwa [AS] at this
 refine⟨?_,BH (qP (by lia) _) (by lia)⟩;unfold gD;refine BH (jS (m:=1) λp _=> ?_) (by rw[Bk];lia);unfold du;split<;>simp
theorem yu:OKQ T.X21 P w base 12 spSms:=by
 refine FbO T.X21 jt λ_ _ _ _ H vs Q E hr h=> ?_;obtain⟨v,q,L,rfl,hv,aq,d2,kk⟩:=h;refine⟨_,(aj (pSA (i:=1) jt.nd (ao aM (pv 0) ag (λ_ _=>rfl)))
  (aj (pSA (i:=2) jt.nd (ao aM (pv 0) ag (λ_ _=>rfl)))
  (aj (pSA (i:=3) jt.nd (ao aM (pv 0) ag (λ_ _=>rfl)))
  (aj (pSA (i:=4) jt.nd (ao aM (pv 0) ag (λ_ _=>rfl)))
  (ai (am (ah gP (pcq (Lq T) hr T.X19 (ab (pv 1) (ab (pv 2) (ab (pv 3) (ab (pv 4) ae))))) (pcq (Lr T) hr T.X20 (ab (pv 1) (ab (pv 2) (ab (pv 3) (ab (pv 4) ae)))))))))))), ?_⟩
 refine⟨_,rfl,_,0,_,hv,rfl,rfl,λu1 k1=> ?_⟩;rw[az k1];refine⟨_,rfl,_,1,_,hv,rfl,rfl,λu2 k2=> ?_⟩;rw[az k2];refine⟨_,rfl,_,2,_,hv,rfl,rfl,λu3 k3=> ?_⟩;refine⟨_,rfl,_,3,_,hv,rfl,rfl,λu4 k4=> ?_⟩;refine⟨_,rfl,_,rfl,_,rfl,_,rfl,u3,u4,q,L,rfl,k3,k4,aq,d2,λl1 H1 s1 n1 h1=> ?_⟩;refine⟨_,rfl,_,rfl,_,rfl,_,rfl,u3,u4,q,L,rfl,k3.mono s1,k4.mono s1,aq,d2,λl2 H2 s2 n2 h2=> ?_⟩;obtain⟨_,xs,e,g1,i1⟩:=aA h1;cases e;obtain⟨_,zs,e,g2,i2⟩:=aA h2;cases e;have M6:H2 l1=some (.lst xs):=s2 _ _ (bN _ _ g1);have Mq:H2 l2=some (.lst zs):=bN _ _ g2;have sl:=Ls aq;have xl:=i1.length;have zl:=i2.length;rw[A1] at xl zl;refine⟨l1,l2,xs,zs,rfl,rfl,M6,Mq,AZ (yt (by lia)),λp np=> ?_⟩;have s3:af H2 (upd H2 p (.lst (xs++zs))):=af.new np;have hp:upd H2 p (.lst (xs++zs)) p=some (.lst (xs++zs)):=ak;generalize upd H2 p (.lst (xs++zs))=H3 at s3 hp;have npH:H p=none:=(s1.trans s2).free np;refine kk p H3 ((s1.trans s2).trans s3) npH (aD (by rw[cJ npH];exact hp) ?_);unfold ci;rw[A7];exact(i1.mono (fF (s2.trans s3))).append ((i2.mono (pJ s1)).mono (fF s3))
theorem yw:∀n:Nat,FnOk P w K mg base CX0 (n+13) T.f22 T.d22 ["asked","known"] (spCnt P w n)
 |0=>⟨λvs H Q E h=>(by obtain⟨_,_,_,_,_,_,_,a,h,_⟩:=h;have:=a.mu;lia),λA outer s H args us vs Q E _ _ _ _ h=>(by obtain⟨_,_,_,_,_,_,_,a,h,_⟩:=h;have:=a.mu;lia)⟩
 |n+1=>by
  have ih:=yw n;refine T.X22.F.ok ig (λvs H Q E h=> ?_) (λMy A outer s H vs Q E hr h=> ?_)
  .obtain⟨_,_,_,_,_,rfl,_⟩:=h;rfl
  .obtain⟨v,kn,q,L,R,rfl,hv,aq,hn,hD,hK,kk⟩:=h;refine⟨_,(aj (aU (aQ fX (ao aM (pv 0) ag (λ_ _=>rfl)) ag (aE _)) (ai (am ag)) aT)
   (aj (aU (aQ cN (ao aM (pv 0) ag (λ_ _=>rfl)) ag (aE _)) (ai (am (rj (aQ cN (ao aM (pv 0) ag (λ_ _=>rfl)) ag (aE _)) ag ag))) aT)
   (aj (aU (j0 (vj (cu hr) (pv 0) (pv 1)) rfl) (aj (pSA (i:=2) ig.nd ag)
   (aj (aN AN rfl (bm (pcq (yu T) hr T.X21 (ab (pv 0) ae) (by lia))) (bZ rfl (aO (pGA (i:=3) ig.nd) (aO (pGA (i:=4) ig.nd) (aO (pGA (i:=5) ig.nd) bS)))) (ai (fS (i:=2) ig.nd rfl (by trivial) (ah bq (ah bq (pv 3) (pcq (Lj T) hr T.X13 (ab (pv 4) ae) (by lia))) (dQ ih hr (by rfl) T.X22.m T.X22.F.kp T.X22.B .nil dG (ab (pv 5) (ab (pv 1) ae)))) fT)))
   (ai (vk (cu hr) (pv 1) (pv 0) (pv 2) rfl)))) aT)
   (ai (am (vi (cu hr) (pv 1) (pv 0) (λ_ _=>rfl))))))), ?_⟩
   refine⟨_,rfl,_,1,_,hv,rfl,rfl,λu1 k1=> ?_⟩;rw[az k1];refine⟨_,_,rfl,rfl,_,rfl,bH (λhz=> ?_) (λhz=> ?_)⟩
   .have hz:q.k<0:=hz;rw[Ja hz] at kk;exact kk R H (But.of_same (af.refl _)) hD hK
   have hz:¬q.k<0:=hz;refine⟨_,rfl,_,0,_,hv,rfl,rfl,λu2 k2=> ?_⟩;rw[az k2];refine⟨rfl,_,rfl,cP (λh1=> ?_) (λh1=> ?_)⟩
   .rw [Jb hz h1] at kk;refine⟨_,rfl,_,1,_,hv,rfl,rfl,λu3 k3=> ?_⟩;rw[az k3];refine⟨rfl,_,rfl,cP (λh2=> ?_) (λh2=> ?_)⟩
    .rw [A6 h2] at kk;exact kk R H (But.of_same (af.refl _)) hD hK
    .rw [A5 h2] at kk;exact kk R H (But.of_same (af.refl _)) hD hK
   have d2:2<=q.d:=by have:=aq.d1;lia
   have hk:=iK hv;refine⟨_,rfl,_,rfl,kn,tK R,kq q,rfl,hD,hk,_,rfl, ?_⟩;rw[gF];by_cases NH:kq q∈R.map (·.1)
   .rw [A6 NH];exact bh ⟨_,rfl,_,rfl,kn,tK R,kq q, .int (cF q),rfl,hD,hk,by rw[gF,A6 NH,hK.get NH],kk R H (But.of_same (af.refl _)) hD hK⟩
   .rw [A5 NH];refine cB ?_;refine⟨_,rfl,v,q,L,rfl,hv,aq,d2,λl0 H2 s2 Op Ni=> ?_⟩;have hS:∀x∈ci q,AskOk L x.2.2/\muF x.2.2+1<=muF q/\(0<=x.1/\x.1<=1024)/\(∀w∈x.2.1,1<=w/\w<=5)/\x.2.1.length<=5:=λx hx=>⟨(aq.less d2 hx).1,(aq.less d2 hx).2,K2 aq d2 hx⟩;have hW:=Jc aq hz h1;generalize ci q=S at hS hW Ni;obtain⟨_,Mr,e,Oe,Of⟩:=aA Ni;cases e;have Mq:H2 l0=some (.lst Mr):=bN _ _ Oe;have MP:Iss H2 (S.map smD) Mr:=Of.mono bN;have ME:Mr.length=S.length:=by rw[MP.length,A1]
    have Og:=hD.mono s2;have Oh:l0≠kn:=by
     obtain⟨_,_,xs,_,e⟩:=hD;rintro rfl;rw[e] at Op;cases Op
    refine⟨l0,rfl,⟨_,SqL.of Mq⟩,bO (xs:=Mr) (λi σ H3=>(∃v3 v4 v5,σ=[some v,some (.ref kn),some (.int (((S.take i).map λx=>x.1*cy x.2.1*cF x.2.2).sum)),v3,v4,v5])/\But kn H2 H3/\∃R',DM P w H3 kn (tK R')/\KnQ L R') ⟨⟨none,none,none,rfl⟩,But.of_same (af.refl _),R,Og,hK⟩ (λi σ H3 _ h=>SqL.of (h.2.1 _ _ Mq Oh)) ?_ ?_⟩
    .rintro i y σ H3 hi ⟨⟨v3,v4,v5,rfl⟩,Mp,R3,MR,Nj⟩;obtain⟨x,Mm,hy⟩:=bD MP hi;obtain⟨x1,x2,x3,x4,x5⟩:=hS x (AU Mm);have QY:Is H3 (smD x) y:=hy.lts (dh Og Mp);obtain⟨t,tvs,rfl,ht,MW⟩:=bB QY;obtain⟨u1,us,rfl,MH,MW⟩:=aI MW;obtain⟨u2,us,rfl,MY,MW⟩:=aI MW;obtain⟨u3,us,rfl,QQ,MW⟩:=aI MW;rw[bn MW,az MH] at ht;obtain⟨p0,p1⟩:=xZ x4;have p2:(5:Int)^x.2.1.length<=3125:=by
      have:x.2.1.length=0\/x.2.1.length=1\/x.2.1.length=2\/x.2.1.length=3\/x.2.1.length=4\/x.2.1.length=5:=by lia
      rcases this with e|e|e|e|e|e<;>rw[e]<;>decide
     have m0:=Bm x3.1 p0;have m1:=Ca x3.2 (Int.le_trans p1 p2) p0 (by decide);refine⟨t,_,rfl,SqT.of ht,rfl,_,_,rfl,_,_,rfl,_,_,rfl,rfl, ?_⟩;refine⟨_,rfl,_,rfl,_,rfl,u2,x.2.1,rfl,MY,x4,_,_,rfl,rfl, .inl ⟨by lia,by lia⟩,_,rfl,_,rfl,u3,kn,x.2.2,L,R3,rfl,QQ,x1,by lia,MR,Nj,λR4 H4 MK Nv hK4=> ?_⟩;refine⟨_,_,rfl,rfl, .inl ⟨by lia,by lia⟩,_,_,rfl,rfl,⟨some (.int x.1),some u2,some u3, ?_⟩,Mp.trans MK,R4,Nv,hK4⟩;rw[AW,Mm,A7,CN];simp
    .rintro σ H3 ⟨⟨v3,v4,v5,rfl⟩,Mp,R3,MR,Nj⟩;rw[ME,AS,<-hW];have Nk:But kn H H3:=(But.of_same s2).trans Mp;have hv3:Is H3 (qD q) v:=(hv.mono s2).lts (dh Og Mp);have Nz:=Nj.len aq.L5;refine⟨_,rfl,_,rfl,_,rfl,kn,tK R3,kq q,rfl,MR,iK hv3,by rw[w4,Av];lia,λH4 Nv k4=> ?_⟩;rw[qm Nj.1] at Nv;have MK:But kn H3 H4:=λc o e n=>by rw[k4 c n];exact e
     have hv4:=hv3.lts (dh MR MK);obtain⟨g1,g2⟩:=qI (k:=kq q) (v:=cF q) (R:=R3);exact⟨_,rfl,_,rfl,kn,_,kq q, .int (cF q),rfl,Nv,iK hv4,by rw[gF,A6 g2,g1],kk _ H4 (Nk.trans MK) Nv (Nj.put aq (by lia))⟩
theorem yy {a:Rl Int}(h:Nn a) (hl:a.length<=n):(bi n a).length=n/\Nn (bi n a)/\wtF (bi n a)=wtF a:=by
 have nr:∀(m:Nat) {t:Rl Int},Nn t->Nn (t++List.replicate m 0):=λm=>by
  induction m with
  |zero=>intro t h;simpa using h
  |succ m ih=>intro t h;rw[List.replicate_succ',<-BG];exact IZ (ih h) (by decide)
 refine⟨?_,nr _ h,Jd⟩;unfold bi;rw[AE,Am];lia
theorem qQ {a:Rl Int} (hw:Wide d k) (ra:dg a) (rb:dg b) (e:wtF a+wtF b=d) (la:a.length<=d) (lb:b.length<=d):AskOk d ⟨d,k,bi d a,bi d b⟩:=by
 obtain⟨a1,a2,a3⟩:=yy ra.1 la;obtain⟨b1,b2,b3⟩:=yy rb.1 lb;unfold Wide at hw;exact⟨a1,b1,a2,b2,by rw[a3,b3];exact e,by show(1:Int)<=(d:Int);lia,C5 _,by lia,by show(k:Int)<=6;lia⟩
theorem yz:OKQ T.X23 P w base 4 spAsk:=by
 refine FbO T.X23 HW λ_ _ _ _ H vs Q E hr h=> ?_;obtain⟨d,k,v1,v2,a,b,rfl,hw,h1,h2,ra,rb,e,la,lb,kk⟩:=h;refine⟨_,(aj (aX (pcq (mr T) hr T.X3 (ab (pv 0) (ab (pv 1) ae))))
  (aj (aX (pcq (Li T) hr T.X8 (ab (pv 0) (ab (pv 2) (ab (pv 3) ae)))))
  (ai (am (bC (ab (pv 0) (ab (pv 1) (ab (pcq (ym T) hr T.X14 (ab (pv 2) (ab (pv 0) ae))) (ab (pcq (ym T) hr T.X14 (ab (pv 3) (ab (pv 0) ae))) ae))))))))), ?_⟩
 have d5:d<=5:=by unfold Wide at hw;lia
 refine⟨_,rfl,_,rfl,d,k,rfl,hw, ?_⟩;refine⟨_,rfl,_,rfl,_,rfl,d,v1,v2,a,b,rfl,h1,h2,ra,rb,e,λH1 s1=> ?_⟩;refine⟨_,rfl,_,rfl,_,rfl,_,rfl,v1,a,d,rfl,h1.mono s1,la,d5,λu1 H2 s2 MH=> ?_⟩;refine⟨_,rfl,_,rfl,v2,b,d,rfl,(h2.mono s1).mono s2,lb,d5,λu2 H3 s3 MY=> ?_⟩;refine⟨(zB rfl),λt H4 nt s4 ht=>kk _ H4 (((s1.trans s2).trans s3).trans s4) ?_⟩;exact bA ht (au bz (au bz (au ((MH.mono s3).mono s4) (au (MY.mono s4) ax))))
theorem Lu:OKQ T.X24 P w base 54 spByE:=by
 refine FbO T.X24 HX λ_ _ _ _ H vs Q E hr h=> ?_;obtain⟨d,k,v1,v2,a,b,rfl,hw,h1,h2,ra,rb,e,la,lb,kk⟩:=h;refine⟨_,(ai (am (pcq (yw T 40) hr T.X22 (ab (pcq (yz T) hr T.X23 (ab (pv 0) (ab (pv 1) (ab (pv 2) (ab (pv 3) ae))))) (ab vq ae))))), ?_⟩;have aq:=qQ hw ra rb e la lb;refine⟨_,rfl,_,rfl,_,rfl,_,rfl,d,k,v1,v2,a,b,rfl,hw,h1,h2,ra,rb,e,la,lb,λu H1 s1 hu=> ?_⟩;intro kn H2 O7 hD k2;have s2:af H1 H2:=λb o e=>by rw[k2 b (by rintro rfl;rw[O7] at e;cases e)];exact e
 have QZ:H kn=none:=s1.free O7;refine⟨u,kn,_,d,[],rfl,hu.mono s2,aq,by have:=aq.mu;lia,hD,⟨by simp,λx hx=>nomatch hx⟩,λR' H3 Mp MR Nj=>kk H3 ?_⟩;exact But.same (s1.trans s2) QZ Mp
theorem yA:FnOk P w K mg base (CX0) 4 T.f48 T.d48 ["d"] (spEdQ upE):=by
 refine FbO T.X48 Il λ_ _ _ _ H vs Q E hr h=> ?_;obtain⟨d,rfl,i1,i2,kk⟩:=h;refine⟨_,(aj (aX (pcq (jW T) hr T.X4 (ab (pv 0) ae)))
  (ai (am (dn (XN:=["d"]) (sc:=al k8) (N:=["x","d"]) (own:=1) (js:=[0]) rfl (by ac_nf) rfl rfl (eU (by rfl) T.n_range (ab (ah aK (pv 0) ag) ae)) (λ_ _ _ _=>(bV (i:=0) (show List.Nodup (["x","d"]:Rl Str) by ac_nf) rfl (Or.inl rfl) (.inr rfl))) (dm (by decide)) (λ_ _ _ _=>cV) (λ_ _ _ _=>(bC (ab (pv 0) (ab (ah aL (pv 1) (pv 0)) ae)))))))), ?_⟩
 refine⟨_,rfl,(d:Int),rfl,by lia,by lia, ?_⟩;refine⟨_,rfl,_,_,rfl,rfl,_,rfl,by lia,by lia,λacc na=> ?_⟩;have en:((d:Int)+1).toNat=d+1:=by lia
 rw[en];refine i8 (lo:=0) (n:=d+1) (own:=1) (js:=[0]) (λi H2=>af H H2/\cc H2 acc (((List.range i).map λi:Nat=>((i:Int),(d:Int)-(i:Int))).map pt)) ⟨af.new na,cc.start⟩ ?_ ?_ dq cW ?_
 .rintro i H2 hi ⟨s2,vs,Mf,MU⟩;refine dW ?_;refine⟨_,rfl,_,rfl,_,rfl,_,_,rfl,rfl,(zB rfl),λt H3 nt s3 ht3=> ?_⟩;refine⟨acc,vs,_,rfl,rfl,s3 _ _ Mf,aF (by rw[MU.length];simp;lia),(s2.trans s3).put na, ?_⟩;rw[Az,A7,A7,D1] at*
  exact jb (MU.mono (dH s3)) (gj (p:=((i:Int),(d:Int)-i)) (by rw[dX (bj Mf nt).symm];exact ht3))
 .rintro H2 ⟨s2,g⟩;exact kk acc H2 s2 na g.is
 .rintro σ H R R' k ⟨v1,e1,v2,e2,v3,e3,i2,j2,e4,e5,e6,h⟩;exact⟨v1,e1,v2,e2,v3,e3,i2,j2,e4,e5,e6,λp H2 np s2 hp=>k _ _ (h p H2 np s2 hp)⟩
theorem yB:FnOk P w K mg base (CX0) 4 T.f49 T.d49 ["d"] (spEdQ loE):=by
 refine FbO T.X49 vG λ_ _ _ _ H vs Q E hr h=> ?_;obtain⟨d,rfl,i1,i2,kk⟩:=h;refine⟨_,(aj (aX (pcq (jW T) hr T.X4 (ab (pv 0) ae)))
  (aj (mU (i:=1) vG.nd rfl (by trivial) (.inl rfl) (XN:=["d","down"]) (sc:=al jx) (N:=["step","d"]) (own:=1) (js:=[0]) rfl (by ac_nf) rfl rfl (eU (by rfl) T.n_range (ab (ah aK (pv 0) ag) ae)) (λ_ _ _ _=>(bV (i:=0) (show List.Nodup (["step","d"]:Rl Str) by ac_nf) rfl (Or.inl rfl) (.inr rfl))) (dm (by decide)) (λ_ _ _ _=>cV) (λ_ _ _ _=>(bC (ab ag (ab (ah aL (pv 1) (pv 0)) ae)))))
  (ai (am (ah dI (pv 1) (dn (XN:=["d","down"]) (sc:=al jx) (N:=["x"]) (own:=1) (js:=[]) rfl (by ac_nf) rfl rfl (fU (by rfl) T.n_range (ab ag (ab (ah aK (pv 0) ag) ae))) (λ_ _ _ _=>(bV (i:=0) (show List.Nodup (["x"]:Rl Str) by ac_nf) rfl (Or.inl rfl) (.inr rfl))) (dm (by decide)) (λ_ _ _ _=>cV) (λ_ _ _ _=>(bC (ab (pv 0) (ab ag ae)))))))))), ?_⟩
 refine⟨_,rfl,(d:Int),rfl,by lia,by lia, ?_⟩;refine⟨_,rfl,_,_,rfl,rfl,_,rfl,by lia,by lia,λacc na=> ?_⟩;have en:((d:Int)+1).toNat=d+1:=by lia
 rw[en];refine i8 (lo:=0) (n:=d+1) (own:=1) (js:=[0]) (λi H2=>af H H2/\cc H2 acc (((List.range i).map λi:Nat=>((0:Int),(d:Int)-(i:Int))).map pt)) ⟨af.new na,cc.start⟩ ?_ ?_ dq cW ?_
 .rintro i H2 hi ⟨s2,vs,Mf,MU⟩;refine dW ?_;refine⟨_,rfl,_,rfl,_,_,rfl,rfl,(zB rfl),λt H3 nt s3 ht3=> ?_⟩;refine⟨acc,vs,_,rfl,rfl,s3 _ _ Mf,aF (by rw[MU.length];simp;lia),(s2.trans s3).put na, ?_⟩;rw[Az,A7,A7,D1] at*
  exact jb (MU.mono (dH s3)) (gj (p:=((0:Int),(d:Int)-i)) (by rw[dX (bj Mf nt).symm];exact ht3))
 .rintro H2 ⟨s2,g2⟩;refine⟨_,rfl,_,rfl,_,_,rfl,rfl,1,_,rfl,⟨by lia,by lia,by lia,by lia⟩,λacc2 na2=> ?_⟩;have en2:((d:Int)+1-1).toNat=d:=by lia
  rw[en2];refine i8 (lo:=1) (n:=d) (own:=1) (js:=[]) (λi H3=>af H2 H3/\cc H3 acc2 (((List.range i).map λi:Nat=>((1:Int)+(i:Int),(0:Int))).map pt)) ⟨af.new na2,cc.start⟩ ?_ ?_ dq cW ?_
  .rintro i H3 hi ⟨s3,vs,Mf,MU⟩;refine dW ?_;refine⟨_,rfl,(zB rfl),λt H4 nt s4 ht4=> ?_⟩;refine⟨acc2,vs,_,rfl,rfl,s4 _ _ Mf,aF (by rw[MU.length];simp;lia),(s3.trans s4).put na2, ?_⟩;rw[Az,A7,A7] at*
   exact jb (MU.mono (dH s4)) (gj (p:=((1:Int)+(i:Int),(0:Int))) (by rw[dX (bj Mf nt).symm];exact ht4))
  .rintro H3 ⟨s3,g3⟩;refine⟨_,_,(g2.mono s3).is,g3.is,AZ (aF (by simp;lia)),λp H4 np s4 hp4=> ?_⟩;rw[<-A7] at hp4;exact kk p H4 ((s2.trans s3).trans s4) ((s2.trans s3).free np) hp4
  .rintro σ H R R' k ⟨v1,e1,e6,h⟩;exact⟨v1,e1,e6,λp H2 np s2 hp=>k _ _ (h p H2 np s2 hp)⟩
 .rintro σ H R R' k ⟨v1,e1,v2,e2,i2,j2,e4,e5,e6,h⟩;exact⟨v1,e1,v2,e2,i2,j2,e4,e5,e6,λp H2 np s2 hp=>k _ _ (h p H2 np s2 hp)⟩
theorem Lv:FnOk P w K mg base (CX0) 4 T.f45 T.d45 ["d"] (spEdQ bv):=by
 refine FbO T.X45 k7 λ_ _ _ _ H vs Q E hr h=> ?_;obtain⟨d,rfl,i1,i2,kk⟩:=h;refine⟨_,(aj (aX (pcq (jW T) hr T.X4 (ab (pv 0) ae)))
  (aj (pSA (i:=1) k7.nd (aV ae))
  (aj (aN AN rfl (eU (by rfl) T.n_range (ab (ah aK (pv 0) ag) ae)) (pGA (i:=2) k7.nd) (ai (aN AN rfl (Fh (by rfl) T.n_range (ab (ah aL (pv 0) (pv 2)) (ab (fV fW ag) (ab (fV fW ag) ae)))) (pGA (i:=3) k7.nd) (ai (aX (cq Af BE BD dF (pv 1) (ab (bC (ab (pv 2) (ab (pv 3) ae))) ae)))))))
  (ai (am (pv 1)))))), ?_⟩
 refine⟨_,rfl,(d:Int),rfl,by lia,by lia, ?_⟩;refine⟨(zB rfl),λl H1 nl s1 M6=> ?_⟩;have en:((d:Int)+1).toNat=d+1:=by lia
 refine⟨_,rfl,_,_,rfl,rfl,_,rfl,by lia,by lia, ?_⟩;rw[en];refine dC (n:=d+1) (λi σ H2=>(∃v2 v3,σ=[some (.int d),some (.ref l),v2,v3])/\af H H2/\cc H2 l ((fh d i).map pt)) ⟨⟨none,none,rfl⟩,s1,[],M6,ax⟩ ?_ ?_
 .rintro i σ H2 hi ⟨⟨v2,v3,rfl⟩,s2,g2⟩;refine⟨_,rfl,_,rfl,_,_,rfl,rfl,1,rfl,1,rfl,_,_,rfl,⟨by lia,by lia,by decide,by decide⟩, ?_⟩;have en2:((d:Int)-(0+(i:Int))- -1).toNat=d+1-i:=by lia
  rw[en2];refine Fi (n:=d+1-i) (λj σ H3=>(∃v3,σ=[some (.int d),some (.ref l),some (.int (0+i)),v3])/\af H H3/\cc H3 l ((fh d i++fg d i j).map pt)) ⟨⟨v3,rfl⟩,s2,by simpa[fg] using g2⟩ ?_ ?_
  .rintro j σ H3 hj ⟨⟨v3,rfl⟩,s3,vs,Nz,MU⟩;refine⟨_,rfl, .inl ⟨rfl,_,SqL.of Nz⟩,_,rfl,_,rfl,(zB rfl),λt H4 nt s4 ht4=> ?_⟩;have hln:=Jk d i (by lia) (by lia);refine⟨l,vs,_,rfl,rfl,s4 _ _ Nz,aF (by rw[MU.length,A1,AE,wN];lia),⟨_,rfl⟩,(s3.trans s4).put nl, ?_⟩;rw[Jj,<-BG,A7];refine jb (MU.mono (dH s4)) (gj (p:=((i:Int),(d:Int)-(i:Int)-(j:Int))) ?_);rw[dX (bj Nz nt).symm,ht4,D1]
  .rintro σ H3 ⟨⟨v3,rfl⟩,s3,g3⟩;rw[<-wM] at g3;exact⟨⟨_,_,rfl⟩,s3,g3⟩
 .rintro σ H2 ⟨⟨v2,v3,rfl⟩,s2,g2⟩;exact⟨_,rfl,kk l H2 s2 nl g2.is⟩
theorem yC:OKQ T.X47 P w base 1 spCrn:=by
 refine FbO T.X47 Ik λ_ _ _ _ H vs Q E hr h=> ?_;obtain⟨a,b,c,p,q,r,rfl,ha,hb,hc,i1,i2,i3,kk⟩:=h;refine⟨_,(ai (am (ah aL (ah bq (ah aL (ao aM (pv 1) ag (λ_ _=>rfl)) (ao aM (pv 0) ag (λ_ _=>rfl))) (ah aL (ao aM (pv 2) ag (λ_ _=>rfl)) (ao aM (pv 1) ag (λ_ _=>rfl)))) (ah bq (ah aL (ao aM (pv 1) ag (λ_ _=>rfl)) (ao aM (pv 0) ag (λ_ _=>rfl))) (ah aL (ao aM (pv 2) ag (λ_ _=>rfl)) (ao aM (pv 1) ag (λ_ _=>rfl))))))), ?_⟩;unfold inB at i1 i2 i3;simp only[AA,AV] at i1 i2 i3;refine⟨_,rfl,_,0,_,hb,rfl,rfl,λu hu=> ?_⟩;rw[az hu];refine⟨_,rfl,_,0,_,ha,rfl,rfl,λu hu=> ?_⟩;rw[az hu];refine⟨_,_,rfl,rfl,_,rfl,_,1,_,hc,rfl,rfl,λu hu=> ?_⟩;rw[az hu];refine⟨_,rfl,_,1,_,hb,rfl,rfl,λu hu=> ?_⟩;rw[az hu];refine⟨_,_,rfl,rfl,_,_,rfl,rfl, .inr ⟨by lia,by lia⟩,_,rfl,_,1,_,hb,rfl,rfl,λu hu=> ?_⟩;rw[az hu];refine⟨_,rfl,_,1,_,ha,rfl,rfl,λu hu=> ?_⟩;rw[az hu];refine⟨_,_,rfl,rfl,_,rfl,_,0,_,hc,rfl,rfl,λu hu=> ?_⟩;rw[az hu];refine⟨_,rfl,_,0,_,hb,rfl,rfl,λu hu=> ?_⟩;rw[az hu];exact⟨_,_,rfl,rfl,_,_,rfl,rfl, .inr ⟨by lia,by lia⟩,_,_,rfl,rfl,kk⟩
theorem Lw:OKQ T.X46 P w base 1 spIsP:=by
 refine FbO T.X46 Ij λ_ _ _ _ H vs Q E hr h=> ?_;obtain⟨d,v,p,rfl,hv,kk⟩:=h;refine⟨_,(ai (am (j7 (fY iT (ao aM (pv 1) ag (λ_ _=>rfl)) ag (aE _)) (j7 (fY iT (ao aM (pv 1) ag (λ_ _=>rfl)) ag (aE _)) (j6 (fY kg (ah aK (ao aM (pv 1) ag (λ_ _=>rfl)) (ao aM (pv 1) ag (λ_ _=>rfl))) (pv 0) (aE _))))))), ?_⟩;unfold bu at kk;refine⟨_,rfl,_,0,_,hv,rfl,rfl,λu hu=> ?_⟩;rw[az hu];refine⟨_,_,rfl,rfl,_,rfl,bH (λc1=> ?_) (λc1=> ?_)⟩
 .rw [Ar (show p.1>=0 from c1),Bool.true_and] at kk;refine⟨_,rfl,_,1,_,hv,rfl,rfl,λu hu=> ?_⟩;rw[az hu];refine⟨_,_,rfl,rfl,_,rfl,bH (λc2=> ?_) (λc2=> ?_)⟩
  .rw [Ar (show p.2>=0 from c2),Bool.true_and] at kk;refine⟨_,rfl,_,0,_,hv,rfl,rfl,λu hu=> ?_⟩;rw[az hu];refine⟨_,rfl,_,1,_,hv,rfl,rfl,λu hu=> ?_⟩;rw[az hu];exact⟨_,_,rfl,rfl,_,rfl,_,_,rfl,rfl,kk⟩
  .rw [Aj (show¬p.2>=0 from c2),D2] at kk;exact kk
 .rw [Aj (show¬p.1>=0 from c1),D2] at kk;exact kk
theorem Lx:OKQ T.X50 P w base 2 spTurn:=by
 refine FbO T.X50 vH λ_ _ _ _ H vs Q E hr h=> ?_;obtain⟨v,ps,sd,rfl,hv,hB,hs,kk⟩:=h;refine⟨_,(aj (aN AN rfl (fU (by rfl) T.n_range (ab ag (ab (ah aL (aY kE (by rfl) T.n_len CW (ab (pv 0) ae)) ag) ae))) (pGA (i:=2) vH.nd) (ai (aU (aQ eV (ah bq (pcq (yC T) hr T.X47 (ab (ao eX (pv 0) (ah aL (pv 2) ag) (λ_ _=>rfl)) (ab (ao eX (pv 0) (pv 2) (λ_ _=>rfl)) (ab (ao eX (pv 0) (ah aK (pv 2) ag) (λ_ _=>rfl)) ae)))) (pv 1)) ag (aE _)) (ai (am (pv 2))) aT)))
  (ai (am rg))), ?_⟩
 obtain⟨p1,p2⟩:=wQ hB;have hb:∀j,j<ps.length->inB (ps.getD j zP)=true:=λj hj=>by
  unfold psB at hB;simp only[AA,AT] at hB;exact hB.1 _ (dN hj)
 have sb: -1<=sd/\sd<=1:=by unfold Sd at hs;lia
 refine⟨_,rfl,_,_,rfl, .inl hv,_,_,rfl,rfl,1,_,rfl,⟨by decide,by decide,by rw[A1];lia,by rw[A1];lia⟩, ?_⟩;rw[show((((ps.map pt).length:Nat):Int)-1-1).toNat=ps.length-2 by rw[A1];lia];refine dC (lo:=1) (n:=ps.length-2) (λi σ H2=>(∃v2,σ=[some v,some (.int sd),v2])/\H2=H/\∀j,j<i->decide (crn (ps.getD j zP) (ps.getD (j+1) zP) (ps.getD (j+2) zP)*sd>0)=false) ⟨⟨none,rfl⟩,rfl,λj hj=>absurd hj (by lia)⟩ ?_ ?_
 .rintro i σ H2 hi ⟨⟨v2,rfl⟩,rfl,hn⟩;have a0:=fj (ps:=ps) (j:=i) (by lia);have a1:=fj (ps:=ps) (j:=i+1) (by lia);have a2:=fj (ps:=ps) (j:=i+2) (by lia);refine⟨_,rfl,_,rfl,_,_,rfl,rfl,_,_,_,hv,rfl,by rw[show(1+(i:Int))-1=((i:Nat):Int) by lia];exact a0,λu0 h0=> ?_⟩;refine⟨_,rfl,_,rfl,_,_,_,hv,rfl,by rw[show(1+(i:Int))=((i+1:Nat):Int) by lia];exact a1,λu1 h1=> ?_⟩;refine⟨_,rfl,_,rfl,_,_,rfl,rfl,_,_,_,hv,rfl,by rw[show(1+(i:Int))+1=((i+2:Nat):Int) by lia];exact a2,λu2 h2=> ?_⟩;refine⟨u0,u1,u2,_,_,_,rfl,h0,h1,h2,hb _ (by lia),hb _ (by lia),hb _ (by lia),_,rfl,_,_,rfl,rfl, .inr ⟨by lia,by lia⟩,_,_,rfl,rfl,_,rfl,bH (λc=> ?_) (λc=> ?_)⟩
  .refine⟨_,rfl, ?_⟩;have e:bw ps sd=some (i+1):=by
    unfold bw;rw[wR hi hn (Ar c)];rfl
   rw[e] at kk;have:x6 (some (i+1))= .int (1+(i:Int)):=by show V.int (((i+1:Nat):Int))=_;congr 1;lia
   rw[this] at kk;exact kk
  .refine⟨⟨_,rfl⟩,rfl,λj hj=> ?_⟩;by_cases e:j=i
   .rw [e];exact Aj c
   .exact hn j (by lia)
 .rintro σ H2 ⟨⟨v2,rfl⟩,rfl,hn⟩;have e:bw ps sd=none:=by
   unfold bw;rw[Jn hn];rfl
  rw[e] at kk;exact kk
theorem yD:OKQ T.X51 P w base 3 spSteps:=by
 refine FbO T.X51 gs λMy A outer s H vs Q E hr h=> ?_;obtain⟨d,v,ps,sd,rfl,hv,hB,hs,kk⟩:=h;refine⟨_,(aj (pSA (i:=3) gs.nd (pcq (Lx T) hr T.X50 (ab (pv 1) (ab (pv 2) ae))))
  (aj (aU (aQ zQ (pv 3) rg (aE _)) (ai (am (aV ae))) aT)
  (aj (pSA (i:=4) gs.nd (ao eX (pv 1) (ah aL (pv 3) ag) (λ_ _=>rfl)))
  (aj (pSA (i:=5) gs.nd (ao eX (pv 1) (pv 3) (λ_ _=>rfl)))
  (aj (pSA (i:=6) gs.nd (ao eX (pv 1) (ah aK (pv 3) ag) (λ_ _=>rfl)))
  (aj (pSA (i:=7) gs.nd (aV (ab (bC (ab (bC (ab (pv 4) (ab (pv 5) (ab (pv 6) ae)))) (ab (ah dI (dD eW (pv 1) dS (di (pv 3))) (dD eW (pv 1) (di (ah aK (pv 3) ag)) dS)) ae))) ae)))
  (aj (pSA (i:=8) gs.nd (bC (ab (ah aL (ah aK (ao aM (pv 4) ag (λ_ _=>rfl)) (ao aM (pv 6) ag (λ_ _=>rfl))) (ao aM (pv 5) ag (λ_ _=>rfl))) (ab (ah aL (ah aK (ao aM (pv 4) ag (λ_ _=>rfl)) (ao aM (pv 6) ag (λ_ _=>rfl))) (ao aM (pv 5) ag (λ_ _=>rfl))) ae))))
  (aj (aU (fR (pcq (Lw T) hr T.X46 (ab (pv 0) (ab (pv 8) ae)))) (ai (aX (cq Af BE BD dF (pv 7) (ab (bC (ab (bC (ab (pv 4) (ab (pv 5) (ab (pv 6) (ab (pv 8) ae))))) (ab (ah dI (ah dI (dD eW (pv 1) dS (di (pv 3))) (aV (ab (pv 8) ae))) (dD eW (pv 1) (di (ah aK (pv 3) ag)) dS)) ae))) ae)))) aT)
  (ai (am (pv 7))))))))))), ?_⟩
 obtain⟨p1,p2⟩:=wQ hB;refine⟨_,rfl,_,rfl,v,ps,sd,rfl,hv,hB,hs, ?_⟩;unfold aW at kk;cases hT:bw ps sd with
 |none=>
  rw[hT] at kk;exact⟨_,rfl,rfl,_,rfl,cB ⟨AO _,λl H1 n1 s1 h1=>kk l H1 s1 n1 (aD (by rw[cJ n1];exact h1) ax)⟩⟩
 |some p=>
  rw[hT] at kk;dsimp only at kk;obtain⟨t1,t2⟩:=jI hT;refine⟨_,rfl,rfl,_,rfl,bh ?_⟩;show _;have a0:=fj (ps:=ps) (j:=p-1) (by lia);have a1:=fj (ps:=ps) (j:=p) (by lia);have a2:=fj (ps:=ps) (j:=p+1) (by lia);refine⟨_,rfl,_,rfl,_,_,rfl,rfl,_,_,_,hv,rfl,by rw[show((p:Int)-1)=((p-1:Nat):Int) by lia];exact a0,λua ha=> ?_⟩;refine⟨_,rfl,_,rfl,_,_,_,hv,rfl,a1,λub hb=> ?_⟩;refine⟨_,rfl,_,rfl,_,_,rfl,rfl,_,_,_,hv,rfl,by rw[show((p:Int)+1)=((p+1:Nat):Int) by lia];exact a2,λuc hc=> ?_⟩;generalize ps.getD (p-1) zP=pa at kk ha;generalize ps.getD p zP=pb at kk hb;generalize ps.getD (p+1) zP=pc at kk hc;obtain⟨da,Mt,rfl,Nx,NF⟩:=aA hv;have PB:Mt.length=ps.length:=by rw[NF.length,A1]
  refine⟨_,rfl,_,rfl,_,rfl,(zB rfl),λt1' H1 n1 s1 h1=> ?_⟩;refine⟨_,rfl,_,rfl,(p:Int),rfl,da,_,rfl,SqL.of (s1 _ _ Nx), ?_⟩;rw[qE];intro l2 n2;have s2:af H1 (upd H1 l2 (.lst (Mt.take p))):=af.new n2;have h2:(upd H1 l2 (.lst (Mt.take p))) l2=some (.lst (Mt.take p)):=ak;generalize upd H1 l2 (.lst (Mt.take p))=H2 at s2 h2⊢;refine⟨_,rfl,_,rfl,_,_,rfl,rfl,(p:Int)+1,rfl,da,_,rfl,SqL.of (s2 _ _ (s1 _ _ Nx)), ?_⟩;rw[show((p:Int)+1)=((p+1:Nat):Int) by lia,ml (by lia)];intro l3 n3;have s3:af H2 (upd H2 l3 (.lst (Mt.drop (p+1)))):=af.new n3;have h3:(upd H2 l3 (.lst (Mt.drop (p+1)))) l3=some (.lst (Mt.drop (p+1))):=ak;generalize upd H2 l3 (.lst (Mt.drop (p+1)))=H3 at s3 h3⊢;have MI:af H H3:=(s1.trans s2).trans s3;have i2:Is H3 (pts (ps.take p)) (.ref l2):=aD (s3 _ _ h2) (by rw[List.map_take];exact(NF.take p).mono MI);have i3:Is H3 (pts (ps.drop (p+1))) (.ref l3):=aD h3 (by rw[DC];exact(NF.drop (p+1)).mono MI);refine⟨_,_,i2,i3,AZ (aF (by rw[A1,A1,Ag,Br];lia)),λq4 H4 n4 s4 h4=>⟨(zB rfl),λt5 H5 n5 s5 h5=>⟨(zB rfl),λfo H6 n6 s6 h6=> ?_⟩⟩⟩;rw[<-A7] at h4;have Q0:af H H6:=((MI.trans s4).trans s5).trans s6;have Nu:H fo=none:=((MI.trans s4).trans s5).free n6;have Pl:af H H5:=(MI.trans s4).trans s5;have is1:Is (nw H H5) (fO ([pa,pb,pc],ps.take p++ps.drop (p+1))) (.ref t5):=by
   refine bA (by rw[cJ ((MI.trans s4).free n5)];exact h5) (au ?_ (au (wP Pl (MI.free n4) (Is.mono (s:=s5) h4)) ax));exact wO (jH Pl) (bA (s5 _ _ (s4 _ _ (s3 _ _ (s2 _ _ h1)))) (au (ha.mono Pl) (au (hb.mono Pl) (au (hc.mono Pl) ax))))
  refine⟨_,rfl,_,0,_,ha.mono Q0,rfl,rfl,λu hu=> ?_⟩;rw[az hu];refine⟨_,rfl,_,0,_,hc.mono Q0,rfl,rfl,λu hu=> ?_⟩;rw[az hu];refine⟨_,_,rfl,rfl,_,rfl,_,0,_,hb.mono Q0,rfl,rfl,λu hu=> ?_⟩;rw[az hu];refine⟨_,_,rfl,rfl,_,rfl,_,1,_,ha.mono Q0,rfl,rfl,λu hu=> ?_⟩;rw[az hu];refine⟨_,rfl,_,1,_,hc.mono Q0,rfl,rfl,λu hu=> ?_⟩;rw[az hu];refine⟨_,_,rfl,rfl,_,rfl,_,1,_,hb.mono Q0,rfl,rfl,λu hu=> ?_⟩;rw[az hu];refine⟨_,_,rfl,rfl,(zB rfl),λt7 H7 n7 s7 h7=> ?_⟩;have hf:Is H7 (pt (aH pa pb pc)) (.ref t7):=gj h7;have QX:=Q0.trans s7;refine⟨_,rfl,_,rfl,d,_,_,rfl,hf,bu d (aH pa pb pc),rfl, ?_⟩;cases hP:bu d (aH pa pb pc) with
  |false=>
   rw[hP] at kk;refine bh ⟨_,rfl,kk fo H7 QX Nu ?_⟩;exact aD (by rw[cJ Nu];exact s7 _ _ h6) (au (is1.mono (fF (s6.trans s7))) ax)
  |true=>
   rw[hP] at kk;refine cB ⟨_,rfl, .inl ⟨rfl,_,SqL.of (s7 _ _ h6)⟩,_,rfl,_,rfl,_,rfl,_,rfl,(zB rfl),λt8 H8 n8 s8 h8=> ?_⟩;have s08:=QX.trans s8;refine⟨_,rfl,_,rfl,(p:Int),rfl,da,_,rfl,SqL.of (s08 _ _ Nx), ?_⟩;rw[qE];intro l9 n9;have s9:af H8 (upd H8 l9 (.lst (Mt.take p))):=af.new n9;have h9:(upd H8 l9 (.lst (Mt.take p))) l9=some (.lst (Mt.take p)):=ak;generalize upd H8 l9 (.lst (Mt.take p))=H9 at s9 h9⊢;have s09:=s08.trans s9;refine⟨_,rfl,(zB rfl),λla Ha na sa hla=> ?_⟩;have s0a:=s09.trans sa;refine⟨_,[pt (aH pa pb pc)],aD (sa _ _ h9) (by rw[List.map_take];exact(NF.take p).mono s0a:Iss Ha ((ps.take p).map pt) (Mt.take p)),aD hla (au (((hf.mono s8).mono s9).mono sa) ax),AZ (aF (by rw[A1,Ag];show _+1<=1000;lia)),λlb Hb nb sb hlb=> ?_⟩;have s0b:=s0a.trans sb;refine⟨_,rfl,_,rfl,_,_,rfl,rfl,(p:Int)+1,rfl,da,_,rfl,SqL.of (s0b _ _ Nx), ?_⟩;rw[show((p:Int)+1)=((p+1:Nat):Int) by lia,ml (by lia)];intro lc nc;have sc:af Hb (upd Hb lc (.lst (Mt.drop (p+1)))):=af.new nc;have hlc:(upd Hb lc (.lst (Mt.drop (p+1)))) lc=some (.lst (Mt.drop (p+1))):=ak;generalize upd Hb lc (.lst (Mt.drop (p+1)))=Hc at sc hlc⊢;have s0c:=s0b.trans sc;refine⟨_,_,hlb.mono sc,aD hlc (by rw[DC];exact(NF.drop (p+1)).mono s0c:Iss Hc ((ps.drop (p+1)).map pt) (Mt.drop (p+1))),AZ (aF (by rw[AE,A1,A1,Ag,Br];show _+1+_<=1000;lia)),λld Hd nd sd' hld=>⟨(zB rfl),λte He ne se he=> ?_⟩⟩;have s0d:=s0c.trans sd';have s0e:=s0d.trans se;have s8e:af H8 He:=((((s9.trans sa).trans sb).trans sc).trans sd').trans se;have s7e:=s8.trans s8e;refine⟨fo,_,_,rfl,rfl,s7e _ _ (s7 _ _ h6),aF (by show 1<=1000;decide), ?_⟩;have hld':Is Hd (pts (ps.take p++[aH pa pb pc]++ps.drop (p+1))) (.ref ld):=by
    have:=hld;show Is Hd (.l ((ps.take p++[aH pa pb pc]++ps.drop (p+1)).map pt)) (.ref ld);rw[A7,A7];exact this
   have is2:Is (nw H7 He) (fO ([pa,pb,pc,aH pa pb pc],ps.take p++[aH pa pb pc]++ps.drop (p+1))) (.ref te):=by
    have s7d:af H7 Hd:=((((s8.trans s9).trans sa).trans sb).trans sc).trans sd';have s7c:af H7 Hc:=(((s8.trans s9).trans sa).trans sb).trans sc;refine bA (by rw[cJ (s7d.free ne)];exact he) (au ?_ (au (wP s7e (s7c.free nd) (hld'.mono se)) ax));exact wO (jH s7e) (bA (s8e _ _ h8) (au (ha.mono s0e) (au (hb.mono s0e) (au (hc.mono s0e) (au (hf.mono s7e) ax)))))
   have acc:=Acc.add (xs:=[fO ([pa,pb,pc],ps.take p++ps.drop (p+1))]) QX s7e (s7 _ _ h6) (au (is1.mono (Jm n6 (s6.trans s7))) ax) is2;exact⟨_,rfl,kk fo _ (s0e.put Nu) Nu (acc.is Nu)⟩
theorem yE:OKQ T.X52 P w base 2 spPw:=by
 refine FbO T.X52 Im λ_ _ _ _ H vs Q E hr h=> ?_;obtain⟨v,c,rfl,hv,hB,hl,kk⟩:=h;refine⟨_,(aj (aU (aQ cN (aY kE (by rfl) T.n_len CW (ab (pv 0) ae)) ag (aE _)) (ai (am (aY mH (by rfl) T.n_abs boot_abs (ab (pcq (yC T) hr T.X47 (ab (ao aM (pv 0) ag (λ_ _=>rfl)) (ab (ao aM (pv 0) ag (λ_ _=>rfl)) (ab (ao aM (pv 0) ag (λ_ _=>rfl)) ae)))) ae)))) aT)
  (ai (am ag))), ?_⟩
 unfold pwF at kk;refine⟨_,rfl,_,_,rfl, .inr hv,rfl,_,rfl,cP (λe=> ?_) (λe=> ?_)⟩
 .rw [A1] at e;have e3:c.length=3:=by lia
  rw[A6 e3] at kk;have a0:=fj (ps:=c) (j:=0) (by lia);have a1:=fj (ps:=c) (j:=1) (by lia);have a2:=fj (ps:=c) (j:=2) (by lia);refine⟨_,rfl,_,0,_,hv,rfl,a0,λu0 h0=>⟨_,rfl,_,1,_,hv,rfl,a1,λu1 h1=>⟨_,rfl,_,2,_,hv,rfl,a2,λu2 h2=> ?_⟩⟩⟩;exact⟨u0,u1,u2,_,_,_,rfl,h0,h1,h2,hB _ (dN (by lia)),hB _ (dN (by lia)),hB _ (dN (by lia)),_,rfl,kk⟩
 .rw [A1] at e;rw[A5 (by lia)] at kk;exact kk
theorem qR:∀n:Nat,FnOk P w K mg base CX0 (n+4) T.f55 T.d55 ["d","way","side","known"] (spWoG P w n)
 |0=>⟨λvs H Q E h=>(by obtain⟨_,_,_,_,_,_,_,_,_,_,SD,_,d4,_,ok,h,_⟩:=h;have:=(SD.lo _ ok).1;lia),λA outer s H args us vs Q E _ _ _ _ h=>(by obtain⟨_,_,_,_,_,_,_,_,_,_,SD,_,d4,_,ok,h,_⟩:=h;have:=(SD.lo _ ok).1;lia)⟩
 |n+1=>by
  have ih:=qR n;refine T.X55.F.ok ik (λvs H Q E h=> ?_) (λMy A outer s H vs Q E hr h=> ?_)
  .obtain⟨_,_,_,_,_,_,_,_,_,rfl,_⟩:=h;rfl
  .obtain⟨d,v,kn,ps,R,sg,e0,Wq,mu,rfl,SD,d1,d4,hv,ok,hn,hD,hK,kk⟩:=h;refine⟨_,(aj (pSA (i:=4) ik.nd (dR fz (by rfl) T.n_tuple De (ab (pv 1) ae)))
   (aj (aU (j0 (vd (cu hr) (pv 4) (pv 3)) rfl) (aj (pSA (i:=5) ik.nd ag)
   (aj (aN AN rfl (bm (pcq (yD T) hr T.X51 (ab (pv 0) (ab (pv 1) (ab (pv 2) ae))) (by lia))) (bZ rfl (aO (pGA (i:=6) ik.nd) (aO (pGA (i:=7) ik.nd) bS))) (ai (fS (i:=5) ik.nd rfl (by trivial) (ah bq (pcq (yE T) hr T.X52 (ab (pv 6) ae) (by lia)) (dQ ih hr (by rfl) T.X55.m T.X55.F.kp T.X55.B .nil dG (ab (pv 0) (ab (pv 7) (ab (pv 2) (ab (pv 3) ae)))))) fT)))
   (ai (vg (cu hr) (pv 3) (pv 4) (pv 5) rfl)))) aT)
   (ai (am (vc (cu hr) (pv 3) (pv 4) (λ_ _=>rfl)))))), ?_⟩
   refine⟨_,rfl,_,_,rfl,hv,λkey H1 nk s1 hk=> ?_⟩;have PM:Is H1 (nK (wk ps)) (.ref key):=iN hk;have N2:=hD.mono s1;have b1:But kn H H1:=But.of_same s1;refine⟨_,rfl,_,rfl,kn,tK R,wk ps,rfl,N2,PM,_,rfl, ?_⟩;rw[gF];by_cases NH:wk ps∈R.map (·.1)
   .rw [A6 NH];refine bh ⟨_,rfl,_,rfl,kn,tK R,wk ps, .int (Wq ps),rfl,N2,PM,by rw[gF,A6 NH,hK.get NH],kk R H1 b1 N2 hK⟩
   .rw [A5 NH];refine cB ?_;refine⟨_,rfl,_,rfl,_,rfl,d,v,ps,sg,rfl,hv.mono s1,xb d4 ok,SD.sd,λl0 H2 s2 Op Ni=> ?_⟩;have hS:∀x∈aW d ps sg,ay d x.2/\mu x.2+1<=mu ps/\(∀p∈x.1,inB p=true)/\(x.1.length=3\/x.1.length=4):=λx hx=>⟨(SD.st ps x ok hx).1,(SD.st ps x ok hx).2,x8 d4 ok hx⟩;have MF:ps≠e0:=λe=>NH (by rw[e];exact hK.2.2);have hW:Wq ps=((aW d ps sg).map λx=>pwF x.1*Wq x.2).sum:=by rw[SD.eq _ ok,A5 MF]
    generalize aW d ps sg=S at hS hW Ni;obtain⟨_,Mr,e,Oe,Of⟩:=aA Ni;cases e;have Mq:H2 l0=some (.lst Mr):=bN _ _ Oe;have MP:Iss H2 (S.map fO) Mr:=Of.mono bN;have ME:Mr.length=S.length:=by rw[MP.length,A1]
    have Og:=N2.mono s2;have Oh:l0≠kn:=by
     obtain⟨_,_,xs,_,e⟩:=N2;rintro rfl;rw[e] at Op;cases Op
    refine⟨l0,rfl,⟨_,SqL.of Mq⟩,bO (xs:=Mr) (λi σ H3=>(∃v6 v7,σ=[some (.int d),some v,some (.int sg),some (.ref kn),some (.ref key),some (.int (((S.take i).map λx=>pwF x.1*Wq x.2).sum)),v6,v7])/\But kn H2 H3/\∃R',DN P w H3 kn (tK R')/\KnG d e0 Wq R') ⟨⟨none,none,rfl⟩,But.of_same (af.refl _),R,Og,hK⟩ (λi σ H3 _ h=>SqL.of (h.2.1 _ _ Mq Oh)) ?_ ?_⟩
    .rintro i y σ H3 hi ⟨⟨v6,v7,rfl⟩,Mp,R3,MR,Nj⟩;obtain⟨x,Mm,hy⟩:=bD MP hi;obtain⟨x1,x2,x3,x4⟩:=hS x (AU Mm);have QY:Is H3 (fO x) y:=hy.lts (bK Og Mp);obtain⟨t,tvs,rfl,ht,MW⟩:=bB QY;obtain⟨u1,us,rfl,MH,MW⟩:=aI MW;obtain⟨u2,us,rfl,MY,MW⟩:=aI MW;rw[bn MW] at ht;refine⟨t,_,rfl,SqT.of ht,rfl,_,_,rfl,_,_,rfl,rfl, ?_⟩;refine⟨_,rfl,_,rfl,u1,x.1,rfl,MH,x3,x4,_,rfl,_,rfl,_,rfl,_,rfl,d,u2,kn,x.2,R3,sg,e0,Wq,mu,rfl,SD,d1,d4,MY,x1,by lia,MR,Nj,λR4 H4 MK Nv hK4=> ?_⟩;refine⟨_,_,rfl,rfl, .inl (K5 x3 x4),_,_,rfl,rfl,⟨some u1,some u2, ?_⟩,Mp.trans MK,R4,Nv,hK4⟩;rw[AW,Mm,A7,CN];simp
    .rintro σ H3 ⟨⟨v6,v7,rfl⟩,Mp,R3,MR,Nj⟩;rw[ME,AS,<-hW];have Nk:But kn H H3:=(But.of_same (s1.trans s2)).trans Mp;have Pf:Is H3 (nK (wk ps)) (.ref key):=(PM.mono s2).lts (bK Og Mp);have Nz:=Nj.len d4;refine⟨_,rfl,_,rfl,_,rfl,kn,tK R3,wk ps,rfl,MR,Pf,by rw[w4,Av];lia,λH4 Nv k4=> ?_⟩;rw[qm Nj.1] at Nv;have MK:But kn H3 H4:=λc o e n=>by rw[k4 c n];exact e
     have hk4:=Pf.lts (bK MR MK);obtain⟨g1,g2⟩:=qI (k:=wk ps) (v:=Wq ps) (R:=R3);exact⟨_,rfl,_,rfl,kn,_,wk ps, .int (Wq ps),rfl,Nv,hk4,by rw[gF,A6 g2,g1],kk _ H4 (Nk.trans MK) Nv (Nj.put ok)⟩
theorem Ly:FnOk P w K mg base (CX0) 5 T.f56 T.d56 ["d"] (spKnG P w upE wW):=by
 refine FbO T.X56 Io λ_ _ _ _ H vs Q E hr h=> ?_;obtain⟨d,rfl,d1,d4,kk⟩:=h;refine⟨_,(ai (am (kM (cu hr) (dR fz (by rfl) T.n_tuple De (ab (pcq (yA T) hr T.X48 (ab (pv 0) ae)) ae)) ag))), ?_⟩;refine λkn H0 O7 Q3 k0=> ?_;refine⟨_,rfl,d,rfl,d1,by lia,λl H1 s1 nl hl=> ?_⟩;obtain⟨m,rfl⟩:∃m,m=d:=⟨d,rfl⟩;refine⟨_,_,rfl,hl,λkey H2 nk s2 hk=>⟨(Q3.mono s1).mono s2,wk (upE m),iN hk,λH3 MR k3=> ?_⟩⟩;have hup:=(jK d4).1;have w1:wW m (upE m)=1:=by rw[wZ d4 hup,A6 rfl]
 refine kk kn [(wk (upE m),1)] H3 (λb o e=> ?_) O7 MR ⟨by simp,λx hx=> ?_,by simp⟩
 .have bk:b≠kn:=by rintro rfl;rw[O7] at e;cases e
  rw[k3 b bk];exact s2 _ _ (s1 _ _ (by rw[k0 b bk];exact e))
 .rw [AR.mp hx];exact⟨upE m,hup,by rw[w1]⟩
theorem Lz:FnOk P w K mg base (CX0) 5 T.f57 T.d57 ["d"] (spKnG P w loE vW):=by
 refine FbO T.X57 Ip λ_ _ _ _ H vs Q E hr h=> ?_;obtain⟨d,rfl,d1,d4,kk⟩:=h;refine⟨_,(ai (am (kM (cu hr) (dR fz (by rfl) T.n_tuple De (ab (pcq (yB T) hr T.X49 (ab (pv 0) ae)) ae)) ag))), ?_⟩;refine λkn H0 O7 Q3 k0=> ?_;refine⟨_,rfl,d,rfl,d1,by lia,λl H1 s1 nl hl=> ?_⟩;obtain⟨m,rfl⟩:∃m,m=d:=⟨d,rfl⟩;refine⟨_,_,rfl,hl,λkey H2 nk s2 hk=>⟨(Q3.mono s1).mono s2,wk (loE m),iN hk,λH3 MR k3=> ?_⟩⟩;have hup:=(jM d4).1;have w1:vW m (loE m)=1:=by rw[xh d4 hup,A6 rfl]
 refine kk kn [(wk (loE m),1)] H3 (λb o e=> ?_) O7 MR ⟨by simp,λx hx=> ?_,by simp⟩
 .have bk:b≠kn:=by rintro rfl;rw[O7] at e;cases e
  rw[k3 b bk];exact s2 _ _ (s1 _ _ (by rw[k0 b bk];exact e))
 .rw [AR.mp hx];exact⟨loE m,hup,by rw[w1]⟩
theorem yF (h:1<=rs.length):bT rs (some 1) none=rs.drop 1:=by
 unfold bT;rw[show(1:Int)=((1:Nat):Int) from rfl,HT.sIx_nat,HT.sIx_none,DK h,C2 (by simp)]
theorem yG:∀n:Nat,OKQ T.X53 P w base n (spLv n K)
 |0=>⟨λvs H Q E h=>by obtain⟨_,_,_,_,_,h,_⟩:=h;lia,λA outer s H args us vs Q E _ _ _ _ h=>by obtain⟨_,_,_,_,_,h,_⟩:=h;lia⟩
 |n+1=>by
  have ih:=yG n;refine T.X53.F.ok vI (λvs H Q E h=> ?_) (λMy A outer s H vs Q E hr h=> ?_)
  .obtain⟨_,_,_,rfl,_⟩:=h;rfl
  .obtain⟨a,rs,k,rfl,hS,hn,hL,kk⟩:=h;refine⟨_,(aj (aU (aQ eV (pv 1) (aY dE (by rfl) T.n_len CW (ab (pv 0) ae)) (aE _)) (ai (am (fu ae))) aT)
   (aj (aU (aQ cN (pv 1) ag (aE _)) (ai (am (fu (ab (dR r6 (by rfl) T.n_list boot_list (ab (pv 0) ae)) ae)))) aT)
   (aj (mU (i:=2) vI.nd rfl (by trivial) (.inl rfl) (XN:=["row","k","with_first"]) (sc:=al lg) (N:=["rest","row"]) (own:=1) (js:=[0]) rfl (by ac_nf) rfl rfl (bm (dQ ih hr (by rfl) T.X53.m T.X53.F.kp T.X53.B .nil dG (ab (dD eW (pv 0) (di ag) dS) (ab (pv 1) ae)))) (λ_ _ _ _=>(bV (i:=0) (show List.Nodup (["rest","row"]:Rl Str) by ac_nf) rfl (Or.inl rfl) (.inr rfl))) (dm (by decide)) (λ_ _ _ _=>cV) (λ_ _ _ _=>(ah gP (fu (ab (ao (EN (K:=K) rfl) (pv 1) ag (λ_ _=>rfl)) ae)) (pv 0))))
   (ai (am (ah gP (pv 2) (dQ ih hr (by rfl) T.X53.m T.X53.F.kp T.X53.B .nil dG (ab (dD eW (pv 0) (di ag) dS) (ab (ah aL (pv 1) ag) ae))))))))), ?_⟩
   refine⟨_,rfl,_,rfl,a,_,rfl, .inl hS,_,_,rfl,rfl,_,rfl,bH (λhk=> ?_) (λhk=> ?_)⟩
   .refine⟨AO _,λl nl=> ?_⟩;exact kk l [] _ (af.new nl) nl ak (by rw[qc rs k (by lia)];exact bX.nil)
   refine⟨_,rfl,rfl,_,rfl,cP (λhz=> ?_) (λhz=> ?_)⟩
   .refine⟨_,rfl,a,_,rfl, .inl hS,λb nb=> ?_⟩;have sb:af H (upd H b (.lst rs)):=af.new nb;refine⟨(zB rfl),λl nl=> ?_⟩;refine kk l [.ref b] _ (sb.put (sb.free nl)) (sb.free nl) ak ?_;have ez:k=0:=by lia
    have e0:lvA rs k=[rs]:=by rw[ez];cases rs<;>rfl
    rw[e0];exact bX.one nb (by rw[aw (bj ak nl)];exact ak)
   obtain⟨x,rs,rfl⟩:∃x rs',rs=x::rs':=by
    cases rs with
    |nil=>simp at hk;lia
    |cons x rs=>exact⟨x,rs,rfl⟩
   obtain⟨k,rfl⟩:∃k',k=k'+1:=⟨k-1,by lia⟩;simp only[Ad] at hn hL;refine⟨_,rfl,1,rfl,a,_,rfl,hS, ?_⟩;rw[yF (by simp)];intro b nb;have sb:af H (upd H b (.lst ((x::rs).drop 1))):=af.new nb;refine⟨_,rfl,b,rs,k+1,rfl,SqL.of ak,by lia,by lia,λl1 us H1 s1 nl1 M6 L1=> ?_⟩;have sA:=sb.trans s1;have nl1H:H l1=none:=sb.free nl1;have L1:=L1.mono sb (af.refl _);clear s1 nl1;refine⟨l1,rfl,⟨_,SqL.of M6⟩,λacc na=> ?_⟩;refine fy (xs:=us) (own:=1) (js:=[0]) (λi H2=>af H1 H2/\∃vs,H2 acc=some (.lst vs)/\bX (upd H acc (.lst [])) H2 (((lvA rs (k+1)).take i).map (x:: ·)) vs) ⟨af.new na,[],ak,by simpa using bX.nil⟩ (λi H2 _ h=>h.1.seq (SqL.of M6)) ?_ ?_ dq cW ?_
   .rintro i v H2 hi ⟨s2,vs,Mf,L2⟩;have hiu:i<us.length:=(AF.mp hi).1;have hiw:i<(lvA rs (k+1)).length:=by rw[<-L1.1];exact hiu
    obtain⟨a1,e1,_,e3⟩:=L1.2 i _ (A3 hiw);rw[hi] at e1;cases e1;have hw:=lN rs (k+1) _ (D' hiw);have hl:=jG rs (k+1);have hp:2^rs.length<=2^20:=Bs (by decide) (by lia);have Mr:vs.length<=i:=by rw[L2.1,A1,Ag];lia
    refine dW ?_;refine⟨_,rfl,a,_,_,x,rfl,rfl,(sA.trans s2).seq hS,iU (j:=0) rfl,(zB rfl),λc nc=> ?_⟩;have sc:af H2 (upd H2 c (.lst [x])):=af.new nc;refine⟨_,rfl,c,a1,_,_,rfl,rfl,ak,sc _ _ (s2 _ _ e3),by rw[Av];simp;lia,λd nd=> ?_⟩;have sd:af (upd H2 c (.lst [x])) (upd (upd H2 c (.lst [x])) d (.lst ([x]++(lvA rs (k+1))[i]))):=af.new nd;have hacc2:=sd _ _ (sc _ _ Mf);have ndH:H d=none:=(sA.trans s2).free (sc.free nd);have had:d≠acc:=(bj (sc _ _ Mf) nd).symm;refine⟨acc,_,_,rfl,rfl,hacc2,by rw[Av];lia,((s2.trans sc).trans sd).put na,_,ak, ?_⟩;rw[AW,A3 hiw,A7];refine bX.append ?_ (bX.one (by rw[aw had];exact ndH) (by rw[aw had,ak];rfl));refine⟨L2.1,λj ws e=> ?_⟩;obtain⟨a3,f1,f2,f3⟩:=L2.2 j ws e;refine⟨a3,f1,f2, ?_⟩;have:a3≠acc:=λz=>by
     rw[z,ak] at f2;cases f2
    rw[aw this];exact sd _ _ (sc _ _ f3)
   .rintro H2 ⟨s2,vs,Mf,L2⟩;rw[L1.1,AS] at L2;have sB:=sA.trans s2;refine⟨_,rfl,_,rfl,1,rfl,a,_,rfl,sB.seq hS, ?_⟩;rw[yF (by simp)];intro b2 nb2;have P9:af H2 (upd H2 b2 (.lst ((x::rs).drop 1))):=af.new nb2;refine⟨_,rfl,_,_,rfl,rfl, ?_⟩;refine⟨b2,rs,k,by show [V.ref b2,V.int (((k+1:Nat):Int)-1)]=_;rw[show(((k+1:Nat):Int))-1=(k:Int) by lia],SqL.of ak,by lia,by lia,λl2 us2 H3 s3 nl2 Mq L3=> ?_⟩;have sC:=P9.trans s3;have hl1':=jG rs (k+1);have hl2':=jG rs k;have hp:2^rs.length<=2^20:=Bs (by decide) (by lia);refine⟨acc,l2,vs,us2,rfl,rfl,sC _ _ Mf,Mq,by rw[Av,L2.1,L3.1,A1];lia,λq nq=> ?_⟩;have sq:af H3 (upd H3 q (.lst (vs++us2))):=af.new nq;refine kk q _ _ ((sB.trans sC).trans sq) ((sB.trans sC).free nq) ak ?_;rw[lvA];exact bX.append (L2.mono (af.new (sA.free na)) (sC.trans sq)) (L3.mono (sB.trans P9) sq)
   .rintro σ H R R' k' ⟨v1,e1,p1,x1,i1,y1,e2,e3,e4,e5,z,hq⟩;refine⟨v1,e1,p1,x1,i1,y1,e2,e3,e4,e5,z,λc nc=> ?_⟩;obtain⟨v2,f1,l,b,xs,zs,f2,f3,f4,f5,f6,hq⟩:=hq c nc;exact⟨v2,f1,l,b,xs,zs,f2,f3,f4,f5,f6,λd nd=>k' _ _ (hq d nd)⟩
theorem LA (h:2<=rs.length):bT rs (some 1) (some (-1))=(rs.drop 1).dropLast:=by
 have e1:HT.sIx rs.length 0 (some 1)=1:=by
  show(if(1:Int)<0 then((1:Int)+(rs.length:Int)).toNat else min (1:Int).toNat rs.length)=1;rw[A5 (by decide)];show min 1 rs.length=1;lia
 have e2:HT.sIx rs.length rs.length (some (-1))=rs.length-1:=by
  show(if(-1:Int)<0 then((-1:Int)+(rs.length:Int)).toNat else min (-1:Int).toNat rs.length)=rs.length-1;rw[A6 (by decide)];lia
 unfold bT;rw[e1,e2,List.dropLast_eq_take,Br]
theorem yH {H:Hp}{acc:Rg}{zs:Rl V} (ha:H acc=some (.lst zs)):∀{ps:Rl Pt}{vs:Rl V},Iss H (ps.map pt) vs->Iss (hid H acc) (ps.map pt) vs
 |[],_,h=>by rw[bn h];exact ax
 |p::ps,_,h=>by
  obtain⟨u,us,rfl,h1,h2⟩:=aI h;obtain⟨a,rfl,hp⟩:=kD h1;exact au (gj (by rw[dX (by rintro rfl;rw[ha] at hp;cases hp)];exact hp)) (yH ha h2)
theorem LB {c:Rg}{zs:Rl V}(ha:H acc=some (.lst zs)) (ne:c≠acc) (h:Is H (pts ps) (.ref c)):Is (hid H acc) (pts ps) (.ref c):=by
 obtain⟨_,ws,e,hc,r⟩:=ja h;cases e;exact aD (by rw[dX ne];exact hc) (yH ha r)
def iO (H:Hp) (Wq:Rl (Rl Pt)) (Z:Rl (Rl V)):Prop:=Wq.length=Z.length/\∀(i:Nat) w,Wq[i]? =some w->∃z,Z[i]? =some z/\Iss H (w.map pt) z
theorem iO.app {Wq W':Rl (Rl Pt)}{Z Z':Rl (Rl V)} (h:iO H Wq Z) (k:iO H W' Z'):iO H (Wq++W') (Z++Z'):=by
 refine⟨by rw[AE,AE,h.1,k.1],λi w e=> ?_⟩;rcases Bd i Wq.length with q|q
 .rw [Bn q] at e;rw[Bn (by rw[<-h.1];exact q)];exact h.2 i w e
 .rw [BS q] at e;rw[BS (by rw[<-h.1];exact q),<-h.1];exact k.2 _ w e
theorem my {H:Hp}:∀(row:Rl Pt) (rs:Rl V) (k:Nat),Iss H (row.map pt) rs->iO H (lvA row k) (lvA rs k)
 |row,rs,0,h=>by
  have e1:∀{α:Type} (l:Rl α),lvA l 0=[l]:=λl=>by cases l<;>rfl
  rw[e1,e1];refine⟨rfl,λi w e=> ?_⟩
  match i,e with
  |0,e=>cases e;exact⟨rs,rfl,h⟩
  |i+1,e=>simp at e
 |[],rs,k+1,h=>by
  rw[bn h];exact⟨rfl,λi w e=>by simp[lvA] at e⟩
 |p::row,rs,k+1,h=>by
  obtain⟨u,us,rfl,h1,h2⟩:=aI h;rw[lvA,lvA];refine iO.app ?_ (my row us k h2);obtain⟨l,g⟩:=my row us (k+1) h2;refine⟨by rw[A1,A1,l],λi w e=> ?_⟩;rw[AC] at e;obtain⟨w',hw',rfl⟩:=A8.mp e;obtain⟨z,hz,hi⟩:=g i w' hw';exact⟨u::z,by rw[AC,hz];rfl,au h1 hi⟩
def LC {row:Rl Pt}(h:Iss H (row.map pt) rs) (i:Nat) (w:Rl Pt) (e:(lvA row k)[i]? =some w):∃ws,(lvA rs k)[i]? =some ws/\Iss H (w.map pt) ws:=(my row rs k h).2 i w e
def LD {row:Rl Pt}(h:Iss H (row.map pt) rs):(lvA rs k).length=(lvA row k).length:=(my row rs k h).1.symm
theorem LF (h1:1<=d) (h4:d<=4):(bv d)[0]? =some (p0 d):=by
 have:d=1\/d=2\/d=3\/d=4:=by lia
 rcases this with rfl|rfl|rfl|rfl<;>ac_nf
theorem LG (h1:1<=d) (h4:d<=4):atI ((bv d).map pt) (-1)=some (pt (pl d)):=by
 have e:(bv d)[(bv d).length-1]? =some (pl d)/\1<=(bv d).length:=by
  have:d=1\/d=2\/d=3\/d=4:=by lia
  rcases this with rfl|rfl|rfl|rfl<;>ac_nf
 unfold atI ixN;rw[A1,A5 (by decide),A6 (by lia)];show((bv d).map pt)[((-1:Int)+((bv d).length:Int)).toNat]? =some (pt (pl d));rw[show((-1:Int)+((bv d).length:Int)).toNat=(bv d).length-1 by lia,AC,e.1];rfl
theorem yI:OKQ T.X54 P w base 22 spWayP:=by
 refine FbO T.X54 vJ λ_ _ _ _ H vs Q E hr h=> ?_;obtain⟨n,k,rfl,hN,⟨h64,hsw⟩,k2⟩:=h;refine⟨_,(aj (aX (pcq (qL T) hr T.X2 (ab (pv 0) (ab (pv 1) ae))))
  (aj (pSA (i:=2) vJ.nd (pcq (Lv T) hr T.X45 (ab (pv 0) ae)))
  (ai (am (aY (ud hr) (by rfl) T.n_sorted boot_sorted (ab (dn (XN:=["d","k","row"]) (sc:=al lm) (N:=["between","row"]) (own:=1) (js:=[2]) rfl (by ac_nf) rfl rfl (bm (pcq (yG T 20) hr T.X53 (ab (dD eW (pv 2) (di ag) (di (fV fW ag))) (ab (pv 1) ae)))) (λ_ _ _ _=>(bV (i:=0) (show List.Nodup (["between","row"]:Rl Str) by ac_nf) rfl (Or.inl rfl) (.inr rfl))) (dm (by decide)) (λ_ _ _ _=>cV) (λ_ _ _ _=>(ah dI (ah dI (aV (ab (ao eX (pv 1) ag (λ_ _=>rfl)) ae)) (pv 0)) (aV (ab (ao eX (pv 1) (fV fW ag) (λ_ _=>rfl)) ae))))) ae)))))), ?_⟩
 have d1:1<=n:=hN.1;have d4:n<=4:=by unfold dy at hN;lia
 refine⟨_,rfl,_,rfl,n,k,rfl,hN, ?_⟩;refine⟨_,rfl,n,rfl,d1,by lia,λl0 H1 s1 Op Ni=> ?_⟩;obtain⟨_,rs,e,QF,his⟩:=ja Ni;cases e;have M5:rs.length=(bv n).length:=by rw[his.length,A1]
 have plen:3<=(bv n).length/\(bv n).length<=15:=by
  have:n=1\/n=2\/n=3\/n=4:=by lia
  rcases this with rfl|rfl|rfl|rfl<;>ac_nf
 refine⟨_,rfl,1,rfl,1,rfl,_,rfl,l0,rs,rfl,SqL.of QF, ?_⟩;rw[LA (by lia)];intro b nb;have sb:af H1 (upd H1 b (.lst ((rs.drop 1).dropLast))):=af.new nb;have mlen:((rs.drop 1).dropLast).length=rs.length-2:=by simp;lia
 refine⟨_,rfl,b,_,k,rfl,SqL.of ak,by lia,by lia,λl1 us H2 s2 nl1 M6 L1=> ?_⟩;have mis:Iss H1 ((df n).map pt) ((rs.drop 1).dropLast):=by
  unfold df;have:=(his.drop 1);rw[<-DC] at this;have t2:=this.take ((rs.drop 1).length-1);rw[<-List.map_take] at t2;rw[List.dropLast_eq_take,List.dropLast_eq_take];rw[Br] at t2⊢;rw[Br,<-M5];exact t2
 generalize (rs.drop 1).dropLast=ms at mis mlen sb s2 L1 nl1⊢;have Pi:af H1 H2:=sb.trans s2;have Lis:∀(i:Nat) (w:Rl Pt),(lvA (df n) k)[i]? =some w->∃a ws,us[i]? =some (.ref a)/\H2 a=some (.lst ws)/\Iss H2 (w.map pt) ws:=λi w hw=>by
  obtain⟨ws,e1,e2⟩:=LC (k:=k) mis i w hw;obtain⟨a,f1,_,f3⟩:=L1.2 i ws e1;exact⟨a,ws,f1,f3,e2.mono Pi⟩
 have ulen:us.length=(lvA (df n) k).length:=by rw[L1.1,LD mis]
 have Q4:(bt n k).length=(lvA (df n) k).length:=by unfold bt;rw[A1]
 refine⟨l1,rfl,⟨_,SqL.of M6⟩,λacc na=> ?_⟩;refine fy (xs:=us) (own:=1) (js:=[2]) (λi H3=>af H2 H3/\cc H3 acc (((bt n k).take i).map pts)) ⟨af.new na,cc.start⟩ (λi H3 _ h=>SqL.of (h.1 _ _ M6)) ?_ ?_ dq cW ?_
 .rintro i x H3 hi ⟨s3,vs,Mf,MU⟩;have Qa:i<(lvA (df n) k).length:=by rw[<-ulen];exact(AF.mp hi).1
  obtain⟨a1,ws,f1,f2,f3⟩:=Lis i _ (A3 Qa);rw[hi] at f1;cases f1;have wl:((lvA (df n) k)[i]).length<=15:=by
   have:=lN (df n) k _ (D' Qa);have:(df n).length<=(bv n).length:=by unfold df;simp;lia
   lia
  have hrow:Is H3 (pts (bv n)) (.ref l0):=(Ni.mono Pi).mono s3;have g0:atI ((bv n).map pt) 0=some (pt (p0 n)):=Fp (j:=0) rfl (LF d1 d4);have gl:atI ((bv n).map pt) (-1)=some (pt (pl n)):=LG d1 d4;refine dW ?_;refine⟨_,rfl,_,0,_,hrow,rfl,g0,λu hu=>⟨(zB rfl),λc1 H4 n4 s4 h4=> ?_⟩⟩;refine⟨_,rfl,_,_,aD h4 (au (hu.mono s4) ax),aD (s4 _ _ (s3 _ _ f2)) ((f3.mono s3).mono s4),AZ (aF (by simp;lia)),λc2 H5 n5 s5 h5=> ?_⟩;refine⟨_,rfl,1,rfl,_,_,_,(hrow.mono s4).mono s5,rfl,gl,λu2 MY=>⟨(zB rfl),λc3 H6 n6 s6 h6=> ?_⟩⟩;refine⟨_,_,h5.mono s6,aD h6 (au (MY.mono s6) ax),AZ (aF (by simp;lia)),λc4 H7 n7 s7 h7=> ?_⟩;have s37:af H3 H7:=((s4.trans s5).trans s6).trans s7;refine⟨acc,vs,_,rfl,rfl,s37 _ _ Mf,aF (by rw[MU.length];simp;lia),(s3.trans s37).put na, ?_⟩;rw[AW,show(bt n k)[i]? =some ([p0 n]++(lvA (df n) k)[i]++[pl n]) by unfold bt;rw[AC,A3 Qa];rfl,A7];have N3:=s6 _ _ (s5 _ _ (s4 _ _ Mf));refine jb (MU.mono (dH s37)) (LB (s7 _ _ N3) (bj N3 n7).symm ?_);show Is H7 (.l (([p0 n]++(lvA (df n) k)[i]++[pl n]).map pt)) _;rw[A7,A7];exact h7
 .rintro H3 ⟨s3,g⟩;rw[ulen,<-Q4,AS] at g;have MI:af H H3:=(s1.trans Pi).trans s3;obtain⟨_,vs,e,Mf,MU⟩:=aA g.is;cases e;have OY:vs.length=(bt n k).length:=by rw[MU.length,A1]
  refine x9 Mf MU (λx v h=>let ⟨a,ys,e1,e2,_⟩:=ja h;⟨a,ys,e1,e2⟩) (λ_ _ _ _ h h'=>FF h h') h64 hsw λp q pp nq=> ?_;refine k2 (p.map λi=>(bt n k).getD i []) q _ (yb pp) (MI.put (MI.free nq)) (MI.free nq) ?_;exact aD ak ((qe [] MU p λi h=>AX.mp (pp.mem_iff.mp h)).mono (af.new nq))
 .rintro σ H R R' k ⟨v1,e1,xs,i,d,h1,e2,e3,h⟩;refine⟨v1,e1,xs,i,d,h1,e2,e3,λu hu=> ?_⟩;obtain⟨z,h⟩:=h u hu;refine⟨z,λp H2 np s2 hp=> ?_⟩;obtain⟨v2,f1,a1,a2,f2,f3,f4,h⟩:=h p H2 np s2 hp;refine⟨v2,f1,a1,a2,f2,f3,f4,λp H3 np s3 hp=> ?_⟩;obtain⟨v3,g1,i3,g2,xs3,j3,d3,g3,g4,g5,h⟩:=h p H3 np s3 hp;refine⟨v3,g1,i3,g2,xs3,j3,d3,g3,g4,g5,λu hu=> ?_⟩;obtain⟨z,h⟩:=h u hu;refine⟨z,λp H4 np s4 hp=> ?_⟩;obtain⟨a1,a2,f2,f3,f4,h⟩:=h p H4 np s4 hp;exact⟨a1,a2,f2,f3,f4,λp H5 np s5 hp=>k _ _ (h p H5 np s5 hp)⟩
theorem yJ {P:Rh}{w:Rj}{b:Rg}{ka kb:Rl (Rl (Rl Int)×V)} (da:DN P w H a ka) (db:DN P w H b kb) (k:qK a b H H'):LTS H H':=by
 obtain⟨_,_,xs,_,e⟩:=da;obtain⟨_,_,ys,_,e2⟩:=db;exact⟨λc zs h=>k _ _ h (by rintro rfl;rw[e] at h;cases h) (by rintro rfl;rw[e2] at h;cases h),λc zs h=>k _ _ h (by rintro rfl;rw[e] at h;cases h) (by rintro rfl;rw[e2] at h;cases h)⟩
theorem LH:FnOk P w K mg base (CX0) 46 T.f58 T.d58 ["d","k"] spCbW:=by
 refine FbO T.X58 im λ_ _ _ _ H vs Q E hr h=> ?_;obtain⟨d,k,rfl,hN,kk⟩:=h;refine⟨_,(aj (aX (pcq (qL T) hr T.X2 (ab (pv 0) (ab (pv 1) ae))))
  (aj (pSA (i:=2) im.nd (pcq (Ly T) hr T.X56 (ab (pv 0) ae)))
  (aj (pSA (i:=3) im.nd (pcq (Lz T) hr T.X57 (ab (pv 0) ae)))
  (aj (pSA (i:=4) im.nd ag)
  (aj (aN AN rfl (bm (pcq (yI T) hr T.X54 (ab (pv 0) (ab (pv 1) ae)))) (pGA (i:=5) im.nd) (ai (fS (i:=4) im.nd rfl (by trivial) (ah (EC ED) (pcq (qR T 40) hr T.X55 (ab (pv 0) (ab (pv 5) (ab (gN (v:= .int (1)) (by rfl) T.m_LEFT ⟨_,rfl⟩) (ab (pv 2) ae))))) (pcq (qR T 40) hr T.X55 (ab (pv 0) (ab (pv 5) (ab (gN (v:= .int (-1)) (by rfl) T.m_RIGHT ⟨_,rfl⟩) (ab (pv 3) ae)))))) fT)))
  (ai (am (pv 4)))))))), ?_⟩
 have d1:1<=d:=hN.1;have d4:d<=4:=by unfold dy at hN;lia
 refine⟨_,rfl,_,rfl,d,k,rfl,hN, ?_⟩;refine⟨_,rfl,d,rfl,d1,d4,λko Ro H1 s1 nko hDo hKo=> ?_⟩;refine⟨_,rfl,d,rfl,d1,d4,λku Ru H2 s2 PN hDu hKu=> ?_⟩;have hDo2:=hDo.mono s2;have kou:ko≠ku:=by
  obtain⟨_,_,xs,_,e⟩:=id hDo;rintro rfl;rw[e] at PN;cases PN
 have Q5:H ku=none:=s1.free PN;refine⟨_,rfl,_,rfl,d,k,rfl,hN,(mi hN).1.1,λS l H3 pS s3 nl hl=> ?_⟩;have hwk:∀w∈S,ay d w:=λw hw=>(mi hN).1.2.1 w (pS.mem_iff.mp hw);rw[show eI d (bt d k)=eI d S from(K4 pS).symm] at kk;clear pS;obtain⟨_,Mr,e,Nz,MP⟩:=aA hl;cases e;have ME:Mr.length=S.length:=by rw[MP.length,A1]
 have O8:=hDo2.mono s3;have O9:=hDu.mono s3;have lko:l≠ko:=by
  obtain⟨_,_,xs,_,e⟩:=id hDo2;rintro rfl;rw[e] at nl;cases nl
 have lku:l≠ku:=by
  obtain⟨_,_,xs,_,e⟩:=id hDu;rintro rfl;rw[e] at nl;cases nl
 have MI:=(s1.trans s2).trans s3;refine⟨l,rfl,⟨_,SqL.of Nz⟩,bO (xs:=Mr) (λj σ H4=>(∃v5,σ=[some (.int d),some (.int k),some (.ref ko),some (.ref ku),some (.int (eI d (S.take j))),v5])/\qK ko ku H3 H4/\(∃Ro,DN P w H4 ko (tK Ro)/\KnG d (upE d) (wW d) Ro)/\∃Ru,DN P w H4 ku (tK Ru)/\KnG d (loE d) (vW d) Ru) ⟨⟨none,rfl⟩,λc o e _ _=>e,⟨Ro,O8,hKo⟩,Ru,O9,hKu⟩ (λj σ H4 _ h=>SqL.of (h.2.1 _ _ Nz lko lku)) ?_ ?_⟩
 .rintro j y σ H4 hj ⟨⟨v5,rfl⟩,b4,⟨Ro4,Oi,Q6⟩,Ru4,Q7,Q8⟩;obtain⟨ps,Mm,hy⟩:=bD MP hj;have ok:=hwk ps (AU Mm);have hy4:Is H4 (pts ps) y:=hy.lts (yJ O8 O9 b4);have m1:=(qo d4).lo ps ok;have m2:=(qp d4).lo ps ok;refine⟨_,rfl,_,rfl,_,rfl,_,rfl,d,y,ko,ps,Ro4,1,upE d,wW d,_,rfl,qo d4,d1,d4,hy4,ok,by lia,Oi,Q6,λRo5 H5 b5 Q9 Ra=> ?_⟩;have Oz:DN P w H5 ku (tK Ru4):=DN.but Q7 Oi b5 (DW kou);have hy5:=hy4.lts (bK Oi b5);refine⟨_,rfl,_,rfl,_,rfl,d,y,ku,ps,Ru4,-1,loE d,vW d,_,rfl,qp d4,d1,d4,hy5,ok,by lia,Oz,Q8,λRu6 H6 b6 PP Rb=> ?_⟩;have PQ:DN P w H6 ko (tK Ro5):=DN.but Q9 Oz b6 kou;refine⟨_,_,rfl,rfl,⟨(qo d4).bits d4 ok,(qp d4).bits d4 ok⟩,_,_,rfl,rfl,⟨some y, ?_⟩,λc o e n1 n2=>b6 _ _ (b5 _ _ (b4 c o e n1 n2) n1) n2,⟨Ro5,PQ,Ra⟩,Ru6,PP,Rb⟩;unfold eI;rw[AW,Mm,A7,CN];simp
 .rintro σ H4 ⟨⟨v5,rfl⟩,b4,_,_⟩;rw[ME,AS];refine⟨_,rfl,kk H4 λc o e=>b4 _ _ (MI _ _ e) (by rintro rfl;rw[nko] at e;cases e) (by rintro rfl;rw[Q5] at e;cases e)⟩
theorem LI:OKQ T.X9 P w base 1 (spWln K):=by
 refine FbO T.X9 vD λ_ _ _ _ H vs Q E hr h=> ?_;obtain⟨a,ns,rfl,hS,hn,kk⟩:=h;refine⟨_,(aj (pSA (i:=1) vD.nd (dR r6 (by rfl) T.n_list boot_list (ab (pv 0) ae)))
  (aj (rp AN (j5 (kh (pv 1) (λ_=>rfl)) (j4 (aQ cN (ao ge (pv 1) (fV fW ag) (λ_ _=>rfl)) ag (aE _)))).pt (ai (aX (Ec Af PySem.F.slot_list_pop PySem.F.type_list_pop Ee (pv 1)))))
  (ai (am (pv 1))))), ?_⟩
 refine⟨_,rfl,a,_,rfl, .inl hS,λl hl=> ?_⟩;refine rC (λσ H2=>∃(cs:Rl Int) (b:Nat),σ=[some (.ref a),some (.ref l)]/\af H H2/\H2 l=some (.lst (cs.map V.int))/\ns=cs++List.replicate b 0)
  (λ_ H2=>match H2 l with|some (.lst xs)=>xs.length|_=>0) ⟨ns,0,rfl,af.new hl,ak,by simp⟩ ?_ ?_
 .rintro σ H2 ⟨cs,b,rfl,s2,Mq,e⟩;rcases List.eq_nil_or_concat cs with rfl|⟨cs',z,Qo⟩
  .exact⟨_,rfl,false, .inl ⟨_,SqL.of Mq,rfl⟩,bh (bh ⟨_,rfl,kk l [] b H2 s2 hl Mq e (.inl rfl)⟩)⟩
  .rw [List.concat_eq_append] at Qo;subst Qo;refine⟨_,rfl,true, .inl ⟨_,SqL.of Mq,by simp⟩,cB ?_⟩;refine⟨_,rfl,1,rfl,l,_,_, .int z,rfl,rfl,SqL.of Mq,by rw[A7];exact Dv _ _,rfl,_,rfl, ?_⟩;refine cP (λhz=> ?_) (λhz=> ?_)
   .refine⟨_,rfl, .inl ⟨rfl,_,SqL.of Mq⟩,l,_, .int z,rfl,rfl,Mq,by simp, ?_⟩;refine⟨⟨cs',b+1,rfl,s2.put hl,by rw[ak,A7];simp,JD e hz⟩, ?_⟩;show(match upd H2 l _ l with|some (.lst xs)=>xs.length|_=>0)<(match H2 l with|some (.lst xs)=>xs.length|_=>0);rw[ak,Mq];simp
   .exact⟨_,rfl,kk l _ b H2 s2 hl Mq e (.inr (by simpa using hz))⟩
 .intro σ H Q1 Q2 k h;obtain⟨v,e1,b,t1,h⟩:=h;refine⟨v,e1,b,t1, ?_⟩;cases b with
  |false=>exact bh (k _ _ (by simpa using h))
  |true=>
   rw[A6 rfl] at h;obtain⟨v2,e2,i,e3,p,xs,j,y,e4,e5,e6,e7,e8,b2,e9,h⟩:=h;exact cB ⟨v2,e2,i,e3,p,xs,j,y,e4,e5,e6,e7,e8,b2,e9,k _ _ h⟩
theorem gL:OKQ T.X39 P w base 2 (spShade K):=by
 refine FbO T.X39 kY λ_ _ _ _ H vs Q E hr h=> ?_;obtain⟨Mk,a,ns,rfl,hS,hn,kk⟩:=h;refine⟨_,(aj (pSA (i:=2) kY.nd (pcq (LI T) hr T.X9 (ab (pv 1) ae)))
  (aj (aU (eT (kh (pv 2) (λ_=>rfl))) (ai (am (mI (ab ag (ab (fu ae) ae))))) aT)
  (aj (pSA (i:=3) kY.nd ag)
  (aj (rp AN (aQ cN (ao ge (pv 2) (pv 3) (λ_ _=>rfl)) ag (aE _)) (ai (fS (i:=3) kY.nd rfl (by trivial) ag fT)))
  (ai (am (mI (ab (ah aK (pv 0) (pv 3)) (ab (dD eW (pv 2) (di (pv 3)) dS) ae))))))))), ?_⟩
 refine⟨_,rfl,a,ns,rfl,hS,hn,λl ks b H2 s2 nl Mq e hk=> ?_⟩;by_cases hks:ks=[]
 .subst hks;refine⟨_,rfl,false, .inl ⟨_,SqL.of Mq,rfl⟩,cB ?_⟩;refine⟨AO _,λl2 n2=>⟨(zB rfl),λt nt=> ?_⟩⟩;refine kk.mk (zs:=[]) s2 n2 nt (.inl ⟨rfl,rfl,λz hz=> ?_⟩);rw[e] at hz;exact List.eq_of_mem_replicate (by simpa using hz)
 .have N4:ks.getLast? ≠some 0:=hk.resolve_left hks;refine⟨_,rfl,true, .inl ⟨_,SqL.of Mq,by cases ks with|nil=>exact absurd rfl hks|cons _ _=>rfl⟩,bh ?_⟩;have hpos:0<ks.length:=DT.mpr hks;refine rC (λσ H3=>∃i:Nat,σ=[some (.int Mk),some (.ref a),some (.ref l),some (.int i)]/\H3=H2/\i<ks.length/\ks.take i=List.replicate i 0)
   (fun(σ:L2.St) _=>match σ[3]? with|some (some (V.int j))=>ks.length-j.toNat|_=>0) ⟨0,rfl,rfl,hpos,rfl⟩ ?_ ?_
  .rintro σ H3 ⟨i,rfl,rfl,hi,ht⟩;refine⟨_,rfl,_,rfl,l,_,_,_,rfl,rfl,SqL.of Mq,KC hi,rfl,_,rfl, ?_⟩;refine cP (λhz=> ?_) (λhz=> ?_)
   .have NW:=JC hi N4 hz;refine⟨_,rfl,_,_,rfl,rfl,⟨i+1,rfl,rfl,NW,JB hi ht hz⟩, ?_⟩;show ks.length-((i:Int)+1).toNat<ks.length-(i:Int).toNat;lia
   .refine⟨_,rfl,_,rfl,_,_,rfl,rfl,_,rfl,_,rfl,_,rfl,l,_,rfl,SqL.of Mq, ?_⟩;rw[KD (AZ hi)];intro l2 n2;refine⟨(zB rfl),λt nt=> ?_⟩;exact kk.mk s2 n2 nt (xm e N4 hi ht hz)
  .intro σ H Q1 Q2 k h;obtain⟨v1,e1,v2,e2,p,xs,j,y,e4,e5,e6,e7,e8,b2,e9,h⟩:=h;exact⟨v1,e1,v2,e2,p,xs,j,y,e4,e5,e6,e7,e8,b2,e9,k _ _ h⟩
theorem LJ:OKQ T.X42 P w base 3 (spTurned K):=by
 refine FbO T.X42 Ig λ_ _ _ _ H vs Q E hr h=> ?_;obtain⟨t,p,lo,zs,rfl,hT,hP,hn,kk⟩:=h;refine⟨_,(ai (am (pcq (gL T) hr T.X39 (ab (ah aL (ah aL ag (ao br (pv 0) ag (λ_ _=>rfl))) (aY dE (by rfl) T.n_len CW (ab (ao br (pv 0) ag (λ_ _=>rfl)) ae))) (ab (sO rfl (by rfl) T.n_list (by rfl) T.n_reversed (ao br (pv 0) ag (λ_ _=>rfl))) ae))))), ?_⟩;refine⟨_,rfl,t,_,_,_,rfl,rfl,hT,by rfl,_,_,rfl,rfl,_,rfl,t,_,_,_,rfl,rfl,hT,by rfl,p,_,rfl, .inl hP,_,_,rfl,rfl, ?_⟩;refine⟨_,rfl,t,_,_,_,rfl,rfl,hT,by rfl,p,_,rfl,hP,λl nl=> ?_⟩;refine⟨_,l,zs.reverse,rfl,SqL.of (by rw[ak,List.map_reverse]),by simpa using hn,λt' l' Ny ws H' s' Os NK MJ tr=>kk t' l' Ny ws H' ((af.new nl).trans s') ((af.new nl).free Os) NK MJ ?_⟩;simpa using tr
theorem LK:OKQ T.X43 P w base 1 (spAtOne K):=by
 refine FbO T.X43 Ih λ_ _ _ _ H vs Q E hr h=> ?_;obtain⟨t,p,lo,zs,rfl,hT,hP,kk⟩:=h;refine⟨_,(ai (am (aY (gi rfl) (by rfl) T.n_sum Di (ab (ao br (pv 0) ag (λ_ _=>rfl)) ae)))), ?_⟩;exact⟨_,rfl,t,_,_,_,rfl,rfl,hT,by rfl,p,zs,rfl,hP,kk⟩
theorem LL:OKQ T.X10 P w base 1 (spList dO (λ_ _=>True) K):=by
 refine FbO T.X10 jo λ_ _ _ _ H vs Q E hr h=> ?_;obtain⟨a,c,xs,ys,rfl,hA,hC,la,lc,_,kk⟩:=h;refine⟨_,(aj (pSA (i:=2) jo.nd (ah iW (fu (ab ag ae)) (aY (zU rfl) (by rfl) T.n_max boot_max (ab (aY dE (by rfl) T.n_len CW (ab (pv 0) ae)) (ab (aY dE (by rfl) T.n_len CW (ab (pv 1) ae)) ae)))))
  (aj (aN AN rfl (rq (mI (ab (pv 0) (ab (pv 1) ae)))) (pGA (i:=3) jo.nd) (ai (aN AN rfl (gT (by rfl) T.n_enumerate (pv 3)) (bZ rfl (aO (pGA (i:=4) jo.nd) (aO (pGA (i:=5) jo.nd) bS))) (ai (j' (pv 2) (pv 4) kB (pv 5) fT km)))))
  (ai (am (pv 2))))), ?_⟩
 refine⟨(zB rfl),λl0 n0=> ?_⟩;have s0:af H (upd H l0 (.lst [.int 0])):=af.new n0;refine⟨_,rfl,a,_,rfl, .inl (s0.seq hA),_,rfl,c,_,rfl, .inl (s0.seq hC),_,_,rfl, ?_⟩;rw[A1,A1];have hm:(if(ys.length:Int)>(xs.length:Int) then(ys.length:Int) else(xs.length:Int))=((max xs.length ys.length:Nat):Int):=by split<;>lia
 rw[hm];have hmx:max xs.length ys.length<=400:=by lia
 refine⟨l0,_,_,rfl,rfl,ak,by lia,by lia, ?_, ?_⟩
 .rw [Ae,Ba,Nat.one_mul];exact AZ (aF (by lia))
 rw[Ae,mj];intro lt nt;have sT:af H (upd (upd H l0 (.lst [.int 0])) lt (.lst ((List.replicate (max xs.length ys.length) (0:Int)).map V.int))):=s0.put (s0.free nt);have nlt:H lt=none:=s0.free nt;have Mh:(upd (upd H l0 (.lst [.int 0])) lt (.lst ((List.replicate (max xs.length ys.length) (0:Int)).map V.int))) lt=some (.lst ((List.replicate (max xs.length ys.length) (0:Int)).map V.int)):=ak;generalize upd (upd H l0 (.lst [.int 0])) lt (.lst ((List.replicate (max xs.length ys.length) (0:Int)).map V.int))=H1 at sT Mh⊢;refine⟨_,rfl,_,rfl,(zB rfl),λtt ntt=> ?_⟩;have nttH:H tt=none:=sT.free ntt;have ntl:tt≠lt:=(bj Mh ntt).symm;refine⟨tt,rfl,⟨_,SqT.of ak⟩,rB (xs:=[.ref a, .ref c]) (λi σ H2=>∃v3 v4 v5:Rp V,σ=[some (.ref a),some (.ref c),some (.ref lt),v3,v4,v5]/\af H H2/\H2 tt=some (.tup [.ref a, .ref c])/\
  H2 lt=some (.lst ((if i=0 then List.replicate (max xs.length ys.length) (0:Int) else if i=1 then bd (List.replicate (max xs.length ys.length) 0) 0 xs else dO xs ys).map V.int)))
  ⟨none,none,none,rfl,sT.put nttH,ak,by rw[aw ntl.symm];exact Mh⟩ (λi σ H2 _ Ms=>by obtain⟨_,_,_,_,_,h,_⟩:=Ms;exact SqT.of h) ?_ ?_⟩
 .rintro i x σ H2 hi ⟨v3,v4,v5,rfl,s2,htt,MN⟩;obtain⟨z,zs,ts,rfl,hz,lz,e0,e1⟩:∃(z:Rg) (zs ts:Rl Int),x= .ref z/\SqL K H z (zs.map V.int)/\zs.length<=ts.length/\(if i=0 then List.replicate (max xs.length ys.length) (0:Int) else if i=1 then bd (List.replicate (max xs.length ys.length) 0) 0 xs else dO xs ys)=ts/\
    (if i+1=0 then List.replicate (max xs.length ys.length) (0:Int) else if i+1=1 then bd (List.replicate (max xs.length ys.length) 0) 0 xs else dO xs ys)=bd ts 0 zs:=by
   match i,hi with
   |0,hi=>
    cases hi;exact⟨a,xs,_,rfl,hA,by simp;lia,rfl,rfl⟩
   |1,hi=>
    cases hi;exact⟨c,ys,_,rfl,hC,by simp[eJ];lia,rfl,rfl⟩
  rw[e0] at MN;rw[e1];refine⟨_,rfl,z,rfl,⟨_,s2.seq hz⟩,i9 (xs:=zs.map V.int) (λj σ H3=>∃v4 v5:Rp V,σ=[some (.ref a),some (.ref c),some (.ref lt),some (.ref z),v4,v5]/\af H H3/\H3 tt=some (.tup [.ref a, .ref c])/\H3 lt=some (.lst ((bd ts 0 (zs.take j)).map V.int)))
   ⟨v4,v5,rfl,s2,htt,by rw[List.take_zero,qr];exact MN⟩ (λj σ H3 _ Ms=>by obtain⟨_,_,_,h,_⟩:=Ms;exact h.seq hz) ?_ ?_⟩
  .rintro j x σ H3 p hx ⟨v4,v5,rfl,s3,O',NL⟩ np;rw[AC] at hx;obtain⟨y,hy,rfl⟩:=A8.mp hx;have hj:j<zs.length:=(AF.mp hy).1;have nlp:lt≠p:=bj NL np;have Mg:(bd ts 0 (zs.take j)).length=ts.length:=eJ _ _ _;have Qj:upd H3 p (.tup [.int j, .int y]) lt=some (.lst ((bd ts 0 (zs.take j)).map V.int)):=by rw[aw nlp];exact NL
   refine⟨p,_,rfl,SqT.of ak,rfl,_,_,rfl,_,_,rfl,rfl, ?_⟩;refine⟨_,rfl,_,rfl,lt,_,j,_, .int ((bd ts 0 (zs.take j)).getD j 0),rfl,rfl,rfl,SqL.of Qj, ?_,_,rfl,_,_,rfl,rfl,lt,_,_,j,rfl,rfl,Qj,kA (by rw[A1];lia), ?_⟩
   .exact xM (by lia)
   .refine⟨_,_,rfl,(s3.put (s3.free np)).put nlt, ?_, ?_⟩
    .rw [aw (jY O' NL (by intro z;cases z)),aw (bj O' np)];exact O'
    .rw [ak];have e:=lS ts 0 (zs.take j) y (by rw[Ag];lia);rw[Ag,DK (AZ hj),Nat.zero_add] at e;have e3:zs.take (j+1)=zs.take j++[y]:=by rw[AW,hy];rfl
     rw[e3,<-e,List.map_set]
  .rintro σ H3 ⟨v4,v5,rfl,s3,O',NL⟩;rw[A1,AS] at NL;exact⟨_,_,_,rfl,s3,O',NL⟩
 .rintro σ H2 ⟨v3,v4,v5,rfl,s2,htt,MN⟩;exact⟨_,rfl,kk lt H2 s2 nlt MN⟩
theorem LM:OKQ T.X11 P w base 1 (spList (λxs ys=>cv xs ys xs.length) (λxs _=>∀x∈xs,-(10^18)<=x/\x<=10^18) K):=by
 refine FbO T.X11 ic λ_ _ _ _ H vs Q E hr h=> ?_;obtain⟨a,c,xs,ys,rfl,hA,hC,la,lc,hB,kk⟩:=h;refine⟨_,(aj (pSA (i:=2) ic.nd (ah iW (fu (ab ag ae)) (ah aK (aY dE (by rfl) T.n_len CW (ab (pv 0) ae)) (aY dE (by rfl) T.n_len CW (ab (pv 1) ae)))))
  (aj (aN AN rfl (gT (by rfl) T.n_enumerate (pv 0)) (bZ rfl (aO (pGA (i:=3) ic.nd) (aO (pGA (i:=4) ic.nd) bS))) (ai (aN AN rfl (gT (by rfl) T.n_enumerate (pv 1)) (bZ rfl (aO (pGA (i:=5) ic.nd) (aO (pGA (i:=6) ic.nd) bS))) (ai (j' (pv 2) (ah aK (pv 3) (pv 5)) kB (ah bq (pv 4) (pv 6)) fT km)))))
  (ai (am (pv 2))))), ?_⟩
 refine⟨(zB rfl),λl0 n0=> ?_⟩;have s0:af H (upd H l0 (.lst [.int 0])):=af.new n0;refine⟨_,rfl,a,_,rfl, .inl (s0.seq hA),_,rfl,c,_,rfl, .inl (s0.seq hC),_,_,rfl,rfl, ?_⟩;dsimp only;rw[A1,A1,show(xs.length:Int)+(ys.length:Int)=((xs.length+ys.length:Nat):Int) by lia];refine⟨l0,_,_,rfl,rfl,ak,by lia,by lia, ?_, ?_⟩
 .rw [Ae,Ba,Nat.one_mul];exact AZ (aF (by lia))
 rw[Ae,mj];intro lt nt;have sT:af H (upd (upd H l0 (.lst [.int 0])) lt (.lst ((List.replicate (xs.length+ys.length) (0:Int)).map V.int))):=s0.put (s0.free nt);have nlt:H lt=none:=s0.free nt;have Mh:(upd (upd H l0 (.lst [.int 0])) lt (.lst ((List.replicate (xs.length+ys.length) (0:Int)).map V.int))) lt=some (.lst ((cv xs ys 0).map V.int)):=ak;generalize upd (upd H l0 (.lst [.int 0])) lt (.lst ((List.replicate (xs.length+ys.length) (0:Int)).map V.int))=H1 at sT Mh⊢;refine⟨_,rfl,a,rfl,⟨_,sT.seq hA⟩,i9 (xs:=xs.map V.int) (λi σ H2=>∃v3 v4 v5 v6:Rp V,σ=[some (.ref a),some (.ref c),some (.ref lt),v3,v4,v5,v6]/\af H H2/\H2 lt=some (.lst ((cv xs ys i).map V.int)))
  ⟨none,none,none,none,rfl,sT,Mh⟩ (λi σ H2 _ Ms=>by obtain⟨_,_,_,_,_,h,_⟩:=Ms;exact h.seq hA) ?_ ?_⟩
 .rintro i x σ H2 p hx ⟨v3,v4,v5,v6,rfl,s2,MN⟩ np;rw[AC] at hx;obtain⟨x,Mm,rfl⟩:=A8.mp hx;have hi:i<xs.length:=(AF.mp Mm).1;have ex:xs.getD i 0=x:=by rw[List.getD,Mm];rfl
  have bx:=hB x (AU Mm);refine⟨p,_,rfl,SqT.of ak,rfl,_,_,rfl,_,_,rfl,rfl, ?_⟩;have s3:af H (upd H2 p (.tup [.int i, .int x])):=s2.put (s2.free np);have NL:upd H2 p (.tup [.int i, .int x]) lt=some (.lst ((cv xs ys i).map V.int)):=by rw[aw (bj MN np)];exact MN
  generalize upd H2 p (.tup [.int i, .int x])=H3 at s3 NL⊢;have ln:=lT xs ys i;refine⟨_,rfl,c,rfl,⟨_,s3.seq hC⟩,i9 (xs:=ys.map V.int) (λj σ H4=>∃v5 v6:Rp V,σ=[some (.ref a),some (.ref c),some (.ref lt),some (.int i),some (.int x),v5,v6]/\af H H4/\H4 lt=some (.lst ((bd (cv xs ys i) i ((ys.take j).map (x* ·))).map V.int)))
   ⟨v5,v6,rfl,s3,by rw[List.take_zero,DX,qr];exact NL⟩ (λj σ H4 _ Ms=>by obtain⟨_,_,_,h,_⟩:=Ms;exact h.seq hC) ?_ ?_⟩
  .rintro j y σ H4 p2 hy ⟨v5,v6,rfl,s4,Pa⟩ np2;rw[AC] at hy;obtain⟨y,M0,rfl⟩:=A8.mp hy;have hj:j<ys.length:=(AF.mp M0).1;have Mg:(bd (cv xs ys i) i ((ys.take j).map (x* ·))).length=xs.length+ys.length:=by rw[eJ,ln]
   have OF:upd H4 p2 (.tup [.int j, .int y]) lt=some (.lst ((bd (cv xs ys i) i ((ys.take j).map (x* ·))).map V.int)):=by rw[aw (bj Pa np2)];exact Pa
   refine⟨p2,_,rfl,SqT.of ak,rfl,_,_,rfl,_,_,rfl,rfl, ?_⟩;refine⟨_,rfl,_,rfl,_,rfl,_,_,rfl,rfl,lt,_,i+j,_, .int ((bd (cv xs ys i) i ((ys.take j).map (x* ·))).getD (i+j) 0),rfl,rfl,by lia,SqL.of OF, ?_,_,rfl,_,rfl,_,_,rfl,rfl, .inl ⟨by lia,by lia⟩,_,_,rfl,rfl,lt,_,_,i+j,rfl,rfl,OF, ?_, ?_⟩
   .exact xM (by lia)
   .rw [show(i:Int)+(j:Int)=((i+j:Nat):Int) by lia];exact kA (by rw[A1];lia)
   .refine⟨_,_,rfl,(s4.put (s4.free np2)).put nlt, ?_⟩;rw[ak];have e:=lS (cv xs ys i) i ((ys.take j).map (x* ·)) (x*y) (by rw[A1,Ag];lia);rw[A1,Ag,DK (AZ hj)] at e;have e3:ys.take (j+1)=ys.take j++[y]:=by rw[AW,M0];rfl
    rw[e3,A7,List.map_singleton,<-e,List.map_set]
  .rintro σ H4 ⟨v5,v6,rfl,s4,Pa⟩;rw[A1,AS] at Pa;refine⟨_,_,_,_,rfl,s4, ?_⟩;rw[cv,ex];exact Pa
 .rintro σ H2 ⟨v3,v4,v5,v6,rfl,s2,MN⟩;rw[A1] at MN;exact⟨_,rfl,kk lt H2 s2 nlt MN⟩
theorem LN:OKQ T.X44 P w base 3 spStretch:=by
 refine FbO T.X44 Ii λ_ _ _ _ H vs Q E hr h=> ?_;obtain⟨w,rfl,h1,h2,kk⟩:=h;refine⟨_,(ai (am (pcq (gL T) hr T.X39 (ab (ah aL ag (pv 0)) (ab (dn (XN:=["w"]) (sc:=al kZ) (N:=["place"]) (own:=1) (js:=[]) rfl (by ac_nf) rfl rfl (eU (by rfl) T.n_range (ab (ah aL (ah bq ag (pv 0)) ag) ae)) (λ_ _ _ _=>(bV (i:=0) (show List.Nodup (["place"]:Rl Str) by ac_nf) rfl (Or.inl rfl) (.inr rfl))) (dm (by decide)) (λ_ _ _ _=>cV) (λ_ _ _ _=>(ah aL ag (ah gO (pv 0) ag)))) ae))))), ?_⟩;refine⟨_,rfl,_,_,rfl,rfl,_,rfl,_,_,rfl,rfl, .inl ⟨by decide,by decide⟩,_,_,rfl,rfl,_,rfl,by lia,by lia,λacc na=> ?_⟩;have en:((2:Int)*(w:Int)-1).toNat=2*w-1:=by lia
 rw[en];refine i8 (lo:=0) (n:=2*w-1) (own:=1) (js:=[]) (λi H2=>af H H2/\H2 acc=some (.lst (((List.range i).map λp:Nat=>1-((p:Nat):Int)%2).map V.int))) ⟨af.new na,ak⟩ ?_ ?_ dq cW ?_
 .rintro i H2 hi ⟨s2,Mf⟩;refine dW ?_;refine⟨_,rfl,_,_,rfl,rfl,(show(0:Int)<2 by decide),_,_,rfl,rfl,acc,_,_,rfl,rfl,Mf,aF (by simp;lia),s2.put na, ?_⟩;rw[ak,Az,A7,A7,D1];rfl
 .rintro H2 ⟨s2,Mf⟩;refine⟨_,acc,dP w,rfl,SqL.of Mf,by rw[qu];lia,λt l lo zs H' s' nl ht hl tr=> ?_⟩;obtain⟨e1,e2⟩:=(JG h1).unique tr;subst e1;subst e2;exact kk t l _ _ H' (s2.trans s') (s2.free nl) ht hl ⟨rfl,rfl⟩
 .rintro σ H R R' k ⟨v1,e1,i1,j1,e2,e3,c1,i2,j2,e4,e5,h⟩;exact⟨v1,e1,i1,j1,e2,e3,c1,i2,j2,e4,e5,k _ _ h⟩
theorem LO:OKQ T.X41 P w base 3 (spTwo Ent bE K):=by
 refine FbO T.X41 Ie λ_ _ _ _ H vs Q E hr h=> ?_;obtain⟨t,u,p,q,l1,l2,z1,z2,rfl,ht,hp,hu,hq,n1,n2,_,_,_,_,hB,kk⟩:=h;refine⟨_,(ai (am (pcq (gL T) hr T.X39 (ab (ah aK (ao br (pv 0) ag (λ_ _=>rfl)) (ao br (pv 1) ag (λ_ _=>rfl))) (ab (pcq (LM T) hr T.X11 (ab (ao br (pv 0) ag (λ_ _=>rfl)) (ab (ao br (pv 1) ag (λ_ _=>rfl)) ae))) ae))))), ?_⟩;refine⟨_,rfl,t,_,_,_,rfl,rfl,SqT.of ht,by rfl,_,rfl,u,_,_,_,rfl,rfl,SqT.of hu,by rfl,_,_,rfl,rfl, ?_⟩;refine⟨_,rfl,t,_,_,_,rfl,rfl,SqT.of ht,by rfl,_,rfl,u,_,_,_,rfl,rfl,SqT.of hu,by rfl, ?_⟩;refine⟨p,q,z1,z2,rfl,SqL.of hp,SqL.of hq,by lia,by lia,λx hx=>⟨by have:=hB x hx;lia,by have:=hB x hx;lia⟩,λl H1 s1 nl hl=> ?_⟩;refine⟨_,l,cv z1 z2 z1.length,rfl,SqL.of hl,by rw[lT];lia,λt' l' lo zs H' s' Os NK MJ tr=> ?_⟩;exact kk t' l' lo zs H' (s1.trans s') (s1.free Os) NK MJ tr.toC
theorem LP:OKQ T.X40 P w base 3 (spTwo (λ_=>True) aP K):=by
 refine FbO T.X40 vE λ_ _ _ _ H vs Q E hr h=> ?_;obtain⟨t,u,p,q,l1,l2,z1,z2,rfl,ht,hp,hu,hq,n1,n2,a1,a2,b1,b2,hB,kk⟩:=h;refine⟨_,(aj (aU (eT (kh (ao br (pv 0) ag (λ_ _=>rfl)) (λ_=>rfl))) (ai (am (pcq (gL T) hr T.X39 (ab (ao br (pv 1) ag (λ_ _=>rfl)) (ab (ao br (pv 1) ag (λ_ _=>rfl)) ae))))) aT)
  (aj (aU (eT (kh (ao br (pv 1) ag (λ_ _=>rfl)) (λ_=>rfl))) (ai (am (pcq (gL T) hr T.X39 (ab (ao br (pv 0) ag (λ_ _=>rfl)) (ab (ao br (pv 0) ag (λ_ _=>rfl)) ae))))) aT)
  (aj (pSA (i:=2) vE.nd (aY (rM rfl) (by rfl) T.n_min boot_min (ab (ao br (pv 0) ag (λ_ _=>rfl)) (ab (ao br (pv 1) ag (λ_ _=>rfl)) ae))))
  (ai (am (pcq (gL T) hr T.X39 (ab (pv 2) (ab (pcq (LL T) hr T.X10 (ab (ah gP (ah iW (fu (ab ag ae)) (ah aL (ao br (pv 0) ag (λ_ _=>rfl)) (pv 2))) (ao br (pv 0) ag (λ_ _=>rfl))) (ab (ah gP (ah iW (fu (ab ag ae)) (ah aL (ao br (pv 1) ag (λ_ _=>rfl)) (pv 2))) (ao br (pv 1) ag (λ_ _=>rfl))) ae))) ae)))))))), ?_⟩
 by_cases OX:z1=[]
 .subst OX;refine⟨_,rfl,t,_,_, .ref p,rfl,rfl,SqT.of ht,by rfl,false, .inl ⟨_,SqL.of hp,rfl⟩,cB ?_⟩;refine⟨_,rfl,u,_,_,_,rfl,rfl,SqT.of hu,by rfl,_,rfl,u,_,_,_,rfl,rfl,SqT.of hu,by rfl, ?_⟩;exact⟨l2,q,z2,rfl,SqL.of hq,by lia,λt' l' lo zs H' s' Os NK MJ tr=>kk t' l' lo zs H' s' Os NK MJ tr.toC⟩
 .have i1:z1.isEmpty=false:=by cases z1 with|nil=>exact absurd rfl OX|cons _ _=>rfl
  refine⟨_,rfl,t,_,_, .ref p,rfl,rfl,SqT.of ht,by rfl,true, .inl ⟨_,SqL.of hp,by cases z1 with|nil=>exact absurd rfl OX|cons _ _=>rfl⟩,bh ?_⟩;by_cases hz2:z2=[]
  .subst hz2;refine⟨_,rfl,u,_,_, .ref q,rfl,rfl,SqT.of hu,by rfl,false, .inl ⟨_,SqL.of hq,rfl⟩,cB ?_⟩;refine⟨_,rfl,t,_,_,_,rfl,rfl,SqT.of ht,by rfl,_,rfl,t,_,_,_,rfl,rfl,SqT.of ht,by rfl, ?_⟩;refine⟨l1,p,z1,rfl,SqL.of hp,by lia,λt' l' lo zs H' s' Os NK MJ tr=>kk t' l' lo zs H' s' Os NK MJ ?_⟩;unfold aP;rw[A5 (by rw[i1];decide)];exact tr.toC
  .have i2:z2.isEmpty=false:=by cases z2 with|nil=>exact absurd rfl hz2|cons _ _=>rfl
   refine⟨_,rfl,u,_,_, .ref q,rfl,rfl,SqT.of hu,by rfl,true, .inl ⟨_,SqL.of hq,by cases z2 with|nil=>exact absurd rfl hz2|cons _ _=>rfl⟩,bh ?_⟩;refine⟨_,rfl,t,_,_,_,rfl,rfl,SqT.of ht,by rfl,_,rfl,u,_,_,_,rfl,rfl,SqT.of hu,by rfl,_,_,rfl, ?_⟩;have fin:∀{lo:Int}{zs:Rl Int},Tr (if l2<l1 then l2 else l1) (dO (List.replicate (l1-(if l2<l1 then l2 else l1)).toNat 0++z1) (List.replicate (l2-(if l2<l1 then l2 else l1)).toNat 0++z2)) lo zs->(lo,zs)=aP (l1,z1) (l2,z2):=fun{lo zs} tr=>by
    unfold aP;rw[A5 (by rw[i1];decide),A5 (by rw[i2];decide)];exact tr.toC
   have hlow: -100<=(if l2<l1 then l2 else l1)/\(if l2<l1 then l2 else l1)<=100/\(if l2<l1 then l2 else l1)<=l1/\(if l2<l1 then l2 else l1)<=l2:=by split<;>lia
   generalize (if l2<l1 then l2 else l1)=Mk at fin hlow⊢;refine⟨_,rfl,(zB rfl),λc1 nc1=> ?_⟩;have s1:af H (upd H c1 (.lst [.int 0])):=af.new nc1;have P4:upd H c1 (.lst [.int 0]) c1=some (.lst [.int 0]):=ak;generalize upd H c1 (.lst [.int 0])=H1 at s1 P4⊢;refine⟨_,rfl,t,_,_,_,rfl,rfl,SqT.of (s1 _ _ ht),by rfl,_,rfl,_,_,rfl,rfl,c1,_,_,rfl,rfl,P4,by lia,by lia, ?_, ?_⟩
   .rw [Ba,Nat.one_mul];exact AZ (aF (by lia))
   rw[mj];intro c2 nc2;generalize hH2:upd H1 c2 _=H2;have s2:af H1 H2:=hH2▸af.new nc2;have NB:H2 c2=some (.lst ((List.replicate (l1-Mk).toNat (0:Int)).map V.int)):=by rw[<-hH2];exact ak
   clear hH2;have s2:=s1.trans s2;refine⟨_,rfl,t,_,_, .ref p,rfl,rfl,SqT.of (s2 _ _ ht),by rfl,c2,p,_,_,rfl,rfl,NB,s2 _ _ hp, ?_, ?_⟩
   .rw [A1,A1,Am];exact AZ (aF (by lia))
   rw[<-A7];intro c3 nc3;generalize hH3:upd H2 c3 _=H3;have s3:af H2 H3:=hH3▸af.new nc3;have Rc:H3 c3=some (.lst ((List.replicate (l1-Mk).toNat (0:Int)++z1).map V.int)):=by rw[<-hH3];exact ak
   clear hH3;have s3:=s2.trans s3;refine⟨(zB rfl),λd1 nd1=> ?_⟩;generalize hH4:upd H3 d1 _=H4;have s4:af H3 H4:=hH4▸af.new nd1;have P5:H4 d1=some (.lst [.int 0]):=by rw[<-hH4];exact ak
   clear hH4;have Rc:=s4 _ _ Rc;have s4:=s3.trans s4;refine⟨_,rfl,u,_,_,_,rfl,rfl,SqT.of (s4 _ _ hu),by rfl,_,rfl,_,_,rfl,rfl,d1,_,_,rfl,rfl,P5,by lia,by lia, ?_, ?_⟩
   .rw [Ba,Nat.one_mul];exact AZ (aF (by lia))
   rw[mj];intro d2 nd2;generalize hH5:upd H4 d2 _=H5;have s5:af H4 H5:=hH5▸af.new nd2;have Nm:H5 d2=some (.lst ((List.replicate (l2-Mk).toNat (0:Int)).map V.int)):=by rw[<-hH5];exact ak
   clear hH5;have Rc:=s5 _ _ Rc;have s5:=s4.trans s5;refine⟨_,rfl,u,_,_, .ref q,rfl,rfl,SqT.of (s5 _ _ hu),by rfl,d2,q,_,_,rfl,rfl,Nm,s5 _ _ hq, ?_, ?_⟩
   .rw [A1,A1,Am];exact AZ (aF (by lia))
   rw[<-A7];intro d3 nd3;generalize hH6:upd H5 d3 _=H6;have s6:af H5 H6:=hH6▸af.new nd3;have QB:H6 d3=some (.lst ((List.replicate (l2-Mk).toNat (0:Int)++z2).map V.int)):=by rw[<-hH6];exact ak
   clear hH6;have Rc:=s6 _ _ Rc;have s6:=s5.trans s6;refine⟨c3,d3,_,_,rfl,SqL.of Rc,SqL.of QB,by simp;lia,by simp;lia,trivial,λl H7 s7 nl hl=> ?_⟩;refine⟨Mk,l,_,rfl,SqL.of hl, ?_,λt' l' lo zs H' s' Os NK MJ tr=> ?_⟩
   .simp [dO,eJ];lia
   .have s7:=s6.trans s7;exact kk t' l' lo zs H' (s7.trans s') (s7.free Os) NK MJ (fin tr)
theorem iP:OKQ T.X41 P w base 3 (spMx Ent bE):=FnOk.imp (LO T) λvs H Q E h=>by
 obtain⟨v,u,x,y,rfl,hv,hu,sx,sy,hB,kk⟩:=h;obtain⟨t,p,rfl,ht,hp⟩:=jT hv;obtain⟨t2,q,rfl,ht2,hq⟩:=jT hu;exact⟨t,t2,p,q,x.1,y.1,x.2,y.2,rfl,ht,hp,ht2,hq,sx.1,sy.1,sx.2.1,sx.2.2,sy.2.1,sy.2.2,hB,λt' l' lo zs H' s' Os NK MJ e=>kk _ H' s' (by rw[show bE x y=(lo,zs) from e.symm];exact jU NK MJ)⟩
theorem mz:OKQ T.X40 P w base 3 (spMx (λ_=>True) aP):=FnOk.imp (LP T) λvs H Q E h=>by
 obtain⟨v,u,x,y,rfl,hv,hu,sx,sy,hB,kk⟩:=h;obtain⟨t,p,rfl,ht,hp⟩:=jT hv;obtain⟨t2,q,rfl,ht2,hq⟩:=jT hu;exact⟨t,t2,p,q,x.1,y.1,x.2,y.2,rfl,ht,hp,ht2,hq,sx.1,sy.1,sx.2.1,sx.2.2,sy.2.1,sy.2.2,hB,λt' l' lo zs H' s' Os NK MJ e=>kk _ H' s' (by rw[show aP x y=(lo,zs) from e.symm];exact jU NK MJ)⟩
theorem yK:OKQ T.X44 P w base 3 spStS:=FnOk.imp (LN T) λvs H Q E h=>by
 obtain⟨n,rfl,h1,h2,kk⟩:=h;exact⟨n,rfl,h1,h2,λt' l' lo zs H' s' Os NK MJ e=>kk _ H' s' (by obtain⟨e1,e2⟩:=e;subst e1 e2;exact jU (s:=cz n) NK MJ)⟩
theorem eP:OKQ T.X59 P w base 3 spOf:=by
 refine FbO T.X59 Iq λ_ _ _ _ H vs Q E hr h=> ?_;obtain⟨n,rfl,kk⟩:=h;refine⟨_,(ai (am (pcq (gL T) hr T.X39 (ab ag (ab (aV (ab (pv 0) ae)) ae))))), ?_⟩;refine⟨_,rfl,(zB rfl),λl H1 nl s1 hl=> ?_⟩;refine⟨0,l,[n],rfl,SqL.of hl,by simp,λt' l' lo zs H' s' Os NK MJ tr=>kk _ H' (s1.trans s') ?_⟩;rw[show ofN n=(lo,zs) from tr.toC.symm];exact jU NK MJ
theorem yL (h1:1<=n) (h2:n<=50):Sms (cz n):=by
 have h:=lY h1;unfold Sup at h;unfold Sms;lia
theorem yM:OKQ T.X60 P w base 4 spStr:=by
 refine FbO T.X60 lp λ_ _ _ _ H vs Q E hr h=> ?_;obtain⟨v,ws,rfl,hv,hB,kk⟩:=h;refine⟨_,(aj (pSA (i:=1) lp.nd (pcq (eP T) hr T.X59 (ab ag ae)))
  (aj (aN AN rfl (bm (pv 0)) (pGA (i:=2) lp.nd) (ai (pSA (i:=1) lp.nd (pcq (iP T) hr T.X41 (ab (pv 1) (ab (pcq (yK T) hr T.X44 (ab (pv 2) ae)) ae))))))
  (ai (am (pv 1))))), ?_⟩
 refine⟨1,rfl,λv1 H1 s1 NO=> ?_⟩;obtain⟨la,Mr,rfl,hl,MP⟩:=aA hv;obtain rfl:=gX MP;have M6:=s1 _ _ hl;refine⟨_,rfl,la,rfl,⟨_,SqL.of M6⟩,bO (xs:=ws.map V.int) (λi σ H2=>(∃vp v2,σ=[some (.ref la),some vp,v2]/\Is H2 (shD ((ws.take i).foldl (λt w=>bE t (cz w.toNat)) (ofN 1))) vp)/\af H1 H2) ⟨⟨v1,none,rfl,NO⟩,af.refl _⟩ (λi σ H2 _ h=>SqL.of (h.2 _ _ M6)) ?_ ?_⟩
 .rintro i y σ H2 hi ⟨⟨vp,v2,rfl,hvp⟩,s2⟩;rw[AC] at hi;obtain⟨wt,hw,rfl⟩:=A8.mp hi;obtain⟨c1,c2,c3⟩:=xu hB i wt hw;have c1:=eO c1;obtain⟨n,rfl⟩:=B7 (show 0<=wt by lia);refine⟨_,rfl,_,rfl,n,rfl,by lia,by lia,λvt H3 s3 Nl=> ?_⟩;refine⟨vp,vt,_,_,rfl,hvp.mono s3,Nl,c1.1,yL (by lia) (by lia),c1.2,λvm H4 s4 PR=> ?_⟩;refine⟨⟨vm,_,rfl, ?_⟩,(s2.trans s3).trans s4⟩;rw[iE hw];exact PR
 .rintro σ H2 ⟨⟨vp,v2,rfl,hvp⟩,s2⟩;rw[A1,AS] at hvp;exact⟨_,rfl,kk vp H2 (s1.trans s2) hvp⟩
theorem qS:∀n:Nat,FnOk P w K mg base CX0 (n+5) T.f61 T.d61 ["d","way","side","known"] (spWSh P w n)
 |0=>⟨λvs H Q E h=>(by obtain⟨_,_,_,_,_,_,_,_,_,SD,_,_,ok,h,_⟩:=h;have:=(SD.lo _ ok).1;lia),λA outer s H args us vs Q E _ _ _ _ h=>(by obtain⟨_,_,_,_,_,_,_,_,_,SD,_,_,ok,h,_⟩:=h;have:=(SD.lo _ ok).1;lia)⟩
 |n+1=>by
  have ih:=qS n;refine T.X61.F.ok io (λvs H Q E h=> ?_) (λMy A outer s H vs Q E hr h=> ?_)
  .obtain⟨_,_,_,_,_,_,_,_,rfl,_⟩:=h;rfl
  .obtain⟨d,v,kn,ps,Mc,sg,e0,mu,rfl,SD,d4,hv,ok,hn,hD,hK,kk⟩:=h;refine⟨_,(aj (pSA (i:=4) io.nd (dR fz (by rfl) T.n_tuple De (ab (pv 1) ae)))
   (aj (aU (j0 (vd (cu hr) (pv 4) (pv 3)) rfl) (aj (pSA (i:=5) io.nd (pcq (eP T) hr T.X59 (ab ag ae) (by lia)))
   (aj (aN AN rfl (bm (pcq (yD T) hr T.X51 (ab (pv 0) (ab (pv 1) (ab (pv 2) ae))) (by lia))) (bZ rfl (aO (pGA (i:=6) io.nd) (aO (pGA (i:=7) io.nd) bS))) (ai (pSA (i:=5) io.nd (pcq (mz T) hr T.X40 (ab (pv 5) (ab (pcq (iP T) hr T.X41 (ab (pcq (yK T) hr T.X44 (ab (pcq (yE T) hr T.X52 (ab (pv 6) ae) (by lia)) ae) (by lia)) (ab (dQ ih hr (by rfl) T.X61.m T.X61.F.kp T.X61.B .nil dG (ab (pv 0) (ab (pv 7) (ab (pv 2) (ab (pv 3) ae))))) ae)) (by lia)) ae)) (by lia)))))
   (ai (vg (cu hr) (pv 3) (pv 4) (pv 5) rfl)))) aT)
   (ai (am (vc (cu hr) (pv 3) (pv 4) (λ_ _=>rfl)))))), ?_⟩
   refine⟨_,rfl,_,_,rfl,hv,λkey H1 nk s1 hk=> ?_⟩;have PM:Is H1 (nK (wk ps)) (.ref key):=iN hk;have N2:=hD.mono s1;have b1:But kn H H1:=But.of_same s1;have hK1:=hK.lts (bK hD b1);refine⟨_,rfl,_,rfl,kn,Mc,wk ps,rfl,N2,PM,_,rfl, ?_⟩;cases NH:aR Mc (wk ps) with
   |some u=>exact bh ⟨_,rfl,_,rfl,kn,Mc,wk ps,u,rfl,N2,PM,NH,kk Mc u H1 b1 N2 hK1 (hK1.2.2.1 _ _ NH)⟩
   |none=>
    refine cB ?_;refine⟨0,rfl,λv0 H1 s1' hv0=> ?_⟩;have s1:=s1.trans s1';have PM:=PM.mono s1';have N2:=hD.mono s1;have b1:But kn H H1:=But.of_same s1;have hK1:=hK.lts (bK hD b1);refine⟨_,rfl,_,rfl,_,rfl,d,v,ps,sg,rfl,hv.mono s1,xb d4 ok,SD.sd,λl0 H2 s2 Op Ni=> ?_⟩;have hS:∀x∈aW d ps sg,(ay d x.2/\mu x.2+pwF x.1<=mu ps/\1<=pwF x.1)/\(∀p∈x.1,inB p=true)/\(x.1.length=3\/x.1.length=4):=λx hx=>⟨SD.st ps x ok hx,x8 d4 ok hx⟩;have MF:ps≠e0:=λe=>by
     obtain⟨u,hu⟩:=hK.2.2.2;rw[<-e,NH] at hu;cases hu
    have hW:wS d sg e0 ps=(aW d ps sg).foldl (λt x=>aP t (bE (cz (pwF x.1).toNat) (wS d sg e0 x.2))) zer:=by rw[SD.eq ok,A5 MF]
    have mps:=SD.lo ps ok;generalize aW d ps sg=S at hS hW Ni;obtain⟨_,Mr,e,Oe,Of⟩:=aA Ni;cases e;have Mq:H2 l0=some (.lst Mr):=bN _ _ Oe;have MP:Iss H2 (S.map fO) Mr:=Of.mono bN;have ME:Mr.length=S.length:=by rw[MP.length,A1]
    have Og:=N2.mono s2;have hK2:=hK1.lts (bK N2 (But.of_same s2));have Oh:l0≠kn:=by
     obtain⟨_,_,xs,_,e⟩:=N2;rintro rfl;rw[e] at Op;cases Op
    have hsup:∀i,Sup 32 65 ((S.take i).foldl (λt x=>aP t (bE (cz (pwF x.1).toNat) (wS d sg e0 x.2))) zer):=λi=>by
     refine lZ (by lia) (by lia) (qx (by lia) (by lia)) λx hx=> ?_;obtain⟨⟨a1,a2,a3⟩,_⟩:=hS x (CY hx);obtain⟨wn,hw⟩:=B7 (show 0<=pwF x.1 by lia);have q0:=(SD.lo _ a1).1;rw[hw,Ae];exact(qw (by lia) (by lia) q0 (by lia) (lY (w:=wn) (by lia)) (SD.sup 33 a1 (by lia))).mono (by lia) (by lia)
    refine⟨l0,rfl,⟨_,SqL.of Mq⟩,bO (xs:=Mr) (λi σ H3=>(∃vt v6 v7,σ=[some (.int d),some v,some (.int sg),some (.ref kn),some (.ref key),some vt,v6,v7]/\Is H3 (shD ((S.take i).foldl (λt x=>aP t (bE (cz (pwF x.1).toNat) (wS d sg e0 x.2))) zer)) vt)/\But kn H2 H3/\∃MQ,DN P w H3 kn MQ/\KnS d e0 (wS d sg e0) H3 MQ) ⟨⟨v0,none,none,rfl,by rw[l6] at hv0;exact hv0.mono s2⟩,But.of_same (af.refl _),Mc,Og,hK2⟩ (λi σ H3 _ h=>SqL.of (h.2.1 _ _ Mq Oh)) ?_ ?_⟩
    .rintro i y σ H3 hi ⟨⟨vt,v6,v7,rfl,Nl⟩,Mp,Oj,MR,Nj⟩;obtain⟨x,Mm,hy⟩:=bD MP hi;obtain⟨⟨x1,x2,x5⟩,x3,x4⟩:=hS x (AU Mm);have QY:Is H3 (fO x) y:=hy.lts (bK Og Mp);obtain⟨t,tvs,rfl,ht,MW⟩:=bB QY;obtain⟨u1,us,rfl,MH,MW⟩:=aI MW;obtain⟨u2,us,rfl,MY,MW⟩:=aI MW;rw[bn MW] at ht;have sup1:=hsup i;have sup2:=hsup (i+1);rw[iE Mm] at sup2;have mx:=SD.lo _ x1;refine⟨t,_,rfl,SqT.of ht,rfl,_,_,rfl,_,_,rfl,rfl, ?_⟩;obtain⟨wn,hw⟩:=B7 (show 0<=pwF x.1 by lia);refine⟨_,rfl,_,rfl,u1,x.1,rfl,MH,x3,x4, ?_⟩;rw[hw];refine⟨wn,rfl,by lia,by lia,λvs1 H4 s4 hvs1=> ?_⟩;have b4:But kn H3 H4:=But.of_same s4;refine⟨_,rfl,_,rfl,_,rfl,_,rfl,d,u2,kn,x.2,Oj,sg,e0,mu,rfl,SD,d4,MY.mono s4,x1,by lia,MR.mono s4,Nj.lts (bK MR b4),λkvs5 vw H5 Ox hD5 hK5 hvw=> ?_⟩;have l45:=bK (MR.mono s4) Ox;have sm1:Sms (cz wn):=yL (by lia) (by lia);refine⟨vs1,vw,_,_,rfl,hvs1.lts l45,hvw,sm1,(SD.sup' x1).sms (by lia) (by lia),λz hz=> ?_,λvm H6 s6 PR=> ?_⟩
     .have:=JH z hz;lia
     refine⟨vt,vm,_,_,rfl,((Nl.mono s4).lts l45).mono s6,PR,sup1.sms (by lia) (by lia), ?_,trivial,λva H7 s7 Re=> ?_⟩
     .have q0:=(SD.lo _ x1).1;exact(qw (by lia) (by lia) q0 (by lia) (lY (w:=wn) (by lia)) (SD.sup 33 x1 (by lia))).sms (by lia) (by lia)
     refine⟨⟨va,_,_,rfl, ?_⟩,((Mp.trans b4).trans Ox).trans (But.of_same (s6.trans s7)),kvs5,hD5.mono (s6.trans s7),hK5.lts (bK hD5 (But.of_same (s6.trans s7)))⟩;rw[iE Mm,hw];exact Re
    .rintro σ H3 ⟨⟨vt,v6,v7,rfl,Nl⟩,Mp,Oj,MR,Nj⟩;rw[ME,AS,<-hW] at Nl;have Nk:But kn H H3:=(But.of_same (s1.trans s2)).trans Mp;have Pf:Is H3 (nK (wk ps)) (.ref key):=(PM.mono s2).lts (bK Og Mp);have Nz:=Nj.len d4;refine⟨_,rfl,_,rfl,_,rfl,kn,Oj,wk ps,rfl,MR,Pf,by rw[Av];lia,λH4 Nv k4=> ?_⟩;have MK:But kn H3 H4:=λc o e n=>by rw[k4 c n];exact e
     have PU:=bK MR MK;have hk4:=Pf.lts PU;exact⟨_,rfl,_,rfl,kn,_,wk ps,vt,rfl,Nv,hk4,by rw[iX,A6 rfl],kk _ vt H4 (Nk.trans MK) Nv ((Nj.lts PU).put ok (Nl.lts PU)) (Nl.lts PU)⟩
theorem LQ:OKQ T.X62 P w base 46 spSWQ:=by
 refine FbO T.X62 ip λ_ _ _ _ H vs Q E hr h=> ?_;obtain⟨d,k,rfl,hN,kk⟩:=h;refine⟨_,(aj (aX (pcq (qL T) hr T.X2 (ab (pv 0) (ab (pv 1) ae))))
  (aj (pSA (i:=2) ip.nd (kM (cu hr) (dR fz (by rfl) T.n_tuple De (ab (pcq (yA T) hr T.X48 (ab (pv 0) ae)) ae)) (pcq (eP T) hr T.X59 (ab ag ae))))
  (aj (pSA (i:=3) ip.nd (kM (cu hr) (dR fz (by rfl) T.n_tuple De (ab (pcq (yB T) hr T.X49 (ab (pv 0) ae)) ae)) (pcq (eP T) hr T.X59 (ab ag ae))))
  (aj (pSA (i:=4) ip.nd (pcq (eP T) hr T.X59 (ab ag ae)))
  (aj (aN AN rfl (bm (pcq (yI T) hr T.X54 (ab (pv 0) (ab (pv 1) ae)))) (pGA (i:=5) ip.nd) (ai (pSA (i:=4) ip.nd (pcq (mz T) hr T.X40 (ab (pv 4) (ab (pcq (iP T) hr T.X41 (ab (pcq (qS T 40) hr T.X61 (ab (pv 0) (ab (pv 5) (ab (gN (v:= .int (1)) (by rfl) T.m_LEFT ⟨_,rfl⟩) (ab (pv 2) ae))))) (ab (pcq (qS T 40) hr T.X61 (ab (pv 0) (ab (pv 5) (ab (gN (v:= .int (-1)) (by rfl) T.m_RIGHT ⟨_,rfl⟩) (ab (pv 3) ae))))) ae))) ae))))))
  (ai (am (pv 4)))))))), ?_⟩
 have d1:1<=d:=hN.1;have d4:d<=4:=by unfold dy at hN;lia
 refine⟨_,rfl,_,rfl,d,k,rfl,hN,λko H0 nko Q3 k0=> ?_⟩;refine⟨_,rfl,d,rfl,d1,by lia,λl H1 s1 nl hl=> ?_⟩;refine⟨_,_,rfl,hl,λkey H2 nk s2 hk=>⟨1,rfl,λv1 H3 s3 NO=>⟨((Q3.mono s1).mono s2).mono s3,wk (upE d),iN (hk.mono s3),λH4 Nv k4=> ?_⟩⟩⟩;have b4:But ko H3 H4:=λc o e n=>by rw[k4 c n];exact e
 have l4:=bK (((Q3.mono s1).mono s2).mono s3) b4;have hKo:KnS d (upE d) (wS d 1 (upE d)) H4 [(wk (upE d),v1)]:=KnS.one (jK d4).1 (by rw[(sdL d4).eq (jK d4).1,A6 rfl];exact NO.lts l4);have S4:∀c o,H c=some o->H4 c=some o:=λc o e=>by
  have n:c≠ko:=by rintro rfl;rw[nko] at e;cases e
  rw[k4 c n];exact s3 _ _ (s2 _ _ (s1 _ _ (by rw[k0 c n];exact e)))
 clear hl hk NO l4 b4 k4 Q3 k0;refine λku H5 PN hD5 k5=> ?_;refine⟨_,rfl,d,rfl,d1,by lia,λl H6 s6 nl hl=> ?_⟩;refine⟨_,_,rfl,hl,λkey H7 nk s7 hk=>⟨1,rfl,λv2 H8 s8 Oq=>⟨((hD5.mono s6).mono s7).mono s8,wk (loE d),iN (hk.mono s8),λH9 hD9 k9=> ?_⟩⟩⟩;have b9:But ku H8 H9:=λc o e n=>by rw[k9 c n];exact e
 have l9:=bK (((hD5.mono s6).mono s7).mono s8) b9;have hKu:KnS d (loE d) (wS d (-1) (loE d)) H9 [(wk (loE d),v2)]:=KnS.one (jM d4).1 (by rw[(sdR d4).eq (jM d4).1,A6 rfl];exact Oq.lts l9);have S9:af H4 H9:=λc o e=>by
  have n:c≠ku:=by rintro rfl;rw[PN] at e;cases e
  rw[k9 c n];exact s8 _ _ (s7 _ _ (s6 _ _ (by rw[k5 c n];exact e)))
 have PV:=Nv.mono S9;have hKo9:=hKo.lts (bK Nv (But.of_same S9));have kou:ko≠ku:=by
  obtain⟨_,_,xs,_,e⟩:=id Nv;rintro rfl;rw[e] at PN;cases PN
 have Q5:H ku=none:=by
  cases e:H ku with
  |none=>rfl
  |some o=>rw[S4 _ _ e] at PN;cases PN
 have S09:af H H9:=λc o e=>S9 _ _ (S4 _ _ e);clear hl hk Oq l9 b9 k9 hD5 k5 S4 S9;refine⟨0,rfl,λvz H10 Oc hvz=> ?_⟩;rw[l6] at hvz;obtain⟨⟨w1,w2,_⟩,g1,g2⟩:=mi hN;refine⟨_,rfl,_,rfl,d,k,rfl,hN,w1,λS l H3 pS s3 nl hl=> ?_⟩;have eN:S.foldl (λt w=>aP t (fm d w)) zer=v91 d k:=by rw[xI pS,g2]
 have eA:∀w∈S,ay d w/\jQ d w=true:=λw hw=>⟨w2 w (pS.mem_iff.mp hw),g1 w (pS.mem_iff.mp hw)⟩;clear w1 w2 g1 g2 pS;have wv:∀w∈S,smS (wS d 1 (upE d) w)=true/\gJ (fm d w)=true:=λw hw=>by
  have:=(eA w hw).2;unfold jQ at this;exact Bool.and_eq_true_iff.mp this
 have a1:=xJ (f:=fm d) λw hw=>(wv w hw).2;obtain⟨_,Mr,e,Nz,MP⟩:=aA hl;cases e;have ME:Mr.length=S.length:=by rw[MP.length,A1]
 have s93:=Oc.trans s3;have O8:=PV.mono s93;have O9:=hD9.mono s93;have hKo3:=hKo9.lts (bK PV (But.of_same s93));have hKu3:=hKu.lts (bK PV (But.of_same s93));have lko:l≠ko:=by
  obtain⟨_,_,xs,_,e⟩:=id (PV.mono Oc);rintro rfl;rw[e] at nl;cases nl
 have lku:l≠ku:=by
  obtain⟨_,_,xs,_,e⟩:=id (hD9.mono Oc);rintro rfl;rw[e] at nl;cases nl
 have MI:=S09.trans s93;refine⟨l,rfl,⟨_,SqL.of Nz⟩,bO (xs:=Mr) (λj σ H4=>(∃vt v5,σ=[some (.int d),some (.int k),some (.ref ko),some (.ref ku),some vt,v5]/\Is H4 (shD ((S.take j).foldl (λt w=>aP t (fm d w)) zer)) vt)/\qK ko ku H3 H4/\(∃Mc,DN P w H4 ko Mc/\KnS d (upE d) (wS d 1 (upE d)) H4 Mc)/\∃Mc,DN P w H4 ku Mc/\KnS d (loE d) (wS d (-1) (loE d)) H4 Mc) ⟨⟨vz,none,rfl,hvz.mono s3⟩,λc o e _ _=>e,⟨_,O8,hKo3⟩,_,O9,hKu3⟩ (λj σ H4 _ h=>SqL.of (h.2.1 _ _ Nz lko lku)) ?_ ?_⟩
 .rintro j y σ H4 hj ⟨⟨vt,v5,rfl,Nl⟩,b4,⟨Ro4,Oi,Q6⟩,Ru4,Q7,Q8⟩;obtain⟨ps,Mm,hy⟩:=bD MP hj;have hm:=AU Mm;have ok:=(eA ps hm).1;have a2:=eO (wv ps hm).1;have a3:Sms (fm d ps):=(qA (wv ps hm).2).sms (by lia) (by lia);have hy4:Is H4 (pts ps) y:=hy.lts (yJ O8 O9 b4);have m1:=(sdL d4).lo ps ok;have m2:=(sdR d4).lo ps ok;refine⟨_,rfl,_,rfl,_,rfl,_,rfl,d,y,ko,ps,Ro4,1,upE d,_,rfl,sdL d4,d4,hy4,ok,by lia,Oi,Q6,λRo5 vo H5 b5 Q9 Ra hvo=> ?_⟩;have Oz:DN P w H5 ku Ru4:=DN.but Q7 Oi b5 (DW kou);have l45:=bK Oi b5;have hy5:=hy4.lts l45;refine⟨_,rfl,_,rfl,_,rfl,d,y,ku,ps,Ru4,-1,loE d,_,rfl,sdR d4,d4,hy5,ok,by lia,Oz,Q8.lts l45,λRu6 vu H6 b6 PP Rb hvu=> ?_⟩;have l56:=bK Oz b6;have PQ:DN P w H6 ko Ro5:=DN.but Q9 Oz b6 kou;refine⟨vo,vu,_,_,rfl,hvo.lts l56,hvu,a2.1,((sdR d4).sup' ok).sms (by lia) (by lia),a2.2,λvm H7 s7 PR=> ?_⟩;refine⟨vt,vm,_,_,rfl,((Nl.lts l45).lts l56).mono s7,PR,a1 j,a3,trivial,λva H8 s8 Re=> ?_⟩;have s78:=s7.trans s8;refine⟨⟨va,_,rfl,by rw[iE Mm];exact Re⟩,λc o e n1 n2=>s78 _ _ (b6 _ _ (b5 _ _ (b4 c o e n1 n2) n1) n2),⟨Ro5,PQ.mono s78,(Ra.lts l56).lts (bK PQ (But.of_same s78))⟩,Ru6,PP.mono s78,Rb.lts (bK PP (But.of_same s78))⟩
 .rintro σ H4 ⟨⟨vt,v5,rfl,Nl⟩,b4,_,_⟩;rw[ME,AS,eN] at Nl;exact⟨_,rfl,kk vt H4 (λc o e=>b4 _ _ (MI _ _ e) (by rintro rfl;rw[nko] at e;cases e) (by rintro rfl;rw[Q5] at e;cases e)) Nl⟩
theorem LR:OKQ T.X63 P w base 12 spSFQ:=by
 refine FbO T.X63 jy λ_ _ _ _ H vs Q E hr h=> ?_;obtain⟨d,k,rfl,hW,kk⟩:=h;refine⟨_,(aj (aX (pcq (mr T) hr T.X3 (ab (pv 0) (ab (pv 1) ae))))
  (aj (pSA (i:=2) jy.nd (pcq (eP T) hr T.X59 (ab ag ae)))
  (aj (aN AN rfl (bm (pcq (ye T) hr T.X31 (ab (pv 0) (ab (pv 1) ae)))) (pGA (i:=3) jy.nd) (aj (mU (i:=4) jy.nd rfl (by trivial) (.inl rfl) (XN:=["d","k","total","drawing","weights"]) (sc:=al lq) (N:=["lift"]) (own:=1) (js:=[]) rfl (by ac_nf) rfl rfl (bm (pv 3)) (λ_ _ _ _=>(bV (i:=0) (show List.Nodup (["lift"]:Rl Str) by ac_nf) rfl (Or.inl rfl) (.inr rfl))) (dm (by decide)) (λ_ _ _ _=>cV) (λ_ _ _ _=>(ao aM (pv 0) ag (λ_ _=>rfl))))
  (ai (pSA (i:=2) jy.nd (pcq (mz T) hr T.X40 (ab (pv 2) (ab (pcq (iP T) hr T.X41 (ab (pcq (eP T) hr T.X59 (ab (pcq (yg T) hr T.X37 (ab (pv 0) (ab (pv 3) ae))) ae)) (ab (pcq (yM T) hr T.X60 (ab (ah dI (pv 4) (pv 4)) ae)) ae))) ae)))))))
  (ai (am (pv 2)))))), ?_⟩
 refine⟨_,rfl,_,rfl,d,k,rfl,hW, ?_⟩;have d15:1<=d/\d<=5:=by unfold Wide at hW;lia
 refine⟨0,rfl,λvz H1 s1 hvz=> ?_⟩;rw[l6] at hvz;obtain⟨w1,g4'⟩:=xK hW;obtain⟨_,_,_,g2⟩:=qC hW;refine⟨_,rfl,_,rfl,d,k,rfl,hW,w1,λS l H2 pS s2 nl hl=> ?_⟩;have hl:=hl.mono bN;have eN:S.foldl (λt x=>aP t (fk d x)) zer=v91 d k:=by rw[xI pS,g2]
 have eA:∀x∈S,(gC d x=true/\mkB d x=true)/\(gI (gH x) (ofN 1)=true/\smS (iD (gH x))=true)/\smS (ofN (hmD d x))=true/\gJ (fk d x)=true:=λx hx=>by
  obtain⟨a,b⟩:=g4' x (pS.mem_iff.mp hx);unfold qB at b;simp only[AA] at b;exact⟨a,b.1.1,b.1.2,b.2⟩
 clear w1 g4' g2 pS;have a1:=xJ (f:=fk d) λx hx=>(eA x hx).2.2.2;obtain⟨_,Mr,e,Mq,MP⟩:=aA hl;cases e;have ME:Mr.length=S.length:=by rw[MP.length,A1]
 refine⟨l,rfl,⟨_,SqL.of Mq⟩,bO (xs:=Mr) (λj σ H3=>(∃vt v3 v4,σ=[some (.int d),some (.int k),some vt,v3,v4]/\Is H3 (shD ((S.take j).foldl (λt x=>aP t (fk d x)) zer)) vt)/\af H2 H3) ⟨⟨vz,none,none,rfl,hvz.mono s2⟩,af.refl _⟩ (λj σ H3 _ h=>SqL.of (h.2 _ _ Mq)) ?_ ?_⟩
 .rintro j y σ H3 hj ⟨⟨vt,v3,v4,rfl,Nl⟩,s3⟩;obtain⟨x,Mm,hy⟩:=bD MP hj;obtain⟨⟨o1,o2⟩,⟨a2,a3⟩,a4,a5⟩:=eA x (AU Mm);have a3:=eO a3;have a4:=eO a4;have a5:Sms (fk d x):=(qA a5).sms (by lia) (by lia);obtain⟨o1,_,x20,_,_⟩:=wC o1;have OR:=hy.mono s3;obtain⟨ya,yvs,rfl,PH,hyi⟩:=aA OR;have PJ:yvs.length=x.length:=by rw[hyi.length,A1]
  refine⟨_,rfl,ya,rfl,⟨_,SqL.of PH⟩,λacc na=> ?_⟩;refine fy (xs:=yvs) (own:=1) (js:=[]) (λi H4=>af H3 H4/\H4 acc=some (.lst ((wsX (x.take i)).map V.int))) ⟨af.new na,ak⟩ (λi H4 _ h=>SqL.of (h.1 _ _ PH)) ?_ ?_ dq cW ?_
  .rintro i z H4 hi ⟨s4,Mf⟩;obtain⟨p,M4,hz⟩:=bD hyi hi;have Qa:i<x.length:=(AF.mp M4).1;have hz4:=hz.mono s4;refine dW ?_;refine⟨_,rfl,_,2,_,hz4,rfl,rfl,λu hu=> ?_⟩;rw[az hu];refine⟨acc,_,_,rfl,rfl,Mf,aF (by unfold wsX;simp;lia),s4.put na, ?_⟩;rw[ak];unfold wsX;rw[AW,M4,A7,A7];rfl
  .rintro H4 ⟨s4,Mf⟩;rw[PJ,AS] at Mf;have hyL:Is H4 (lfs x) (.ref ya):=OR.mono s4;refine⟨_,rfl,_,rfl,_,rfl,d,_,x,rfl,d15.1,d15.2,hyL,o1,o2,λH5 s5=> ?_⟩;refine⟨hmD d x,rfl,λvn H6 s6 hvn=> ?_⟩;have N3:=s6 _ _ (s5 _ _ Mf);refine⟨_,rfl,_,rfl,_,_,aD N3 (fA (wsX x)),aD N3 (fA (wsX x)),AZ (aF (by unfold wsX;simp;lia)),λq H7 nq s7 hq=> ?_⟩;refine⟨.ref q,gH x,rfl, ?_,a2,λvs H8 s8 MU=> ?_⟩
   .unfold gH;rw[A7];exact hq
   refine⟨vn,vs,_,_,rfl,(hvn.mono s7).mono s8,MU,a4.1,a3.1,a4.2,λvm H9 s9 PR=> ?_⟩;have s49:=((((s5.trans s6).trans s7).trans s8).trans s9);refine⟨vt,vm,_,_,rfl,(Nl.mono s4).mono s49,PR,a1 j,a5,trivial,λva Ha sa Re=> ?_⟩;exact⟨⟨va,_,_,rfl,by rw[iE Mm];exact Re⟩,((s3.trans s4).trans s49).trans sa⟩
  .rintro σ H R R' k' ⟨v1,e1,xs,i,dd,h1,e2,e3,h⟩;exact⟨v1,e1,xs,i,dd,h1,e2,e3,λu hu=>k' _ _ (h u hu)⟩
 .rintro σ H3 ⟨⟨vt,v3,v4,rfl,Nl⟩,s3⟩;rw[ME,AS,eN] at Nl;exact⟨_,rfl,kk vt H3 ((s1.trans s2).trans s3) Nl⟩
theorem yN:∀n:Nat,FnOk P w K mg base CX0 (n+13) T.f64 T.d64 ["asked","known"] (spESh P w n)
 |0=>⟨λvs H Q E h=>(by obtain⟨_,_,_,_,_,_,_,a,_,h,_⟩:=h;have:=a.mu;lia),λA outer s H args us vs Q E _ _ _ _ h=>(by obtain⟨_,_,_,_,_,_,_,a,_,h,_⟩:=h;have:=a.mu;lia)⟩
 |n+1=>by
  have ih:=yN n;refine T.X64.F.ok gu (λvs H Q E h=> ?_) (λMy A outer s H vs Q E hr h=> ?_)
  .obtain⟨_,_,_,_,_,rfl,_⟩:=h;rfl
  .obtain⟨v,kn,q,L,Mc,rfl,hv,aq,hkL,hn,hD,hK,kk⟩:=h;refine⟨_,(aj (aU (dB (aQ cN (ao aM (pv 0) ag (λ_ _=>rfl)) ag (aE _)) (eS (aQ fX (ao aM (pv 0) ag (λ_ _=>rfl)) ag (aE _)))).pt (ai (am (pcq (eP T) hr T.X59 (ab (rj (aQ cN (ao aM (pv 0) ag (λ_ _=>rfl)) ag (aE _)) ag ag) ae) (by lia)))) aT)
   (aj (aU (j0 (vj (cu hr) (pv 0) (pv 1)) rfl) (aj (pSA (i:=2) gu.nd (pcq (eP T) hr T.X59 (ab ag ae) (by lia)))
   (aj (aN AN rfl (bm (pcq (yu T) hr T.X21 (ab (pv 0) ae) (by lia))) (bZ rfl (aO (pGA (i:=3) gu.nd) (aO (pGA (i:=4) gu.nd) (aO (pGA (i:=5) gu.nd) bS)))) (aj (pSA (i:=6) gu.nd (pcq (iP T) hr T.X41 (ab (pcq (eP T) hr T.X59 (ab (pv 3) ae) (by lia)) (ab (pcq (yM T) hr T.X60 (ab (pv 4) ae) (by lia)) ae)) (by lia)))
   (ai (pSA (i:=2) gu.nd (pcq (mz T) hr T.X40 (ab (pv 2) (ab (pcq (iP T) hr T.X41 (ab (pv 6) (ab (dQ ih hr (by rfl) T.X64.m T.X64.F.kp T.X64.B .nil dG (ab (pv 5) (ab (pv 1) ae))) ae)) (by lia)) ae)) (by lia))))))
   (ai (vk (cu hr) (pv 1) (pv 0) (pv 2) rfl)))) aT)
   (ai (am (vi (cu hr) (pv 1) (pv 0) (λ_ _=>rfl)))))), ?_⟩
   refine⟨_,rfl,_,0,_,hv,rfl,rfl,λu1 k1=> ?_⟩;rw[az k1];refine⟨rfl,_,rfl,cP (λh1=> ?br1) (λh1=>⟨_,rfl,_,1,_,hv,rfl,rfl,λu2 k2=> ?_⟩)⟩
   rotate_left 1
   rw[az k2];refine⟨_,_,rfl,rfl,_,rfl,bH (λhz=> ?br2) (λhz=> ?_)⟩;case br1|br2=>
    have hE:q.d=1\/q.k<0:=by first|exact .inl h1|exact .inr hz
    refine⟨_,rfl,_,1,_,hv,rfl,rfl,λu3 k3=> ?_⟩;rw[az k3];refine⟨rfl,_,rfl,cP (λh2=> ?_) (λh2=> ?_)⟩
    .refine⟨1,rfl,λv' H' s' Qy=>kk Mc v' H' (But.of_same s') (hD.mono s') (hK.lts (dh hD (But.of_same s'))) ?_⟩;rw[qy hE,A6 h2];exact Qy
    .refine⟨0,rfl,λv' H' s' Qy=>kk Mc v' H' (But.of_same s') (hD.mono s') (hK.lts (dh hD (But.of_same s'))) ?_⟩;rw[qy hE,A5 h2];exact Qy
   have hz:¬q.k<0:=hz;have h1:¬q.d=1:=h1;have d2:2<=q.d:=by have:=aq.d1;lia
   have hk:=iK hv;refine⟨_,rfl,_,rfl,kn,Mc,kq q,rfl,hD,hk,_,rfl, ?_⟩;cases NH:aR Mc (kq q) with
   |some u=>exact bh ⟨_,rfl,_,rfl,kn,Mc,kq q,u,rfl,hD,hk,NH,kk Mc u H (But.of_same (af.refl _)) hD hK (hK.2.2 _ _ NH)⟩
   |none=>
    refine cB ?_;refine⟨0,rfl,λv0 H1 s1 hv0=> ?_⟩;rw[l6] at hv0;have N2:=hD.mono s1;have hK1:=hK.lts (dh hD (But.of_same s1));have NO:=hv.mono s1;refine⟨_,rfl,v,q,L,rfl,NO,aq,d2,λl0 H2 s2 Op Ni=> ?_⟩;have hS:∀x∈ci q,AskOk L x.2.2/\muF x.2.2+1<=muF q/\x.2.2.k<=KL L:=λx hx=>⟨(aq.less d2 hx).1,(aq.less d2 hx).2,Int.le_trans (Kx aq d2 hx) hkL⟩;have hW:=xB aq (by lia);have hA:=xE (xL aq d2 (by lia) hkL).1;generalize ci q=S at hS hW Ni hA;obtain⟨_,Mr,e,Oe,Of⟩:=aA Ni;cases e;have Mq:H2 l0=some (.lst Mr):=bN _ _ Oe;have MP:Iss H2 (S.map smD) Mr:=Of.mono bN;have ME:Mr.length=S.length:=by rw[MP.length,A1]
    have Og:=N2.mono s2;have hK2:=hK1.lts (dh N2 (But.of_same s2));have Oh:l0≠kn:=by
     obtain⟨_,_,xs,_,e⟩:=id N2;rintro rfl;rw[e] at Op;cases Op
    refine⟨l0,rfl,⟨_,SqL.of Mq⟩,bO (xs:=Mr) (λi σ H3=>(∃vt v3 v4 v5 v6,σ=[some v,some (.ref kn),some vt,v3,v4,v5,v6]/\Is H3 (shD ((S.take i).foldl (λt x=>aP t (bE (sOn x) (sF x.2.2))) zer)) vt)/\But kn H2 H3/\∃MQ,DM P w H3 kn MQ/\KnE L H3 MQ) ⟨⟨v0,none,none,none,none,rfl,hv0.mono s2⟩,But.of_same (af.refl _),Mc,Og,hK2⟩ (λi σ H3 _ h=>SqL.of (h.2.1 _ _ Mq Oh)) ?_ ?_⟩
    .rintro i y σ H3 hi ⟨⟨vt,v3,v4,v5,v6,rfl,Nl⟩,Mp,Oj,MR,Nj⟩;obtain⟨x,Mm,hy⟩:=bD MP hi;obtain⟨x1,x2,x3⟩:=hS x (AU Mm);have c:=hA i x Mm;unfold jP at c;simp only[AA] at c;obtain⟨⟨⟨⟨⟨⟨c1,c2⟩,c3⟩,c4⟩,c5⟩,c6⟩,c7⟩:=c;have c1:=eO c1;have c3:=eO c3;have c4:=eO c4;have c5:=eO c5;have c6:=eO c6;have c7:=eO c7;have QY:Is H3 (smD x) y:=hy.lts (dh Og Mp);obtain⟨t,tvs,rfl,ht,MW⟩:=bB QY;obtain⟨u1,us,rfl,MH,MW⟩:=aI MW;obtain⟨u2,us,rfl,MY,MW⟩:=aI MW;obtain⟨u3,us,rfl,QQ,MW⟩:=aI MW;rw[bn MW,az MH] at ht;refine⟨t,_,rfl,SqT.of ht,rfl,_,_,rfl,_,_,rfl,_,_,rfl,rfl, ?_⟩;refine⟨_,rfl,x.1,rfl,λvn H4 s4 hvn=> ?_⟩;refine⟨_,rfl,u2,x.2.1,rfl,MY.mono s4,c2,λvs H5 s5 MU=> ?_⟩;refine⟨vn,vs,_,_,rfl,hvn.mono s5,MU,c4.1,c3.1,c4.2,λvf H6 s6 hvf=> ?_⟩;have s36:=(s4.trans s5).trans s6;have b6:But kn H3 H6:=But.of_same s36;refine⟨_,rfl,_,rfl,_,rfl,_,rfl,u3,kn,x.2.2,L,Oj,rfl,QQ.mono s36,x1,x3,by lia,MR.mono s36,Nj.lts (dh MR b6),λkvs7 vw H7 O3 hD7 hK7 hvw=> ?_⟩;have l67:=dh (MR.mono s36) O3;refine⟨vf,vw,_,_,rfl,hvf.lts l67,hvw,c5.1,c6.1,c5.2,λvm H8 s8 PR=> ?_⟩;refine⟨vt,vm,_,_,rfl,((Nl.mono s36).lts l67).mono s8,PR,c1.1,c7.1,trivial,λva H9 s9 Re=> ?_⟩;have PF:=s8.trans s9;refine⟨⟨va,_,_,_,_,rfl, ?_⟩,((Mp.trans b6).trans O3).trans (But.of_same PF),kvs7,hD7.mono PF,hK7.lts (dh hD7 (But.of_same PF))⟩;rw[iE Mm];exact Re
    .rintro σ H3 ⟨⟨vt,v3,v4,v5,v6,rfl,Nl⟩,Mp,Oj,MR,Nj⟩;rw[ME,AS,<-hW] at Nl;have Nk:But kn H H3:=(But.of_same (s1.trans s2)).trans Mp;have hv3:Is H3 (qD q) v:=(NO.mono s2).lts (dh Og Mp);have Nz:=Nj.len aq.L5;refine⟨_,rfl,_,rfl,_,rfl,kn,Oj,kq q,rfl,MR,iK hv3,by rw[Av];lia,λH4 Nv k4=> ?_⟩;have MK:But kn H3 H4:=λc o e n=>by rw[k4 c n];exact e
     have PU:=dh MR MK;have hv4:=hv3.lts PU;exact⟨_,rfl,_,rfl,kn,_,kq q,vt,rfl,Nv,iK hv4,by rw[iX,A6 rfl],kk _ vt H4 (Nk.trans MK) Nv ((Nj.lts PU).put aq (by lia) (Nl.lts PU)) (Nl.lts PU)⟩
theorem LS:OKQ T.X65 P w base 54 spSE:=by
 refine FbO T.X65 Ir λ_ _ _ _ H vs Q E hr h=> ?_;obtain⟨d,k,v1,v2,a,b,rfl,hw,h1,h2,ra,rb,e,la,lb,kk⟩:=h;refine⟨_,(ai (am (pcq (yN T 40) hr T.X64 (ab (pcq (yz T) hr T.X23 (ab (pv 0) (ab (pv 1) (ab (pv 2) (ab (pv 3) ae))))) (ab vq ae))))), ?_⟩;have aq:=qQ hw ra rb e la lb;refine⟨_,rfl,_,rfl,_,rfl,_,rfl,d,k,v1,v2,a,b,rfl,hw,h1,h2,ra,rb,e,la,lb,λu H1 s1 hu=> ?_⟩;intro kn H2 O7 hD k2;have s2:af H1 H2:=λb o e=>by rw[k2 b (by rintro rfl;rw[O7] at e;cases e)];exact e
 have QZ:H kn=none:=s1.free O7;refine⟨u,kn,_,d,[],rfl,hu.mono s2,aq,by unfold Wide at hw;show(k:Int)<=KL d;unfold KL;split<;>lia,by have:=aq.mu;lia,hD,⟨by simp,(λx hx=>nomatch hx),λq v e=>nomatch e⟩,λMQ v' H3 Mp MR Nj Qy=>kk v' H3 ?_ Qy⟩
 exact But.same (s1.trans s2) QZ Mp
def fq (k n:Nat):Rl (Rl Int):=(List.range n).map λa:Nat=>[((a+1:Nat):Int),(k:Int)]
def ft (i:Nat):Rl (Rl Int):=(List.range i).flatMap λk=>fq k 4
theorem LU (k n:Nat):fq k (n+1)=fq k n++[[((n+1:Nat):Int),(k:Int)]]:=by unfold fq;rw[Az,A7];rfl
theorem yO (i:Nat):ft (i+1)=ft i++fq i 4:=by unfold ft;rw[Az,BI];simp
theorem yP (k n:Nat):(fq k n).length=n:=by unfold fq;simp
theorem qT:∀i:Nat,(ft i).length=4*i
 |0=>rfl
 |i+1=>by rw[yO,AE,yP,qT i];lia
def Prs (H:Hp) (l:Rg) (xs:Rl (Rl Int)):Prop:=∃vs,H l=some (.lst vs)/\Iss H (xs.map tI) vs
theorem Prs.add {t:Rg}{xs:Rl (Rl Int)}{x:Rl Int} (g:Prs H l xs) (s:af H H2) (nt:H t=none) (ht:H2 t=some (.tup (x.map V.int))):∃vs,H2 l=some (.lst vs)/\vs.length=xs.length/\Prs (upd H2 l (.lst (vs++[.ref t]))) l (xs++[x]):=by
 obtain⟨vs,hl,hi⟩:=g;have tl:t≠l:=by rintro rfl;rw[hl] at nt;cases nt
 refine⟨vs,s _ _ hl,by rw[hi.length,A1],_,ak, ?_⟩;rw[A7];refine Iss.append ?_ (au (dY (by rw[aw tl];exact ht)) ax);have go:∀{xs:Rl (Rl Int)}{vs:Rl V},Iss H (xs.map tI) vs->Iss (upd H2 l (.lst (vs++[.ref t]))) (xs.map tI) vs->True:=λ_ _=>trivial;have mono:∀{ys:Rl (Rl Int)}{us:Rl V}{H':Hp},(∀b zs,H b=some (.tup zs)->H' b=some (.tup zs))->Iss H (ys.map tI) us->Iss H' (ys.map tI) us:=by
  intro ys;induction ys with
  |nil=>intro us H' _ h;rw[bn h];exact ax
  |cons y ys ih=>
   intro us H' k h;obtain⟨u,us,rfl,q,r⟩:=aI h;obtain⟨a,rfl,ha⟩:=bL q;exact au (dY (k _ _ ha)) (ih k r)
 exact mono (λb zs e=>by rw[aw (by rintro rfl;rw[hl] at e;cases e)];exact s _ _ e) hi
def fP (n:Nat):Rl (Rl Int):=(List.range n).map λa:Nat=>[5,(a:Int)]
theorem LV (n:Nat):fP (n+1)=fP n++[[5,(n:Int)]]:=by unfold fP;rw[Az,A7];rfl
theorem LW (n:Nat):(fP n).length=n:=by unfold fP;simp
def nT9:Rl (Nat×Nat):=((List.range 7).flatMap λk=>[(1,k),(2,k),(3,k),(4,k)])++[(5,0),(5,1),(5,2),(5,3)]
theorem LX:ft 7++fP 4=nT9.map λx=>[(x.1:Int),(x.2:Int)]:=by decide
theorem LY:nT9.length=32:=by decide
theorem LZ:∀x∈nT9,Wide x.1 x.2:=by
 unfold Wide;decide
def L0:Sp:=λvs H Q _=>vs=[]/\∀l H',af H H'->H l=none->Is H' (.l ((nT9.map λx=>[(x.1:Int),(x.2:Int)]).map tI)) (.ref l)->Q (.ref l) H'
theorem L4:OKQ T.X68 P w base 1 L0:=by
 refine FbO T.X68 jA λ_ _ _ _ H vs Q E hr h=> ?_;obtain⟨rfl,kk⟩:=h;refine⟨_,(aj (pSA (i:=0) jA.nd (aV ae))
  (aj (aN AN rfl (eU (by rfl) T.n_range (ab ag ae)) (pGA (i:=1) jA.nd) (ai (aN AN rfl (fU (by rfl) T.n_range (ab ag (ab ag ae))) (pGA (i:=2) jA.nd) (ai (aX (cq Af BE BD dF (pv 0) (ab (bC (ab (pv 2) (ab (pv 1) ae))) ae)))))))
  (aj (aN AN rfl (eU (by rfl) T.n_range (ab ag ae)) (pGA (i:=1) jA.nd) (ai (aX (cq Af BE BD dF (pv 0) (ab (bC (ab ag (ab (pv 1) ae))) ae)))))
  (ai (am (pv 0)))))), ?_⟩
 refine⟨AO _,λl H5 nlH s04 OF=> ?_⟩;have g0:Prs H5 l (ft 0):=⟨_,OF,ax⟩;clear OF;refine⟨7,rfl,by decide,by decide,dC (lo:=0) (n:=7) (λi σ H2=>(∃v1 v2,σ=[some (.ref l),v1,v2])/\af H H2/\Prs H2 l (ft i)) ⟨⟨none,none,rfl⟩,s04,g0⟩ ?_ ?_⟩
 .rintro i σ H2 hi ⟨⟨v1,v2,rfl⟩,s2,g2⟩;rw[show(0:Int)+(i:Int)=(i:Int) by lia];refine⟨1,_,rfl,⟨by decide,by decide,by decide,by decide⟩, ?_⟩;rw[show((5:Int)-1).toNat=4 from rfl];refine dC (lo:=1) (n:=4) (λj σ H3=>(∃v2,σ=[some (.ref l),some (.int (i:Int)),v2])/\af H H3/\Prs H3 l (ft i++fq i j)) ⟨⟨_,rfl⟩,s2,by simpa[fq] using g2⟩ ?_ ?_
  .rintro j σ H3 hj ⟨⟨v2,rfl⟩,s3,g3⟩;obtain⟨vs0,Ni,_⟩:=id g3;rw[show(1:Int)+(j:Int)=((j+1:Nat):Int) by lia];refine⟨_,rfl, .inl ⟨rfl,_,SqL.of Ni⟩,_,rfl,_,rfl,(zB rfl),λt H4 nt s4 ht=> ?_⟩;obtain⟨vs,Qj,hvl,g4⟩:=g3.add s4 nt (x:=[((j+1:Nat):Int),(i:Int)]) ht;refine⟨l,vs,_,rfl,rfl,Qj,aF (by rw[hvl,AE,qT,yP];lia),⟨_,rfl⟩,(s3.trans s4).put nlH, ?_⟩;rw[LU i j,<-BG];exact g4
  .rintro σ H3 ⟨⟨v2,rfl⟩,s3,g3⟩;rw[<-yO] at g3;exact⟨⟨_,_,rfl⟩,s3,g3⟩
 .rintro σ H3 ⟨⟨v1,v2,rfl⟩,s3,g3⟩;refine⟨4,rfl,by decide,by decide,dC (lo:=0) (n:=4) (λi σ H2=>(∃v1,σ=[some (.ref l),v1,v2])/\af H H2/\Prs H2 l (ft 7++fP i)) ⟨⟨_,rfl⟩,s3,by simpa[fP] using g3⟩ ?_ ?_⟩
  .rintro i σ H2 hi ⟨⟨v1,rfl⟩,s2,g2⟩;rw[show(0:Int)+(i:Int)=(i:Int) by lia];obtain⟨vs0,Ni,_⟩:=id g2;refine⟨_,rfl, .inl ⟨rfl,_,SqL.of Ni⟩,_,rfl,(zB rfl),λt H4 nt s4 ht=> ?_⟩;obtain⟨vs,Qj,hvl,g4⟩:=g2.add s4 nt (x:=[5,(i:Int)]) ht;refine⟨l,vs,_,rfl,rfl,Qj,aF (by rw[hvl,AE,qT,LW];lia),⟨_,rfl⟩,(s2.trans s4).put nlH, ?_⟩;rw[LV i,<-BG];exact g4
  .rintro σ H4 ⟨⟨v1,rfl⟩,s4,vs,Qj,hi4⟩;rw[LX] at hi4;exact⟨_,rfl,kk l H4 s4 nlH (aD Qj hi4)⟩
theorem qU:∀xs:Rl Int,cE (xs.map D.i)<=1
 |[]=>by simp[cE]
 |x::xs=>by
  have:=qU xs;rw[AL,cE,dep];lia
theorem qV:∀xs:Rl Int,cr (xs.map D.i) (xs.map D.i)
 |[]=>by simp[cr]
 |x::xs=>by
  rw[AL];unfold cr;exact⟨by simp[Kin],qV xs⟩
theorem qW (h:Is H (shD s) v) (k:Is H (shD s) u):EqR K H 3 v u true:=by
 have e:=h.eqr (K:=K) (n:=3) (by have:=qU s.2;unfold shD;simp only[dep,cE];lia) (by have:=qV s.2;unfold shD;simp[Kin,cr,this]) k;rw[sP] at e;exact e
theorem L6 (h:Is H (.l (xs.map .i)) v) (k:Is H (.l (xs.map .i)) u):EqR K H 2 v u true:=by
 have e:=h.eqr (K:=K) (n:=2) (by have:=qU xs;simp only[dep];lia) (by have:=qV xs;simp[Kin,this]) k;rw[sP] at e;exact e
theorem L7:OKQ T.X69 P w base 59 (sp_law K):=by
 refine FbO T.X69 jB λMy A outer s H vs Q E hr h=> ?_;obtain⟨a,ns,rfl,hS,hl,kk⟩:=h;refine⟨_,(aj (zw (ao eX (Dj (L4 T) (hr.mono (by decide)) (by rfl) T.X68.m T.X68.F.kp T.X68.B .nil dG) (ah gO (pcq (K8 T) hr T.X67 (ab (pv 0) (ab ag ae))) ag) (λ_ _=>rfl)) (bZ rfl (aO (pGA (i:=1) jB.nd) (aO (pGA (i:=2) jB.nd) bS))))
  (aj (pSA (i:=3) jB.nd (pcq (LR T) hr T.X63 (ab (pv 1) (ab (pv 2) ae))))
  (aj (aU (dB (aQ (mV hr) (pcq (LS T) hr T.X65 (ab (pv 1) (ab (pv 2) (ab (aV ae) (ab (aV (ab (pv 1) ae)) ae))))) (pv 3) (aE _)) (eS (aQ (mV hr) (pcq (LJ T) hr T.X42 (ab (pv 3) ae)) (pv 3) (aE _)))).pt (ai (am fQ)) aT)
  (aj (aU (PW.pt (dB (aQ (mV hr) (sO rfl (by rfl) T.n_list (by rfl) T.n_reversed (ao br (pv 3) ag (λ_ _=>rfl))) (ao br (pv 3) ag (λ_ _=>rfl)) (aE _)) (eS (aQ eV (aY kE (by rfl) T.n_len CW (ab (dn (XN:=["_law_script","_law_d","_law_k","_law_found","_law_count"]) (sc:=al lu) (N:=["_law_number_here"]) (own:=1) (js:=[]) rfl (by ac_nf) rfl rfl (bm (ao br (pv 3) ag (λ_ _=>rfl))) (λ_ _ _ _=>(bV (i:=0) (show List.Nodup (["_law_number_here"]:Rl Str) by ac_nf) rfl (Or.inl rfl) (.inr rfl))) (dm (by decide)) (λ_ _ _ _=>(sK (aQ fX (pv 0) ag (aE _)))) (λ_ _ _ _=>(pv 0))) ae)) ag (aE _))))) (ai (am fQ)) aT)
  (aj (EZ (aU (j5 (aQ eV (aY dE (by rfl) T.n_len CW (ab (ao br (pv 3) ag (λ_ _=>rfl)) ae)) ag (aE _)) (j4 (aQ iS (ah bq ag (ao br (pv 3) ag (λ_ _=>rfl))) (ah aL ag (aY dE (by rfl) T.n_len CW (ab (ao br (pv 3) ag (λ_ _=>rfl)) ae))) (aE _)))).pt (ai (am fQ)) aT))
  (aj (pSA (i:=4) jB.nd (pcq (Lh T) hr T.X38 (ab (pv 1) (ab (pv 2) ae))))
  (aj (aU (dB (aQ iS (pcq (LK T) hr T.X43 (ab (pv 3) ae)) (pv 4) (aE _)) (dB (aQ iS (aY (gi rfl) (by rfl) T.n_sum Di (ab (ao br (pv 3) ag (λ_ _=>rfl)) ae)) (pv 4) (aE _)) (eS (aQ iS (pcq (Lu T) hr T.X24 (ab (pv 1) (ab (pv 2) (ab (aV ae) (ab (aV (ab (pv 1) ae)) ae))))) (pv 4) (aE _))))).pt (ai (am fQ)) aT)
  (aj (aU (dB (j5 (aQ cN (pv 1) ag (aE _)) (j4 (aQ eV (pv 2) ag (aE _)))).pt (eS (aQ cN (pv 1) ag (aE _)))).pt (ai (am fQ)) aT)
  (ai (am (j7 (fY (EO hr) (pcq (LQ T) hr T.X62 (ab (pv 1) (ab (pv 2) ae))) (pv 3) (aE _)) (j6 (fY cN (pcq (LH T) hr T.X58 (ab (pv 1) (ab (pv 2) ae))) (pv 4) (aE _)))))))))))))), ?_⟩
 refine⟨rfl,λl H1 s1 nl hL=> ?_⟩;refine⟨_,rfl,a,ns,0,rfl,s1.seq hS,by decide,by decide,λz hz=>⟨_,_,rfl,rfl,(show(0:Int)<32 by decide), ?_⟩⟩;have z0:0<=z%32:=Int.emod_nonneg _ (by decide);have z1:z%32<32:=Int.emod_lt_of_pos _ (by decide);obtain⟨m,hm⟩:=B7 z0;have hml:m<nT9.length:=by rw[LY];lia
 have hat:atI ((nT9.map λx=>[(x.1:Int),(x.2:Int)]).map tI) ((m:Nat):Int)=some (tI [(nT9[m].1:Int),(nT9[m].2:Int)]):=iU (by rw[AC,AC,A3 hml];rfl);have hW:=LZ _ (D' hml);generalize nT9[m].1=d at hat hW;generalize nT9[m].2=k at hat hW;refine⟨_,((m:Nat):Int),_,hL,B' V.int hm,hat,λu hu=> ?_⟩;obtain⟨t,rfl,ht⟩:=bL hu;refine⟨t,_,rfl,SqT.of ht,rfl,_,_,rfl,_,_,rfl,rfl, ?_⟩;clear hat hL ht hu;have d15:1<=d/\d<=5:=by unfold Wide at hW;lia
 refine⟨_,rfl,_,rfl,d,k,rfl,hW,λvf H2 s2 hvf=> ?_⟩;have b:=KB hW;unfold b91 at b;simp only[AA,AV,AT] at b;obtain⟨⟨⟨⟨⟨⟨⟨b1,b2⟩,b3⟩,b4⟩,b5⟩,b6⟩,b7⟩,b8⟩:=b;have sE:=λa=>KA (d:=d) (k:=k) hW a;have sC:=(qC hW).2.2.1;generalize hv91:v91 d k=V9 at hvf b1 b2 b3 b4 b5 b6 b7 b8 sE;obtain⟨tf,pf,rfl,htf,hpf⟩:=jT hvf;have go:∀{H'},af H2 H'->Is H' (shD V9) (.ref tf)/\H' tf=some (.tup [.int V9.1, .ref pf])/\H' pf=some (.lst (V9.2.map V.int)):=λs=>⟨hvf.mono s,s _ _ htf,s _ _ hpf⟩;have ro:dg [(d:Int)]:=⟨λi=>by cases i<;>simp,by simp, .inr ⟨[],d,rfl,by lia⟩⟩
 have re:dg []:=⟨λi=>by simp,by simp, .inl rfl⟩;have we:wtF []+wtF [(d:Int)]=d:=by simp[wtF,wtG]
 refine⟨_,rfl,_,rfl,AO _,λl1 H3 n1 s3 h1=>⟨_,rfl,(zB rfl),λl2 H4 n2 s4 h2=> ?_⟩⟩;refine⟨d,k,_,_,[],[(d:Int)],rfl,hW,gK (s4 _ _ h1),gK h2,re,ro,we,by simp,by simpa using d15.1,λve H5 s5 hve=> ?_⟩;rw[sE (qQ hW re ro we (by simp) (by simpa using d15.1))] at hve;have s25:=(s3.trans s4).trans s5;clear h1 h2;obtain⟨g1,g2,g3⟩:=go s25;refine⟨_,rfl,3,true,qW hve g1,by decide,_,rfl,bh ?_⟩;refine⟨_,rfl,tf,pf,V9.1,V9.2,rfl,SqT.of g2,SqL.of g3,by lia,λt' l' Ny N5 H6 s6 Os NK MJ tr=> ?_⟩;have hv6:Is H6 (shD V9) (.ref t'):=by
  rw[<-b1,<-tr.toC];exact jU NK MJ
 have s26:=s25.trans s6;obtain⟨g1,g2,g3⟩:=go s26;refine⟨_,rfl,3,true,qW hv6 g1,by decide,_,rfl,bh ?_⟩;refine⟨_,rfl,tf,_,_,_,rfl,rfl,SqT.of g2,by rfl,pf,_,rfl,SqL.of g3,λlr nlr=> ?_⟩;have s7:af H6 (upd H6 lr (.lst (V9.2.map V.int).reverse)):=af.new nlr;have hlr:upd H6 lr (.lst (V9.2.map V.int).reverse) lr=some (.lst (V9.2.map V.int)):=by rw[ak,<-List.map_reverse,b2]
 generalize upd H6 lr (.lst (V9.2.map V.int).reverse)=H7 at s7 hlr⊢;have s27:=s26.trans s7;obtain⟨g1,g2,g3⟩:=go s27;refine⟨_,rfl,tf,_,_,_,rfl,rfl,SqT.of g2,by rfl,2,true,L6 (aD hlr (fA _)) (aD g3 (fA _)),by decide,_,rfl,bh ?_⟩;refine⟨_,rfl,tf,_,_,_,rfl,rfl,SqT.of g2,by rfl,pf,rfl,⟨_,SqL.of g3⟩,λacc na=> ?_⟩;refine fy (xs:=V9.2.map V.int) (own:=1) (js:=[]) (λi H8=>af H7 H8/\H8 acc=some (.lst [])) ⟨af.new na,ak⟩ (λi H8 _ h=>SqL.of (h.1 _ _ g3)) ?_ ?_ dq ?_ ?_
 .rintro i y H8 hi ⟨s8,Mf⟩;rw[AC] at hi;obtain⟨x,hx,rfl⟩:=A8.mp hi;have:=b3 x (AU hx);exact⟨_,rfl,_,_,rfl,rfl,_,rfl,bH (λc=>absurd c (by lia)) (λc=>⟨s8,Mf⟩)⟩
 .rintro H8 ⟨s8,Mf⟩;refine⟨_,[],rfl, .inl (aD Mf ax),_,_,rfl,rfl,_,rfl,bH (λc=>absurd c (by decide)) (λ_=> ?_)⟩;have Qi:=s27.trans s8;clear hlr Mf;obtain⟨g1,g2,g3⟩:=go Qi;refine⟨λσ H9=>σ=[some (.ref a),some (.int d),some (.int k),some (.ref tf),none]/\H9=H8, ?_, ?_⟩
  .refine⟨_,rfl,tf,_,_,_,rfl,rfl,SqT.of g2,by rfl,pf,_,rfl, .inl (SqL.of g3),_,_,rfl,rfl,_,rfl,bH (λc=> ?_) (λc=>bh ⟨rfl,rfl⟩)⟩;refine⟨_,rfl,tf,_,_,_,rfl,rfl,SqT.of g2,by rfl,_,_,rfl,rfl, .inl ⟨by decide,by decide⟩,_,rfl,tf,_,_,_,rfl,rfl,SqT.of g2,by rfl,pf,_,rfl, .inl (SqL.of g3),_,_,rfl,rfl,rfl,_,rfl,kt (B' V.int ?_) ⟨rfl,rfl⟩⟩;rw[A1] at c⊢;lia
  rintro σ H9 ⟨rfl,rfl⟩;refine⟨_,rfl,_,rfl,d,k,rfl,hW,λH10 Oc=> ?_⟩;rw[sC];have s2x:=Qi.trans Oc;obtain⟨g1,g2,g3⟩:=go s2x;refine⟨_,rfl,tf,pf,V9.1,V9.2,rfl,SqT.of g2,SqL.of g3,_,rfl,rfl,_,rfl,kt (B' V.int b5) ?_⟩;refine⟨_,rfl,tf,_,_,_,rfl,rfl,SqT.of g2,by rfl,pf,V9.2,rfl,SqL.of g3,_,rfl,rfl,_,rfl,kt (B' V.int b5) ?_⟩;refine⟨_,rfl,_,rfl,AO _,λl1 H3 n1 s3 h1=>⟨_,rfl,(zB rfl),λl2 H4 n2 s4 h2=> ?_⟩⟩;refine⟨d,k,_,_,[],[(d:Int)],rfl,hW,gK (s4 _ _ h1),gK h2,re,ro,we,by simp,by simpa using d15.1,λH5 s5=> ?_⟩;rw[Ji hW];refine⟨_,rfl,rfl,_,rfl,kt rfl ?_⟩;have s2y:=((s2x.trans s3).trans s4).trans s5;clear h1 h2;refine⟨_,rfl,rfl,_,rfl,cP (λe4=>⟨_,rfl,_,_,rfl,rfl,_,rfl,bH (λk3=>kk _) (λk3=>⟨_,rfl,rfl,_,rfl,cP (λe5=>kk _) (λe5=> ?f1)⟩)⟩) (λe4=>bh ⟨_,rfl,rfl,_,rfl,cP (λe5=>kk _) (λe5=> ?f2)⟩)⟩;case f1|f2=>
   have hN:dy d k:=by unfold dy;unfold Wide at hW;lia
   refine⟨_,rfl,_,rfl,d,k,rfl,hN,λvw H6 s6 hvw=> ?_⟩;rw[hv91] at hvw;refine⟨_,rfl,3,true,qW hvw (go (s2y.trans s6)).1,by decide, ?_⟩;refine⟨true,rfl,cB ⟨_,rfl,_,rfl,d,k,rfl,hN,λH7 s7=> ?_⟩⟩;rw[(mi hN).1.2.2];refine⟨_,rfl,rfl, ?_⟩;have e:decide (V.int (cT d k)=V.int (cT d k))=true:=Ar rfl;rw[e];exact kk _
 .rintro σ H R R' k ⟨v1,e1,i1,j1,e5,e6,b,e7,h⟩;exact⟨v1,e1,i1,j1,e5,e6,b,e7,k _ _ h⟩
 .rintro σ H R R' k ⟨v1,e1,h⟩;exact⟨v1,e1,k _ _ h⟩
end
theorem fb0 {n q:Str}{ps:Rl Str}{d:Ri} (F:Fun K q q st f d) (e:mg n=some (.ref f)) (hp:ps.length=0:=by exact rfl) (h:∀(kV dc pm:OO) (an:Rp Rg) (cd ct:OO),bindArgs (W.fnOf q q (dU st) (dj st) (al st) .none kV dc pm an cd ct) ⟨[],[]⟩=pure (ps.zip []):=by intros;exact rfl):Fg K mg n q st ps f d:=by
 refine⟨F,F.binds λkV dc pm an cd ct us hl=> ?_,e⟩;rw[hp] at hl;rcases us with _|⟨y,us⟩
 .exact h kV dc pm an cd ct
 .simp at hl
theorem fb1 {n q:Str}{ps:Rl Str}{d:Ri} (F:Fun K q q st f d) (e:mg n=some (.ref f)) (hp:ps.length=1:=by exact rfl) (h:∀(kV dc pm:OO) (an:Rp Rg) (cd ct x0:OO),bindArgs (W.fnOf q q (dU st) (dj st) (al st) .none kV dc pm an cd ct) ⟨[x0],[]⟩=pure (ps.zip [x0]):=by intros;exact rfl):Fg K mg n q st ps f d:=by
 refine⟨F,F.binds λkV dc pm an cd ct us hl=> ?_,e⟩;rw[hp] at hl;rcases us with _|⟨x0,us⟩
 .simp at hl
 rcases us with _|⟨y,us⟩
 .exact h kV dc pm an cd ct x0
 .simp at hl
theorem fb2 {n q:Str}{ps:Rl Str}{d:Ri} (F:Fun K q q st f d) (e:mg n=some (.ref f)) (hp:ps.length=2:=by exact rfl) (h:∀(kV dc pm:OO) (an:Rp Rg) (cd ct x0 x1:OO),bindArgs (W.fnOf q q (dU st) (dj st) (al st) .none kV dc pm an cd ct) ⟨[x0,x1],[]⟩=pure (ps.zip [x0,x1]):=by intros;exact rfl):Fg K mg n q st ps f d:=by
 refine⟨F,F.binds λkV dc pm an cd ct us hl=> ?_,e⟩;rw[hp] at hl;rcases us with _|⟨x0,us⟩
 .simp at hl
 rcases us with _|⟨x1,us⟩
 .simp at hl
 rcases us with _|⟨y,us⟩
 .exact h kV dc pm an cd ct x0 x1
 .simp at hl
theorem fb3 {n q:Str}{ps:Rl Str}{d:Ri} (F:Fun K q q st f d) (e:mg n=some (.ref f)) (hp:ps.length=3:=by exact rfl) (h:∀(kV dc pm:OO) (an:Rp Rg) (cd ct x0 x1 x2:OO),bindArgs (W.fnOf q q (dU st) (dj st) (al st) .none kV dc pm an cd ct) ⟨[x0,x1,x2],[]⟩=pure (ps.zip [x0,x1,x2]):=by intros;exact rfl):Fg K mg n q st ps f d:=by
 refine⟨F,F.binds λkV dc pm an cd ct us hl=> ?_,e⟩;rw[hp] at hl;rcases us with _|⟨x0,us⟩
 .simp at hl
 rcases us with _|⟨x1,us⟩
 .simp at hl
 rcases us with _|⟨x2,us⟩
 .simp at hl
 rcases us with _|⟨y,us⟩
 .exact h kV dc pm an cd ct x0 x1 x2
 .simp at hl
theorem fb4 {n q:Str}{ps:Rl Str}{d:Ri} (F:Fun K q q st f d) (e:mg n=some (.ref f)) (hp:ps.length=4:=by exact rfl) (h:∀(kV dc pm:OO) (an:Rp Rg) (cd ct x0 x1 x2 x3:OO),bindArgs (W.fnOf q q (dU st) (dj st) (al st) .none kV dc pm an cd ct) ⟨[x0,x1,x2,x3],[]⟩=pure (ps.zip [x0,x1,x2,x3]):=by intros;exact rfl):Fg K mg n q st ps f d:=by
 refine⟨F,F.binds λkV dc pm an cd ct us hl=> ?_,e⟩;rw[hp] at hl;rcases us with _|⟨x0,us⟩
 .simp at hl
 rcases us with _|⟨x1,us⟩
 .simp at hl
 rcases us with _|⟨x2,us⟩
 .simp at hl
 rcases us with _|⟨x3,us⟩
 .simp at hl
 rcases us with _|⟨y,us⟩
 .exact h kV dc pm an cd ct x0 x1 x2 x3
 .simp at hl
def Hf (K:W.Frag) (n:Str) (st:Rq) (f:Rg) (q:Str:=n):Prop:=W.nsIn K mainGlobals n=some (some (.ref f))/\∃d,Fun K q q st f d
def L8 {n q:Str}{od an:Rp Rg}{sl:Array (Rp OO)}{oc kV dc pm cd ct:OO} (a:W.nsIn K mainGlobals n=some (some (.ref f))) (l:K.lookup f=some ⟨oc,od, .func (W.fnOf q q (dU st) (dj st) (al st) .none kV dc pm an cd ct),sl⟩) (c:W.codeIn K cd q=true) (k:W.keepIn K (.ref f)=true):Hf K n st f q:=⟨a,_,Em l c k⟩
theorem L9 {l:W.OpenLaw}{h:Rn}{fa:Rg} (X:K.In h) (G:h.Ns mainGlobals mg) (hfa:mg "law"=some (.ref fa))
  {f0 f1 f2 f3 f4 f5 f6 f7 f8 f9 f10 f11 f12 f13 f14 f15 f16 f17 f18 f19 f20 f21 f22 f23 f24 f25 f26 f27 f28 f29 f30 f31 f32 f33 f34 f35 f36 f37 f38 f39 f40 f41 f42 f43 f44 f45 f46 f47 f48 f49 f50 f51 f52 f53 f54 f55 f56 f57 f58 f59 f60 f61 f62 f63 f64 f65 f66 f67 f68 f69:Rg}
  (h0:Hf K "is_whole" nV f0)
  (h1:Hf K "need_between" nW f1)
  (h2:Hf K "need_narrow" nX f2)
  (h3:Hf K "need_wide" nY f3)
  (h4:Hf K "need_degree" nZ f4)
  (h5:Hf K "choose" og f5)
  (h6:Hf K "is_row" oh f6)
  (h7:Hf K "row_weight" jn f7)
  (h8:Hf K "need_rows" oj f8)
  (h9:Hf K "without_last_noughts" om f9)
  (h10:Hf K "sum_by_place" on f10)
  (h11:Hf K "product_by_place" oq f11)
  (h12:Hf K "with_more" ot f12)
  (h13:Hf K "product_of" ou f13)
  (h14:Hf K "filled_up" ow f14)
  (h15:Hf K "rows_within" kP f15)
  (h16:Hf K "rows_beyond" ox f16)
  (h17:Hf K "choices" oy f17)
  (h18:Hf K "weights_gained" oz f18)
  (h19:Hf K "with_one_held" oA f19)
  (h20:Hf K "with_one_degree_fewer" oB f20)
  (h21:Hf K "summands" oC f21)
  (h22:Hf K "counted" oD f22)
  (h23:Hf K "asked_of" oE f23)
  (h24:Hf K "by_ends" oF f24)
  (h25:Hf K "ends_at" oG f25)
  (h26:Hf K "sound" oH f26)
  (h27:Hf K "lost" oI f27)
  (h28:Hf K "lifts_from" oJ f28)
  (h29:Hf K "leaving" oK f29)
  (h30:Hf K "with_floor" jw f30)
  (h31:Hf K "drawings" kT f31)
  (h32:Hf K "worth_floors" oM f32 "worth")
  (h33:Hf K "need_sound" oN f33)
  (h34:Hf K "end_marks" oO f34)
  (h35:Hf K "put_between" oP f35)
  (h36:Hf K "how_many_orders" oQ f36)
  (h37:Hf K "how_many" oR f37)
  (h38:Hf K "count_by_floors" kX f38)
  (h39:Hf K "shade" oS f39)
  (h40:Hf K "added" oT f40)
  (h41:Hf K "mixed" oU f41)
  (h42:Hf K "turned" oV f42)
  (h43:Hf K "at_one" oW f43)
  (h44:Hf K "stretch" kZ f44)
  (h45:Hf K "points" oX f45)
  (h46:Hf K "is_point" oY f46)
  (h47:Hf K "corner" oZ f47)
  (h48:Hf K "upper_edge" k8 f48)
  (h49:Hf K "lower_edge" jx f49)
  (h50:Hf K "first_turn" o0 f50)
  (h51:Hf K "steps" o6 f51)
  (h52:Hf K "piece_worth" o7 f52)
  (h53:Hf K "leaving_out" lg f53)
  (h54:Hf K "ways" lm f54)
  (h55:Hf K "worth_ways" o8 f55 "worth")
  (h56:Hf K "known_above" o9 f56)
  (h57:Hf K "known_below" ph f57)
  (h58:Hf K "count_by_ways" pi f58)
  (h59:Hf K "of_number" pq f59)
  (h60:Hf K "stretched" pz f60)
  (h61:Hf K "way_shade" pA f61)
  (h62:Hf K "shade_by_ways" pB f62)
  (h63:Hf K "shade_by_floors" lq f63)
  (h64:Hf K "ends_shade" pC f64)
  (h65:Hf K "shade_by_ends" pD f65)
  (h66:Hf K "_law_cell_at" pE f66)
  (h67:Hf K "_law_number" pF f67)
  (h68:Hf K "_law_pairs" pG f68)
  (h69:Hf K "law" lu f69)
  (zz:∀n∈["isinstance","int","bool","range","list","sum","enumerate","max","len","tuple","min","zip","sorted","set","reversed","abs"],W.nsIn K mainGlobals n=some none)
  {K_LEFT:Tok} (mi_LEFT:W.nsIn K mainGlobals "LEFT"=some (some (.int (1) K_LEFT)))
  {K_RIGHT:Tok} (mi_RIGHT:W.nsIn K mainGlobals "RIGHT"=some (some (.int (-1) K_RIGHT)))
  {A_NARROW:Rg} (da_NARROW:W.nsIn K mainGlobals "NARROW"=some (some (.ref A_NARROW))) (dt_NARROW:gY K A_NARROW [(1,6),(2,6),(3,6),(4,2)]=true)
  {A_WIDE:Rg} (da_WIDE:W.nsIn K mainGlobals "WIDE"=some (some (.ref A_WIDE))) (dt_WIDE:gY K A_WIDE [(1,6),(2,6),(3,6),(4,6),(5,3)]=true)
  {C_NoBound:Rg} (ca_NoBound:W.nsIn K mainGlobals "NoBound"=some (some (.ref C_NoBound)))
  {C_NoEnds:Rg} (ca_NoEnds:W.nsIn K mainGlobals "NoEnds"=some (some (.ref C_NoEnds)))
  {C_NoDrawing:Rg} (ca_NoDrawing:W.nsIn K mainGlobals "NoDrawing"=some (some (.ref C_NoDrawing)))
  (cx_NoBound:W.excIn K C_NoBound bmV "ValueError.__new__"=true) (xc_NoBound:XC K C_NoBound)
  (cx_NoEnds:W.excIn K C_NoEnds bmV "ValueError.__new__"=true) (xc_NoEnds:XC K C_NoEnds)
  (cx_NoDrawing:W.excIn K C_NoDrawing bmV "ValueError.__new__"=true) (xc_NoDrawing:XC K C_NoDrawing)
  :∃fd:Ri,(∀(s:Rf) (v:OO),BindsTo s fd ⟨[v],[]⟩ [("_law_script",v)])/\∀base:Rn,K.In base->base.Ns mainGlobals mg->FnOk l.prog w K mg base CX0 59 fa fd ["_law_script"] (sp_law K):=by
 obtain⟨a0,d0,F0⟩:=h0;obtain⟨a1,d1,F1⟩:=h1;obtain⟨a2,d2,F2⟩:=h2;obtain⟨a3,d3,F3⟩:=h3;obtain⟨a4,d4,F4⟩:=h4;obtain⟨a5,d5,F5⟩:=h5;obtain⟨a6,d6,F6⟩:=h6;obtain⟨a7,d7,F7⟩:=h7;obtain⟨a8,d8,F8⟩:=h8;obtain⟨a9,d9,F9⟩:=h9;obtain⟨a10,d10,F10⟩:=h10;obtain⟨a11,d11,F11⟩:=h11;obtain⟨a12,d12,F12⟩:=h12;obtain⟨a13,d13,F13⟩:=h13;obtain⟨a14,d14,F14⟩:=h14;obtain⟨a15,d15,F15⟩:=h15;obtain⟨a16,d16,F16⟩:=h16;obtain⟨a17,d17,F17⟩:=h17;obtain⟨a18,d18,F18⟩:=h18;obtain⟨a19,d19,F19⟩:=h19;obtain⟨a20,d20,F20⟩:=h20;obtain⟨a21,d21,F21⟩:=h21;obtain⟨a22,d22,F22⟩:=h22;obtain⟨a23,d23,F23⟩:=h23;obtain⟨a24,d24,F24⟩:=h24;obtain⟨a25,d25,F25⟩:=h25;obtain⟨a26,d26,F26⟩:=h26;obtain⟨a27,d27,F27⟩:=h27;obtain⟨a28,d28,F28⟩:=h28;obtain⟨a29,d29,F29⟩:=h29;obtain⟨a30,d30,F30⟩:=h30;obtain⟨a31,d31,F31⟩:=h31;obtain⟨a32,d32,F32⟩:=h32;obtain⟨a33,d33,F33⟩:=h33;obtain⟨a34,d34,F34⟩:=h34;obtain⟨a35,d35,F35⟩:=h35;obtain⟨a36,d36,F36⟩:=h36;obtain⟨a37,d37,F37⟩:=h37;obtain⟨a38,d38,F38⟩:=h38;obtain⟨a39,d39,F39⟩:=h39;obtain⟨a40,d40,F40⟩:=h40;obtain⟨a41,d41,F41⟩:=h41;obtain⟨a42,d42,F42⟩:=h42;obtain⟨a43,d43,F43⟩:=h43;obtain⟨a44,d44,F44⟩:=h44;obtain⟨a45,d45,F45⟩:=h45;obtain⟨a46,d46,F46⟩:=h46;obtain⟨a47,d47,F47⟩:=h47;obtain⟨a48,d48,F48⟩:=h48;obtain⟨a49,d49,F49⟩:=h49;obtain⟨a50,d50,F50⟩:=h50;obtain⟨a51,d51,F51⟩:=h51;obtain⟨a52,d52,F52⟩:=h52;obtain⟨a53,d53,F53⟩:=h53;obtain⟨a54,d54,F54⟩:=h54;obtain⟨a55,d55,F55⟩:=h55;obtain⟨a56,d56,F56⟩:=h56;obtain⟨a57,d57,F57⟩:=h57;obtain⟨a58,d58,F58⟩:=h58;obtain⟨a59,d59,F59⟩:=h59;obtain⟨a60,d60,F60⟩:=h60;obtain⟨a61,d61,F61⟩:=h61;obtain⟨a62,d62,F62⟩:=h62;obtain⟨a63,d63,F63⟩:=h63;obtain⟨a64,d64,F64⟩:=h64;obtain⟨a65,d65,F65⟩:=h65;obtain⟨a66,d66,F66⟩:=h66;obtain⟨a67,d67,F67⟩:=h67;obtain⟨a68,d68,F68⟩:=h68;obtain⟨a69,d69,F69⟩:=h69;cases hfa.symm.trans (W.mg_of X G a69);have Wq:=F69;obtain⟨_,_,_,_,_,_,_,_,_,rfl,_⟩:=F69.ex;have g {n:Str}{v:OO} (e:W.nsIn K mainGlobals n=some (some v)):mg n=some v:=W.mg_of X G e;exact⟨_,λs v=> .of_eq rfl,λbase _ _=>L7 (⟨f0,_,f1,_,f2,_,f3,_,f4,_,f5,_,f6,_,f7,_,f8,_,f9,_,f10,_,f11,_,f12,_,f13,_,f14,_,f15,_,f16,_,f17,_,f18,_,f19,_,f20,_,f21,_,f22,_,f23,_,f24,_,f25,_,f26,_,f27,_,f28,_,f29,_,f30,_,f31,_,f32,_,f33,_,f34,_,f35,_,f36,_,f37,_,f38,_,f39,_,f40,_,f41,_,f42,_,f43,_,f44,_,f45,_,f46,_,f47,_,f48,_,f49,_,f50,_,f51,_,f52,_,f53,_,f54,_,f55,_,f56,_,f57,_,f58,_,f59,_,f60,_,f61,_,f62,_,f63,_,f64,_,f65,_,f66,_,f67,_,f68,_,fa,_,fb1 F0 (g a0),fb3 F1 (g a1),fb2 F2 (g a2),fb2 F3 (g a3),fb1 F4 (g a4),fb2 F5 (g a5),fb1 F6 (g a6),fb1 F7 (g a7),fb3 F8 (g a8),fb1 F9 (g a9),fb2 F10 (g a10),fb2 F11 (g a11),fb3 F12 (g a12),fb1 F13 (g a13),fb2 F14 (g a14),fb1 F15 (g a15),fb3 F16 (g a16),fb2 F17 (g a17),fb2 F18 (g a18),fb4 F19 (g a19),fb4 F20 (g a20),fb1 F21 (g a21),fb2 F22 (g a22),fb4 F23 (g a23),fb4 F24 (g a24),fb2 F25 (g a25),fb2 F26 (g a26),fb1 F27 (g a27),fb4 F28 (g a28),fb3 F29 (g a29),fb4 F30 (g a30),fb2 F31 (g a31),fb1 F32 (g a32),fb2 F33 (g a33),fb2 F34 (g a34),fb4 F35 (g a35),fb2 F36 (g a36),fb2 F37 (g a37),fb2 F38 (g a38),fb2 F39 (g a39),fb2 F40 (g a40),fb2 F41 (g a41),fb1 F42 (g a42),fb1 F43 (g a43),fb1 F44 (g a44),fb1 F45 (g a45),fb2 F46 (g a46),fb3 F47 (g a47),fb1 F48 (g a48),fb1 F49 (g a49),fb2 F50 (g a50),fb3 F51 (g a51),fb1 F52 (g a52),fb2 F53 (g a53),fb2 F54 (g a54),fb4 F55 (g a55),fb1 F56 (g a56),fb1 F57 (g a57),fb2 F58 (g a58),fb1 F59 (g a59),fb1 F60 (g a60),fb4 F61 (g a61),fb2 F62 (g a62),fb2 F63 (g a63),fb2 F64 (g a64),fb4 F65 (g a65),fb2 F66 (g a66),fb2 F67 (g a67),fb0 F68 (g a68),fb1 Wq (g a69),Ay X G (zz _ (by decide)),Ay X G (zz _ (by decide)),Ay X G (zz _ (by decide)),Ay X G (zz _ (by decide)),Ay X G (zz _ (by decide)),Ay X G (zz _ (by decide)),Ay X G (zz _ (by decide)),Ay X G (zz _ (by decide)),Ay X G (zz _ (by decide)),Ay X G (zz _ (by decide)),Ay X G (zz _ (by decide)),Ay X G (zz _ (by decide)),Ay X G (zz _ (by decide)),Ay X G (zz _ (by decide)),Ay X G (zz _ (by decide)),Ay X G (zz _ (by decide)),K_LEFT,g mi_LEFT,K_RIGHT,g mi_RIGHT,A_NARROW,g da_NARROW,dt_NARROW,A_WIDE,g da_WIDE,dt_WIDE,C_NoBound,g ca_NoBound,C_NoEnds,g ca_NoEnds,C_NoDrawing,g ca_NoDrawing,cx_NoBound,xc_NoBound,cx_NoEnds,xc_NoEnds,cx_NoDrawing,xc_NoDrawing⟩:Fns K mg)⟩
theorem walk {l:W.OpenLaw}{q:Rh}{Nw:Rl Str}{XP:(Str->Rp OO)->Rn->Prop}{YP:Rj->Rn->Prop}{d:DefRec}{K:Params->W.Frag} (hn:l.most=some 63) (hdf:d.params.defaults=[])
  (hY:∀(w:Rj) (h:Rn),YP w h->(K w.params).In h)
  (F:∀(w:Rj) (mg:Str->Rp OO) (fa:Rg) (h:Rn),(K w.params).In h->h.Ns mainGlobals mg->mg d.name=some (.ref fa)->
   ∃fd:Ri,(∀(s:Rf) (u:OO),BindsTo s fd ⟨[u],[]⟩ [("_law_script",u)])/\∀base:Rn,(K w.params).In base->base.Ns mainGlobals mg->FnOk l.prog w (K w.params) mg base CX0 59 fa fd ["_law_script"] (sp_law (K w.params))):
  W.WalkO q Nw XP YP l.row.toRowW d [] (λf vs=>PySem.call f vs):=
 L2.El (n:=63) (k:=59) (x:="_law_script") (CX:=λ_=>CX0) (sp:=λw=>sp_law (K w.params)) hn (by decide) hdf ⟨rfl,by decide,by decide⟩ hY F (λ_ _ a ns hl _ hS=>⟨a,ns,rfl,hS,hl,λ_=>rfl⟩) λ_ _ _ _ _ z=>z
end Mine
open PySem PySem.W PyProof.Rows
set_option genSizeOf false
set_option genInjectivity false
structure PySem.W.Fast:Prop where
 (tw14476849731962015999 tw11885580421614090194 tw760658561494023964 tw11872219185414578887 tw15255988715621376087 tw12978129447379713929 tw17978908998905582785 tw14013030038282595023 tw12635074848827964640 tw5401301858868977750 tw7402641103952050705 tw3090829784403087659 tw14240620918581322416 tw3443884531752452509 tw13595334209291236052 tw10717722608522775440 tw16584808047194067203 tw14165766893508316091 tw17774462785248089478 tw3527299999509389862 tw5161478873722825109 tw9249189181481497674 tw10724522577249946341 tw2414371468324451316 tw18025928111527456548 tw5480123746578459376 tw9032942620852417854 tw12375225908117867064 tw4824051040650425184 tw6060269927181584162 tw11840625970653908601 tw3566902114753122726 tw5974530515152321979 tw11618734431323550766 tw11369075789314214235 tw18153907826080075773 tw1754733021032512118 tw4767815137702636399 tw13419624625041394031 tw16905601976122918127 tw467950748339146668 tw8477603862632374012 tw13429841747638009759 tw6565663691224200484 tw12553015252373253781 tw1391187423158163241 tw13936419491952433116 tw16886646179070383266 tw7648911953348925185 tw6153486542393451105 tw12174990544295313316 tw6228555719372540498 tw791474271063649378 tw14306124611811918294 tw15950221619580437793 tw1078492458255247250 tw15535611542483294020 tw10220524979732452318 tw10691084466939528578 tw6087643331600364166 tw3148098261554794380 tw6895121981537640547 tw18368857278442592248 tw13676739474908376306 tw6630532039244227562 tw5409007030178106673 tw3624609558737274212 tw5122020443647291105 tw17973139295248479775 tw6462160834546542401 tw3713444876956590855 tw17424223841840521279 tw9160705814331354545 tw8658176050977698931 tw6293835261049085821 tw51753714279992434 tw7117896947656423035 tw3901113258558811449 tw16266623668315816306 tw1159718739087876543 tw3668676800390038523 tw9207916259078017172 tw7630256229709428960 tw12541852625020907262 tw12251011124448231772 tw13094717016735502674 tw1431443998368658171 tw3981046663610719405 tw7682174828186992247 tw7424086815535896334 tw2092194617803092825 tw15958614043082277176 tw8120257018663655203 tw14922499610905934771 tw4332090718692773665 tw13773449764999112679 tw1112291644672062753 tw7969037389772960161 tw17045172881253044323 tw17735964525826437962 tw2465429930903329565 tw618759802626162965 tw18182641164987701423 tw1796613833196812281 tw12948624439091882764 tw10749448140745317025 tw834859785631681811 tw11471322697830834725 tw17465736978603664223 tw14408023524202762055 tw469795464536886240 tw738594611531149516 tw2299802496262885563 tw1879691778484962583 tw18120311523149262076 tw5764806096344369096 tw10645092717486119670 tw15746262112271261208 tw10312344356530053500 tw13851093776407879744 tw3362630101109576081 tw10159637753075736039 tw16660534292125650372 tw13758414325467669223 tw12811832325634073150 tw16830099492922837585 tw5940565298496612534 tw13520812697307203727 tw13563914115442676976 tw3134320487120207809 tw577896888852720965 tw15779018364143424656 tw13046418679185839901 tw9559484268148271298 tw8764693626852177425 tw9735019643304847914 tw12259701527463269723 tw9493784621758959028 tw3067756641218300455 tw6449025476433710331 tw18122225886254360906 tw3340105123569444974 tw14904586686784381728 tw64900666704466187 tw6366451788955168878 tw14886211069814132018 tw8824675742866266544 tw4278350058574542678 tw485108331470060978 tw4760433349468506639 tw9868001496933403363 tw2727075702134716905 tw4580041346240420180 tw11033254706551897597 tw10181565418780473631 tw14662491263946932802 tw13697155640469801837 tw6404769945608609699 tw18015329687280657543 tw8168582920956548690 tw7538253844505676788 tw2904394321303042457 tw7851288038799620410 tw9842750712301037666 tw12526717029599328415 tw17701689435337906642 tw12824088945855418239 tw15747790267705239474 tw16392163802951067626 tw15959303314482914214 tw10038847332489779047 tw4490059706895549559 tw10339615601664243172 tw15722357576334865922 tw11617179277178135573 tw12090488666733004826 tw14889956285225222625 tw1801401921686368871 tw8299540955469962759 tw14328691359524563876 tw9700828034462961222 tw2455047822026881534 tw3459503821569821729 tw5851874147273421665 tw11881269534540988604 tw11597778546947173817 tw17212657398622491027 tw10640229734316491582 tw16610463622634535075 tw9634847557951744695 tw4776132081151706123 tw10069164661389454545 tw5582672784298370210 tw4518160284472799118 tw11398530980281450061 tw18330586500028189640 tw9929229716059193198 tw15135630953751247770 tw16761124563189246737 tw1171984205578565260 tw17625841243962218023 tw12741737906460825147 tw12294128995760020409 tw9462885005700974779 tw12654032272080095540 tw12988687641889692577 tw7107618639732236270 tw9860115934377386239 tw2040450359606600551 tw14252134562674655380 tw538855877617455705 tw17338963760010203974 tw17991040207702907309 tw15276557489025665668 tw14847998061831980014 tw4610745116059387364 tw5964136452628629481 tw5452572966575975199 tw15213609708933030623 tw9785561782218290754 tw17609889569258571919 tw13421506316302232198 tw8911979249614955583 tw14841179104784808569 tw17352313614573283965 tw17028960515544256317 tw7147108686374334640 tw3213595126083183253 tw13019436731850950267 tw7019674358010319041 tw18046739350576592078 tw16850874926908441032 tw13398415778972489805 tw10431236152675346315 tw2662899885018595493 tw17808452227634367231 tw8184269364106158281 tw2849080091305422450 tw17696384286062823493 tw2486106188346580218 tw614271469865777694 tw9797858798082477048 tw15031668303216996369 tw17867748086317798037 tw685370903608912525 tw1082526481646891515 tw4166686729408825920 tw2925741717554378779 tw489680766535298583 tw5573414112090049033 tw6591968492352309050 tw14653186869656737213 tw4253595741198650409 tw1911890135494892101 tw7218071092711952047 tw1046971928254439271 tw4702634147204351720 tw15846227666821947594 tw3929633467093118731 tw11462827139395619191 tw2223591539476552056 tw13847472127916834703 tw13407047844066234929 tw1155091680753963910 tw11139815258264277991 tw10260543081385527147 tw6491555665849372082 tw14969630038763453879 tw7476553419315481730 tw17925487139627120252 tw16765769951783670396 tw15331838161326688469 tw11513935933053060246 tw5177958432230541701 tw2657126139043037252 tw956188328567246863 tw14658287583073858569 tw15608137726229148775 tw9226640119845200431 tw5233005605788375045 tw17008623397787852962 tw3334479295205737477 tw5815778513817292446 tw7283151931007416393 tw1945395937850520053 tw1257280429395633580 tw11787409293146313078 tw17473497334676636277 tw1490907601333460193 tw2829400379618130948 tw3003664365042076675 tw14128709994795179075 tw186530306322073929 tw15383471770780273236 tw9044160173064326666 tw3577966174787963151 tw2045086435843082153 tw16103938851618901790 tw6313350244494846040 tw16840554520831459258 tw15589877471613670530 tw728957632558050065 tw18237281164104317917 tw17785086942590350835 tw12709783875958092889 tw1016813045579833711 tw13542020236574510042 tw11174167031511321152 tw8591294372919588263 tw11661121064145804089 tw2749931620971472335 tw5239742084536685264 tw12739991577923010706 tw9756247421974462102 tw18444890987528408230 tw17729829131009997537 tw4404154202495514386 tw3349484343448196672 tw9239200908252070005 tw422949193410434416 tw10912532789452336594 tw2921284579516705544 tw1299953727057228558 tw2091048463536706943 tw9856375075403845093 tw11497708121447380006 tw13109982838252809562 tw17859362655986917114 tw1928620312888873906 tw11427010866309894415 tw17904319508240739436 tw13769966100100882110 tw8832991297088713282 tw1815691943989868806 tw14592816495522276564 tw15701899505320736172 tw11827825022515684663 tw2365215942527307764 tw10979279242615502854 tw10417390353763261522 tw17688251180262910087 tw12936193786752605112 tw8839988493859878858 tw7509978092824055119 tw2886224800736611889 tw5268306082460476806 tw3825873313518350304 tw9033630904512922094 tw17990246701074800812 tw7259845833145371740 tw12863274150990651923 tw2303923320306392857 tw10331011922237092006 tw9834733652802031258 tw13351693298788647153 tw4379453806084476280 tw6732758837568133139 tw2488441890935166958 tw16002623495182668485 tw17905266953343893575 tw5182394849585195729 tw8791368884044123957 tw6182789865347459309 tw16763654112951723781 tw516684754362536443 tw1324472193828661019 tw526670442854864458 tw11297797513113744463 tw6258942458051466845 tw3947787572235076334 tw13236459032507572435 tw3204589226790997936 tw6689604325351977086 tw17484670386474475796 tw2254057649195421836 tw6027809153210428008 tw199816735229495111 tw4383959659653908538 tw10614334658105148765 tw16569393944303674949 tw1407675775718278982 tw9169004340570668358 tw6776735285286364382 tw14139849508575501409 tw5375883983722776764 tw6246342867280997659 tw15640505213517071781 tw6969828592664762510 tw5757193620558818928 tw2550980935865477692 tw5431798964263172700 tw16282743126966806986 tw8274109708812530249 tw8094064303765147301 tw18266980240127364534 tw10038314310855131629 tw11217067050045230711 tw11124153899369521479 tw2531376994342904175 tw7475830572040696654:True)
set_option maxRecDepth 100000 in
set_option maxHeartbeats 0 in
theorem PySem.Challenge.cw_floorcurves_k91_whole_shades_holds : PySem.Challenge.rw_floorcurves_k91_whole_shades.Holds := by
 w_on; o_law; k_head; (case hw => w_witness2)
 k_fill
 refine Mine.walk (l := PySem.Challenge.rw_floorcurves_k91_whole_shades) rfl rfl (λw h Y => PySem.W.kIn_of Y) ?F
 case F =>
  intro w mg fa h KX G hmg
  refine' Mine.L9 KX G hmg ?h0 ?h1 ?h2 ?h3 ?h4 ?h5 ?h6 ?h7 ?h8 ?h9 ?h10 ?h11 ?h12 ?h13 ?h14 ?h15 ?h16 ?h17 ?h18 ?h19 ?h20 ?h21 ?h22 ?h23 ?h24 ?h25 ?h26 ?h27 ?h28 ?h29 ?h30 ?h31 ?h32 ?h33 ?h34 ?h35 ?h36 ?h37 ?h38 ?h39 ?h40 ?h41 ?h42 ?h43 ?h44 ?h45 ?h46 ?h47 ?h48 ?h49 ?h50 ?h51 ?h52 ?h53 ?h54 ?h55 ?h56 ?h57 ?h58 ?h59 ?h60 ?h61 ?h62 ?h63 ?h64 ?h65 ?h66 ?h67 ?h68 ?h69 ?zz ?mi_LEFT ?mi_RIGHT ?da_NARROW ?dt_NARROW ?da_WIDE ?dt_WIDE ?ca_NoBound ?ca_NoEnds ?ca_NoDrawing ?cx_NoBound ?xc_NoBound ?cx_NoEnds ?xc_NoEnds ?cx_NoDrawing ?xc_NoDrawing
  (case h0 | h1 | h2 | h3 | h4 | h5 | h6 | h7 | h8 | h9 | h10 | h11 | h12 | h13 | h14 | h15 | h16 | h17 | h18 | h19 | h20 | h21 | h22 | h23 | h24 | h25 | h26 | h27 | h28 | h29 | h30 | h31 | h32 | h33 | h34 | h35 | h36 | h37 | h38 | h39 | h40 | h41 | h42 | h43 | h44 | h45 | h46 | h47 | h48 | h49 | h50 | h51 | h52 | h53 | h54 | h55 | h56 | h57 | h58 | h59 | h60 | h61 | h62 | h63 | h64 | h65 | h66 | h67 | h68 | h69 => refine' Mine.L8 ?a ?l ?c ?k; (case a => k_is); (case l => k_is); (case c => k_is); (case k => k_is))
  (case zz => intro n hn; simp only [List.mem_cons, List.not_mem_nil, or_false] at hn; rcases hn with rfl | rfl | rfl | rfl | rfl | rfl | rfl | rfl | rfl | rfl | rfl | rfl | rfl | rfl | rfl | rfl <;> k_is)
  (case mi_LEFT | mi_RIGHT | da_NARROW | da_WIDE => k_is)
  (case dt_NARROW | dt_WIDE => first | k_is | kit_is | kts_exm | kernel_rfl)
  (case ca_NoBound | ca_NoEnds | ca_NoDrawing | cx_NoBound | cx_NoEnds | cx_NoDrawing => first | k_is | kit_is | kts_exm | kernel_rfl)
  (case xc_NoBound | xc_NoEnds | xc_NoDrawing => constructor <;> first | k_is | kit_is | kts_exm | kernel_rfl)
