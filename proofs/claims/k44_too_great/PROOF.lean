import PyProof.Rows.All
import Wide.All
import OpenK.AllK
import Wide.FinOn
import Lean
import PyProof.EqAt
import PyProof.EqKinds
import PyProof.TupleCall
import PyProof.CompFree
import PyProof.StationsW
import PyProof.ExcClass3
import PyProof.Commute
import OpenK.KGet
import OpenK.KMeth
import PyProof.ExcArgs
import PyProof.ZipIter
import PyProof.ListNew
import PyProof.EnumMake
import PyProof.EnumStmt
import KE.KRevSl
import PyProof.WalkInts
import PyProof.Rows.MinMaxN
import PyProof.AttrMissHeap
import PyProof.DictList
import PyProof.DictUpdate
import KE.KDictOf
import PyProof.DictWalks
import KE.KDictList
import KE.KDictSum
import KE.KIntText
import KE.KLam
import KE.KMinKey
import KE.KNestM
import KE.KRevIter
import KE.KxText
import PyProof.AutoListH
import PyProof.CallStr
import PyProof.ConsumeWalk
import PyProof.Conv_int_bool
import PyProof.DictRoadsH
import PyProof.DictUpdate
import PyProof.EnumIter
import PyProof.FactsAll.dict_4
import PyProof.ForAny
import PyProof.ListRange
import PyProof.Rows.CatFin
import PyProof.Rows.FStr
import PyProof.Rows.SetFrom
import PyProof.Rows.SortStr
import PyProof.Rows.SortWalk
import PyProof.Rows.StrClose3
import PyProof.SetRoads
import PyProof.StrCalls2
import PyProof.StrLawsChain
import PyProof.StrLawsIn
import PyProof.StrLawsTight
import PyProof.StrWalks
import PyProof.TupleIter
import PyProof.ZipIter
import PySem.SetOps
import PySem.Challenge.RW_unjump_k44_too_great
open Bool renaming false_ne_true->Bf9, and_eq_true->Bz9
open List renaming getElem?_eq_getElem->Aa, getElem?_eq_some_iff->Ab, length_append->Ae, getD_eq_getElem?_getD->Af, length_map->Ag, map_append->Ai, mem_cons_of_mem->Aj, size_toArray->Ak, mem_singleton->An, range->Ao, mem_cons->Aq, append_assoc->Ar, mem_of_getElem?->As, mem_append->Au, getElem?_map->Aw, length_singleton->Ay, getElem?_append_left->Az, map_cons->Ch, mem_cons_self->Db, mem_append_right->Dd, mem_map->De, mem_append_left->Dg, getElem?_set_ne->Dh, getElem?_append_right->Di, set_append_right->Dj, getElem?_set_self->Dm, map_nil->Dp, nodup_append->Dq, take_length->Dr, getElem?_mapIdx->Ds, idxOf_lt_length_of_mem->Dt, mem_reverse->Dw, getElem?_cons_succ->Dz, length_cons->Ex, getElem?_cons_zero->Ha, append_nil->Hd, mem_range->He, replicate->Hf, length_filter_le->Hg, map_congr_left->Hi, nodup_cons->Hj, ext_getElem?->Hm, mem_filter->Hr, length_reverse->Ht, length_take->Hu, lookup_cons->Hv, all_eq_true->Hw, getElem_mem->Hx, not_mem_nil->Hy, length_eq_zero_iff->Hz, dropLast_concat_getLast->Ic, find?_cons->Ie, cons_append->Ih, map_map->Ii, length_nil->Ik, range_succ->Il, drop_eq_getElem_cons->Im, contains_iff_mem->Io, getElem?_eq_none->Iq, getElem_idxOf->Ir, getElem?_of_mem->Iu, all_cons->Iw, countP_eq_length_filter->Kg, set_append_left->Kh, countP_cons_of_pos->Ki, sum_append->Kk, replicate_succ->Km, getElem?_range->Ko, any_cons->Ks, any_eq_true->Kt, length_range->Ky, countP_congr->Kz, countP_cons_of_neg->Lb, length_pos_of_mem->Ld, set_set->Lf, foldl_cons->Li, nil_append->Lj, sum_cons->Ln, flatten_cons->Lp, getElem?_eq_none_iff->Lu, nodup_range->Ma, filterMap_cons->Mb, getLast?_cons_cons->Mg, Pairwise->Mh, countP_append->Mn, sum_nil->Mq, dropLast_concat->Mu
open PySem.W renaming Frag->Ac, kitOne->Df, keepIn->Dv, findIn->Hs, kia_one->Ij, nsIn->Ix, mg_of->Iy, fnOf->Ke, mroIn->Ll, codeIn->Lv, callWith_K->Mj, clsIn->Mv
open PySem renaming wpAny_bind->Ad, wpAny_pure->Am, wpAny_mono->Dx, wpAny_Call_Name_kw->Hq, Spec->Ib, wpAny_holding->Iv, codeAny_mono->Kr, wpAny_newObj_type->Kw, wpAny_loadPart_at->Kx, wpAny_call->Lc, wpAny_execs_nil->Lg, wpAny_passesOwn->Lh, wpAny_standAt->Lm, wpAny_truthy_bool->Lo, wpAny_tryCatch->Lw, wpAny_comprehension_free->Lz, mem_of_lookup->Md, wpAny_isSubtype_exc->Me, tupleKind_room_in1->Ml, sizeLine_eq->Mo, call_meets->Mr, plainId_quiet->Mw, wpAny_field->Mz, codeAny_builtin->No, wpAny_Name->Ub
open PySem.Heap renaming get?_push_of_some->Ah, lt_size->Ax, get?_push_size->Dn, get?_update_other->Hn, get?_update_self->Kd, SameBut->Ku, size_push->Uc
open False renaming elim->Dk
open List.Nodup renaming length_le_of_subset->Dl
open Sum renaming inl->Du, inr->Mx
open PySem.NameKind renaming free->Dy, cell->Ig
open Option renaming bind_some->Go, bind_none->Hk, join_some->Hl, map_eq_some_iff->Ho, getD_some->Ms
open Option.some renaming inj->Hb
open PySem.SeqAt renaming EqAt->Hh
open Ne renaming symm->Ia
open PySem.F renaming plain_min_loop->Kb
open Int renaming natCast_add->Kc, toNat_natCast->Kj, emod_nonneg->Kl, emod_lt_of_pos->Le, toNat->Ue
open True renaming intro->Kf
open Lean.Meta.tactic renaming hygienic->Kv
open LawfulBEq renaming eq_of_beq->La
open PySem.Calls renaming Name_function_global->Lk
open PySem.Builtin.Slice renaming slicePlaces->Lq
open PySem.Obj renaming mapSeq->Lr, mapFields->Mi, data_mapFields->Mm, isFreed_of_fields->Mp
open PySem.Around renaming under_plainId->Ls
open PySem.Builtin.Tuple renaming tupleExact->Lx
open PySem.Builtin.List renaming listTooLong->Ly
open Array renaming length_toList->Mc
open PySem.Builtin.Str renaming occurrences->Mf
open Sum.inl renaming inj->My
open PySem.PassesOwn renaming never->On
open PySem.Data renaming cls->Ua
open Iff renaming rfl->Ud
set_option tactic.hygienic false
set_option bootstrap.genMatcherCode false
set_option Elab.async false
set_option linter.all false
set_option maxRecDepth 100000
set_option genSizeOf false
set_option compiler.extract_closed false
set_option autoImplicit true
set_option maxHeartbeats 0
namespace L2
open PySem
noncomputable def Xb(s:Stmt):Arguments:=match s with
 | .FunctionDef _ a _ _ _ _ _ _ _ _=>a
 | _=>{posonlyargs:=[],args:=[],vararg:=none,kwonlyargs:=[],kw_defaults:=[],kwarg:=none,defaults:=[]}
noncomputable def Zh(s:Stmt):List Stmt:=match s with
 | .FunctionDef _ _ b _ _ _ _ _ _ _=>b
 | _=>[]
noncomputable def Z3(s:Stmt):Scope:=match s with
 | .FunctionDef _ _ _ _ _ _ a _ _ _=>a
 | _=>{kind:= .function,names:=[],isGenerator:=false,isCoroutine:=false}
end L2
namespace K44
open PySem
noncomputable def top(i:Nat):Stmt:=PySem.Challenge.pw_unjump_k44_too_great.main.body.getD i (.Pass ⟨0,0,0,0⟩)
end K44
namespace Hand
open PySem PySem.Spec PyProof.Rows L2 K44
noncomputable def kf(n:Str)(i:Nat)(dV kV dc pm:Value)(an:Option Addr)(cd ct:Value):Obj:=⟨.type "function",none,.func (Ke n n (Xb (top i)) (Zh (top i)) (Z3 (top i)) dV kV dc pm an cd ct),#[]⟩
noncomputable def kg(n:Str)(i:Nat)(m:Str)(t c:Nat):Obj:=kf n i .none .none .none (.str m t) none (.ref c) .none
noncomputable def kl(n:Str)(i c:Nat):Obj:=kg n i "law_unjump_k44_too_great" 510 c
noncomputable def kc(n:Str)(t:Nat)(l a:Int)(r:Nat)(x y:Int)(z:Nat):Obj:=⟨.type "code",none,.fields #[.str n t,.str n (t+1),.str "/claim/cut.py" (t+2),.int l 0,.int a 0,.int 0 0,.int 0 0,.int 3 0,.ref r,.bool true,.int x 0,.ref (r+1),.none,.ref (r+2),.ref (r+3),.ref (r+4),.int y 0,.int l 0,.str "/claim/cut.py" z],#[]⟩
noncomputable def ke(P:Params)(x:Str)(t:Nat)(v:Value):DictEntry:=⟨PyData.keyHash P x,.str x t,v⟩
noncomputable abbrev kd:Value:= .type "dict"
noncomputable abbrev kR(a:Nat):Value:= .ref a
noncomputable abbrev kS(x:Str)(t:Nat):Value:= .str x t
noncomputable def KH(P:Params):Ac:=(nat_lit 2,⟨.none,none,.dict #[] 0,#[]⟩)::(nat_lit 3,⟨kd,none,.dict #[ke P "__name__" 165 (kS "law_unjump_k44_too_great" 510),ke P "__doc__" 166 .none,ke P "__package__" 167 .none,ke P "__loader__" 168 (.builtin "__main__.__loader__#opaque"),ke P "__spec__" 169 .none,ke P "__annotations__" 170 (kR 6),ke P "__builtins__" 171 (kR 4),ke P "__file__" 173 (kS "/claim/cut.py" 172),ke P "__cached__" 174 .none,ke P "JumpError" 215 (kR 32),ke P "ByNought" 231 (kR 45),ke P "NoRow" 247 (kR 57),ke P "NoJump" 263 (kR 69),ke P "NoEnd" 279 (kR 81),ke P "TooGreat" 295 (kR 93),ke P "NoForm" 311 (kR 105),ke P "TwoWays" 327 (kR 117),ke P "NoWay" 343 (kR 129),ke P "ways" 352 (kR 138),ke P "with_ways" 360 (kR 145),ke P "walked" 375 (kR 152),ke P "numbered" 381 (kR 157),ke P "MOST_NODES" 383 (.int 40 382),ke P "set_left" 391 (kR 162),ke P "links_among" 397 (kR 167),ke P "turned" 403 (kR 172),ke P "come_to" 415 (kR 179),ke P "doors_of" 421 (kR 184),ke P "doubled" 429 (kR 189),ke P "chosen_head" 441 (kR 196),ke P "come_round" 447 (kR 201),ke P "put_copies" 453 (kR 206),ke P "led_to_copies" 459 (kR 211),ke P "guided" 467 (kR 216),ke P "goals_of" 473 (kR 221),ke P "free_name" 484 (kR 228),ke P "put_guides" 490 (kR 233),ke P "tests_for" 496 (kR 238),ke P "put_sums" 509 (kR 245),ke P "_law_cell" 519 (kR 252),ke P "_law_mixed" 528 (kR 259),ke P "_law_goals" 535 (kR 266),ke P "_law_order" 548 (kR 273),ke P "_law_graph" 559 (kR 280),ke P "_law_kinds" 568 (kR 287),ke P "_law_refused" 578 (kR 294),ke P "_law_ring" 592 (kR 301),ke P "_law_sums" 598 (kR 306),ke P "_law_knot" 611 (kR 313),ke P "_law_counts" 620 (kR 320),ke P "law" 632 (kR 327)] 51,#[]⟩)::(nat_lit 22,⟨(.type "tuple"),none,.seq #[.none] 0,#[]⟩)::(nat_lit 28,⟨(.type "code"),none,.fields #[(.str "__init__" 201),(.str "JumpError.__init__" 202),(.str "/claim/cut.py" 203),(.int 4 0),(.int 2 0),(.int 0 0),(.int 0 0),(.int 3 0),(.ref 23),(.bool true),(.int 181 0),(.ref 24),.none,(.ref 25),(.ref 26),(.ref 27),(.int 206 0),(.int 4 0),(.str "/claim/cut.py" 207)],#[]⟩)::(nat_lit 29,{cls:=Value.type "function",data:=Data.func {name:=Str.ofString "__init__",qualname:=Str.ofString "JumpError.__init__",params:={posonlyargs:=[],args:=[{arg:=Str.ofString "self",annotation:=none,pos:={line:=4,col:=17,endLine:=4,endCol:=21}},{arg:=Str.ofString "row",annotation:=none,pos:={line:=4,col:=23,endLine:=4,endCol:=26}}],vararg:=none,kwonlyargs:=[],kw_defaults:=[],kwarg:=none,defaults:=[Expr.Constant Const.none 0 {line:=4,col:=27,endLine:=4,endCol:=31}]},body:=FuncBody.stmts [Stmt.Assign [(Expr.Name (Str.ofString "self") {line:=5,col:=8,endLine:=5,endCol:=12}).Attribute (Str.ofString "row") {line:=5,col:=8,endLine:=5,endCol:=16}] (Expr.Name (Str.ofString "row") {line:=5,col:=19,endLine:=5,endCol:=22}) {line:=5,col:=8,endLine:=5,endCol:=22}],scope:={kind:=ScopeKind.function,names:=[(Str.ofString "self",NameKind.local),(Str.ofString "row",NameKind.local)],isGenerator:=false,isCoroutine:=false},globals:=3,closure:=[],defaults:=Value.ref 22,kwdefaults:=Value.none,pyModule:=Value.str (Str.ofString "unjump.errors") 187,code:=Value.ref 28}})::(nat_lit 30,⟨(.type "tuple"),none,.seq #[(.str "row" 209)] 0,#[]⟩)::(nat_lit 31,⟨kd,none,.dict #[ke P "__module__" 196 (kS "unjump.errors" 187),ke P "__firstlineno__" 200 (.int 2 199),ke P "__init__" 208 (kR 29),ke P "__static_attributes__" 210 (kR 30),ke P "__weakref__" 212 (kR 33),ke P "__doc__" 213 .none] 3,#[]⟩)::(nat_lit 32,{cls:=Value.type "type",data:=Ua {name:=Str.ofString "JumpError",bases:=[Value.type "ValueError"],mro:=[Value.ref 32,Value.type "ValueError",Value.type "Exception",Value.type "BaseException",Value.type "object"],ns:=31,qualname:=Str.ofString "JumpError",subclasses:=[Value.ref 45,Value.ref 57,Value.ref 69,Value.ref 81,Value.ref 93,Value.ref 105,Value.ref 117,Value.ref 129]},slots:=#[some (Value.ref 15),none,some (Value.str (Str.ofString "JumpError") 189),some (Value.str (Str.ofString "JumpError") 197),some (Value.builtin "ValueError.__new__"),some (Value.bool true)]})::(nat_lit 43,⟨(.type "tuple"),none,.seq #[] 0,#[]⟩)::(nat_lit 44,⟨kd,none,.dict #[ke P "__module__" 223 (kS "unjump.errors" 187),ke P "__firstlineno__" 227 (.int 6 226),ke P "__static_attributes__" 228 (kR 43),ke P "__doc__" 229 .none] 2,#[]⟩)::(nat_lit 45,{cls:=Value.type "type",data:=Ua {name:=Str.ofString "ByNought",bases:=[Value.ref 32],mro:=[Value.ref 45,Value.ref 32,Value.type "ValueError",Value.type "Exception",Value.type "BaseException",Value.type "object"],ns:=44,qualname:=Str.ofString "ByNought"},slots:=#[some (Value.ref 36),none,some (Value.str (Str.ofString "ByNought") 216),some (Value.str (Str.ofString "ByNought") 224),some (Value.builtin "ValueError.__new__"),some (Value.bool true)]})::(nat_lit 55,⟨(.type "tuple"),none,.seq #[] 0,#[]⟩)::(nat_lit 56,⟨kd,none,.dict #[ke P "__module__" 239 (kS "unjump.errors" 187),ke P "__firstlineno__" 243 (.int 8 242),ke P "__static_attributes__" 244 (kR 55),ke P "__doc__" 245 .none] 2,#[]⟩)::(nat_lit 57,{cls:=Value.type "type",data:=Ua {name:=Str.ofString "NoRow",bases:=[Value.ref 32],mro:=[Value.ref 57,Value.ref 32,Value.type "ValueError",Value.type "Exception",Value.type "BaseException",Value.type "object"],ns:=56,qualname:=Str.ofString "NoRow"},slots:=#[some (Value.ref 48),none,some (Value.str (Str.ofString "NoRow") 232),some (Value.str (Str.ofString "NoRow") 240),some (Value.builtin "ValueError.__new__"),some (Value.bool true)]})::(nat_lit 67,⟨(.type "tuple"),none,.seq #[] 0,#[]⟩)::(nat_lit 68,⟨kd,none,.dict #[ke P "__module__" 255 (kS "unjump.errors" 187),ke P "__firstlineno__" 259 (.int 10 258),ke P "__static_attributes__" 260 (kR 67),ke P "__doc__" 261 .none] 2,#[]⟩)::(nat_lit 69,{cls:=Value.type "type",data:=Ua {name:=Str.ofString "NoJump",bases:=[Value.ref 32],mro:=[Value.ref 69,Value.ref 32,Value.type "ValueError",Value.type "Exception",Value.type "BaseException",Value.type "object"],ns:=68,qualname:=Str.ofString "NoJump"},slots:=#[some (Value.ref 60),none,some (Value.str (Str.ofString "NoJump") 248),some (Value.str (Str.ofString "NoJump") 256),some (Value.builtin "ValueError.__new__"),some (Value.bool true)]})::(nat_lit 79,⟨(.type "tuple"),none,.seq #[] 0,#[]⟩)::(nat_lit 80,⟨kd,none,.dict #[ke P "__module__" 271 (kS "unjump.errors" 187),ke P "__firstlineno__" 275 (.int 12 274),ke P "__static_attributes__" 276 (kR 79),ke P "__doc__" 277 .none] 2,#[]⟩)::(nat_lit 81,{cls:=Value.type "type",data:=Ua {name:=Str.ofString "NoEnd",bases:=[Value.ref 32],mro:=[Value.ref 81,Value.ref 32,Value.type "ValueError",Value.type "Exception",Value.type "BaseException",Value.type "object"],ns:=80,qualname:=Str.ofString "NoEnd"},slots:=#[some (Value.ref 72),none,some (Value.str (Str.ofString "NoEnd") 264),some (Value.str (Str.ofString "NoEnd") 272),some (Value.builtin "ValueError.__new__"),some (Value.bool true)]})::(nat_lit 91,⟨(.type "tuple"),none,.seq #[] 0,#[]⟩)::(nat_lit 92,⟨kd,none,.dict #[ke P "__module__" 287 (kS "unjump.errors" 187),ke P "__firstlineno__" 291 (.int 14 290),ke P "__static_attributes__" 292 (kR 91),ke P "__doc__" 293 .none] 2,#[]⟩)::(nat_lit 93,{cls:=Value.type "type",data:=Ua {name:=Str.ofString "TooGreat",bases:=[Value.ref 32],mro:=[Value.ref 93,Value.ref 32,Value.type "ValueError",Value.type "Exception",Value.type "BaseException",Value.type "object"],ns:=92,qualname:=Str.ofString "TooGreat"},slots:=#[some (Value.ref 84),none,some (Value.str (Str.ofString "TooGreat") 280),some (Value.str (Str.ofString "TooGreat") 288),some (Value.builtin "ValueError.__new__"),some (Value.bool true)]})::(nat_lit 103,⟨(.type "tuple"),none,.seq #[] 0,#[]⟩)::(nat_lit 104,⟨kd,none,.dict #[ke P "__module__" 303 (kS "unjump.errors" 187),ke P "__firstlineno__" 307 (.int 16 306),ke P "__static_attributes__" 308 (kR 103),ke P "__doc__" 309 .none] 2,#[]⟩)::(nat_lit 105,{cls:=Value.type "type",data:=Ua {name:=Str.ofString "NoForm",bases:=[Value.ref 32],mro:=[Value.ref 105,Value.ref 32,Value.type "ValueError",Value.type "Exception",Value.type "BaseException",Value.type "object"],ns:=104,qualname:=Str.ofString "NoForm"},slots:=#[some (Value.ref 96),none,some (Value.str (Str.ofString "NoForm") 296),some (Value.str (Str.ofString "NoForm") 304),some (Value.builtin "ValueError.__new__"),some (Value.bool true)]})::(nat_lit 115,⟨(.type "tuple"),none,.seq #[] 0,#[]⟩)::(nat_lit 116,⟨kd,none,.dict #[ke P "__module__" 319 (kS "unjump.errors" 187),ke P "__firstlineno__" 323 (.int 18 322),ke P "__static_attributes__" 324 (kR 115),ke P "__doc__" 325 .none] 2,#[]⟩)::(nat_lit 117,{cls:=Value.type "type",data:=Ua {name:=Str.ofString "TwoWays",bases:=[Value.ref 32],mro:=[Value.ref 117,Value.ref 32,Value.type "ValueError",Value.type "Exception",Value.type "BaseException",Value.type "object"],ns:=116,qualname:=Str.ofString "TwoWays"},slots:=#[some (Value.ref 108),none,some (Value.str (Str.ofString "TwoWays") 312),some (Value.str (Str.ofString "TwoWays") 320),some (Value.builtin "ValueError.__new__"),some (Value.bool true)]})::(nat_lit 127,⟨(.type "tuple"),none,.seq #[] 0,#[]⟩)::(nat_lit 128,⟨kd,none,.dict #[ke P "__module__" 335 (kS "unjump.errors" 187),ke P "__firstlineno__" 339 (.int 20 338),ke P "__static_attributes__" 340 (kR 127),ke P "__doc__" 341 .none] 2,#[]⟩)::(nat_lit 129,{cls:=Value.type "type",data:=Ua {name:=Str.ofString "NoWay",bases:=[Value.ref 32],mro:=[Value.ref 129,Value.ref 32,Value.type "ValueError",Value.type "Exception",Value.type "BaseException",Value.type "object"],ns:=128,qualname:=Str.ofString "NoWay"},slots:=#[some (Value.ref 120),none,some (Value.str (Str.ofString "NoWay") 328),some (Value.str (Str.ofString "NoWay") 336),some (Value.builtin "ValueError.__new__"),some (Value.bool true)]})::(nat_lit 137,kc "ways" 346 23 1 132 181 350 351)::(nat_lit 138,kg "ways" 11 "unjump.nodes" 344 137)::(nat_lit 144,kc "with_ways" 353 29 2 139 181 358 359)::(nat_lit 145,kg "with_ways" 12 "unjump.nodes" 344 144)::(nat_lit 151,kc "walked" 361 35 2 146 181 373 374)::(nat_lit 152,kg "walked" 13 "unjump.nodes" 344 151)::(nat_lit 156,⟨(.type "code"),none,.fields #[(.str "numbered" 376),(.str "numbered" 377),(.str "/claim/cut.py" 378),(.int 55 0),(.int 2 0),(.int 0 0),(.int 0 0),(.int 3 0),(.ref 153),(.bool true),(.int 181 0),(.ref 154),.none,.none,.none,(.ref 155),(.int 379 0),(.int 55 0),(.str "/claim/cut.py" 380)],#[]⟩)::(nat_lit 157,kg "numbered" 14 "unjump.nodes" 344 156)::(nat_lit 161,⟨(.type "code"),none,.fields #[(.str "set_left" 386),(.str "set_left" 387),(.str "/claim/cut.py" 388),(.int 60 0),(.int 2 0),(.int 0 0),(.int 0 0),(.int 3 0),(.ref 158),(.bool true),(.int 181 0),(.ref 159),.none,.none,.none,(.ref 160),(.int 389 0),(.int 60 0),(.str "/claim/cut.py" 390)],#[]⟩)::(nat_lit 162,kg "set_left" 17 "unjump.rings" 384 161)::(nat_lit 166,⟨(.type "code"),none,.fields #[(.str "links_among" 392),(.str "links_among" 393),(.str "/claim/cut.py" 394),(.int 69 0),(.int 2 0),(.int 0 0),(.int 0 0),(.int 3 0),(.ref 163),(.bool true),(.int 181 0),(.ref 164),.none,.none,.none,(.ref 165),(.int 395 0),(.int 69 0),(.str "/claim/cut.py" 396)],#[]⟩)::(nat_lit 167,kg "links_among" 18 "unjump.rings" 384 166)::(nat_lit 171,⟨(.type "code"),none,.fields #[(.str "turned" 398),(.str "turned" 399),(.str "/claim/cut.py" 400),(.int 72 0),(.int 1 0),(.int 0 0),(.int 0 0),(.int 3 0),(.ref 168),(.bool true),(.int 181 0),(.ref 169),.none,.none,.none,(.ref 170),(.int 401 0),(.int 72 0),(.str "/claim/cut.py" 402)],#[]⟩)::(nat_lit 172,kg "turned" 19 "unjump.rings" 384 171)::(nat_lit 178,kc "come_to" 404 78 3 173 181 413 414)::(nat_lit 179,kg "come_to" 20 "unjump.rings" 384 178)::(nat_lit 183,⟨(.type "code"),none,.fields #[(.str "doors_of" 416),(.str "doors_of" 417),(.str "/claim/cut.py" 418),(.int 88 0),(.int 2 0),(.int 0 0),(.int 0 0),(.int 3 0),(.ref 180),(.bool true),(.int 181 0),(.ref 181),.none,.none,.none,(.ref 182),(.int 419 0),(.int 88 0),(.str "/claim/cut.py" 420)],#[]⟩)::(nat_lit 184,kg "doors_of" 21 "unjump.rings" 384 183)::(nat_lit 188,⟨(.type "code"),none,.fields #[(.str "doubled" 424),(.str "doubled" 425),(.str "/claim/cut.py" 426),(.int 97 0),(.int 1 0),(.int 0 0),(.int 0 0),(.int 3 0),(.ref 185),(.bool true),(.int 181 0),(.ref 186),.none,.none,.none,(.ref 187),(.int 427 0),(.int 97 0),(.str "/claim/cut.py" 428)],#[]⟩)::(nat_lit 189,kg "doubled" 23 "unjump.doubling" 422 188)::(nat_lit 195,kc "chosen_head" 430 113 3 190 181 439 440)::(nat_lit 196,kg "chosen_head" 24 "unjump.doubling" 422 195)::(nat_lit 200,⟨(.type "code"),none,.fields #[(.str "come_round" 442),(.str "come_round" 443),(.str "/claim/cut.py" 444),(.int 115 0),(.int 4 0),(.int 0 0),(.int 0 0),(.int 3 0),(.ref 197),(.bool true),(.int 181 0),(.ref 198),.none,.none,.none,(.ref 199),(.int 445 0),(.int 115 0),(.str "/claim/cut.py" 446)],#[]⟩)::(nat_lit 201,kg "come_round" 25 "unjump.doubling" 422 200)::(nat_lit 205,⟨(.type "code"),none,.fields #[(.str "put_copies" 448),(.str "put_copies" 449),(.str "/claim/cut.py" 450),(.int 118 0),(.int 4 0),(.int 0 0),(.int 0 0),(.int 3 0),(.ref 202),(.bool true),(.int 181 0),(.ref 203),.none,.none,.none,(.ref 204),(.int 451 0),(.int 118 0),(.str "/claim/cut.py" 452)],#[]⟩)::(nat_lit 206,kg "put_copies" 26 "unjump.doubling" 422 205)::(nat_lit 210,⟨(.type "code"),none,.fields #[(.str "led_to_copies" 454),(.str "led_to_copies" 455),(.str "/claim/cut.py" 456),(.int 126 0),(.int 2 0),(.int 0 0),(.int 0 0),(.int 3 0),(.ref 207),(.bool true),(.int 181 0),(.ref 208),.none,.none,.none,(.ref 209),(.int 457 0),(.int 126 0),(.str "/claim/cut.py" 458)],#[]⟩)::(nat_lit 211,kg "led_to_copies" 27 "unjump.doubling" 422 210)::(nat_lit 215,⟨(.type "code"),none,.fields #[(.str "guided" 462),(.str "guided" 463),(.str "/claim/cut.py" 464),(.int 129 0),(.int 1 0),(.int 0 0),(.int 0 0),(.int 3 0),(.ref 212),(.bool true),(.int 181 0),(.ref 213),.none,.none,.none,(.ref 214),(.int 465 0),(.int 129 0),(.str "/claim/cut.py" 466)],#[]⟩)::(nat_lit 216,kg "guided" 29 "unjump.guiding" 460 215)::(nat_lit 220,⟨(.type "code"),none,.fields #[(.str "goals_of" 468),(.str "goals_of" 469),(.str "/claim/cut.py" 470),(.int 144 0),(.int 1 0),(.int 0 0),(.int 0 0),(.int 3 0),(.ref 217),(.bool true),(.int 181 0),(.ref 218),.none,.none,.none,(.ref 219),(.int 471 0),(.int 144 0),(.str "/claim/cut.py" 472)],#[]⟩)::(nat_lit 221,kg "goals_of" 30 "unjump.guiding" 460 220)::(nat_lit 227,kc "free_name" 474 146 1 222 181 482 483)::(nat_lit 228,kg "free_name" 31 "unjump.guiding" 460 227)::(nat_lit 232,⟨(.type "code"),none,.fields #[(.str "put_guides" 485),(.str "put_guides" 486),(.str "/claim/cut.py" 487),(.int 155 0),(.int 4 0),(.int 0 0),(.int 0 0),(.int 3 0),(.ref 229),(.bool true),(.int 181 0),(.ref 230),.none,.none,.none,(.ref 231),(.int 488 0),(.int 155 0),(.str "/claim/cut.py" 489)],#[]⟩)::(nat_lit 233,kg "put_guides" 32 "unjump.guiding" 460 232)::(nat_lit 237,⟨(.type "code"),none,.fields #[(.str "tests_for" 491),(.str "tests_for" 492),(.str "/claim/cut.py" 493),(.int 163 0),(.int 3 0),(.int 0 0),(.int 0 0),(.int 3 0),(.ref 234),(.bool true),(.int 181 0),(.ref 235),.none,.none,.none,(.ref 236),(.int 494 0),(.int 163 0),(.str "/claim/cut.py" 495)],#[]⟩)::(nat_lit 238,kg "tests_for" 33 "unjump.guiding" 460 237)::(nat_lit 244,kc "put_sums" 497 167 4 239 181 507 508)::(nat_lit 245,kg "put_sums" 34 "unjump.guiding" 460 244)::(nat_lit 251,kc "_law_cell" 512 174 2 246 181 517 518)::(nat_lit 252,kl "_law_cell" 36 251)::(nat_lit 258,kc "_law_mixed" 520 178 2 253 181 526 527)::(nat_lit 259,kl "_law_mixed" 37 258)::(nat_lit 265,kc "_law_goals" 529 181 1 260 181 533 534)::(nat_lit 266,kl "_law_goals" 38 265)::(nat_lit 272,kc "_law_order" 536 187 1 267 181 546 547)::(nat_lit 273,kl "_law_order" 39 272)::(nat_lit 279,kc "_law_graph" 549 202 1 274 181 557 558)::(nat_lit 280,kl "_law_graph" 40 279)::(nat_lit 286,kc "_law_kinds" 560 213 1 281 181 566 567)::(nat_lit 287,kl "_law_kinds" 41 286)::(nat_lit 293,kc "_law_refused" 569 218 2 288 181 576 577)::(nat_lit 294,kl "_law_refused" 42 293)::(nat_lit 300,kc "_law_ring" 579 228 3 295 181 590 591)::(nat_lit 301,kl "_law_ring" 43 300)::(nat_lit 305,⟨(.type "code"),none,.fields #[(.str "_law_sums" 593),(.str "_law_sums" 594),(.str "/claim/cut.py" 595),(.int 239 0),(.int 2 0),(.int 0 0),(.int 0 0),(.int 3 0),(.ref 302),(.bool true),(.int 181 0),(.ref 303),.none,.none,.none,(.ref 304),(.int 596 0),(.int 239 0),(.str "/claim/cut.py" 597)],#[]⟩)::(nat_lit 306,kl "_law_sums" 44 305)::(nat_lit 312,kc "_law_knot" 599 241 4 307 181 609 610)::(nat_lit 313,kl "_law_knot" 45 312)::(nat_lit 319,kc "_law_counts" 612 250 2 314 181 618 619)::(nat_lit 320,kl "_law_counts" 46 319)::(nat_lit 326,kc "law" 621 259 1 321 181 630 631)::(nat_lit 327,kl "law" 47 326)::[]
noncomputable def qH:Program:={PySem.Challenge.pw_unjump_k44_too_great with main:={PySem.Challenge.pw_unjump_k44_too_great.main with body:=[top 47]}}
noncomputable def lH:List Str:="JumpError"::"ByNought"::"NoRow"::"NoJump"::"NoEnd"::"TooGreat"::"NoForm"::"TwoWays"::"NoWay"::"ways"::"with_ways"::"walked"::"numbered"::"MOST_NODES"::"set_left"::"links_among"::"turned"::"come_to"::"doors_of"::"doubled"::"chosen_head"::"come_round"::"put_copies"::"led_to_copies"::"guided"::"goals_of"::"free_name"::"put_guides"::"tests_for"::"put_sums"::"_law_cell"::"_law_mixed"::"_law_goals"::"_law_order"::"_law_graph"::"_law_kinds"::"_law_refused"::"_law_ring"::"_law_sums"::"_law_knot"::"_law_counts"::[]
noncomputable def aH:List Addr:=2::3::22::28::29::30::31::32::43::44::45::55::56::57::67::68::69::79::80::81::91::92::93::103::104::105::115::116::117::127::128::129::137::138::144::145::151::152::156::157::161::162::166::167::171::172::178::179::183::184::188::189::195::196::200::201::205::206::210::211::215::216::220::221::227::228::232::233::237::238::244::245::251::252::258::259::265::266::272::273::279::280::286::287::293::294::300::301::305::306::312::313::319::320::326::327::[]
theorem eH(P:Params):aH=(KH P).map (·.1):=by kernel_rfl
theorem wS:PySem.Challenge.rw_unjump_k44_too_great.wellSaid=true:=by kernel_rfl
theorem hlH:PySem.W.LeftO PySem.Challenge.pw_unjump_k44_too_great qH lH (fun s=>PySem.W.xlAt qH [] s&&PySem.W.recOk [] s) (PySem.W.Hook.obs (PySem.W.kmHook KH aH eH [191])) (PySem.W.Hook.val (PySem.W.kmHook KH aH eH [191])) 6004:=by intro w;kernel_rfl
end Hand
def tmI(x:Lean.TSyntax `term):Lean.MacroM (Lean.TSyntax `term):=do
 if x.raw.isNatLit?.isSome then return<-`(.int $x)
 if x.raw.isStrLit?.isSome then return<-`(.str $x)
 let s:=x.raw.getId.toString
 if x.raw.isIdent&&s.front=='v'&&(s.drop 1).all Char.isDigit then return<-`(.var $(Lean.Syntax.mkNumLit (s.drop 1).toString))
 return x
def rcP:Nat->Lean.Syntax->Lean.MacroM (Lean.TSyntax `rcasesPat)
 | 0,_=>Lean.Macro.throwUnsupported
 | n+1,x=>do
  if x.isOfKind `Lean.Parser.Term.anonymousCtor then
   let a<-x[1].getSepArgs.mapM fun y=>do `(Lean.Parser.Tactic.rcasesPatLo| $(<-rcP n y):rcasesPat)
   `(rcasesPat| ⟨$a,*⟩)
  else if x.isOfKind `Lean.Parser.Term.hole then `(rcasesPat| _)
  else if x.isIdent then `(rcasesPat| $(Lean.mkIdentFrom x x.getId):ident)
  else Lean.Macro.throwUnsupported
local macro_rules | `(tactic| let ⟨$x,*⟩:=$v)=>do `(tactic| obtain $(<-rcP 9 (<-`(⟨$x,*⟩))):rcasesPat := $v)
local macro_rules | `(⇑$X)=>`(PySem.wpAny (PySem.model ($X).prog ($X).w) ($X).A)
set_option hygiene false
local macro_rules | `(tactic| left)=>`(tactic| exact absurd h Bf9)
set_option hygiene true
abbrev VSP:=PySem.Value->PySem.Shared->Prop
abbrev PLO:=List (PySem.Addr×PySem.Obj)
local macro_rules | `(tactic| show $t)=>`(tactic| exact $t)
abbrev LS:=List PySem.Str
abbrev LW:=List PySem.Value
abbrev LQ:=List Nat
open PySem renaming Value→Uf, Shared→Ug, Addr→Uh, Program→Ui, World→Uj, Heap→Uk
def na:=@Nat.le_refl
def nc:=@if_neg
def ng:=@if_pos
def nh:=@Nat.lt_of_lt_of_le
def ni:=@Nat.le_trans
def nj:=@Nat.ne_of_lt
def nq:=@Nat.zero_le
def nr:=@Nat.ne_of_gt
def nv:=@Nat.lt_irrefl
def ma:=@Nat.le_of_lt
def mh:=@decide_eq_false
def mm:=@Nat.le_succ
local macro_rules | `(↥$x)=>`(by simpa using $x)
local macro_rules | `('d')=>`(by decide)
local macro_rules | `('o')=>`(by lia)
local macro_rules | `('k')=>`(by decide+kernel)
local macro_rules | `(tactic| symm)=>`(tactic| try walk_at "ew")
local macro_rules | `(tactic| rfl')=>`(tactic| try walk_at "ev")
local macro_rules | `(↑$x)=>`(some (.ref $x))
local macro_rules (kind:=Lean.Parser.Command.declaration) | s=>do
 unless s[0][4].getNumArgs==0&&(s[1].getKind==`Lean.Parser.Command.definition||s[1].getKind==`Lean.Parser.Command.abbrev) do Lean.Macro.throwUnsupported
 return s.setArg 0 (s[0].setArg 4 (<-`(command| noncomputable def x:=0)).raw[0][4])
namespace L2
open PySem PySem.Spec PyProof.Rows
abbrev Key:=Sum Int Str
def E9:Key->Uf->Bool
 | .inl k,v=>Value.isInt k v
 | .inr x,v=>Value.isStrOf x v
def keyH(w:Uj):Key->Int
 | .inl k=>hashInt k
 | .inr x=>hashStr w x
def Zs:∀{k:Key} {v:Uf},E9 k v=true->(∃i t,k=Du i/\v=Value.int i t)\/(∃x t,k=Mx x/\v=Value.str x t)
 | .inl i,v,h=>by
  let⟨t,e⟩:=Value.isInt_shape (k:=i) (v:=v) h
  show .inl ⟨i,t,rfl,e⟩
 | .inr x,v,h=>by
  let⟨t,e⟩:=Value.isStrOf_shape (x:=x) (v:=v) h
  show .inr ⟨x,t,rfl,e⟩
def Z45(i:Int)(t:Tok):E9 (.inl i) (.int i t)=true:=by simp[E9,Value.isInt]
def Zd0(x:Str)(t:Tok):E9 (.inr x) (.str x t)=true:=by simp[E9,Value.isStrOf]
def Yd3(a b:Int):decide ((Du a:Key)=Du b)=(a==b):=by
 by_cases e:a=b
 .subst e;simp
 .have h:¬(Du a:Key)=Du b:=fun q=>e (My q)
  rw[mh h]
  show(beq_eq_false_iff_ne.mpr e).symm
def Y96(a b:Str):decide ((Mx a:Key)=Mx b)=decide (a=b):=by
 by_cases e:a=b
 .subst e;simp
 .have h:¬(Mx a:Key)=Mx b:=fun q=>e (Mx.inj q)
  rw[mh h,mh e]
def Y73(a:Int)(b:Str):decide ((Du a:Key)=Mx b)=false:=mh (fun q=>nomatch q)
def Yf1(a:Str)(b:Int):decide ((Mx a:Key)=Du b)=false:=mh (fun q=>nomatch q)
def Zi(prog:Ui)(w:Uj):PySem.KeyKind prog w Key where
 is:=E9
 hash:=keyH w
 inj:=fun v a b g d=>by
  rcases Zs g with⟨i,t,rfl,rfl⟩ | ⟨x,t,rfl,rfl⟩
  .rcases Zs d with⟨j,u,rfl,e⟩ | ⟨y,u,rfl,e⟩
   .injection e with e1 _;rw[e1]
   .exact nomatch e
  .rcases Zs d with⟨j,u,rfl,e⟩ | ⟨y,u,rfl,e⟩
   .exact nomatch e
   .injection e with e1 _;rw[e1]
 byValue:=fun k v h=>by
  rcases Zs h with⟨i,t,rfl,rfl⟩ | ⟨x,t,rfl,rfl⟩<;>rfl
 pyHash:=fun c h=>by
  rcases Zs c with⟨i,t,rfl,rfl⟩ | ⟨x,t,rfl,rfl⟩
  .exact wpAny_pyHash_int h
  .exact wpAny_pyHash_str h
 eqBool:=fun f c h=>by
  rcases Zs f with⟨i,t,rfl,rfl⟩ | ⟨x,t,rfl,rfl⟩
  .rcases Zs c with⟨j,u,rfl,rfl⟩ | ⟨y,u,rfl,rfl⟩
   .rw[Yd3] at h;show wpAny_eqBool_int h
   .rw[Y73] at h;show Hh.int_str i t y u _ _ _ _ h
  .rcases Zs c with⟨j,u,rfl,rfl⟩ | ⟨y,u,rfl,rfl⟩
   .rw[Yf1] at h;show Hh.str_int x t j u _ _ _ _ h
   .rw[Y96] at h;show wpAny_eqBool_str h
 «strs»:=fun k x t v h=>by
  rcases Zs h with⟨i,u,rfl,e⟩ | ⟨y,u,rfl,e⟩
  .exact nomatch e
  .injection e with e1 _
   subst e1
   cases v<;>rfl
def Bp(prog:Ui)(w:Uj)(k:Key)(v:Uf):(Zi prog w).is k v=E9 k v:=rfl
def Fl(prog:Ui)(w:Uj)(i:Int)(t:Tok):(Zi prog w).is (.inl i) (.int i t)=true:=Z45 i t
def Fp(prog:Ui)(w:Uj)(x:Str)(t:Tok):(Zi prog w).is (.inr x) (.str x t)=true:=Zd0 x t
inductive V where
 | non | bl (b:Bool) | int (i:Int) | str (x:Str) | byt (b:Array UInt8) | flt (b:UInt64) | ref (a:Uh) | ty (n:String)
 deriving DecidableEq
abbrev LV:=List V
def RelV:V->Uf->Prop
 | .non,u=>u=Value.none
 | .bl b,u=>u=Value.bool b
 | .int i,u=>∃t,u=Value.int i t
 | .str x,u=>∃t,u=Value.str x t
 | .byt b,u=>∃t,u=Value.bytes b t
 | .flt b,u=>∃t,u=Value.float b t
 | .ref a,u=>u=Value.ref a
 | .ty n,u=>u=Value.type n
abbrev Vals:LV->LW->Prop:=Paired RelV
def Vals.length{xs:LV}{us:LW}(r:Vals xs us):xs.length=us.length:=Paired.length r
def Vals.get:∀{xs:LV} {us:LW} {i:Nat} {x:V},Vals xs us->xs[i]?=some x->∃u,us[i]?=some u/\RelV x u
 | _,_,_,_,.nil,e=>by simp at e
 | _,_,0,_,.cons r _,e=>by simp at e;subst e;show⟨_,rfl,r⟩
 | _,_,i+1,x,.cons _ t,e=>by
  let⟨u,b,a⟩:=Vals.get (i:=i) (x:=x) t ↥e
  show⟨u,↥b,a⟩
def Vals.set{x:V}{u:Uf}(r:RelV x u):∀{xs:LV} {us:LW} (i:Nat),Vals xs us->Vals (xs.set i x) (us.set i u)
 | _,_,_,.nil=> .nil
 | _,_,0,.cons _ t=> .cons r t
 | _,_,i+1,.cons q t=> .cons q (Vals.set r i t)
def Vals.append:∀{xs ys:LV} {us a:LW},Vals xs us->Vals ys a->Vals (xs++ys) (us++a):=by
 intro xs ys us a h s
 induction h with
 | nil=>show s
 | cons r t ih=>show .cons r ih
def Vals.take:∀{xs:LV} {us:LW} (n:Nat),Vals xs us->Vals (xs.take n) (us.take n)
 | _,_,0,_=> .nil
 | _,_,_+1,.nil=> .nil
 | _,_,n+1,.cons r t=> .cons r (Vals.take n t)
def Vals.drop:∀{xs:LV} {us:LW} (n:Nat),Vals xs us->Vals (xs.drop n) (us.drop n)
 | _,_,0,r=>r
 | _,_,_+1,.nil=> .nil
 | _,_,n+1,.cons _ t=>Vals.drop n t
def RelO:Option V->Option Uf->Prop
 | some v,some u=>RelV v u
 | none,none=>True
 | _,_=>False
def KV{a:Type}:List (a×V)->List (a×Uf)->Prop:=Paired fun(p:a×V) (q:a×Uf)=>p.1=q.1/\RelV p.2 q.2
def kV:Key->V
 | .inl i=> .int i
 | .inr x=> .str x
inductive HO where
 | lst (xs:LV)
 | tup (xs:LV)
 | dK (kvs:List (Key×V)) | dT (kvs:List (List Key×V))
 | set (S:Int->Bool) (n:Nat)
 | ins (C dx:Uh) (fs:List (Str×V))
 | own (x:Uh)
 | xd (fs:List (Str×V))
 | met (f x:Uh)
 | rng (lo hi:Int)
 | frz (o:Obj) (u:HO)
 | tbl (ps:Array Uf)
 | ext (φ:Uk->Prop)
abbrev Hp:=Uh->Option HO
def upd(H:Hp)(a:Uh)(o:HO):Hp:=fun b=>if b=a then some o else H b
def Zd{H:Hp}{a:Uh}{o:HO}:upd H a o a=some o:=by unfold upd;rw[ng rfl]
def Z7{H:Hp}{a b:Uh}{o:HO}(h:b≠a):upd H a o b=H b:=by unfold upd;rw[nc h]
def Yk9{H:Hp}{a b:Uh}{o u:HO}(h:H a=some o)(h':H b=some u)(d:o≠u):a≠b:=by
 intro e;subst e;rw[h] at h';show d (Hb h')
def Zj{H:Hp}{a b:Uh}{o:HO}(h:H a=some o)(h':H b=none):a≠b:=by
 intro e;subst e;rw[h] at h';cases h'
section
variable(P:Ui)(w:Uj)
def Y6(H:Hp)(h:Uk)(a:Uh):HO->Prop
 | .lst d=>d.length<=sizeLine/\∃(c:LW) (n:Nat),Vals d c/\h.get? a=some {cls:= .type "list",data:= .seq c.toArray n}
 | .tup d=>d.length<=sizeLine/\∃c:LW,Vals d c/\IsTup h a c.toArray
 | .dK b=>b.length<=sizeLine/\(a==sysModules)=false/\∃k,KV b k/\h.DictOf (Zi P w) a k
 | .dT b=>b.length<=sizeLine/\(a==sysModules)=false/\∃d:List (List Key×Uh×Uf),
   Paired (fun(p:List Key×V) (q:List Key×Uh×Uf)=>p.1=q.1/\H q.2.1=some (.tup (p.1.map kV))/\RelV p.2 q.2.2) b d/\
   ∃o r A,h.get? a=some o/\o.ExactDict/\o.data= .dict r A/\r.toList=d.map (entryOfKey (tupleKind (Zi P w)))/\(d.map (·.1)).Nodup
 | .set S n=>h.SetOf (intKind P w) a S n
 | .ins C i g=>H i=some (.own a)/\g.length<=1000/\i≠a/\h.get? a=some (PySem.W.instObj C i)/\
   ∃e,h.Ns1 i e/\(∀f,RelO (g.lookup f) (e f))/\PySem.Within e (g.map (·.1))
 | .own _=>∃o,h.get? a=some o
 | .xd g=>∃e,h.Ns1 a e/\∀f,RelO (g.lookup f) (e f)
 | .rng y z=>∃t u v,h.get? a=some {cls:= .type "range",data:= .fields #[.int y t,.int z u,.int 1 v]}
 | .frz o u=>h.get? a=some o/\Y6 H h a u
 | .tbl s=>h.get? a=some {cls:= .none,data:= .fields s}
 | .met f x=>h.get? a=some (PySem.W.methodObj (.ref f) (.ref x))
 | .ext j=>j h/\(∃o,h.get? a=some o)/\∀m l:Uk,j m->(∀o,m.get? a=some o->l.get? a=some o)->j l
def HOk(H:Hp)(h:Uk):Prop:=∀a o,H a=some o->Y6 P w H h a o
end
section
variable{P:Ui}{w:Uj}{H H':Hp}{h h':Uk}{a:Uh}{o:HO}
def Y6.lt(x:Y6 P w H h a o):a<h.objs.size:=by
 cases o with
 | lst c=>let⟨_,_,_,_,e⟩:=x;show Ax e
 | tup c=>let⟨_,_,_,p⟩:=x;show p.lt
 | dK b=>let⟨_,_,_,_,o,_,_,e,_⟩:=x;show Ax e
 | dT b=>let⟨_,_,_,_,o,_,_,e,_⟩:=x;show Ax e
 | set S n=>let⟨o,_,_,_,e,_⟩:=x;show Ax e
 | ins C m d=>let⟨_,_,_,e,_⟩:=x;show Ax e
 | own y=>let⟨_,e⟩:=x;show Ax e
 | xd d=>let⟨_,⟨_,_,_,e,_⟩,_⟩:=x;show Ax e
 | rng k l=>let⟨_,_,_,e⟩:=x;show Ax e
 | frz j u=>let⟨e,_⟩:=x;show Ax e
 | tbl i=>show Ax (show h.get? a=some _ from x)
 | met f y=>show Ax (show h.get? a=some _ from x)
 | ext g=>let⟨_,⟨_,e⟩,_⟩:=x;show Ax e
def Paired.mapP{d c:Type}{F G:d->c->Prop}:∀{l₁:List d} {l₂:List c},Paired F l₁ l₂->(∀a b,F a b->G a b)->Paired G l₁ l₂:=by
 intro l₁ l₂ h f
 induction h with
 | nil=>show .nil
 | cons r t ih=>show .cons (f _ _ r) ih
def Y6.stay(x:Y6 P w H h a o)(k:∀b u,(b=a\/H b=some (.own a))->h.get? b=some u->h'.get? b=some u)
  (J:∀b,H b=some (.own a)->H' b=some (.own a)) (I:∀b xs,H b=some (.tup xs)->H' b=some (.tup xs)):Y6 P w H' h' a o:=by
 induction o with
 | lst xs=>let⟨z,l,n,r,e⟩:=x;show⟨z,l,n,r,k _ _ (.inl rfl) e⟩
 | tup xs=>let⟨z,l,r,g,e,c⟩:=x;show⟨z,l,r,g,k _ _ (.inl rfl) e,c⟩
 | dK A=>let⟨z,y,E,r,g,i,j,e,c⟩:=x;show⟨z,y,E,r,g,i,j,k _ _ (.inl rfl) e,c⟩
 | dT A=>
  let⟨z,y,xs,r,g,i,j,e,c⟩:=x
  show⟨z,y,xs,Paired.mapP r fun p q z=>⟨z.1,I _ _ z.2.1,z.2.2⟩,g,i,j,k _ _ (.inl rfl) e,c⟩
 | set S n=>let⟨g,i,j,t,e,c⟩:=x;show⟨g,i,j,t,k _ _ (.inl rfl) e,c⟩
 | ins C Q K=>
  let⟨d,z,F,e,s,⟨m,i,j,L,c⟩,r⟩:=x
  show⟨J _ d,z,F,k _ _ (.inl rfl) e,s,⟨m,i,j,k _ _ (.inr d) L,c⟩,r⟩
 | own y=>let⟨g,e⟩:=x;show⟨g,k _ _ (.inl rfl) e⟩
 | xd K=>let⟨s,⟨m,i,j,e,c⟩,r⟩:=x;show⟨s,⟨m,i,j,k _ _ (.inl rfl) e,c⟩,r⟩
 | rng N O=>let⟨t,u,v,e⟩:=x;show⟨t,u,v,k _ _ (.inl rfl) e⟩
 | frz g u G=>let⟨e,q⟩:=x;show⟨k _ _ (.inl rfl) e,G q⟩
 | tbl D=>
  have e:h.get? a=some {cls:= .none,data:= .fields D}:=x
  change h'.get? a=some {cls:= .none,data:= .fields D}
  show k a _ (.inl rfl) e
 | met f y=>
  have e:h.get? a=some (PySem.W.methodObj (.ref f) (.ref y)):=x
  change h'.get? a=some (PySem.W.methodObj (.ref f) (.ref y))
  show k a _ (.inl rfl) e
 | ext M=>let⟨p,⟨o,e⟩,B⟩:=x;show⟨B _ _ p fun o q=>k _ _ (.inl rfl) q,⟨o,k _ _ (.inl rfl) e⟩,B⟩
def HOk.lt(x:HOk P w H h)(e:H a=some o):a<h.objs.size:=(x a o e).lt
def HOk.fresh(x:HOk P w H h)(e:h.objs.size<=a):H a=none:=by
 cases q:H a with
 | none=>rfl
 | some u=>show absurd (nh (x.lt q) e) (nv _)
def HOk.kept(x:HOk P w H h)(k:∀b u,h.get? b=some u->h'.get? b=some u):HOk P w H h':=fun a o e=>
 (x a o e).stay (fun b u _ q=>k b u q) (fun _ q=>q) fun _ _ q=>q
def HOk.laid(x:HOk P w H h)(k:∀b u,h.get? b=some u->h'.get? b=some u)(i:h.objs.size<=a)(d:Y6 P w (upd H a o) h' a o):HOk P w (upd H a o) h':=fun b u e=>by
 have f:=x.fresh i
 by_cases g:b=a
 .subst g;rw[Zd] at e;cases e;show d
 .rw[Z7 g] at e
  show(x b u e).stay (fun c v _ q=>k c v q) (fun c q=>by rw[Z7 (Zj q f)];show q) fun c j q=>by rw[Z7 (Zj q f)];show q
end
def Rd(H:Hp)(a:Uh)(u:HO):Prop:=H a=some u\/∃o,H a=some (.frz o u)
def Rd.ok{P:Ui}{w:Uj}{H:Hp}{h:Uk}{a:Uh}{u:HO}(r:Rd H a u)(x:HOk P w H h):Y6 P w H h a u:=by
 rcases r with r | ⟨o,r⟩
 .exact x a u r
 .let⟨_,q⟩:=x a _ r
  show q
def Mut:Option HO->Prop
 | some (.lst _)=>True
 | some (.dK _)=>True
 | some (.dT _)=>True
 | some (.set _ _)=>True
 | some (.ins _ _ _)=>True
 | some (.ext _)=>True
 | _=>False
section
variable{P:Ui}{w:Uj}{H:Hp}{h h':Uk}{x e:Uh}{o':HO}
def HOk.write(s:HOk P w H h)(i:Mut (H x))(p:e=x\/H e=some (.own x))(k:∀b u,b≠e->h.get? b=some u->h'.get? b=some u)(n:∃u,h'.get? e=some u)
  (m:Y6 P w (upd H x o') h' x o'):HOk P w (upd H x o') h':=fun b u q=>by
 have d:∀c y,H c=some (.own y)->c≠x:=fun c y r z=>by subst z;rw[r] at i;show i
 have f:∀c g,H c=some (.tup g)->c≠x:=fun c g r z=>by subst z;rw[r] at i;show i
 by_cases l:b=x
 .subst l;rw[Zd] at q;cases q;show m
 .rw[Z7 l] at q
  by_cases a:b=e
  .have o:H b=some (.own x):=by
    rcases p with z | z
    .exact absurd (a.trans z) l
    .rw[a];show z
   rw[q] at o;cases o
   let⟨v,t⟩:=n
   show⟨v,by rw[a];show t⟩
  .refine(s b u q).stay (fun c v j r=>k c v ?_ r) (fun c r=>by rw[Z7 (d c b r)];show r) fun c g r=>by rw[Z7 (f c g r)];show r
   rcases j with rfl | j
   .exact a
   .rintro rfl
    rcases p with z | z
    .exact d c b j z
    .rw[j] at z;cases z;show l rfl
end
structure Un(fs ex:List Uh)(H H':Hp)(h h':Uk):Prop where
 keep:∀b o,h.get? b=some o->H b=none->b∉fs->b∉ex->h'.get? b=some o
 slot:∀b o,h.get? b=some o->H b=none->b∈fs->b∉ex->∃sl,h'.get? b=some {o with slots:=sl}
 free:∀b o,h.get? b=some o->H b=none->b∉ex->H' b=none
 there:∀b o,h.get? b=some o->b∉ex->∃o',h'.get? b=some o'
 tups:∀b xs,H b=some (.tup xs)->H' b=some (.tup xs)
 frzs:∀b o u,H b=some (.frz o u)->H' b=some (.frz o u)
 tbls:∀b ps,H b=some (.tbl ps)->∃more,H' b=some (.tbl (ps++more))
section
variable{fs fs' ex ex':List Uh}{H H1 H2:Hp}{h h1 h2 h':Uk}{a x e:Uh}{o:HO}
def Un.any(u:Un fs ex H H1 h h1){b:Uh}{c:Obj}(q:h.get? b=some c)(n:H b=none)(d:b∉ex):∃g,h1.get? b=some {c with slots:=g}:=by
 by_cases f:b∈fs
 .exact u.slot b c q n f d
 .exact⟨c.slots,u.keep b c q n f d⟩
def Un.kept(k:∀b u,h.get? b=some u->h'.get? b=some u):Un fs ex H H h h':=
 ⟨fun b c q _ _ _=>k b c q,fun b c q _ _ _=>⟨c.slots,k b c q⟩,fun _ _ _ n _=>n,fun b c q _=>⟨c,k b c q⟩,fun _ _ q=>q,fun _ _ _ q=>q,fun _ d q=>⟨#[],by rw[q];simp⟩⟩
def Un.refl:Un fs ex H H h h:=Un.kept fun _ _ q=>q
def Un.laid(k:∀b u,h.get? b=some u->h'.get? b=some u)(f:h.objs.size<=a)(c:H a=none):Un fs ex H (upd H a o) h h' where
 keep:=fun b u q _ _ _=>k b u q
 slot:=fun b u q _ _ _=>⟨u.slots,k b u q⟩
 free:=fun b u q n _=>by rw[Z7 (nj (nh (Ax q) f))];show n
 there:=fun b u q _=>⟨u,k b u q⟩
 tups:=fun b d q=>by rw[Z7 (Zj q c)];show q
 frzs:=fun b u d q=>by rw[Z7 (Zj q c)];show q
 tbls:=fun b g q=>⟨#[],by rw[Z7 (Zj q c),q];simp⟩
def Un.write(d:Mut (H x))(p:e=x\/H e=some (.own x))(k:∀b u,b≠e->h.get? b=some u->h'.get? b=some u)(g:∃u,h'.get? e=some u):Un fs ex H (upd H x o) h h':=by
 have i:∀b,H b=none->b≠x:=fun b n z=>by subst z;rw[n] at d;show d
 have j:∀b,H b=none->b≠e:=fun b n z=>by
  subst z
  rcases p with r | r
  .exact i b n r
  .rw[n] at r;cases r
 have f:∀b u,H b=some u->¬Mut (some u)->b≠x:=fun b u q m z=>by subst z;rw[q] at d;show m d
 refine⟨fun b u q n _ _=>k b u (j b n) q,fun b u q n _ _=>⟨u.slots,k b u (j b n) q⟩,fun b u q n _=>by rw[Z7 (i b n)];show n,fun b u q _=>?_,
  fun b l q=>by rw[Z7 (f b _ q fun z=>z)];show q,fun b u l q=>by rw[Z7 (f b _ q fun z=>z)];show q,fun b s q=>⟨#[],by rw[Z7 (f b _ q fun z=>z),q];simp⟩⟩
 by_cases c:b=e
 .subst c;show g
 .exact⟨u,k b u c q⟩
end
def trk(h:Uk)(H:Hp):List Uh:=(Ao h.objs.size).filter fun a=>(H a).isSome
def hidT(h:Uk)(H:Hp):Uk:=PySem.W.hideAll h (trk h H)
def Z88(h:Uk)(H:Hp):(hidT h H).objs.size=h.objs.size:=PySem.W.hideAll_size _ _
def Zp0{h:Uk}{H:Hp}{b:Uh}{o:Obj}(e:h.get? b=some o)(n:H b=none):(hidT h H).get? b=some o:=
 PySem.W.hideAll_get _ e fun a=>by
  have q:(H b).isSome=true:=(Hr.mp a).2
  rw[n] at q;simp at q
def Y62{h:Uk}{H:Hp}{b:Uh}{o:Obj}(e:(hidT h H).get? b=some o):h.get? b=some o/\H b=none:=by
 have a:h.get? b=some o:=PySem.W.of_hideAll (trk h H) e
 refine⟨a,?_⟩
 cases q:H b with
 | none=>rfl
 | some x=>
  have c:b∈trk h H:=Hr.mpr ⟨He.mpr (Ax a),by simp[q]⟩
  have z:(hidT h H).get? b=none:=PySem.W.hideAll_none (trk h H) c
  rw[z] at e;cases e
def Y41(g h:Uk)(L:Uh):PLO:=(Ao h.objs.size).filterMap fun a=>if a=L\/(g.get? a).isSome=true then none else(h.get? a).map fun o=>(a,o)
def rest(g h:Uk)(L d:Uh):PLO:=(Y41 g h L).filter fun p=>decide (p.1≠d)
structure Mod(K:Ac)(mg:Str->Option Uf)(base:Uk):Prop where
 kin:K.In base
 glob:base.Ns mainGlobals mg
 blt:∃mb,base.Ns builtinsNs mb/\∀x:Str,x≠"__name__"->mb x=bootBuiltins x
 nolimit:base.NoLimit
structure Cx where
 prog:Ui
 w:Uj
 K:Ac
 mg:Str->Option Uf
 base:Uk
 A:Around
 N:LS
 s₀:Ug
 H₀:Hp
 env:Env
 outer:List Env
 stack:List Env
 ex:List Uh
 fn:Str->Bool
 calm:Bool
 pn:PLO
 xe:VSP
def frs(l:List Env):List Uh:=l.filterMap (·.frame)
abbrev Cx.fs(X:Cx):List Uh:=frs X.outer
def Vis(a:Scope)(x:Str):Prop:=a.names.lookup x=some .local\/a.names.lookup x=some .cell\/a.names.lookup x=some .free
def Loc(a:Scope)(x:Str):Prop:=a.names.lookup x=some .local\/a.names.lookup x=some .cell
def Look(env:Env)(h:Uk)(m:Str->Option Uf)(x:Str)(u:Uf):Prop:=
 (env.kindOf x=some .local/\m x=some u)\/((env.kindOf x=some .cell\/env.kindOf x=some .free)/\∃c,env.cells.lookup x=some c/\h.IsCell c (some u))
structure Cx.Ok(X:Cx):Prop where
 mod:Mod X.K X.mg X.base
 kind:X.env.scope.kind= .function
 glob:X.env.globals=mainGlobals
 blt:X.env.builtins=builtinsNs
 above:X.s₀.heap.objs.size<=X.env.locals
 inj:∀x y c,X.env.cells.lookup x=some c->X.env.cells.lookup y=some c->x=y
 has:∀x,(X.env.kindOf x=some .cell\/X.env.kindOf x=some .free)->∃c,X.env.cells.lookup x=some c
 cab:∀x c,X.fn x=true->X.env.cells.lookup x=some c->X.s₀.heap.objs.size<=c
 hd:X.calm=true->X.A.handled=none
 frames:X.A.frames=some X.stack
 stk:X.stack=X.outer\/(X.stack=X.env::X.outer/\X.env.frame=some X.env.locals)
 exf:∀b∈X.ex,b≠X.env.locals/\∀x c,X.env.cells.lookup x=some c->c≠b
 bs:∀b o,X.base.get? b=some o->X.s₀.heap.get? b=some o/\X.H₀ b=none
 bsz:X.base.objs.size<=X.s₀.heap.objs.size
 noex:∀b o,X.base.get? b=some o->b∉X.ex
 exfs:∀b∈X.ex,b∉X.fs
 funs:X.s₀.heap.FunFrames X.base X.outer
 frf:∀b∈X.fs,X.H₀ b=none
structure Inv(X:Cx)(pins:PLO)(σ:List (Option V))(H:Hp)(s:Ug):Prop where
 ok:X.Ok
 os:s.os=X.s₀.os
 bare:AllBare s.gens
 base:Un X.fs X.ex X.H₀ H X.s₀.heap s.heap
 loc:∃m,s.heap.Ns X.env.locals m/\∀(i:Nat) (x:Str) (v:V),X.N[i]?=some x->σ[i]?=some (some v)->Vis X.env.scope x->∃u,RelV v u/\Look X.env s.heap m x u
 cell:∀x c,X.env.cells.lookup x=some c->∃v,s.heap.IsCell c v
 free:H X.env.locals=none
 freeC:∀x c,X.env.cells.lookup x=some c->H c=none
 pin:∀p∈X.pn++pins,s.heap.get? p.1=some p.2/\H p.1=none/\p.1≠X.env.locals/\p.1∉X.fs/\∀v,p.2.data≠ .cell v
 hok:HOk X.prog X.w H s.heap
 len:σ.length=X.N.length
section
variable{X:Cx}{pins:PLO}{σ:List (Option V)}{H H':Hp}{s:Ug}{h':Uk}
def Cx.Ok.nofr(a:X.Ok){b:Uh}{o:Obj}(e:X.base.get? b=some o):b∉X.fs:=fun c=>by
 have:=(a.funs.mem c).1
 rw[e] at this;cases this
def Inv.bs(I:Inv X pins σ H s):∀b o,X.base.get? b=some o->s.heap.get? b=some o/\H b=none:=fun b o e=>
 ⟨I.base.keep b o (I.ok.bs b o e).1 (I.ok.bs b o e).2 (I.ok.nofr e) (I.ok.noex b o e),I.base.free b o (I.ok.bs b o e).1 (I.ok.bs b o e).2 (I.ok.noex b o e)⟩
def Inv.bk(I:Inv X pins σ H s):∀b o,X.base.get? b=some o->s.heap.get? b=some o:=fun b o e=>(I.bs b o e).1
def Inv.mod(I:Inv X pins σ H s):Mod X.K X.mg X.base:=I.ok.mod
def Inv.kIn(I:Inv X pins σ H s):X.K.In s.heap:=I.ok.mod.kin.keeps I.bk
def Inv.nolimit(I:Inv X pins σ H s):s.heap.NoLimit:=I.ok.mod.nolimit.keeps I.bk
def Inv.lt(I:Inv X pins σ H s):X.env.locals<s.heap.objs.size:=by let⟨_,a,_⟩:=I.loc;show a.lt
def Inv.sz(I:Inv X pins σ H s):X.s₀.heap.objs.size<=s.heap.objs.size:=ni I.ok.above (ma I.lt)
def Inv.nofs(I:Inv X pins σ H s){a:Uh}(h:s.heap.objs.size<=a):a∉X.fs:=fun c=>by
 let⟨_,o,b,_⟩:=I.ok.funs.mem c
 show absurd (nh (Ax b) (ni I.sz h)) (nv _)
def Inv.cne(I:Inv X pins σ H s):∀x c,X.env.cells.lookup x=some c->c≠X.env.locals:=fun x c e z=>by
 let⟨v,o,d,f⟩:=I.cell x c e
 let⟨m,⟨g,h,i,a,b,_⟩,_⟩:=I.loc
 rw[z,a] at d;cases d;rw[b] at f;cases f
def Inv.funs(I:Inv X pins σ H s):s.heap.FunFrames X.base X.outer:=by
 have f:∀(l:List Env),(∀b∈frs l,b∈X.fs)->X.s₀.heap.FunFrames X.base l->s.heap.FunFrames X.base l:=by
  intro l
  induction l with
  | nil=>intro _ _;trivial
  | cons q r h=>
   intro g m
   let⟨n,⟨L,o,a,k,j,p⟩,i⟩:=m
   have d:L∈X.fs:=g L (by unfold frs;rw[Mb,a];show Db)
   let⟨t,e⟩:=I.base.slot L o j (I.ok.frf L d) d fun z=>I.ok.exfs L z d
   show⟨n,⟨L,_,a,k,e,p⟩,h (fun b c=>g b (by unfold frs;rw[Mb,a];show Aj _ c)) i⟩
 show f X.outer (fun _ c=>c) I.ok.funs
def Inv.stack(I:Inv X pins σ H s):s.heap.FunFrames X.base X.stack:=by
 rcases I.ok.stk with e | ⟨e,hf⟩
 .rw[e];show I.funs
 .rw[e]
  let⟨m,a,_⟩:=I.loc
  refine .cons (by rw[I.ok.kind];decide) hf a ?_ I.funs
  show Heap.get?_none_of_le (ni I.ok.bsz I.ok.above)
def Inv.stkSub(I:Inv X pins σ H s):∀b∈frs X.stack,b∈X.env.locals::X.fs:=fun b a=>by
 rcases I.ok.stk with e | ⟨e,hf⟩
 .rw[e] at a;show Aj _ a
 .rw[e] at a
  unfold frs at a
  rw[Mb,hf] at a
  show a
def Inv.stkFree(I:Inv X pins σ H s):∀b∈frs X.stack,H b=none:=fun b a=>by
 rcases Aq.mp (I.stkSub b a) with e | a
 .rw[e];show I.free
 .let⟨_,o,c,_⟩:=I.ok.funs.mem a
  show I.base.free b o c (I.ok.frf b a) fun z=>I.ok.exfs b z a
def Inv.step{g':Array GenState}{t':Nat}{d':Drawn}{ch:List Uh}(I:Inv X pins σ H s)
  (j:∀b∈ch,(b∈X.ex\/X.s₀.heap.objs.size<=b)/\b≠X.env.locals/\(∀x c,X.env.cells.lookup x=some c->c≠b)/\∀p∈X.pn++pins,p.1≠b)
  (h:∀b o,b≠X.env.locals->b∉X.fs->b∉ch->s.heap.get? b=some o->H b=none->h'.get? b=some o)
  (C:∀b o,b≠X.env.locals->b∈X.fs->b∉ch->s.heap.get? b=some o->H b=none->∃R,h'.get? b=some {o with slots:=R}) (f:∀b o,b∉ch->s.heap.get? b=some o->H b=none->H' b=none)
  (D:∀b o,b∉ch->s.heap.get? b=some o->∃K,h'.get? b=some K)
  (G:∀b B,H b=some (.tup B)->H' b=some (.tup B)) (N:∀b o u,H b=some (.frz o u)->H' b=some (.frz o u)) (J:∀b P,H b=some (.tbl P)->∃M,H' b=some (.tbl (P++M)))
  (Z:∀m,s.heap.Ns X.env.locals m->h'.Ns X.env.locals m) (S:HOk X.prog X.w H' h') (hg:AllBare g'):
  Inv X pins σ H' {s with heap:=h',gens:=g',drawn:=d',toks:=t'}:=by
 have L:∀b o,X.s₀.heap.get? b=some o->b≠X.env.locals:=fun b o e=>nj (nh (Ax e) I.ok.above)
 have y:∀b o,X.s₀.heap.get? b=some o->b∉X.ex->b∉ch:=fun b o e a E=>by
  rcases(j b E).1 with z | z
  .exact a z
  .exact absurd (nh (Ax e) z) (nv _)
 have t:∀x c,X.env.cells.lookup x=some c->∀v,s.heap.IsCell c v->h'.IsCell c v:=fun x c e v zy1=>by
  let⟨o,F,T⟩:=zy1
  have g:c∉ch:=fun z=>(j c z).2.2.1 x c e rfl
  by_cases Y:c∈X.fs
  .let⟨R,q⟩:=C c o (I.cne x c e) Y g F (I.freeC x c e)
   show⟨_,q,T⟩
  .exact⟨o,h c o (I.cne x c e) Y g F (I.freeC x c e),T⟩
 refine⟨I.ok,I.os,hg,⟨fun b o e n E a=>?_,fun b o e n E a=>?_,fun b o e n a=>?_,fun b o e a=>?_,fun b B e=>G b B (I.base.tups b B e),fun b o B e=>N b o B (I.base.frzs b o B e),fun b P e=>?_⟩,?_,fun x c e=>?_,?_,fun x c e=>?_,fun p W=>?_,S,I.len⟩
 .exact h b o (L b o e) E (y b o e a) (I.base.keep b o e n E a) (I.base.free b o e n a)
 .let⟨R,A⟩:=I.base.slot b o e n E a
  let⟨Q,O⟩:=C b _ (L b o e) E (y b o e a) A (I.base.free b o e n a)
  show⟨Q,O⟩
 .let⟨K,A⟩:=I.base.there b o e a
  show f b K (y b o e a) A (I.base.free b o e n a)
 .let⟨K,A⟩:=I.base.there b o e a
  show D b K (y b o e a) A
 .let⟨m1,A⟩:=I.base.tbls b P e
  let⟨m2,O⟩:=J b _ A
  show⟨m1++m2,by rw[O,Array.append_assoc]⟩
 .let⟨m,hn,hl⟩:=I.loc
  refine⟨m,Z m hn,fun i x v A O e3=>?_⟩
  let⟨u,r,l⟩:=hl i x v A O e3
  refine⟨u,r,?_⟩
  rcases l with l | ⟨k,c,e,z⟩
  .exact .inl l
  .exact .inr ⟨k,c,e,t x c e _ z⟩
 .let⟨v,z⟩:=I.cell x c e
  show⟨v,t x c e v z⟩
 .let⟨m,⟨o,_,_,F,_⟩,_⟩:=I.loc
  show f _ o (fun z=>(j _ z).2.1 rfl) F I.free
 .let⟨v,o,F,T⟩:=I.cell x c e
  show f c o (fun z=>(j c z).2.2.1 x c e rfl) F (I.freeC x c e)
 .let⟨e,n,V,U,d⟩:=I.pin p W
  have g:p.1∉ch:=fun z=>(j p.1 z).2.2.2 p W rfl
  show⟨h p.1 p.2 V U g e n,f p.1 p.2 g e n,V,U,d⟩
def Inv.un{t':Nat}(I:Inv X pins σ H s)(u:Un X.fs [] H H' s.heap h')(c:HOk X.prog X.w H' h'):Inv X pins σ H' {s with heap:=h',toks:=t'}:=by
 let⟨m,⟨o,t,v,h,r⟩,_⟩:=id I.loc
 let⟨l,k⟩:=u.any h I.free (by simp)
 show I.step (g':=s.gens) (d':=s.drawn) (ch:=[]) (fun _ z=>nomatch z) (fun b o _ d _ e n=>u.keep b o e n d (by simp)) (fun b o _ d _ e n=>u.slot b o e n d (by simp)) (fun b o _ e n=>u.free b o e n (by simp)) (fun b o _ e=>u.there b o e (by simp)) u.tups u.frzs u.tbls (fun q j=>by
  let⟨p,f,g,a,i⟩:=j
  rw[h] at a;cases a
  show⟨_,f,g,k,i⟩) c I.bare
def Inv.call{g':Array GenState}{t':Nat}{d':Drawn}{ch:List Uh}(I:Inv X pins σ H s)(u:Un (frs X.stack) ch H H' s.heap h')(g:HOk X.prog X.w H' h')(t:AllBare g')
  (f:∀b∈ch,(b∈X.ex\/X.s₀.heap.objs.size<=b)/\b≠X.env.locals/\(∀x c,X.env.cells.lookup x=some c->c≠b)/\∀p∈X.pn++pins,p.1≠b):
  Inv X pins σ H' {s with heap:=h',gens:=g',drawn:=d',toks:=t'}:=by
 let⟨m,⟨o,C,D,k,r⟩,_⟩:=id I.loc
 let⟨y,h⟩:=u.any k I.free fun z=>(f _ z).2.1 rfl
 show I.step (ch:=ch) f (fun b o h v a e n=>u.keep b o e n (fun z=>(Aq.mp (I.stkSub b z)).elim h v) a) (fun b o _ _ a e n=>u.any e n a) (fun b o a e n=>u.free b o e n a) (fun b o a e=>u.there b o e a) u.tups u.frzs u.tbls (fun B q=>by
  let⟨A,i,j,d,l⟩:=q
  rw[k] at d;cases d
  show⟨_,i,j,h,l⟩) g t
def Inv.turned{t':Nat}{it:Uh}(I:Inv X pins σ H s)(k:∀b o,b≠it->s.heap.get? b=some o->h'.get? b=some o)(h:H it=none)(f:it≠X.env.locals)
  (w:it∈X.ex\/X.s₀.heap.objs.size<=it) (t:∀x c,X.env.cells.lookup x=some c->c≠it) (l:∀p∈X.pn++pins,p.1≠it):Inv X pins σ H {s with heap:=h',toks:=t'}:=by
 have d:∀b u,H b=some u->b≠it:=fun b u e z=>by rw[z,h] at e;cases e
 refine I.step (g':=s.gens) (d':=s.drawn) (ch:=[it]) (fun b j=>?_) (fun b o _ _ a e _=>k b o (fun z=>a (by simp[z])) e) (fun b o _ _ a e _=>⟨o.slots,k b o (fun z=>a (by simp[z])) e⟩) (fun _ _ _ _ n=>n)
  (fun b o a e=>⟨o,k b o (fun z=>a (by simp[z])) e⟩) (fun _ _ e=>e) (fun _ _ _ e=>e) (fun b B e=>⟨#[],by rw[e];simp⟩) (fun m i=>?_) (fun b u e=>?_) I.bare
 .have e:b=it:=by simpa using j
  subst e
  show⟨w,f,t,l⟩
 .let⟨o,y,A,g,r⟩:=i
  show⟨o,y,A,k _ o (Ia f) g,r⟩
 .refine(I.hok b u e).stay (fun c v a q=>k c v ?_ q) (fun _ q=>q) fun _ _ q=>q
  rcases a with z | z
  .rw[z];show d b u e
  .exact d c _ z
def Inv.tok(I:Inv X pins σ H s)(t:Nat):Inv X pins σ H {s with toks:=t}:=I.un (h':=s.heap) (t':=t) Un.refl I.hok
def Inv.kept{t':Nat}(I:Inv X pins σ H s)(k:∀b u,s.heap.get? b=some u->h'.get? b=some u):Inv X pins σ H {s with heap:=h',toks:=t'}:=I.un (Un.kept k) (I.hok.kept k)
def Inv.laid{a:Uh}{o:HO}{t':Nat}(I:Inv X pins σ H s)(k:∀b u,s.heap.get? b=some u->h'.get? b=some u)(d:s.heap.objs.size<=a)(c:Y6 X.prog X.w (upd H a o) h' a o):
  Inv X pins σ (upd H a o) {s with heap:=h',toks:=t'}:=I.un (Un.laid k d (I.hok.fresh d)) (I.hok.laid k d c)
def Inv.write{x e:Uh}{o:HO}{t':Nat}(I:Inv X pins σ H s)(d:Mut (H x))(f:e=x\/H e=some (.own x))(k:∀b u,b≠e->s.heap.get? b=some u->h'.get? b=some u)(a:∃u,h'.get? e=some u)
  (c:Y6 X.prog X.w (upd H x o) h' x o):Inv X pins σ (upd H x o) {s with heap:=h',toks:=t'}:=I.un (Un.write d f k a) (I.hok.write d f k a c)
def Inv.pins_of{a:PLO}(I:Inv X pins σ H s)(h:∀p∈a,s.heap.get? p.1=some p.2/\H p.1=none/\p.1≠X.env.locals/\p.1∉X.fs/\∀v,p.2.data≠ .cell v):Inv X a σ H s:=
 ⟨I.ok,I.os,I.bare,I.base,I.loc,I.cell,I.free,I.freeC,fun p b=>(Au.mp b).elim (fun z=>I.pin p (Dg _ z)) (h p),I.hok,I.len⟩
def J8{N:LS}(c:N.Nodup){i j:Nat}{x:Str}(a:N[i]?=some x)(b:N[j]?=some x):i=j:=by
 let⟨g,e⟩:=Ab.mp a
 let⟨f,d⟩:=Ab.mp b
 show(List.getElem_inj c).mp (e.trans d.symm)
def Q4{M:Model}{A:Around}{E:VSP}{i:Nat}{x:Str}{v:V}{u:Uf}{Q:Unit->Ug->Prop}(I:Inv X pins σ H s)(hN:X.N.Nodup)(hi:X.N[i]?=some x)(hx:Loc X.env.scope x)(r:RelV v u)
  (h:∀s',Inv X pins (σ.set i (some v)) H s'->(∃a,Ku a s.heap s'.heap/\(a=X.env.locals\/X.env.cells.lookup x=some a))->Q () s') (hf:X.fn x=true\/X.env.scope.names.lookup x=some .local:=by first | show .inl rfl | show .inr rfl | assumption):wpAny M A (storeName X.env x u) Q E s:=by
 let⟨m,hn,hl⟩:=id I.loc
 have hcls:(X.env.scope.kind== .class || (X.env.scope.kind== .module&&X.env.locals !=X.env.globals))=false:=by rw[I.ok.kind];rfl
 have hiσ:i<σ.length:=by rw[I.len];show(Ab.mp hi).1
 have cne:=I.cne
 have tracked:∀{a:Uh} {h':Uk},(∃o,s.heap.get? a=some o/\H a=none)->Ku a s.heap h'->HOk X.prog X.w H h':=fun{a h'} ha hs b ob e=>by
  let⟨_,_,hfree⟩:=ha
  refine(I.hok b ob e).stay (fun c w' hc q=>(hs.2 c ?_).trans q) (fun _ q=>q) fun _ _ q=>q
  rintro rfl
  rcases hc with rfl | hc
  .rw[hfree] at e;cases e
  .rw[hfree] at hc;cases hc
 rcases hx with hk | hk
 .refine wpAny_storeName_local hk hn (fun h' hn' hs=>?_) hcls
  let⟨oL,_,_,hoL,_⟩:=id hn
  refine h _ ⟨I.ok,I.os,I.bare,⟨fun b o e n hb hx=>?_,fun b o e n hb hx=>?_,I.base.free,fun b o e hx=>?_,I.base.tups,I.base.frzs,I.base.tbls⟩,⟨_,hn',fun j y v' e1 e2 e3=>?_⟩,fun y c e=>?_,I.free,I.freeC,fun p hp=>?_,tracked ⟨oL,hoL,I.free⟩ hs,↥I.len⟩ ⟨_,hs,.inl rfl⟩
  .exact(hs.2 b (nj (nh (Ax e) I.ok.above))).trans (I.base.keep b o e n hb hx)
  .let⟨sl,e1⟩:=I.base.slot b o e n hb hx
   show⟨sl,(hs.2 b (nj (nh (Ax e) I.ok.above))).trans e1⟩
  .let⟨o',e1⟩:=I.base.there b o e hx
   show⟨o',(hs.2 b (nj (nh (Ax e) I.ok.above))).trans e1⟩
  .by_cases hj:j=i
   .subst hj
    rw[hi] at e1;cases e1
    rw[Dm hiσ] at e2
    cases e2
    show⟨u,r,.inl ⟨hk,by simp⟩⟩
   .rw[Dh (Ia hj)] at e2
    let⟨u',r',q⟩:=hl j y v' e1 e2 e3
    refine⟨u',r',?_⟩
    rcases q with⟨k,e⟩ | ⟨k,c,e,z⟩
    .refine .inl ⟨k,?_⟩
     have:y≠x:=fun e=>hj (J8 hN e1 (e ▸ hi))
     simp[this,e]
    .exact .inr ⟨k,c,e,z.sameBut hs (cne y c e)⟩
  .let⟨w',z⟩:=I.cell y c e
   show⟨w',z.sameBut hs (cne y c e)⟩
  .let⟨e,n,ne,nf,d⟩:=I.pin p hp
   show⟨(hs.2 p.1 ne).trans e,n,ne,nf,d⟩
 .have hfn:X.fn x=true:=by
   rcases hf with z | z
   .exact z
   .rw[z] at hk;cases hk
  let⟨c,hc⟩:=I.ok.has x (.inl hk)
  let⟨w',z⟩:=I.cell x c hc
  refine wpAny_storeName_cell I.ok.kind hk hc z (fun h' hc' hs=>?_)
  let⟨oc,hoc,hocd⟩:=id z
  refine h {s with heap:=h'} ⟨I.ok,I.os,I.bare,⟨fun b o e n hb hx=>?_,fun b o e n hb hx=>?_,I.base.free,fun b o e hx=>?_,I.base.tups,I.base.frzs,I.base.tbls⟩,⟨m,hn.sameBut hs (Ia (cne x c hc)),fun j y v' e1 e2 e3=>?_⟩,fun y c' e=>?_,I.free,I.freeC,fun p hp=>?_,tracked ⟨oc,hoc,I.freeC x c hc⟩ hs,↥I.len⟩ ⟨c,hs,.inr hc⟩
  .exact(hs.2 b (nj (nh (Ax e) (I.ok.cab x c hfn hc)))).trans (I.base.keep b o e n hb hx)
  .let⟨sl,e1⟩:=I.base.slot b o e n hb hx
   show⟨sl,(hs.2 b (nj (nh (Ax e) (I.ok.cab x c hfn hc)))).trans e1⟩
  .let⟨o',e1⟩:=I.base.there b o e hx
   show⟨o',(hs.2 b (nj (nh (Ax e) (I.ok.cab x c hfn hc)))).trans e1⟩
  .by_cases hj:j=i
   .subst hj
    rw[hi] at e1;cases e1
    rw[Dm hiσ] at e2
    cases e2
    show⟨u,r,.inr ⟨.inl hk,c,hc,hc'⟩⟩
   .rw[Dh (Ia hj)] at e2
    let⟨u',r',q⟩:=hl j y v' e1 e2 e3
    refine⟨u',r',?_⟩
    rcases q with q | ⟨k,c',e,z'⟩
    .exact .inl q
    .refine .inr ⟨k,c',e,z'.sameBut hs ?_⟩
     rintro rfl
     show hj (J8 hN e1 (I.ok.inj _ _ _ e hc ▸ hi))
  .by_cases hcc:c'=c
   .subst hcc;show⟨_,hc'⟩
   .let⟨w2,z2⟩:=I.cell y c' e
    show⟨w2,z2.sameBut hs hcc⟩
  .let⟨e,n,ne,nf,d⟩:=I.pin p hp
   refine⟨(hs.2 p.1 ?_).trans e,n,ne,nf,d⟩
   intro q
   rw[q,hoc] at e
   have q':oc=p.2:=Hb e
   show d w' (by rw[<-q'];show hocd)
def Nj{M:Model}{A:Around}{E:VSP}{i:Nat}{x:Str}{v:V}{u:Uf}{Q:Unit->Ug->Prop}(I:Inv X pins σ H s)(c:X.N.Nodup)(hi:X.N[i]?=some x)(a:Loc X.env.scope x)(r:RelV v u)
  (h:∀s',Inv X pins (σ.set i (some v)) H s'->Q () s') (b:X.fn x=true\/X.env.scope.names.lookup x=some .local:=by first | show .inl rfl | show .inr rfl | assumption):wpAny M A (storeName X.env x u) Q E s:=
 Q4 I c hi a r (fun s' d _=>h s' d) b
def Inv.call'{s':Ug}{ch:List Uh}(I:Inv X pins σ H s)(h:s'.os=s.os)(u:Un (frs X.stack) ch H H' s.heap s'.heap)(a:HOk X.prog X.w H' s'.heap)(i:AllBare s'.gens)
  (d:∀b∈ch,(b∈X.ex\/X.s₀.heap.objs.size<=b)/\b≠X.env.locals/\(∀x c,X.env.cells.lookup x=some c->c≠b)/\∀p∈X.pn++pins,p.1≠b):Inv X pins σ H' s':=by
 let⟨h',j,k,f,g⟩:=s'
 have e:g=s.os:=h
 subst e
 show I.call (g':=j) (t':=f) (d':=k) u a i d
end
abbrev XK:=Uf->Option Uh->Hp->Prop
abbrev St:=List (Option V)
abbrev VK:=V->Hp->Prop
abbrev TE:=St->Hp->VK->Prop
abbrev TT:=St->Hp->(Bool->Hp->Prop)->Prop
abbrev TA:=St->Hp->(LV->Hp->Prop)->Prop
structure Ends where
 nx:St->Hp->Prop
 rt:VK
 bk:St->Hp->Prop:=fun _ _=>False
 ct:St->Hp->Prop:=fun _ _=>False
abbrev TS:=Ends->St->Hp->Prop
def EP(X:Cx)(pins:PLO)(b:St)(Q:VK)(u:Uf)(s':Ug):Prop:=∃v a,Inv X pins b a s'/\RelV v u/\Q v a
def TP(X:Cx)(pins:PLO)(c:St)(Q:Bool->Hp->Prop)(b:Bool)(s':Ug):Prop:=∃a,Inv X pins c a s'/\Q b a
def AP(X:Cx)(pins:PLO)(c:St)(Q:LV->Hp->Prop)(us:LW)(s':Ug):Prop:=∃a b,Inv X pins c b s'/\Vals a us/\Q a b
def SP(X:Cx)(pins:PLO)(D:Ends)(f:Flow)(s':Ug):Prop:=
 match f with
 | .next=>∃a b,Inv X pins a b s'/\D.nx a b
 | .brk=>∃a b,Inv X pins a b s'/\D.bk a b
 | .cont=>∃a b,Inv X pins a b s'/\D.ct a b
 | .ret u=>∃v a b,Inv X pins a b s'/\RelV v u/\D.rt v b
def PE(X:Cx)(e:Expr)(t:TE):Prop:=
 ∀(a:PLO) (s:Ug) (b:St) (H:Hp) (Q:VK),Inv X a b H s->t b H Q->⇑X (eval e X.env) (EP X a b Q) X.xe s
def PT(X:Cx)(e:Expr)(t:TT):Prop:=
 ∀(a:PLO) (s:Ug) (b:St) (H:Hp) (Q:Bool->Hp->Prop),Inv X a b H s->t b H Q->⇑X (isTrue e X.env (eval e X.env)) (TP X a b Q) X.xe s
def PW(X:Cx)(e:Expr)(t:TT):Prop:=
 ∀(b:Sem Uf) (a:PLO) (s:Ug) (c:St) (H:Hp) (Q:Bool->Hp->Prop),Inv X a c H s->t c H Q->⇑X (isTrue e X.env b) (TP X a c Q) X.xe s
def PW.pt{X:Cx}{e:Expr}{t:TT}(h:PW X e t):PT X e t:=h _
def PA(X:Cx)(es:List Expr)(t:TA):Prop:=
 ∀(c:Pos) (a:PLO) (s:Ug) (b:St) (H:Hp) (Q:LV->Hp->Prop),Inv X a b H s->t b H Q->⇑X (spliced (backTo c (starEach es X.env))) (AP X a b Q) X.xe s
def PS(X:Cx)(st:Stmt)(t:TS):Prop:=
 ∀(a:PLO) (s:Ug) (b:St) (H:Hp) (D:Ends),Inv X a b H s->t D b H->⇑X (exec st X.env) (SP X a D) X.xe s
def PSs(X:Cx)(st:List Stmt)(t:TS):Prop:=
 ∀(a:PLO) (s:Ug) (b:St) (H:Hp) (D:Ends),Inv X a b H s->t D b H->⇑X (execs st X.env) (SP X a D) X.xe s
def thn{b:Type}{t:Sem b}{Q c:b->Ug->Prop}{M:Model}{A:Around}{E:VSP}{s:Ug}(h:wpAny M A t Q E s)(d:∀a s,Q a s->c a s):wpAny M A t c E s:=Dx h d fun _ _ x=>x
section
variable{X:Cx}
def bin{a b:Expr}{l k:TE}(z:PE X a l)(t:PE X b k){pins:PLO}{s:Ug}{c:St}{H:Hp}{R:V->V->Hp->Prop}(I:Inv X pins c H s)(h:l c H fun x i=>k c i fun y H2=>R x y H2)
  {j:Type} {Q:j->Ug->Prop} {f:Uf->Uf->Sem j}
  (r:∀v u g x y H2,Inv X pins c H2 g->RelV x v->RelV y u->R x y H2->⇑X (f v u) Q X.xe g):
  ⇑X (eval a X.env) (fun v e=>⇑X (eval b X.env) (fun u d=>⇑X (f v u) Q X.xe d) X.xe e) X.xe s:=by
 refine thn (z pins s c H _ I h) fun v m zz1=>?_
 let⟨x,i,C,o,q⟩:=zz1
 refine thn (t pins m c i _ C q) fun u g zz2=>?_
 let⟨y,H2,B,n,p⟩:=zz2
 show r v u g x y H2 B o n p
def tVar(i:Nat):TE:=fun a H Q=>∃v,a[i]?=some (some v)/\Q v H
def tC(v:V):TE:=fun _ H Q=>Q v H
def C0{i:Nat}{x:Str}{pos:Pos}(w:X.N[i]?=some x)(o:Vis X.env.scope x)(g:(x==("__debug__":Str))=false:=by decide)(j:(x==("__classdict__":Str))=false:=by decide):PE X (.Name x pos) (tVar i):=by
 intro f s n H Q I h
 let⟨v,e,h⟩:=h
 let⟨m,p,t⟩:=I.loc
 let⟨u,r,l⟩:=t i x v w e o
 have d:EP X f n Q u s:=⟨v,H,I,r,h⟩
 rcases l with⟨b,q⟩ | ⟨b,c,k,a⟩
 .exact Ub (wpAny_loadName_local I.ok.kind b p q d) g
 .rcases b with b | b
  .exact Ub (wpAny_loadName_cell I.ok.kind b k a d) g
  .exact Ub (wpAny_loadName_free I.ok.kind b k a d j) g
def Zu5{i j pos}:PE X (.Constant (.int i) j pos) (tC (.int i)):=fun _ _ _ H _ I h=>wpAny_Constant_int ⟨.int i,H,I.tok _,⟨_,rfl⟩,h⟩
def Yi3{b j pos}:PE X (.Constant (.bool b) j pos) (tC (.bl b)):=fun _ _ _ H _ I h=>Constant_bool ⟨.bl b,H,I,rfl,h⟩
def Yf0{j pos}:PE X (.Constant .none j pos) (tC .non):=fun _ _ _ H _ I h=>Constant_none ⟨.non,H,I,rfl,h⟩
def Zt3{x j pos}:PE X (.Constant (.str x) j pos) (tC (.str x)):=fun _ _ _ H _ I h=>Calls.Constant_str ⟨.str x,H,I.tok _,⟨_,rfl⟩,h⟩
def Gl(X:Cx)(x:Str):Prop:=X.env.kindOf x=some .globalImplicit
def Xp{E:VSP}{pins:PLO}{s:Ug}{a:St}{H:Hp}{x:Str}{u:Uf}{pos:Pos}{Q:VSP}(I:Inv X pins a H s)(c:Gl X x)(b:X.mg x=some u)(h:Q u s)
  (d:(x==("__debug__":Str))=false:=by decide):⇑X (eval (.Name x pos) X.env) Q E s:=
 Lk I.ok.kind c (Calls.loadGlobal_global (by rw[I.ok.glob];show I.mod.glob.keeps I.bk) b h) d
def Of{E:VSP}{pins:PLO}{s:Ug}{a:St}{H:Hp}{x:Str}{u:Uf}{pos:Pos}{Q:VSP}(I:Inv X pins a H s)(e:Gl X x)(d:X.mg x=none)(b:bootBuiltins x=some u)(h:Q u s)
  (c:x≠"__name__":=by decide) (f:(x==("__debug__":Str))=false:=by decide):⇑X (eval (.Name x pos) X.env) Q E s:=by
 let⟨j,i,g⟩:=I.mod.blt
 show Lk I.ok.kind e (Calls.loadGlobal_builtin (by rw[I.ok.glob];show I.mod.glob.keeps I.bk) d (by rw[I.ok.blt];show i.keeps I.bk) ((g x c).trans b) h) f
def Y55{x:Str}{v:V}{u:Uf}{pos:Pos}(b:Gl X x)(a:X.mg x=some u)(r:RelV v u)(c:(x==("__debug__":Str))=false:=by decide):PE X (.Name x pos) (tC v):=
 fun _ _ _ H _ I h=>Xp I b a ⟨v,H,I,r,h⟩ c
def Y57{x:Str}{v:V}{u:Uf}{pos:Pos}(d:Gl X x)(c:X.mg x=none)(a:bootBuiltins x=some u)(r:RelV v u)(b:x≠"__name__":=by decide)(e:(x==("__debug__":Str))=false:=by decide):PE X (.Name x pos) (tC v):=
 fun _ _ _ H _ I h=>Of I d c a ⟨v,H,I,r,h⟩ b e
variable{a b:Expr}{ta tb:TE}{pos:Pos}
variable{tA tB':TT}{rest:List Expr}
def tAnd(t u:TT):TT:=fun d H Q=>t d H fun c e=>if c=true then u d e Q else Q false e
def tOr(t u:TT):TT:=fun d H Q=>t d H fun c e=>if c=true then Q true e else u d e Q
def tNot(t:TT):TT:=fun d H Q=>t d H fun c e=>Q (!c) e
def Zz2(g:PT X a tA):PW X (.BoolOp .And [a] pos) tA:=by
 intro i d s f H Q I h
 refine isTrue_and (thn (g d s f H Q I h) fun c j e=>?_)
 cases c with
 | true=>show isTrue_and_nil e
 | false=>show e
def Yd9(g:PT X a tA):PW X (.BoolOp .Or [a] pos) tA:=by
 intro i d s f H Q I h
 refine isTrue_or (thn (g d s f H Q I h) fun c j e=>?_)
 cases c with
 | false=>show isTrue_or_nil e
 | true=>show e
def Yf5(m:PT X a tA)(l:PW X (.BoolOp .And (b::rest) pos) tB'):PW X (.BoolOp .And (a::b::rest) pos) (tAnd tA tB'):=by
 intro j d s e H Q I h
 refine isTrue_and (thn (m d s e H _ I h) fun c k zz3=>?_)
 let⟨i,g,f⟩:=zz3
 cases c with
 | true=>show l j d k e i Q g f
 | false=>show⟨i,g,f⟩
def Yh7(m:PT X a tA)(l:PW X (.BoolOp .Or (b::rest) pos) tB'):PW X (.BoolOp .Or (a::b::rest) pos) (tOr tA tB'):=by
 intro j d s e H Q I h
 refine isTrue_or (thn (m d s e H _ I h) fun c k zz4=>?_)
 let⟨i,g,f⟩:=zz4
 cases c with
 | true=>show⟨i,g,f⟩
 | false=>show l j d k e i Q g f
def Ya9(f:PT X a tA):PT X (.UnaryOp .Not a pos) (tNot tA):=by
 intro d s e H Q I h
 show isTrue_not (f d s e H (fun c g=>Q (!c) g) I h)
def Yg6{op}{t:TE}(h:PE X a t):PE X (.BoolOp op [a] pos) t:=fun c s d H Q I e=>BoolOp_one (h c s d H Q I e)
def tIf(t:TT)(ta tb:TE):TE:=fun d H Q=>t d H fun c e=>if c=true then ta d e Q else tb d e Q
def Zq9{c:Expr}(l:PT X c tA)(n:PE X a ta)(m:PE X b tb):PE X (.IfExp c a b pos) (tIf tA ta tb):=by
 intro e s f H Q I h
 refine wpAny_IfExp (thn (l e s f H _ I h) fun d g zz5=>?_)
 let⟨k,j,i⟩:=zz5
 cases d with
 | true=>show n e g f k Q j i
 | false=>show m e g f k Q j i
end
def SqL(K:Ac)(H:Hp)(a:Uh)(xs:LV):Prop:=
 Rd H a (.lst xs)\/
  ∃(o:Obj) (b:Array Uf) (n:Nat),K.lookup a=some o/\o.cls= .type "list"/\o.dict=none/\o.data= .seq b n/\b.size<=sizeLine/\Vals xs b.toList
def SqT(K:Ac)(H:Hp)(a:Uh)(xs:LV):Prop:=
 Rd H a (.tup xs)\/
  ∃(o:Obj) (b:Array Uf) (n:Nat),K.lookup a=some o/\o.cls= .type "tuple"/\o.data= .seq b n/\b.size<=sizeLine/\Vals xs b.toList
def absV:Uf->Option V
 | .none=>some .non
 | .bool b=>some (.bl b)
 | .int i _=>some (.int i)
 | .str x _=>some (.str x)
 | .bytes b _=>some (.byt b)
 | .float b _=>some (.flt b)
 | .ref a=>↑a
 | .type n=>some (.ty n)
 | _=>none
def RelV.abs{x:V}{u:Uf}(r:RelV x u):absV u=some x:=by
 cases x with
 | non=>cases r;rfl
 | bl _=>cases r;rfl
 | int _=>let⟨t,rfl⟩:=r;rfl
 | str _=>let⟨t,rfl⟩:=r;rfl
 | byt _=>let⟨t,rfl⟩:=r;rfl
 | flt _=>let⟨t,rfl⟩:=r;rfl
 | ref _=>cases r;rfl
 | ty _=>cases r;rfl
def RelV.inj{x y:V}{u:Uf}(r:RelV x u)(q:RelV y u):x=y:=Hb (r.abs.symm.trans q.abs)
def Vals.inj:∀{xs ys:LV} {us:LW},Vals xs us->Vals ys us->xs=ys:=by
 intro xs ys us h
 induction h generalizing ys with
 | nil=>intro g;cases g;rfl
 | cons r t ih=>
  intro g
  cases g with
  | cons b a=>rw[r.inj b,ih a]
section
variable{X:Cx}{pins:PLO}{σ:St}{H:Hp}{s:Ug}{a:Uh}{xs ys:LV}
def SqT.of{K:Ac}(h:H a=some (.tup xs)):SqT K H a xs:= .inl (.inl h)
def Inv.list(I:Inv X pins σ H s)(h:SqL X.K H a xs):∃its:LW,Vals xs its/\PlainL s.heap a its.toArray/\xs.length<=sizeLine:=by
 rcases h with h | ⟨o,its,n,hk,hc,hd,hs,hz,r⟩
 .let⟨z,its,n,r,e⟩:=h.ok I.hok
  show⟨its,r,⟨_,n,e,rfl,rfl,rfl⟩,z⟩
 .refine⟨its.toList,r,⟨o,n,I.kIn a o hk,hc,hd,↥hs⟩,?_⟩
  have e:=r.length
  simp only[Mc] at e
  lia
def Inv.tuple(I:Inv X pins σ H s)(h:SqT X.K H a xs):∃its:LW,Vals xs its/\IsTup s.heap a its.toArray/\xs.length<=sizeLine:=by
 rcases h with h | ⟨o,its,n,hk,hc,hs,hz,r⟩
 .let⟨z,its,r,p⟩:=h.ok I.hok
  show⟨its,r,p,z⟩
 .refine⟨its.toList,r,⟨o,I.kIn a o hk,hc,n,↥hs⟩,?_⟩
  have e:=r.length
  simp only[Mc] at e
  lia
def Inv.list_inj(I:Inv X pins σ H s)(h:SqL X.K H a xs)(h':SqL X.K H a ys):xs=ys:=by
 let⟨c,r,⟨o,n,e,_,_,d⟩,_⟩:=I.list h
 let⟨b,i,⟨j,k,f,_,_,g⟩,_⟩:=I.list h'
 rw[e] at f;cases f
 rw[d] at g
 injection g with d1 _
 have:c=b:=by simpa using congrArg Array.toList d1
 subst this
 show r.inj i
def Inv.tuple_inj(I:Inv X pins σ H s)(h:SqT X.K H a xs)(h':SqT X.K H a ys):xs=ys:=by
 let⟨c,r,⟨o,e,_,n,d⟩,_⟩:=I.tuple h
 let⟨b,i,⟨j,f,_,k,g⟩,_⟩:=I.tuple h'
 rw[e] at f;cases f
 rw[d] at g
 injection g with d1 _
 have:c=b:=by simpa using congrArg Array.toList d1
 subst this
 show r.inj i
end
abbrev Cx.wish(X:Cx)(E:VSP):Cx:={X with xe:=E}
abbrev Cx.nox(X:Cx):Cx:=X.wish fun _ _=>False
def Cx.Ok.wish{X:Cx}(a:X.Ok)(E:VSP):(X.wish E).Ok:=
 ⟨a.mod,a.kind,a.glob,a.blt,a.above,a.inj,a.has,a.cab,a.hd,a.frames,a.stk,a.exf,a.bs,a.bsz,a.noex,a.exfs,a.funs,a.frf⟩
def Cx.Ok.unwish{X:Cx}{E:VSP}(a:(X.wish E).Ok):X.Ok:=
 ⟨a.mod,a.kind,a.glob,a.blt,a.above,a.inj,a.has,a.cab,a.hd,a.frames,a.stk,a.exf,a.bs,a.bsz,a.noex,a.exfs,a.funs,a.frf⟩
section
variable{X:Cx}{pins:PLO}{σ:St}{H:Hp}{s:Ug}{E:VSP}
def Inv.wish(I:Inv X pins σ H s)(E:VSP):Inv (X.wish E) pins σ H s:=⟨I.ok.wish E,I.os,I.bare,I.base,I.loc,I.cell,I.free,I.freeC,I.pin,I.hok,I.len⟩
def Inv.unwish(I:Inv (X.wish E) pins σ H s):Inv X pins σ H s:=⟨I.ok.unwish,I.os,I.bare,I.base,I.loc,I.cell,I.free,I.freeC,I.pin,I.hok,I.len⟩
def SP.unwish{D:Ends}{f:Flow}{s':Ug}(h:SP (X.wish E) pins D f s'):SP X pins D f s':=by
 cases f with
 | next=>let⟨a,b,I,q⟩:=h;show⟨a,b,I.unwish,q⟩
 | brk=>let⟨a,b,I,q⟩:=h;show⟨a,b,I.unwish,q⟩
 | cont=>let⟨a,b,I,q⟩:=h;show⟨a,b,I.unwish,q⟩
 | ret u=>let⟨v,a,b,I,r,q⟩:=h;show⟨v,a,b,I.unwish,r,q⟩
def PSs.nox{st:List Stmt}{t:TS}(h:PSs X.nox st t):PSs X st t:=fun pins s σ H D I a=>
 Dx (h pins s σ H D (I.wish _) a) (fun _ _ q=>q.unwish) fun _ _ z=>Dk z
end
section
variable{X:Cx}{st:Stmt}{rest:List Stmt}{t u:TS}{e:Expr}{te:TE}{pos:Pos}
def Yj7:TS:=fun D a H=>D.nx a H
def tSeq(t u:TS):TS:=fun D a H=>t {D with nx:=u D} a H
def Z51:PSs X [] Yj7:=fun _ _ a H _ I h=>Lg ⟨a,H,I,h⟩
def C7(i:PS X st t)(g:PSs X rest u):PSs X (st::rest) (tSeq t u):=by
 intro a s c H D I h
 refine wpAny_execs_cons (thn (i a s c H {D with nx:=u D} I h) fun f d q=>?_)
 cases f with
 | next=>
  let⟨b,k,j,q⟩:=q
  show g a d b k D j q
 | ret v=>show q
 | brk=>show q
 | cont=>show q
def Zx5(c:PS X st t):PSs X [st] t:=by
 intro a s b H D I h
 refine wpAny_execs_cons (thn (c a s b H D I h) fun f d q=>?_)
 cases f with
 | next=>show Lg q
 | ret v=>show q
 | brk=>show q
 | cont=>show q
def Inv.quiet{pins:PLO}{a:St}{H:Hp}{s:Ug}(I:Inv X pins a H s):interactive X.env=false:=by simp[interactive,I.ok.kind]
def Yi9(te:TE):TS:=fun D a H=>te a H fun _ b=>D.nx a b
def Y08(f:PE X e te)(d:swapsWith e none pos.line X.env=pure false:=by rfl):PS X (.Expr e pos) (Yi9 te):=by
 intro a s b H D I h
 show wpAny_Expr_any (thn (f a s b H _ I h) fun v j zz6=>by let⟨x,i,g,k,c⟩:=zz6;show⟨b,i,g,c⟩) I.quiet d
def tRet(te:TE):TS:=fun D a H=>te a H D.rt
def Zv3(f:PE X e te):PS X (.Return (some e) pos) (tRet te):=by
 intro a s b H D I h
 show wpAny_Return_some (thn (f a s b H _ I h) fun v j zz7=>by let⟨x,i,g,c,d⟩:=zz7;show⟨x,b,i,g,c,d⟩)
def tIfS(c:TT)(t u:TS):TS:=fun D a H=>c a H fun b d=>if b=true then t D a d else u D a d
def Yi2{c:Expr}{a b:List Stmt}{i:TT}(n:PT X c i)(p:PSs X a t)(o:PSs X b u):PS X (.If c a b pos) (tIfS i t u):=by
 intro f s g H D I h
 refine wpAny_If (thn (n f s g H _ I h) fun d j zz8=>?_)
 let⟨m,l,k⟩:=zz8
 cases d with
 | true=>show p f j g m D l k
 | false=>show o f j g m D l k
def Yh1:TS:=fun _ _ _=>False
def Bc:PS X st Yh1:=fun _ _ _ _ _ _ h=>h.elim
end
abbrev TG:=V->St->Hp->(St->Hp->Prop)->Prop
abbrev TGs:=LV->St->Hp->(St->Hp->Prop)->Prop
def PG(X:Cx)(target:Expr)(t:TG):Prop:=
 ∀(a:PLO) (s:Ug) (c:St) (H:Hp) (v:V) (u:Uf) (Q:St->Hp->Prop),Inv X a c H s->RelV v u->t v c H Q->
  ⇑X (assign target X.env u) (fun _ e=>∃b d,Inv X a b d e/\Q b d) X.xe s
def PGs(X:Cx)(g:List Expr)(t:TGs):Prop:=
 ∀(a:PLO) (s:Ug) (c:St) (H:Hp) (d:LV) (e:LW) (Q:St->Hp->Prop),Inv X a c H s->Vals d e->t d c H Q->
  ⇑X (assignInOrder ((assignEach g X.env).map (·.2)) e) (fun _ h=>∃b f,Inv X a b f h/\Q b f) X.xe s
abbrev TSet:=V->V->V->Hp->(Hp->Prop)->Prop
def PSet(X:Cx)(t:TSet):Prop:=
 ∀(a:PLO) (s:Ug) (b:St) (H:Hp) (o i v:V) (c d u:Uf) (Q:Hp->Prop),Inv X a b H s->RelV o c->RelV i d->RelV v u->t o i v H Q->
  ⇑X (setItem c d u) (fun _ f=>∃e,Inv X a b e f/\Q e) X.xe s
abbrev TIp:=V->V->Hp->VK->Prop
def PIp(X:Cx)(op:Operator)(t:TIp):Prop:=
 ∀(a:PLO) (s:Ug) (b:St) (H:Hp) (x y:V) (v u:Uf) (Q:VK),Inv X a b H s->RelV x v->RelV y u->t x y H Q->
  ⇑X (inplaceOp op v u) (EP X a b Q) X.xe s
section
variable{X:Cx}{pos:Pos}
def Zb9(i:Nat):TG:=fun v a H Q=>Q (a.set i (some v)) H
def Z44{i:Nat}{x:Str}(d:X.N.Nodup)(hi:X.N[i]?=some x)(b:Loc X.env.scope x)(c:X.fn x=true\/X.env.scope.names.lookup x=some .local:=by first | show .inl rfl | show .inr rfl | assumption):PG X (.Name x pos) (Zb9 i):=by
 intro a s f H v u Q I r h
 show wpAny_assign_Name (Nj I d hi b r (fun g e=>⟨_,H,e,h⟩) c)
def gNil:TGs:=fun b a H Q=>b=[]/\Q a H
def Yf6(t:TG)(u:TGs):TGs:=fun c b H Q=>∃v r,c=v::r/\t v b H fun a d=>u r a d Q
def Y07:PGs X [] gNil:=by
 intro a s b H c d Q I r h
 let⟨e,h⟩:=h
 subst e
 cases r
 show assignInOrder_nil ⟨b,H,I,h⟩
def Zl5{e:Expr}{es:List Expr}{t:TG}{u:TGs}(k:PG X e t)(j:PGs X es u)
  (i:(assignEach (e::es) X.env).map (·.2)=assign e X.env::(assignEach es X.env).map (·.2):=by rfl):PGs X (e::es) (Yf6 t u):=by
 intro a s c H o q Q I r h
 let⟨v,p,l,h⟩:=h
 subst l
 cases r with
 | cons r f=>
  rw[i]
  refine assignInOrder_cons (thn (k a s c H _ _ _ I r h) fun _ d zz9=>?_)
  let⟨b,n,m,g⟩:=zz9
  show j a d b n _ _ Q m f g
def gTup(K:Ac)(n:Nat)(t:TGs):TG:=fun v c H Q=>∃a b,v= .ref a/\SqT K H a b/\b.length=n/\t b c H Q
def Yh6{es:List Expr}{k:Nat}{t:TGs}{n:Nat}(y:X.calm=true)(h:PGs X es t)
  (w:(assignEach es X.env).length=n:=by rfl) (f:(assignEach es X.env).findIdx? (·.1)=none:=by rfl):PG X (.Tuple es k pos) (gTup X.K n t):=by
 intro c s g H v u Q I r d
 let⟨a,j,A,q,x,d⟩:=d
 subst A
 cases r
 let⟨l,i,p,C⟩:=I.tuple q
 refine assign_Tuple_tuple (I.ok.hd y) p (by simp[w,<-x,i.length]) f fun z m=>?_
 have B:Inv X c g H {s with heap:=z}:=I.kept (t':=s.toks) fun b o e=>m b o (nj (Ax e)) e
 show h c _ g H j _ Q B ↥i d
def tAsg(b:TE)(g:TG):TS:=fun D a H=>b a H fun x c=>g x a c D.nx
def Zu2{b e:Expr}{d:TE}{g:TG}(n:PE X e d)(m:PG X b g)(l:swapsWithSole [b] e pos.line X.env=pure false:=by rfl)(k:swappedStores [b] e X.env=pure none:=by rfl)
  (o:(assignEach [b] X.env).map (·.2)=[assign b X.env]:=by rfl):PS X (.Assign [b] e pos) (tAsg d g):=by
 intro a s c H D I h
 refine wpAny_Assign_stores (thn (n a s c H _ I h) fun v f zz10=>?_) l k
 let⟨x,r,p,i,j⟩:=zz10
 rw[o]
 show thn (m a f c r x v _ p i j) fun _ t q=>q
def tAug(i:Nat)(c:TE)(b:TIp):TS:=fun D a H=>∃x,a[i]?=some (some x)/\c a H fun y e=>b x y e fun z d=>D.nx (a.set i (some z)) d
def Yh3{i:Nat}{x:Str}{e:Expr}{t:TE}{op:Operator}{q:TIp}{j:Pos}(S:X.N.Nodup)(hi:X.N[i]?=some x)(o:Loc X.env.scope x)(Q:PE X e t)(K:PIp X op q)(P:X.fn x=true\/X.env.scope.names.lookup x=some .local:=by first | show .inl rfl | show .inr rfl | assumption):
  PS X (.AugAssign (.Name x j) op e pos) (tAug i t q):=by
 intro a s p H D I h
 let⟨v,T,h⟩:=h
 let⟨m,L,O⟩:=I.loc
 have n:Vis X.env.scope x:=by rcases o with k | k;show .inl k;show .inr (.inl k)
 let⟨u,r,l⟩:=O i x v hi T n
 refine wpAny_AugAssign_Name ?_
 have B:⇑X (eval e X.env) (fun w g=>⇑X (inplaceOp op u w) (fun r f=>⇑X (storeName X.env x r) (fun _=>SP X a D .next) X.xe f) X.xe g) X.xe s:=by
  refine thn (Q a s p H _ I h) fun w C zz11=>?_
  let⟨y,Z,W,F,J⟩:=zz11
  refine thn (K a C p Z v y u w _ W r F J) fun z s2 zz12=>?_
  let⟨zv,Y,V,E,G⟩:=zz12
  show Nj V S hi o E (fun s3 U=>⟨_,Y,U,G⟩) P
 rcases l with⟨b,M⟩ | ⟨b,c,R,d⟩
 .exact wpAny_loadName_local I.ok.kind b L M B
 .rcases b with b | b
  .exact wpAny_loadName_cell I.ok.kind b R d B
  .rcases o with k | k
   .have:X.env.scope.names.lookup x=some .free:=b
    rw[k] at this;cases this
   .have:X.env.scope.names.lookup x=some .free:=b
    rw[k] at this;cases this
def ipI(f:Int->Int->Int):TIp:=fun x y H Q=>∃i j,x= .int i/\y= .int j/\Q (.int (f i j)) H
def Y84:PIp X .Add (ipI fun i j=>i+j):=by
 intro a s f H x y v u Q I c b h
 let⟨i,j,e,d,q⟩:=h
 subst e;subst d
 let⟨t,rfl⟩:=c
 let⟨g,rfl⟩:=b
 show iadd_int ⟨.int _,H,I.tok _,⟨_,rfl⟩,q⟩
def Yb2:PIp X .Sub (ipI fun i j=>i - j):=by
 intro a s f H x y v u Q I c b h
 let⟨i,j,e,d,q⟩:=h
 subst e;subst d
 let⟨t,rfl⟩:=c
 let⟨g,rfl⟩:=b
 show isub_int ⟨.int _,H,I.tok _,⟨_,rfl⟩,q⟩
end
section
variable{X:Cx}{pos:Pos}
def Yg2(c:TT)(h:TS):TS:=fun D a H=>∃W:Nat->St->Hp->Prop,(∃m,W m a H)/\∀m a H,W m a H->
 c a H fun b f=>if b=true then ∃N:St->Hp->Prop,(∀d g,N d g->∃e,e<m/\W e d g)/\h {D with nx:=N,ct:=N,bk:=D.nx} a f else D.nx a f
def Zj3{c:Expr}{body:List Stmt}{t:TT}{u:TS}(x:PassesOwn (model X.prog X.w) X.A X.env X.xe)(P:PT X c t)(Q:PSs X body u):PS X (.While c body [] pos) (Yg2 t u):=by
 intro d s F H D I h
 let⟨W,⟨O,J⟩,i⟩:=h
 refine wpAny_While (codeAny_whileLoop (fun n M=>∃g E,Inv X d g E M/\W n g E) ?_ O ⟨F,H,I,J⟩)
 rintro n L ⟨e,C,R,G⟩
 refine Lh x (thn (P d L e C _ R (i n e C G)) fun b K zz13=>?_)
 let⟨B,z,l⟩:=zz13
 cases b with
 | true=>
  let⟨N,y,l⟩:=l
  rw[ng rfl]
  refine Lh x (thn (Q d K e B _ z l) fun f S k=>?_)
  cases f with
  | next=>
   let⟨a,j,r,o⟩:=k
   let⟨p,q,m⟩:=y a j o
   show⟨p,q,a,j,r,m⟩
  | cont=>
   let⟨a,j,r,o⟩:=k
   let⟨p,q,m⟩:=y a j o
   show⟨p,q,a,j,r,m⟩
  | brk=>show k
  | ret v=>show k
 | false=>
  rw[nc Bf9]
  show Lg ⟨e,B,z,l⟩
end
structure It where
 go:Nat->Hp->Prop
 yld:Nat->Hp->V->Hp->Prop
 stop:Nat->Hp->Prop
def FpOk(X:Cx)(pins:PLO)(H:Hp)(b:Uh):Prop:=
 H b=none/\b≠X.env.locals/\b∉X.fs/\(b∈X.ex\/X.s₀.heap.objs.size<=b)/\(∀x c,X.env.cells.lookup x=some c->c≠b)/\∀p∈X.pn++pins,p.1≠b
def Inv.fpOk{X:Cx}{pins:PLO}{d:St}{H H':Hp}{s:Ug}{b:Uh}(I:Inv X pins d H s)(a:s.heap.objs.size<=b)(g:H' b=none):FpOk X pins H' b:=by
 refine⟨g,nr (nh I.lt a),I.nofs a,.inr (ni I.sz a),fun x c e z=>?_,fun p f z=>?_⟩
 .let⟨v,q⟩:=I.cell x c e
  show absurd (nh q.lt (by rw[z];show a)) (nv _)
 .exact absurd (nh (Ax (I.pin p f).1) (by rw[z];show a)) (nv _)
structure Turn(P:Ui)(w:Uj)(K:Ac)(tg:Expr)(J:It)(fp:List Uh)(it:Uh)(tn:Nat->Uk->Prop):Prop where
 mem:it∈fp
 obj:∀i h,tn i h->∀b∈fp,∃o,h.get? b=some o/\∀v,o.data≠ .cell v
 keep:∀i h h',tn i h->(∀b∈fp,∀o,h.get? b=some o->h'.get? b=some o)->tn i h'
 item:∀(X:Cx),X.prog=P->X.w=w->X.K=K->X.calm=true->∀(i:Nat) (pins:PLO) (s:Ug) (σ:St) (H:Hp) (E:VSP),Inv X pins σ H s->(∀b∈fp,FpOk X pins H b)->tn i s.heap->J.go i H->
  wpAny (model P w) X.A (pyNext (.ref it)) (fun r s1=>∃u,r=some u/\
   wpAny (model P w) X.A (letOwnedTupleGo tg (.ref it) u) (fun _ s2=>∃x H',Inv X pins σ H' s2/\RelV x u/\J.yld i H x H'/\tn (i+1) s2.heap/\∀b∈fp,H' b=none) E s1) E s
 done:∀(X:Cx),X.prog=P->X.w=w->X.K=K->X.calm=true->∀(i:Nat) (pins:PLO) (s:Ug) (σ:St) (H:Hp) (E:VSP),Inv X pins σ H s->(∀b∈fp,FpOk X pins H b)->tn i s.heap->J.stop i H->
  wpAny (model P w) X.A (pyNext (.ref it)) (fun r s1=>r=none/\Inv X pins σ H s1) E s
 self:∀(A:Around) (i:Nat) (s:Ug) (Q:VSP) (E:VSP),tn i s.heap->Q (.ref it) s->wpAny (model P w) A (pyIter (.ref it)) Q E s
abbrev TI:=St->Hp->(It->Hp->Prop)->Prop
def PIE(X:Cx)(pins:PLO)(h:St)(i:Expr)(R:It->Hp->Prop)(a:Uf)(e:Ug):Prop:=
 ∃(f:Uh) (g:List Uh) (d:Nat->Uk->Prop) (J:It) (c:Hp),a= .ref f/\Inv X pins h c e/\Turn X.prog X.w X.K i J g f d/\d 0 e.heap/\(∀b∈g,FpOk X pins c b)/\R J c
def PI(X:Cx)(d iter:Expr)(c:TI):Prop:=
 ∀(a:PLO) (s:Ug) (b:St) (H:Hp) (R:It->Hp->Prop),Inv X a b H s->c b H R->
  ⇑X (eval iter X.env) (fun v e=>⇑X (pyIter v) (PIE X a b d R) X.xe e) X.xe s
def Zb7{M:Model}{A:Around}{E:VSP}{s:Ug}{b:Expr}{it:Uh}{u:Uf}{o:Obj}{n:String}{vs:Array Uf}{Q:Unit->Ug->Prop}(c:s.heap.get? it=some o)(f:o.cls= .type n)(e:o.data= .fields vs)
  (d:["enumerate","zip","dict_itemiterator","dict_reverseitemiterator","odict_iterator","itertools.zip_longest","itertools.pairwise"].contains n=false) (a:Q () s):wpAny M A (letOwnedTupleGo b (.ref it) u) Q E s:=by
 unfold letOwnedTupleGo
 cases b<;>first
  | show Am a
  |(cases u<;>first
    | show Am a
    |(refine Ad (wpAny_load c ?_)
      rw[f,e]
      change wpAny M A (if (["enumerate","zip","dict_itemiterator","dict_reverseitemiterator","odict_iterator","itertools.zip_longest","itertools.pairwise"].contains n&&vs[0]?==some (rawInt _))=true then _ else _) Q E s
      rw[nc (by intro h;rw[d,Bool.false_and] at h;cases h)]
      show Am a))
def Itl(K:Ac)(a:Uh):It:=
 ⟨fun i H=>∃b x,SqL K H a b/\b[i]?=some x,fun i H x c=>c=H/\∀b,SqL K H a b->b[i]?=some x,fun i H=>∃b,SqL K H a b/\b.length<=i⟩
def Itt(K:Ac)(a:Uh):It:=
 ⟨fun i H=>∃b x,SqT K H a b/\b[i]?=some x,fun i H x c=>c=H/\∀b,SqT K H a b->b[i]?=some x,fun i H=>∃b,SqT K H a b/\b.length<=i⟩
def Itr(lo:Int)(n:Nat):It:=⟨fun i _=>i<n,fun i H x a=>a=H/\x= .int (lo+i),fun i _=>n<=i⟩
def Z70{P:Ui}{w:Uj}{K:Ac}{R:Expr}(a it:Uh):Turn P w K R (Itl K a) [it] it (fun i h=>h.IsListIter it a i) where
 mem:=by simp
 obj:=fun i h f b j=>by
  have e:b=it:=by simpa using j
  subst e
  let⟨o,e,c,d⟩:=f
  show⟨o,e,fun v z=>by rw[d] at z;cases z⟩
 keep:=fun i h q f k=>f.at fun o e=>k it (by simp) o e
 item:=by
  intro X C A D O i g s N H E I n f B
  subst C A D
  let⟨Q,x,m,y⟩:=B
  let⟨t,r,p,U⟩:=I.list m
  let⟨u,Y,T⟩:=r.get y
  let⟨M,L,Z,J,G,F⟩:=n it (by simp)
  refine wpAny_pyNext_list_item f p.isList (x:=u) ↥Y fun q l S=>?_
  have I1:Inv X g N H {s with heap:=q}:=I.turned (t':=s.toks) (fun b o j e=>(S.2 b j).trans e) M L J G F
  let⟨o,e,c,d⟩:=id l
  show⟨u,rfl,Zb7 (s:={s with heap:=q}) e c d 'd' ⟨x,H,I1,T,⟨rfl,fun ys V=>by rw[I.list_inj V m];show y⟩,l,fun b j=>(n b j).1⟩⟩
 done:=by
  intro X C A D O i g s N H E I n f B
  subst C A D
  let⟨Q,m,y⟩:=B
  let⟨t,r,p,U⟩:=I.list m
  let⟨M,L,Z,J,G,F⟩:=n it (by simp)
  have hl:=r.length
  show wpAny_pyNext_list_end (I.ok.hd O) f p.isList (by simp;lia) fun q eb=>⟨rfl,I.turned (t':=s.toks) (fun b o j e=>eb b o j e) M L J G F⟩
 self:=fun _ _ _ _ _ f h=>wpAny_pyIter_listiter f h
def Z27{P:Ui}{w:Uj}{K:Ac}{R:Expr}(a it:Uh):Turn P w K R (Itt K a) [it] it (fun i h=>h.IsTupleIter it a i) where
 mem:=by simp
 obj:=fun i h f b l=>by
  have e:b=it:=by simpa using l
  subst e
  let⟨o,e,c,d⟩:=f
  show⟨o,e,fun v z=>by rw[d] at z;cases z⟩
 keep:=fun i h r f k=>f.at fun o e=>k it (by simp) o e
 item:=by
  intro X C A D O i g s N H E I q f B
  subst C A D
  let⟨Q,x,n,y⟩:=B
  let⟨j,t,p,U⟩:=I.tuple n
  let⟨u,Y,T⟩:=t.get y
  let⟨M,L,Z,J,G,F⟩:=q it (by simp)
  refine wpAny_pyNext_tuple_item f (show s.heap.IsTuple a j.toArray from p) (x:=u) ↥Y fun r m S=>?_
  have I1:Inv X g N H {s with heap:=r}:=I.turned (t':=s.toks) (fun b o l e=>(S.2 b l).trans e) M L J G F
  let⟨o,e,c,d⟩:=id m
  show⟨u,rfl,Zb7 (s:={s with heap:=r}) e c d 'd' ⟨x,H,I1,T,⟨rfl,fun ys V=>by rw[I.tuple_inj V n];show y⟩,m,fun b l=>(q b l).1⟩⟩
 done:=by
  intro X C A D O i g s N H E I q f B
  subst C A D
  let⟨Q,n,y⟩:=B
  let⟨j,t,p,U⟩:=I.tuple n
  let⟨M,L,Z,J,G,F⟩:=q it (by simp)
  have hl:=t.length
  show wpAny_pyNext_tuple_end (I.ok.hd O) f (show s.heap.IsTuple a j.toArray from p) (by simp;lia) fun r eb=>⟨rfl,I.turned (t':=s.toks) (fun b o l e=>eb b o l e) M L J G F⟩
 self:=fun _ _ _ _ _ f h=>wpAny_pyIter_tupleiter f h
def Br{P:Ui}{w:Uj}{K:Ac}{G:Expr}(it:Uh)(lo:Int)(n:Nat):Turn P w K G (Itr lo n) [it] it (fun i h=>IsRangeIter h it (lo+(i:Nat) * 1) ((n:Int) - (i:Nat)) 1) where
 mem:=by simp
 obj:=fun i h a b d=>by
  have e:b=it:=by simpa using d
  subst e
  show⟨_,a,fun v z=>by
   have F:Data.fields _=Data.cell v:=z
   cases F⟩
 keep:=fun i h j a k=>k it (by simp) _ a
 item:=by
  intro X q l r p i c s C H E I g a m
  subst q l r
  let⟨B,A,M,y,x,u⟩:=g it (by simp)
  have W:=Walks.range (prog:=X.prog) (w:=X.w) (I.ok.hd p) it lo 1 n
  refine W.item i s _ _ m a fun v j D L f J=>?_
  let⟨t,rfl⟩:=L
  have O:Inv X c C H {s with heap:=j,toks:=D}:=I.turned (fun b o d e=>J b o ↥d e) B A y x u
  refine⟨_,rfl,Zb7 (s:={s with heap:=j,toks:=D}) (n:="range_iterator") f rfl rfl 'd' ⟨.int (lo+i),H,O,⟨t,?_⟩,⟨rfl,rfl⟩,f,fun b d=>(g b d).1⟩⟩
  rw[Int.mul_one]
 done:=by
  intro X q l r p i c s C H E I g a m
  subst q l r
  let⟨B,A,M,y,x,u⟩:=g it (by simp)
  show wpAny_pyNext_range_end (I.ok.hd p) a (by have:n<=i:=m;lia) fun j N=>⟨rfl,I.turned (t':=s.toks) (fun b o d e=>N b o d e) B A y x u⟩
 self:=fun _ _ _ _ _ a h=>wpAny_pyIter_rangeiter a h
section
variable{X:Cx}{tg:Expr}
def Zp6{pins:PLO}{a:St}{H:Hp}{s:Ug}{R:It->Hp->Prop}{E:VSP}{lo hi:Int}{t u v:Tok}{tk:Nat}(I:Inv X pins a H s)(i:-(2 ^ 62)<=lo)(h:lo<2 ^ 62)(g:-(2 ^ 62)<=hi)(f:hi<2 ^ 62)
  (q:R (Itr lo (hi - lo).toNat) H):⇑X (pyIter (.ref s.heap.objs.size)) (PIE X pins a tg R) E {s with heap:=s.heap.push {cls:= .type "range",data:= .fields #[.int lo t,.int hi u,.int 1 v]},toks:=tk}:=by
 refine wpAny_pyIter_range (IsRange.new ..) (small_one i h g f) ?_
 have c:Inv X pins a H {s with heap:=s.heap.push {cls:= .type "range",data:= .fields #[.int lo t,.int hi u,.int 1 v]},toks:=tk}:=I.kept fun b o e=>Ah _ e
 refine⟨(s.heap.push {cls:= .type "range",data:= .fields #[.int lo t,.int hi u,.int 1 v]}).objs.size,[(s.heap.push {cls:= .type "range",data:= .fields #[.int lo t,.int hi u,.int 1 v]}).objs.size],_,_,H,rfl,
  c.kept (t':=tk) fun b o e=>Ah _ e,Br _ lo (hi - lo).toNat,?_,fun b d=>?_,q⟩
 .have k:lo+((0:Nat):Int) * 1=lo:=by simp
  have j:(((hi - lo).toNat:Nat):Int) - ((0:Nat):Int)=Builtin.Range.rangeSize lo hi 1:=by rw[rangeSize_one];split<;>lia
  change IsRangeIter _ _ (lo+((0:Nat):Int) * 1) ((((hi - lo).toNat:Nat):Int) - ((0:Nat):Int)) 1
  rw[k,j]
  show Dn _ rfl
 .have e:b=(s.heap.push {cls:= .type "range",data:= .fields #[.int lo t,.int hi u,.int 1 v]}).objs.size:=by simpa using d
  subst e
  show c.fpOk (na _) (c.hok.fresh (na _))
def Yl6(c:TA):TI:=fun a H R=>c a H fun b d=>∃j:Int,b=[.int j]/\ -(2 ^ 62)<=j/\j<2 ^ 62/\R (Itr 0 j.toNat) d
def Za3{a:Expr}{d:TA}{p pos:Pos}(n:Gl X "range")(m:X.mg "range"=none)(o:PA X [a] d)(l:starEach [a] X.env=[(false,eval a X.env)]:=by rfl):PI X tg (.Call (.Name "range" p) [a] [] pos) (Yl6 d):=by
 intro b s f H R I h
 refine Call_ (Of I n m boot_range (PyProof.Rows.callWith_type1 (thn (o pos b s f H _ I h) fun w x zz14=>?_) l rfl))
 let⟨v,y,u,i,c⟩:=zz14
 let⟨j,e,c,k,q⟩:=c
 subst e
 cases i with
 | cons r g=>
  cases g
  let⟨t,rfl⟩:=r
  show call_range_1 (Zp6 u 'o' 'o' c k ↥q)
def tFor(f:TI)(g:TG)(h:TS):TS:=fun D a H=>f a H fun J k=>∃W:Nat->Nat->St->Hp->Prop,(∃m,W 0 m a k)/\∀i m a H,W i m a H->
 (J.stop i H/\D.nx a H)\/(J.go i H/\∃N:St->Hp->Prop,(∀b c,N b c->∃e,e<m/\W (i+1) e b c)/\∀x c,J.yld i H x c->g x a c fun d j=>h {D with nx:=N,ct:=N,bk:=D.nx} d j)
def B9(fp:List Uh)(h:Uk):PLO:=fp.filterMap fun b=>(h.get? b).map fun o=>(b,o)
def Y3{fp:List Uh}{h:Uk}{b:Uh}{o:Obj}(a:b∈fp)(e:h.get? b=some o):(b,o)∈B9 fp h:=List.mem_filterMap.mpr ⟨b,a,by rw[e];rfl⟩
def Zb2{fp:List Uh}{h:Uk}{p:Uh×Obj}(a:p∈B9 fp h):p.1∈fp/\h.get? p.1=some p.2:=by
 let⟨b,c,e⟩:=List.mem_filterMap.mp a
 cases q:h.get? b with
 | none=>rw[q] at e;cases e
 | some o=>
  rw[q] at e
  have d:(b,o)=p:=Hb e
  subst d
  show⟨c,q⟩
def Inv.pinned{pins:PLO}{a:St}{H:Hp}{s:Ug}{fp:List Uh}(I:Inv X pins a H s)(i:∀b∈fp,FpOk X pins H b)(h:∀b∈fp,∃o,s.heap.get? b=some o/\∀v,o.data≠ .cell v):Inv X (pins++B9 fp s.heap) a H s:=
 I.pins_of fun p g=>(Au.mp g).elim (fun z=>I.pin p (Dd _ z)) fun z=>by
  let⟨c,e⟩:=Zb2 z
  let⟨l,k,j,_⟩:=i p.1 c
  let⟨o,f,d⟩:=h p.1 c
  rw[e] at f;cases f
  show⟨e,l,k,j,d⟩
def Inv.unpinned{pins pl:PLO}{a:St}{H:Hp}{s:Ug}(I:Inv X (pins++pl) a H s):Inv X pins a H s:=I.pins_of fun p b=>I.pin p (Dd _ (Dg _ b))
def Zt7{iter:Expr}{body:List Stmt}{wi:TI}{g:TG}{tb:TS}{pos:Pos}(hp:PassesOwn (model X.prog X.w) X.A X.env X.xe)(hc:X.calm=true)(hi:PI X tg iter wi)(hg:PG X tg g)(hb:PSs X body tb)
  (hs:∀x,foldedSetIterable iter X.env x=pure x:=by intro _;rfl):PS X (.For tg iter body [] pos) (tFor wi g tb):=by
 intro pins s σ H D I h
 refine wpAny_For (thn (hi pins s σ H _ I h) fun v s1 h1=>thn h1 fun itv s2 h2=>?_) hs
 let⟨it,fp,tn,J,H2,e,I2,T,st2,f2,W,⟨m0,w0⟩,turn⟩:=h2
 subst e
 have stat:∀{H':Hp},(∀b∈fp,H' b=none)->∀b∈fp,FpOk X pins H' b:=fun hn b hb=>⟨hn b hb,(f2 b hb).2⟩
 refine codeAny_forLoop_any (fun n s'=>∃i σ' H',Inv X pins σ' H' s'/\tn i s'.heap/\(∀b∈fp,H' b=none)/\W i n σ' H') ?_ m0 ⟨0,σ,H2,I2,st2,fun b hb=>(f2 b hb).1,w0⟩
 rintro n s3 ⟨i,σ3,H3,I3,st3,fr3,w3⟩
 rcases turn i n σ3 H3 w3 with⟨stop,qn⟩ | ⟨go,N,hN,step⟩
 .refine Lh hp (thn (T.done X rfl rfl rfl hc i pins s3 σ3 H3 X.xe I3 (stat fr3) st3 stop) fun r s4 zz15=>?_)
  let⟨hr,I4⟩:=zz15
  subst hr
  show Lg ⟨σ3,H3,I4,qn⟩
 .refine Lh hp (thn (T.item X rfl rfl rfl hc i pins s3 σ3 H3 X.xe I3 (stat fr3) st3 go) fun r s4 zz16=>?_)
  let⟨u,hr,h4⟩:=zz16
  subst hr
  refine Lh hp (thn h4 fun _ s5 zz17=>?_)
  let⟨x,H5,I5,r5,y5,st5,fr5⟩:=zz17
  have I5':=I5.pinned (stat fr5) (T.obj _ _ st5)
  refine Lh hp (thn (hg _ s5 σ3 H5 x u _ I5' r5 (step x H5 y5)) fun _ s6 zz18=>?_)
  let⟨σ6,H6,I6,q6⟩:=zz18
  refine Lh hp (thn (hb _ s6 σ6 H6 _ I6 q6) fun f s7 q7=>?_)
  have again:∀{σ7:St} {H7:Hp},Inv X (pins++B9 fp s5.heap) σ7 H7 s7->N σ7 H7->∃m,m<n/\∃i σ' H',Inv X pins σ' H' s7/\tn i s7.heap/\(∀b∈fp,H' b=none)/\W i m σ' H':=fun{σ7 H7} I7 n7=>by
   let⟨m',hm,w7⟩:=hN σ7 H7 n7
   refine⟨m',hm,i+1,σ7,H7,I7.unpinned,T.keep _ _ _ st5 fun b hb o e=>(I7.pin (b,o) (Dd _ (Dd _ (Y3 hb e)))).1,fun b hb=>?_,w7⟩
   let⟨o,e,d⟩:=T.obj _ _ st5 b hb
   show(I7.pin (b,o) (Dd _ (Dd _ (Y3 hb e)))).2.1
  cases f with
  | next=>let⟨σ7,H7,I7,n7⟩:=q7;show again I7 n7
  | cont=>let⟨σ7,H7,I7,n7⟩:=q7;show again I7 n7
  | brk=>let⟨σ7,H7,I7,q7⟩:=q7;show⟨σ7,H7,I7.unpinned,q7⟩
  | ret v=>let⟨x7,σ7,H7,I7,r7,q7⟩:=q7;show⟨x7,σ7,H7,I7.unpinned,r7,q7⟩
end
abbrev R2:=V->V->Hp->VK->Prop
def OpR(X:Cx)(f:Uf->Uf->Sem Uf)(r:R2):Prop:=
 ∀(a:PLO) (s:Ug) (b:St) (H:Hp) (x y:V) (v u:Uf) (Q:VK),Inv X a b H s->RelV x v->RelV y u->r x y H Q->
  ⇑X (f v u) (EP X a b Q) X.xe s
def UnR(X:Cx)(f:Uf->Sem Uf)(r:V->Hp->VK->Prop):Prop:=
 ∀(a:PLO) (s:Ug) (b:St) (H:Hp) (x:V) (v:Uf) (Q:VK),Inv X a b H s->RelV x v->r x H Q->
  ⇑X (f v) (EP X a b Q) X.xe s
def W2(X:Cx)(f:Uf)(r:LV->Hp->VK->Prop):Prop:=
 ∀(a:PLO) (s:Ug) (b:St) (H:Hp) (c:LV) (d:LW) (Q:VK),Inv X a b H s->Vals c d->r c H Q->
  ⇑X (call f d) (EP X a b Q) X.xe s
def TruR(X:Cx)(r:V->Hp->(Bool->Hp->Prop)->Prop):Prop:=
 ∀(a:PLO) (s:Ug) (b:St) (H:Hp) (x:V) (v:Uf) (Q:Bool->Hp->Prop),Inv X a b H s->RelV x v->r x H Q->
  ⇑X (truthy v) (TP X a b Q) X.xe s
def tOp(r:R2)(c b:TE):TE:=fun a H Q=>c a H fun x e=>b a e fun y d=>r x y d Q
def tUn(r:V->Hp->VK->Prop)(b:TE):TE:=fun a H Q=>b a H fun x c=>r x c Q
def rI(C:Int->Int->Prop)(g:Int->Int->V):R2:=fun x y H Q=>∃i j,x= .int i/\y= .int j/\C i j/\Q (g i j) H
def rI0(g:Int->Int->V):R2:=fun x y H Q=>∃i j,x= .int i/\y= .int j/\Q (g i j) H
def rU(g:Int->V):V->Hp->VK->Prop:=fun x H Q=>∃i,x= .int i/\Q (g i) H
section
variable{X:Cx}{a b c:Expr}{ta tb tc:TE}{pos:Pos}
def binT(r:PE X a ta)(q:PE X b tb){pins:PLO}{s:Ug}{d:St}{H:Hp}{R:V->V->Hp->Prop}(I:Inv X pins d H s)
  (h:ta d H fun x j=>tb d j fun y H2=>R x y H2) {Q:VSP} {f:Uf->Uf->Sem Uf}
  (p:∀v u i x y H2,Inv X pins d H2 i->RelV x v->RelV y u->R x y H2->⇑X (f v u) Q X.xe i):
  ⇑X (eval a X.env) (fun v g=>⇑X (eval b X.env) (fun u e=>⇑X (f v u) Q X.xe e) X.xe g) X.xe s:=by
 refine thn (r pins s d H _ I h) fun v k zz19=>?_
 let⟨x,j,z,m,o⟩:=zz19
 refine thn (q pins k d j _ z o) fun u i zz20=>?_
 let⟨y,H2,t,l,n⟩:=zz20
 show p v u i x y H2 t m l n
def Yk5{op:Operator}{r:R2}(j:OpR X (binaryOp op) r)(l:PE X a ta)(k:PE X b tb):PE X (.BinOp a op b pos) (tOp r ta tb):=by
 intro d s e H Q I h
 show wpAny_BinOp (binT l k I h fun v u f x y n m i g q=>j d f e n x y v u Q m i g q)
def Yh4{op:UnaryOp}{r:V->Hp->VK->Prop}(j:UnR X (unaryOp op) r)(k:PE X a ta):PE X (.UnaryOp op a pos) (tUn r ta):=by
 intro d s e H Q I h
 show UnaryOp_ (thn (k d s e H _ I h) fun v f zz21=>by let⟨x,m,l,g,i⟩:=zz21;show j d f e m x v Q l g i)
def opI{f:Uf->Uf->Sem Uf}{C:Int->Int->Prop}{g:Int->Int->Int}
  (d:∀(i j:Int) (t u:Tok) (s:Ug) (Q:VSP) (E:VSP),C i j->Q (.int (g i j) s.toks) {s with toks:=s.toks+1}->⇑X (f (.int i t) (.int j u)) Q E s):
  OpR X f (rI C fun i j=> .int (g i j)):=by
 intro e s o H x y v u Q I m l h
 let⟨i,j,rfl,rfl,n,q⟩:=h
 let⟨t,rfl⟩:=m
 let⟨k,rfl⟩:=l
 show d i j t k s _ _ n ⟨.int (g i j),H,I.tok _,⟨_,rfl⟩,q⟩
def opI0{f:Uf->Uf->Sem Uf}{g:Int->Int->Int}
  (d:∀(i j:Int) (t u:Tok) (s:Ug) (Q:VSP) (E:VSP),Q (.int (g i j) s.toks) {s with toks:=s.toks+1}->⇑X (f (.int i t) (.int j u)) Q E s):
  OpR X f (rI0 fun i j=> .int (g i j)):=by
 intro e s n H x y v u Q I m l h
 let⟨i,j,rfl,rfl,q⟩:=h
 let⟨t,rfl⟩:=m
 let⟨k,rfl⟩:=l
 show d i j t k s _ _ ⟨.int (g i j),H,I.tok _,⟨_,rfl⟩,q⟩
def opB0{f:Uf->Uf->Sem Uf}{g:Int->Int->Bool}
  (d:∀(i j:Int) (t u:Tok) (s:Ug) (Q:VSP) (E:VSP),Q (.bool (g i j)) s->⇑X (f (.int i t) (.int j u)) Q E s):
  OpR X f (rI0 fun i j=> .bl (g i j)):=by
 intro e s n H x y v u Q I m l h
 let⟨i,j,rfl,rfl,q⟩:=h
 let⟨t,rfl⟩:=m
 let⟨k,rfl⟩:=l
 show d i j t k s _ _ ⟨.bl (g i j),H,I,rfl,q⟩
def CPow(i j:Int):Prop:=0<=j/\j<=1000000/\i.natAbs<2 ^ 64
def CMul(i j:Int):Prop:=(-(2 ^ 64)<i/\i<2 ^ 64)\/(-(2 ^ 64)<j/\j<2 ^ 64)
def CMul.ok{i j:Int}(h:CMul i j):IntMulOk i j:=by
 rcases h with⟨e,d⟩ | ⟨e,d⟩
 .exact .of_left (intBits_le_64 e d)
 .exact .of_right (intBits_le_64 e d)
def Yc7:OpR X (binaryOp .Add) (rI0 fun i j=> .int (i+j)):=opI0 fun _ _ _ _ _ _ _ q=>add_int q
def Y82:OpR X (binaryOp .Sub) (rI0 fun i j=> .int (i - j)):=opI0 fun _ _ _ _ _ _ _ q=>sub_int q
def Y60:OpR X (binaryOp .Mod) (rI (fun _ j=>j≠0) fun i j=> .int (i.fmod j)):=opI fun _ _ _ _ _ _ _ d q=>mod_int' d q
def Y97:OpR X (binaryOp .Pow) (rI CPow fun i j=> .int (i ^ j.toNat)):=opI fun _ _ _ _ _ _ _ d q=>pow_int_small d.1 d.2.1 d.2.2 q
def unI{f:Uf->Sem Uf}{g:Int->Int}
  (d:∀(i:Int) (t:Tok) (s:Ug) (Q:VSP) (E:VSP),Q (.int (g i) s.toks) {s with toks:=s.toks+1}->⇑X (f (.int i t)) Q E s):
  UnR X f (rU fun i=> .int (g i)):=by
 intro e s k H x v Q I j h
 let⟨i,rfl,q⟩:=h
 let⟨t,rfl⟩:=j
 show d i t s _ _ ⟨.int (g i),H,I.tok _,⟨_,rfl⟩,q⟩
def Zu0:UnR X (unaryOp .USub) (rU fun i=> .int (-i)):=unI fun _ _ _ _ _ q=>neg_int q
end
def scal:V->V->Bool
 | .non,.non=>true | .non,.int _=>true | .int _,.non=>true | .non,.bl _=>true | .bl _,.non=>true | .non,.str _=>true | .str _,.non=>true
 | .int _,.int _=>true | .bl _,.bl _=>true | .str _,.str _=>true | .byt _,.byt _=>true
 | .int _,.str _=>true | .str _,.int _=>true | .bl _,.str _=>true | .str _,.bl _=>true
 | _,_=>false
def rEq:R2:=fun x y H Q=>scal x y=true/\Q (.bl (decide (x=y))) H
def rNe:R2:=fun x y H Q=>scal x y=true/\Q (.bl (!decide (x=y))) H
def Zf5{i j:Int}:decide (V.int i=V.int j)=(i==j):=by
 rw[Bool.eq_iff_iff]
 simp
def Zv0{i j:Bool}:decide (V.bl i=V.bl j)=(i==j):=by
 rw[Bool.eq_iff_iff]
 simp
def Zh7{i j:Str}:decide (V.str i=V.str j)=(i==j):=by
 rw[Bool.eq_iff_iff]
 simp
def Z64{i j:Array UInt8}:decide (V.byt i=V.byt j)=(i.toList==j.toList):=by
 rw[Bool.eq_iff_iff]
 cases i
 cases j
 simp
section
variable{X:Cx}{a b c:Expr}{ta tb tc:TE}{pos:Pos}
def Zm{pins:PLO}{d:St}{H:Hp}{s:Ug}{Q:VK}{k f:Bool}(I:Inv X pins d H s)(q:Q (.bl k) H)(e:k=f):EP X pins d Q (.bool f) s:=by
 subst e
 show⟨.bl k,H,I,rfl,q⟩
def Yj1:OpR X (compareOp .Eq) rEq:=by
 intro k s l H x y v u Q I g d h
 let⟨f,q⟩:=h
 cases x with
 | non=>
  cases g
  cases y with
  | non=>cases d;show PySem.EqNone.eq_none_none (Zm I q (by simp))
  | bl j=>cases d;show PySem.EqNone.eq_none_bool (Zm I q (by simp))
  | int j=>let⟨e,rfl⟩:=d;show PySem.EqNone.eq_none_int (Zm I q (by simp))
  | str j=>let⟨e,rfl⟩:=d;show PySem.EqNone.eq_none_str (Zm I q (by simp))
  | _=>show absurd (show false=true from f) Bf9
 | bl i=>
  cases g
  cases y with
  | non=>cases d;show PySem.EqNone.eq_bool_none (Zm I q (by simp))
  | bl j=>cases d;show eq_bool (Zm I q Zv0)
  | str j=>let⟨e,rfl⟩:=d;show PySem.EqMixed.eq_bool_str (Zm I q (by simp))
  | _=>show absurd (show false=true from f) Bf9
 | int i=>
  let⟨t,rfl⟩:=g
  cases y with
  | non=>cases d;show PySem.EqNone.eq_int_none (Zm I q (by simp))
  | int j=>let⟨e,rfl⟩:=d;show eq_int (Zm I q Zf5)
  | str j=>let⟨e,rfl⟩:=d;show PySem.EqMixed.eq_int_str (Zm I q (by simp))
  | _=>show absurd (show false=true from f) Bf9
 | str i=>
  let⟨t,rfl⟩:=g
  cases y with
  | non=>cases d;show PySem.EqNone.eq_str_none (Zm I q (by simp))
  | bl j=>cases d;show PySem.EqMixed.eq_str_bool (Zm I q (by simp))
  | int j=>let⟨e,rfl⟩:=d;show PySem.EqMixed.eq_str_int (Zm I q (by simp))
  | str j=>let⟨e,rfl⟩:=d;show eq_str (Zm I q Zh7)
  | _=>show absurd (show false=true from f) Bf9
 | byt i=>
  let⟨t,rfl⟩:=g
  cases y with
  | byt j=>let⟨e,rfl⟩:=d;show PySem.W.eq_bytes (Zm I q Z64)
  | _=>show absurd (show false=true from f) Bf9
 | _=>cases y<;>show absurd (show false=true from f) Bf9
def Yj3:OpR X (compareOp .NotEq) rNe:=by
 intro k s l H x y v u Q I g d h
 let⟨f,q⟩:=h
 cases x with
 | non=>
  cases g
  cases y with
  | non=>cases d;show PySem.EqNone.ne_none_none (Zm I q (by simp))
  | bl j=>cases d;show PySem.EqNone.ne_none_bool (Zm I q (by simp))
  | int j=>let⟨e,rfl⟩:=d;show PySem.EqNone.ne_none_int (Zm I q (by simp))
  | str j=>let⟨e,rfl⟩:=d;show PySem.EqNone.ne_none_str (Zm I q (by simp))
  | _=>show absurd (show false=true from f) Bf9
 | bl i=>
  cases g
  cases y with
  | non=>cases d;show PySem.EqNone.ne_bool_none (Zm I q (by simp))
  | bl j=>cases d;show ne_bool (Zm I q (congrArg not Zv0))
  | str j=>let⟨e,rfl⟩:=d;show PySem.EqMixed.ne_bool_str (Zm I q (by simp))
  | _=>show absurd (show false=true from f) Bf9
 | int i=>
  let⟨t,rfl⟩:=g
  cases y with
  | non=>cases d;show PySem.EqNone.ne_int_none (Zm I q (by simp))
  | int j=>let⟨e,rfl⟩:=d;show ne_int (Zm I q (congrArg not Zf5))
  | str j=>let⟨e,rfl⟩:=d;show PySem.EqMixed.ne_int_str (Zm I q (by simp))
  | _=>show absurd (show false=true from f) Bf9
 | str i=>
  let⟨t,rfl⟩:=g
  cases y with
  | non=>cases d;show PySem.EqNone.ne_str_none (Zm I q (by simp))
  | bl j=>cases d;show PySem.EqMixed.ne_str_bool (Zm I q (by simp))
  | int j=>let⟨e,rfl⟩:=d;show PySem.EqMixed.ne_str_int (Zm I q (by simp))
  | str j=>let⟨e,rfl⟩:=d;show ne_str (Zm I q (congrArg not Zh7))
  | _=>show absurd (show false=true from f) Bf9
 | byt i=>
  let⟨t,rfl⟩:=g
  cases y with
  | byt j=>let⟨e,rfl⟩:=d;show PySem.W.ne_bytes (Zm I q (congrArg not Z64))
  | _=>show absurd (show false=true from f) Bf9
 | _=>cases y<;>show absurd (show false=true from f) Bf9
def Yk7:OpR X (compareOp .Lt) (rI0 fun i j=> .bl (decide (i<j))):=opB0 fun _ _ _ _ _ _ _ q=>lt_int q
def Yh9:OpR X (compareOp .LtE) (rI0 fun i j=> .bl (decide (i<=j))):=opB0 fun _ _ _ _ _ _ _ q=>le_int q
def Yi5:OpR X (compareOp .Gt) (rI0 fun i j=> .bl (decide (j<i))):=opB0 fun _ _ _ _ _ _ _ q=>gt_int q
def Zf0:OpR X (compareOp .In) (fun x y H Q=>∃i j,x= .str i/\y= .str j/\Q (.bl (!(Mf j i 0 j.length 1).isEmpty)) H):=by
 intro d s g H x y v u Q I f e h
 let⟨i,j,rfl,rfl,q⟩:=h
 let⟨t,rfl⟩:=f
 let⟨k,rfl⟩:=e
 show in_str (Zm I q rfl)
def Q9:OpR X (compareOp .Is) (fun x y H Q=>y= .non/\Q (.bl (decide (x= .non))) H):=by
 intro e s g H x y v u Q I d f h
 let⟨rfl,q⟩:=h
 cases f
 refine is_none_gen (Zm I q ?_)
 cases x<;>first
  |(cases d;rfl)
  |(let⟨t,rfl⟩:=d;rfl)
def V0:OpR X (compareOp .IsNot) (fun x y H Q=>y= .non/\Q (.bl (!decide (x= .non))) H):=by
 intro e s g H x y v u Q I d f h
 let⟨rfl,q⟩:=h
 cases f
 refine isnot_none_gen (Zm I q ?_)
 cases x<;>first
  |(cases d;rfl)
  |(let⟨t,rfl⟩:=d;rfl)
def Jp:OpR X (compareOp .NotIn) (fun x y H Q=>∃i j,x= .str i/\y= .str j/\Q (.bl (!(!(Mf j i 0 j.length 1).isEmpty))) H):=by
 intro d s g H x y v u Q I f e h
 let⟨i,j,rfl,rfl,q⟩:=h
 let⟨t,rfl⟩:=f
 let⟨k,rfl⟩:=e
 show notIn_str (Zm I q rfl)
def Zy8{op:CmpOp}{r:R2}(j:OpR X (compareOp op) r)(m:PE X a ta)(l:PE X b tb)(k:behindInMarks op b=false):PE X (.Compare a [op] [b] pos) (tOp r ta tb):=by
 intro d s e H Q I h
 show wpAny_Compare1 (binT m l I h fun v u f x y o n i g q=>j d f e o x y v u Q n i g q) k
def Y69(t:TE):TT:=fun d H Q=>t d H fun x e=>∃k,x= .bl k/\Q k e
def Zw2{op:CmpOp}{r:R2}(q:OpR X (compareOp op) r)(A:PE X a ta)(w:PE X b tb)(t:behindInMarks op b=false):PT X (.Compare a [op] [b] pos) (Y69 (tOp r ta tb)):=by
 intro d s f H Q I h
 refine wpAny_isTrue_Compare1 (thn (A d s f H _ I h) fun v i ⟨x,G,D,m,p⟩=>thn (w d i f G _ D p) fun u g ⟨y,F,C,l,o⟩=>
  thn (q d g f F x y v u _ C m l o) fun c J ⟨z,E,B,j,k,e,n⟩=>?_) t
 subst e
 cases j
 show Lo ⟨E,B,n⟩
def Zd5(r g:R2)(ta tb tc:TE):TE:=fun d H Q=>ta d H fun x j=>tb d j fun y i=>r x y i fun z e=>∃k,z= .bl k/\
 (if k=true then tc d e fun f h=>g y f h Q else Q (.bl false) e)
def Zk2{op g:CmpOp}{r m:R2}(L:OpR X (compareOp op) r)(j:OpR X (compareOp g) m)(P:PE X a ta)(O:PE X b tb)(N:PE X c tc)
  (M:lastMarks [op,g] [b,c]=false:=by with_unfolding_all rfl):PE X (.Compare a [op,g] [b,c] pos) (Zd5 r m ta tb tc):=by
 intro f s i H Q I h
 refine Compare_chain (thn (P f s i H _ I h) fun v C ⟨x,W,T,F,K⟩=>chain_link (thn (O f C i W _ T K) fun u B ⟨y,V,S,l,J⟩=>
  thn (L f B i V x y v u _ S F l J) fun d A ⟨z,p,o,E,k,e,n⟩=>?_)) M
 subst e
 cases E
 refine Lo ?_
 cases k with
 | false=>show ite_ff ⟨.bl false,p,o,rfl,n⟩
 | true=>show ite_tt (chain_last (thn (N f A i p _ o n) fun t w zz24=>by let⟨q,U,R,D,G⟩:=zz24;show j f w i U y q u t Q R l D G))
def Zl0{op g:CmpOp}{r m:R2}(O:OpR X (compareOp op) r)(j:OpR X (compareOp g) m)(T:PE X a ta)(S:PE X b tb)(R:PE X c tc)
  (P:lastMarks [op,g] [b,c]=false:=by with_unfolding_all rfl):PT X (.Compare a [op,g] [b,c] pos) (Y69 (Zd5 r m ta tb tc)):=by
 intro f s i H Q I h
 refine isTrue_chain (thn (T f s i H _ I h) fun v C ⟨x,H1,I1,G,M⟩=>test_link (thn (S f C i H1 _ I1 M) fun u B ⟨y,H2,Z,l,L⟩=>
  thn (O f B i H2 x y v u _ Z G l L) fun d A ⟨z,p,o,F,k,e,n⟩=>?_)) P
 subst e
 cases F
 refine Lo ?_
 cases k with
 | false=>
  let⟨k',V,N⟩:=n
  cases V
  show ite_ff ⟨p,o,N⟩
 | true=>
  refine ite_tt (test_last (thn (R f A i p _ o n) fun t w ⟨q,H4,Y,E,K⟩=>thn (j f w i H4 y q u t _ Y l E K) fun d' s5 zz27=>?_))
  let⟨z2,H5,W,D,k2,U,J⟩:=zz27
  subst U
  cases D
  show Lo ⟨H5,W,J⟩
def TruV(K:Ac)(x:V)(H:Hp)(k:Bool):Prop:=
 match x with
 | .non=>k=false
 | .bl b=>k=b
 | .int i=>k=(i !=0)
 | .str y=>y.length<=sizeLine/\k=((y.length:Int) !=0)
 | .byt y=>y.size<=sizeLine/\k=((y.size:Int) !=0)
 | .ref p=>(∃d,SqL K H p d/\k= !d.isEmpty)\/(∃d,SqT K H p d/\k= !d.isEmpty)\/∃e,H p=some (.dK e)/\k= !e.isEmpty
 | _=>False
def Z18{d:Type}{kvs:List (d×V)}{vs:List (d×Uf)}(r:KV kvs vs):(!vs.isEmpty)= !kvs.isEmpty:=by
 cases r<;>rfl
def O1{xs:LV}{its:LW}(r:Vals xs its):(!its.toArray.isEmpty)= !xs.isEmpty:=by
 cases r<;>simp
def Vr:(sizeLine:Nat)<2 ^ 63:=by rw[Mo];decide
def Cy:TruR X (fun x H Q=>∃k,TruV X.K x H k/\Q k H):=by
 intro pins s σ H x v Q I rx h
 let⟨k,e,q⟩:=h
 have hl:=Vr
 have hs:sizeLine=16777216:=Mo
 cases x with
 | non=>
  cases rx
  have e':k=false:=e
  subst e'
  show truthy_none ⟨H,I,q⟩
 | bl b=>
  cases rx
  have e':k=b:=e
  subst e'
  show Lo ⟨H,I,q⟩
 | int i=>
  let⟨t,rfl⟩:=rx
  have e':k=(i !=0):=e
  subst e'
  show PySem.P.truthy_int ⟨H,I,q⟩
 | str y=>
  let⟨t,rfl⟩:=rx
  obtain⟨hy,e'⟩:y.length<=sizeLine/\k=((y.length:Int) !=0):=e
  subst e'
  show PySem.P.truthy_str 'o' ⟨H,I.tok _,q⟩
 | byt y=>
  let⟨t,rfl⟩:=rx
  obtain⟨hy,e'⟩:y.size<=sizeLine/\k=((y.size:Int) !=0):=e
  subst e'
  show PySem.W.truthy_bytes 'o' ⟨H,I.tok _,q⟩
 | ref p=>
  cases rx
  have e':(∃xs,SqL X.K H p xs/\k= !xs.isEmpty)\/(∃xs,SqT X.K H p xs/\k= !xs.isEmpty)\/∃kvs,H p=some (.dK kvs)/\k= !kvs.isEmpty:=e
  rcases e' with⟨xs,hx,e'⟩ | ⟨xs,hx,e'⟩ | ⟨kvs,hx,e'⟩
  .subst e'
   let⟨its,r,pl,hz⟩:=I.list hx
   have hlen:=r.length
   show wpAny_truthy_list pl.isList (by simp only[Ak];lia) ⟨H,I.tok _,by rw[O1 r];show q⟩
  .subst e'
   let⟨its,r,pl,hz⟩:=I.tuple hx
   have hlen:=r.length
   show truthy_tuple pl (by simp only[Ak];lia) ⟨H,I.tok _,by rw[O1 r];show q⟩
  .subst e'
   obtain⟨hz,hS,vs,r,m⟩:kvs.length<=sizeLine/\(p==sysModules)=false/\∃vs,KV kvs vs/\s.heap.DictOf (Zi X.prog X.w) p vs:=I.hok p _ hx
   have hlen:kvs.length=vs.length:=Paired.length r
   show wpAny_truthy_dict hS m 'o' ⟨H,I.tok _,by rw[Z18 r];show q⟩
 | _=>show(show False from e).elim
def Zr7(m:PE X a ta)(l:∀d,isTrue a X.env d=(do let v <-d;standAt a.pos;holding [v] (truthy v))):
  PT X a (fun f H Q=>ta f H fun x H'=>∃k,TruV X.K x H' k/\Q k H'):=by
 intro e s f H Q I h
 show isTrue_plain (thn (m e s f H _ I h) fun v g zz28=>by let⟨x,o,n,i,j⟩:=zz28;show Cy e g f o x v Q n i j) (l _)
def Z16:OpR X (binaryOp .Add) (fun x y H Q=>∃i j,x= .str i/\y= .str j/\i.length+j.length<=sizeLine/\Q (.str (i++j)) H):=by
 intro d s l H x y v u Q I g f h
 let⟨i,j,rfl,rfl,k,q⟩:=h
 let⟨t,rfl⟩:=g
 let⟨e,rfl⟩:=f
 show add_str (fun e m=>⟨.str (i++j),H,I.tok _,⟨_,rfl⟩,q⟩) k
def Vs{x:V}{us:LW}(r:Vals [x] us):∃u,us=[u]/\RelV x u:=by
 cases r with
 | cons e d=>cases d;show⟨_,rfl,e⟩
def Z48{x y:V}{us:LW}(r:Vals [x,y] us):∃u d,us=[u,d]/\RelV x u/\RelV y d:=by
 cases r with
 | cons h g=>
  cases g with
  | cons f e=>cases e;show⟨_,_,rfl,h,f⟩
end
structure ObjM(h:Uk)(x dx C:Uh)(mA:Str->Option Uf):Prop where
 obj:h.get? x=some (PySem.W.instObj C dx)
 ns:h.Ns1 dx mA
 ne:dx≠x
set_option tactic.hygienic true in
def F4{h:Uk}{f:Uh}{c:Str->Option Uf}(n:h.Ns1 f c):∃od,h.get? f=some od/\∀name,PySem.W.lookIn name od=some (c name):=by
 let⟨o,d,p,i,l,k,_,j⟩:=n
 refine⟨o,i,fun name=>?_⟩
 have e:=j name
 unfold nsFind findBy at e
 rw[<-Array.find?_toList] at e
 unfold PySem.W.lookIn
 rw[l]
 dsimp only
 split
 .rename_i y q
  rw[q] at e
  show congrArg some e
 .rename_i q
  rw[q] at e
  have a:d.toList.any (·.refKey)=false:=by
   rw[List.any_eq_false]
   intro y g
   let⟨z,t,b⟩:=k y (Array.mem_toList_iff.mp g)
   simp[DictEntry.refKey,b]
  have m:¬d.toList.any (·.refKey)=true:=by rw[a];show Bf9
  rw[nc m]
  show congrArg some e
def ObjM.look{h:Uk}{x b C:Uh}{a:Str->Option Uf}(I:ObjM h x b C a):∃od,PySem.W.InstAt h x (PySem.W.instObj C b) C (some od)/\∀name,PySem.W.lookIn name od=some (a name):=
 let ⟨od,c,d⟩:=F4 I.ns
 ⟨od,⟨I.obj,rfl,rfl,c⟩,d⟩
def RelO.some_of{v:V}{o:Option Uf}(r:RelO (some v) o):∃u,o=some u/\RelV v u:=by
 cases o with
 | none=>show(show False from r).elim
 | some u=>show⟨u,rfl,r⟩
def RelO.none_of{o:Option Uf}(r:RelO none o):o=none:=by
 cases o with
 | none=>rfl
 | some u=>show(show False from r).elim
def Zf6{v:V}{u:Uf}(r:RelV v u):PySem.W.handedIn u=true:=by
 cases v with
 | non=>cases (show u=Value.none from r);rfl
 | bl b=>cases (show u=Value.bool b from r);rfl
 | int i=>let⟨t,e⟩:=(show ∃t,u=Value.int i t from r);cases e;rfl
 | str x=>let⟨t,e⟩:=(show ∃t,u=Value.str x t from r);cases e;rfl
 | byt b=>let⟨t,e⟩:=(show ∃t,u=Value.bytes b t from r);cases e;rfl
 | flt b=>let⟨t,e⟩:=(show ∃t,u=Value.float b t from r);cases e;rfl
 | ref a=>cases (show u=Value.ref a from r);rfl
 | ty n=>cases (show u=Value.type n from r);rfl
section
variable{P:Ui}{w:Uj}{H H':Hp}{h h':Uk}{a C dx:Uh}{fs fs':List (Str×V)}
def Y65(c:HOk P w H h)(e:H a=some (.ins C dx fs)):∃b,ObjM h a dx C b/\(∀f,RelO (fs.lookup f) (b f))/\PySem.Within b (fs.map (·.1))/\fs.length<=1000/\H dx=some (.own a):=by
 let⟨d,z,i,g,b,n,r,q⟩:=(show Y6 P w H h a (.ins C dx fs) from c a _ e)
 show⟨b,⟨g,n,i⟩,r,q,z,d⟩
end
structure Cls(K:Ac)(C:Uh):Prop where
 pg:PySem.W.plainGet K C Str.empty=true
 hd:PySem.W.hasDictIn K C=true
 po:PySem.W.plainOver K C=true
 sa:Hs K (.ref C) "__setattr__"=some (some (.builtin "object.__setattr__"))
def Cls.get{K:Ac}{C:Uh}(c:Cls K C)(f:Str):PySem.W.plainGet K C f=true:=c.pg
structure Con(K:Ac)(C:Uh)(f:Str)(v:V)(u:Uf):Prop where
 at_:Hs K (.ref C) f=some (some u)
 rel:RelV v u
 get:PySem.W.specialIn K u "__get__"=some none
 cp:PySem.W.copiedNames.contains f=false
structure Meth(K:Ac)(C:Uh)(m:Str)(f:Uh):Prop where
 at_:Hs K (.ref C) m=some (↑f)
 fn:PySem.W.isFn K (.ref f)=true
 kp:Dv K (.ref f)=true
section
variable{X:Cx}{pins:PLO}{σ:St}{H:Hp}{s:Ug}{a C dx:Uh}{fs:List (Str×V)}{f:Str}{v:V}{A:Around}{E:VSP}
def Y15{prog:Ui}{w:Uj}{env:Env}{e:Expr}{f:Str}{pos:Pos}{s:Ug}{Q:VSP}(c:attributeBase e f env (eval e env)=eval e env)
  (h:wpAny (model prog w) A (eval e env) (fun o b=>wpAny (model prog w) A (getAttr o f true) Q E b) E s):wpAny (model prog w) A (eval (.Attribute e f pos) env) Q E s:=
 Attribute_any_ h (by rw[arm_eval_Attribute,c])
end
section
variable{X:Cx}{pins:PLO}{σ:St}{H:Hp}{s:Ug}{A:Around}{E:VSP}{Q:VSP}{c:Uf}{b:Bool}
inductive TyOf (K:Ac) (H:Hp):V->Uf->Prop where
 | non:TyOf K H .non (.type "NoneType")
 | bl (x:Bool):TyOf K H (.bl x) (.type "bool")
 | int (i:Int):TyOf K H (.int i) (.type "int")
 | str (x:Str):TyOf K H (.str x) (.type "str")
 | flt (x:UInt64):TyOf K H (.flt x) (.type "float")
 | lst {a:Uh} {xs:LV} (e:H a=some (.lst xs)):TyOf K H (.ref a) (.type "list")
 | frz {a:Uh} {o:Obj} {xs:LV} (e:H a=some (.frz o (.lst xs))):TyOf K H (.ref a) (.type "list")
 | tup {a:Uh} {xs:LV} (e:H a=some (.tup xs)):TyOf K H (.ref a) (.type "tuple")
 | dK {a:Uh} {kvs:List (Key×V)} (e:H a=some (.dK kvs)):TyOf K H (.ref a) (.type "dict")
 | dT {a:Uh} {kvs:List (List Key×V)} (e:H a=some (.dT kvs)):TyOf K H (.ref a) (.type "dict")
 | ins {a C dx:Uh} {fs:List (Str×V)} (e:H a=some (.ins C dx fs)) (cl:Cls K C) (ha:Hs K (.ref C) "__class__"=some (some (.builtin "object.__class__")))
   (hn:PySem.W.specialIn K (.builtin "object.__class__") "__get__"=some (some (.builtin "getset_descriptor.__get__"))) (htk:PySem.W.takesIn K (.builtin "object.__class__")=some true)
   (hm:Ll K C (.type "object")=some true):TyOf K H (.ref a) (.ref C)
def Zg9{x:V}{u t:Uf}(I:Inv X pins σ H s)(d:RelV x u)(v:TyOf X.K H x t)(e:Df X.K t c=some b)(h:∀tk,Q (.bool b) {s with toks:=tk}):
  wpAny (model X.prog X.w) A (call (.builtin "isinstance") [u,c]) Q E s:=by
 cases v with
 | non=>cases (show u=Value.none from d);show Ij PySem.W.kitx_none I.kIn Kf e (fun z=>nomatch z) h
 | bl y=>cases (show u=Value.bool y from d);show Ij PySem.W.kitx_bool I.kIn Kf e (fun z=>nomatch z) h
 | int i=>let⟨t,q⟩:=(show ∃t,u=Value.int i t from d);cases q;show Ij PySem.W.kitx_int I.kIn Kf e (fun z=>nomatch z) h
 | str y=>let⟨t,q⟩:=(show ∃t,u=Value.str y t from d);cases q;show Ij PySem.W.kitx_str I.kIn Kf e (fun z=>nomatch z) h
 | flt y=>let⟨t,q⟩:=(show ∃t,u=Value.float y t from d);cases q;show Ij PySem.W.kitx_float I.kIn Kf e (fun z=>nomatch z) h
 | @lst a k f=>
  cases (show u=Value.ref a from d)
  let⟨_,_,n,_,g⟩:=(show Y6 X.prog X.w H s.heap a (.lst k) from I.hok a _ f)
  show Ij PySem.W.kitx_list I.kIn ⟨_,g,rfl⟩ e (fun z=>nomatch z) h
 | @frz a B k f=>
  cases (show u=Value.ref a from d)
  let⟨_,_,_,n,_,g⟩:=(show Y6 X.prog X.w H s.heap a (.frz B (.lst k)) from I.hok a _ f)
  show Ij PySem.W.kitx_list I.kIn ⟨_,g,rfl⟩ e (fun z=>nomatch z) h
 | @tup a k f=>
  cases (show u=Value.ref a from d)
  let⟨_,_,_,p⟩:=(show Y6 X.prog X.w H s.heap a (.tup k) from I.hok a _ f)
  let⟨o,g,l,_⟩:=p
  show Ij PySem.W.kitx_tuple I.kIn ⟨o,g,l⟩ e (fun z=>nomatch z) h
 | @dK a j f=>
  cases (show u=Value.ref a from d)
  let⟨_,_,N,_,p⟩:=(show Y6 X.prog X.w H s.heap a (.dK j) from I.hok a _ f)
  let⟨o,L,M,g,l,_⟩:=p
  show Ij PySem.W.kitx_dict I.kIn ⟨o,g,l.1⟩ e (fun z=>nomatch z) h
 | @dT a j f=>
  cases (show u=Value.ref a from d)
  let⟨_,_,k,_,o,L,M,g,l,_⟩:=(show Y6 X.prog X.w H s.heap a (.dT j) from I.hok a _ f)
  show Ij PySem.W.kitx_dict I.kIn ⟨o,g,l.1⟩ e (fun z=>nomatch z) h
 | @ins a C T S f r G D m F=>
  cases (show u=Value.ref a from d)
  let⟨R,O,_⟩:=Y65 I.hok f
  let⟨P,J,_⟩:=O.look
  show Ij (PySem.W.kitx_own (r.get _) r.hd G D m F) I.kIn J e (fun z=>nomatch z) h
end
structure Room(k:Nat)(A:Around):Prop where
 hd:A.handled=none
 dp:A.depth+3 * k+5<recursionLimit
 un:A.units+16 * k+200<cLine
def Room.mono{j k:Nat}{A:Around}(r:Room k A)(h:j<=k):Room j A:=⟨r.hd,by have:=r.dp;lia,by have:=r.un;lia⟩
def Room.deeper{k:Nat}{A:Around}(r:Room (k+1) A)(env:Env):Room k (A.deeper env):=
 ⟨r.hd,by have:=r.dp;change A.depth+1+3 * k+5<_;lia,by have:=r.un;change A.units+3+16 * k+200<_;lia⟩
def Z17{A:Around}{C:Uh}{us:LW}{a:List (Str×Uf)}:(A.under (.builtin "type.__call__" ⟨.ref C::us,a⟩)).depth=A.depth+1:=by
 first | rfl | simp[Around.under,Code.weight,Code.isCreation,Code.isGuard,Code.isCaller,Code.frames,Code.isFrame,guardIds]
def Z37{A:Around}{C:Uh}{us:LW}{a:List (Str×Uf)}:(A.under (.builtin "type.__call__" ⟨.ref C::us,a⟩)).units=A.units+1:=by
 first | rfl | simp[Around.under,Code.cUnits,Code.frames,Code.isFrame]
def Room.make{k:Nat}{A:Around}(r:Room (k+1) A)(C:Uh)(us:LW)(a:List (Str×Uf)):Room k (A.under (.builtin "type.__call__" ⟨.ref C::us,a⟩)):=
 ⟨r.hd,by have:=r.dp;rw[Z17];lia,by have:=r.un;rw[Z37];lia⟩
def Room.depth{k:Nat}{A:Around}(r:Room k A):A.depth<recursionLimit:=by have:=r.dp;lia
def Room.units{k:Nat}{A:Around}(r:Room k A):A.units+64<cLine:=by have:=r.un;lia
def tNil:TA:=fun _ H Q=>Q [] H
def Yi4(d:TE)(c:TA):TA:=fun a H Q=>d a H fun x f=>c a f fun b e=>Q (x::b) e
section
variable{X:Cx}{e:Expr}{es:List Expr}{te:TE}{t:TA}{pos:Pos}
def Pj:PA X [] tNil:=fun _ _ _ _ H Q I h=>Calls.spliced_nil ⟨[],H,I,.nil,h⟩
def Tv(m:PE X e te)(l:PA X es t)(k:starEach (e::es) X.env=(false,eval e X.env)::starEach es X.env:=by rfl):PA X (e::es) (Yi4 te t):=by
 intro pos a s b H Q I h
 rw[k]
 change wpAny _ _ (spliced ((false,eval e X.env)::backTo pos (starEach es X.env))) _ _ s
 refine Calls.spliced_cons (thn (m a s b H _ I h) fun u d zz29=>?_)
 let⟨x,q,o,g,j⟩:=zz29
 show thn (l pos a d b q _ o j) fun r v zz30=>by let⟨c,p,n,f,i⟩:=zz30;show⟨x::c,p,n,.cons g f,i⟩
def tTup(t:TA):TE:=fun c H Q=>t c H fun a b=>a.length<=sizeLine/\∀p,b p=none->Q (.ref p) (upd b p (.tup a))
def tLst(t:TA):TE:=fun c H Q=>t c H fun a b=>a.length<=sizeLine/\∀p,b p=none->Q (.ref p) (upd b p (.lst a))
def Ya2{x1}(h:PA X es t):PE X (.Tuple es x1 pos) (tTup t):=by
 intro a s g H Q I k
 refine wpAny_Tuple_spliced (thn (h pos a s g H _ I k) fun j c ⟨i,f,d,r,z,q⟩=>⟨by rw[<-r.length];show z,?_⟩)
 have l:f c.heap.objs.size=none:=d.hok.fresh (na _)
 refine⟨.ref c.heap.objs.size,upd f c.heap.objs.size (.tup i),d.laid (t':=c.toks) (fun b u e=>Ah _ e) (na _) ?_,rfl,q _ l⟩
 show⟨z,j,r,⟨_,Dn _ rfl,rfl,_,rfl⟩⟩
def Y76(h:PA X es t):PE X (.List es pos) (tLst t):=by
 intro a s g H Q I k
 refine wpAny_List_spliced (thn (h pos a s g H _ I k) fun j c ⟨i,f,d,r,z,q⟩=>⟨by rw[<-r.length];show z,?_⟩)
 have l:f c.heap.objs.size=none:=d.hok.fresh (na _)
 refine⟨.ref c.heap.objs.size,upd f c.heap.objs.size (.lst i),d.laid (t':=c.toks) (fun b u e=>Ah _ e) (na _) ?_,rfl,q _ l⟩
 show⟨z,j,0,r,Dn _ rfl⟩
end
abbrev Sp:=LV->Hp->VK->XK->Prop
abbrev CXT:=List Env->Hp->Ug->XK->Uf->Ug->Prop
structure Env0(P:Ui)(w:Uj)(K:Ac)(mg:Str->Option Uf)(base:Uk)(A:Around)(outer:List Env)(s:Ug)(H:Hp):Prop where
 frames:A.frames=some outer
 mod:Mod K mg base
 bs:∀b o,base.get? b=some o->s.heap.get? b=some o/\H b=none
 bsz:base.objs.size<=s.heap.objs.size
 funs:s.heap.FunFrames base outer
 frf:∀b∈frs outer,H b=none
 hok:HOk P w H s.heap
 bare:AllBare s.gens
def CE(outer:List Env)(P:Ui)(w:Uj)(H:Hp)(s:Ug)(Q:VK)(u:Uf)(s':Ug):Prop:=
 ∃v a,s'.os=s.os/\AllBare s'.gens/\Un (frs outer) [] H a s.heap s'.heap/\HOk P w a s'.heap/\RelV v u/\Q v a
def CR(CX:CXT)(outer:List Env)(P:Ui)(w:Uj)(H:Hp)(s:Ug)(Q:VK)(E:XK)(r:Result)(s':Ug):Prop:=
 match r with
 | .ok (.ret u)=>CE outer P w H s Q u s'
 | .ok _=>False
 | .error e=>CX outer H s E e s'
structure FnOk(P:Ui)(w:Uj)(K:Ac)(mg:Str->Option Uf)(base:Uk)(CX:CXT)(k:Nat)(f:Uh)(fd:FuncData)(ps:LS)(sp:Sp):Prop where
 len:∀vs H Q E,sp vs H Q E->vs.length=ps.length
 run:∀(A:Around) (outer:List Env) (s:Ug) (H:Hp) (args:Args) (us:LW) (vs:LV) (Q:VK) (E:XK),Room k A->Env0 P w K mg base A outer s H->BindsTo s fd args (ps.zip us)->Vals vs us->sp vs H Q E->
  codeAny (model P w) A (.call (.ref f) args) (CR CX outer P w H s Q E) s
def Env0.make{P:Ui}{w:Uj}{K:Ac}{mg:Str->Option Uf}{base:Uk}{A:Around}{outer:List Env}{s:Ug}{H:Hp}(e:Env0 P w K mg base A outer s H)(C:Uh)(us:LW)(a:List (Str×Uf)):
  Env0 P w K mg base (A.under (.builtin "type.__call__" ⟨.ref C::us,a⟩)) outer s H:=⟨by first | show e.frames | (simpa[Around.under,Code.envs,Code.isFrame,pushEnvs] using e.frames),e.mod,e.bs,e.bsz,e.funs,e.frf,e.hok,e.bare⟩
section
variable{X:Cx}{pins:PLO}{σ:St}{H:Hp}{s s':Ug}
def Inv.env0(I:Inv X pins σ H s):Env0 X.prog X.w X.K X.mg X.base X.A X.stack s H:=
 ⟨I.ok.frames,I.ok.mod,I.bs,ni I.ok.bsz I.sz,I.stack,I.stkFree,I.hok,I.bare⟩
def Inv.after{Q:VK}{u:Uf}(I:Inv X pins σ H s)(h:CE X.stack X.prog X.w H s Q u s'):EP X pins σ Q u s':=by
 let⟨v,k,i,a,f,e,r,q⟩:=h
 let⟨j,g,d,t,c⟩:=s'
 obtain rfl:c=s.os:=i
 show⟨v,k,I.call (h':=j) (g':=g) (d':=d) (t':=t) (ch:=[]) f e a (fun b z=>absurd z (by simp)),r,q⟩
end
def Y99(sp:Sp)(dvs:LV)(E:XK)(t:TA):TE:=fun a H Q=>t a H fun b c=>sp (b++dvs) c Q E
def Y9(K:Ac)(c:FuncData)(ps:LS)(b:LW):Prop:=
 ∀(s:Ug) (a:LW),K.In s.heap->(a++b).length=ps.length->BindsTo s c ⟨a,[]⟩ (ps.zip (a++b))
def Y9.all{K:Ac}{b:FuncData}{ps:LS}(h:∀us:LW,us.length=ps.length->bindArgs b ⟨us,[]⟩=pure (ps.zip us)):Y9 K b ps []:=fun s us _ a=>by
 rw[Hd] at a ⊢
 show .of_eq (h us a)
def Jj(CX:CXT)(X:Cx)(E:XK):Prop:=∀(a:PLO) (c:St) (H:Hp) (s:Ug) (e:Uf) (b:Ug),Inv X a c H s->CX X.stack H s E e b->X.xe e b
section
variable{X:Cx}{CX:CXT}{k:Nat}{f C:Uh}{fd:FuncData}{ps:LS}{sp:Sp}{dvs:LV}{ds:LW}{E:XK}{x m:Str}{p pos apos:Pos}{e o:Expr}{es:List Expr}{ta:TE}{t:TA}
def Zu7{pins:PLO}{b:St}{H:Hp}{s:Ug}{Q:VK}{us:LW}{vs:LV}(F:FnOk X.prog X.w X.K X.mg X.base CX k f fd ps sp)(i:Room k X.A)(n:Y9 X.K fd ps ds)(l:Vals dvs ds)(g:Jj CX X E)
  (I:Inv X pins b H s) (r:Vals vs us) (h:sp (vs++dvs) H Q E):⇑X (call (.ref f) us) (EP X pins b Q) X.xe s:=by
 have c:Vals (vs++dvs) (us++ds):=r.append l
 have j:(us++ds).length=ps.length:=by rw[<-c.length];show F.len _ _ _ _ h
 refine Lc (Kr (F.run X.A X.stack s H ⟨us,[]⟩ (us++ds) (vs++dvs) Q E i I.env0 (n s us I.kIn j) c h) fun r d a=>?_)
 cases r with
 | error e=>show g pins b H s e d I a
 | ok q=>
  cases q with
  | ret u=>show I.after a
  | next=>show Dk a
  | brk=>show Dk a
  | cont=>show Dk a
def Y68(F:FnOk X.prog X.w X.K X.mg X.base CX k f fd ps sp)(j:Room k X.A)(u:Gl X x)(l:X.mg x=↑f)(n:Dv X.K (.ref f)=true)(z:Y9 X.K fd ps ds)(y:Vals dvs ds)(i:Jj CX X E)
  (B:PA X (e::es) t) (c:(x==("__debug__":Str))=false:=by decide) (v:starEach (e::es) X.env=(false,eval e X.env)::starEach es X.env:=by rfl) (b:(backTo pos (starEach es X.env)).any (·.1)=false:=by rfl):
  PE X (.Call (.Name x p) (e::es) [] pos) (Y99 sp dvs E t):=by
 intro a s g H Q I h
 refine Hq (Xp I u l ?_ c)
 refine Mj (h₀:=X.base) I.ok.mod.kin n (thn (B pos a s g H _ I h) fun G J ⟨D,L,d,r,q⟩=>⟨d.kIn,?_⟩) v b
 show Zu7 F j z y i d r q
def Zs5(F:FnOk X.prog X.w X.K X.mg X.base CX k f fd ps sp)(d:Room k X.A)(j:Gl X x)(g:X.mg x=↑f)(i:Dv X.K (.ref f)=true)(n:Y9 X.K fd ps ds)(l:Vals dvs ds)(c:Jj CX X E)
  (a:(x==("__debug__":Str))=false:=by decide):PE X (.Call (.Name x p) [] [] pos) (Y99 sp dvs E tNil):=by
 intro b s q H Q I h
 refine Hq (Xp I j g ?_ a)
 show PySem.W.callWith_K0 I.kIn i (Zu7 (us:=[]) F d n l c I .nil h)
structure Mk(K:Ac)(C f:Uh):Prop where
 makes:PySem.W.makesIn K C=true
 init:Hs K (.ref C) "__init__"=some (↑f)
 fn:PySem.W.isFn K (.ref f)=true
 kp:Dv K (.ref C)=true
end
section
variable{X:Cx}{CX:CXT}{k:Nat}{f C:Uh}{fd:FuncData}{ps ks:LS}{sp:Sp}{E:XK}{x m:Str}{p pos apos kpos:Pos}{e o:Expr}{es:List Expr}{kws:List Keyword}{te ta:TE}{t tk:TA}{nm:Option Str}
structure KBinds(K:Ac)(fd:FuncData)(ps ks:LS)(g:LW->LW->LW)(gV:LV->LV->LV):Prop where
 to:∀(s:Ug) (us ws:LW),K.In s.heap->(g us ws).length=ps.length->BindsTo s fd ⟨us,ks.zip ws⟩ (ps.zip (g us ws))
 rel:∀{vs:LV} {us:LW} {zs:LV} {ws:LW},Vals vs us->Vals zs ws->Vals (gV vs zs) (g us ws)
variable{g:LW->LW->LW}{gV:LV->LV->LV}
end
structure FnScope(N P:LS)(sc:Scope):Prop where
 kind:sc.kind= .function
 co:sc.isCoroutine=false
 gen:sc.isGenerator=false
 nd:N.Nodup
 pre:N.take P.length=P
 par:∀x∈P,sc.names.lookup x=some .local\/sc.names.lookup x=some .cell
 nofree:∀y∈sc.names,y.2≠ .free
def Jb{b:Str->Option NameKind}{x:Str}:∀{a:List (Str×Uf)} {m:Str->Option Uf},(∀v,(x,v)∉a)->bindL b a m x=m x
 | [],_,_=>rfl
 |(n,v)::r,m,h=>by
  unfold bindL
  rw[Jb fun w c=>h w (Aj _ c)]
  split
  .have:x≠n:=by rintro rfl;show h v Db
   simp[this]
  .rfl
def Gz{b:Str->Option NameKind}{x:Str}:∀{a:List (Str×Uf)} {m:Str->Option Uf},(∀v,(x,v)∉a)->bindC b a m x=m x
 | [],_,_=>rfl
 |(n,v)::r,m,h=>by
  unfold bindC
  rw[Gz fun w c=>h w (Aj _ c)]
  split
  .rfl
  .have:x≠n:=by rintro rfl;show h v Db
   simp[this]
def G9{a:Str->Option NameKind}{x:Str}{v:Uf}:∀{P:LS} {vs:LW} {i:Nat} {m:Str->Option Uf},P.Nodup->P[i]?=some x->vs[i]?=some v->a x=some .local->
  bindL a (P.zip vs) m x=some v
 | [],_,_,_,_,h,_,_=>by simp at h
 | _::_,[],_,_,_,_,h,_=>by simp at h
 | p::P,w::vs,0,m,d,c,b,e=>by
  simp at c b;subst c;subst b
  change bindL a ((p,w)::P.zip vs) m p=_
  unfold bindL
  rw[Jb fun v f=>(Hj.mp d).1 (List.of_mem_zip f).1,ng e]
  simp
 | p::P,w::vs,i+1,m,d,c,b,e=>by
  change bindL a ((p,w)::P.zip vs) m x=_
  unfold bindL
  show G9 (i:=i) (Hj.mp d).2 ↥c ↥b e
def F3{a:Str->Option NameKind}{x:Str}{v:Uf}:∀{P:LS} {vs:LW} {i:Nat} {m:Str->Option Uf},P.Nodup->P[i]?=some x->vs[i]?=some v->a x≠some .local->
  bindC a (P.zip vs) m x=some v
 | [],_,_,_,_,h,_,_=>by simp at h
 | _::_,[],_,_,_,_,h,_=>by simp at h
 | p::P,w::vs,0,m,d,c,b,e=>by
  simp at c b;subst c;subst b
  change bindC a ((p,w)::P.zip vs) m p=_
  unfold bindC
  rw[Gz fun v f=>(Hj.mp d).1 (List.of_mem_zip f).1,nc e]
  simp
 | p::P,w::vs,i+1,m,d,c,b,e=>by
  change bindC a ((p,w)::P.zip vs) m x=_
  unfold bindC
  show F3 (i:=i) (Hj.mp d).2 ↥c ↥b e
def start(N:LS)(vs:LV):St:=vs.map some++Hf (N.length - vs.length) none
def cxOf(CX:CXT)(P:Ui)(w:Uj)(K:Ac)(mg:Str->Option Uf)(base:Uk)(N:LS)(qual:Str)(scope:Scope)(f:Uh)(cd:Uf)(A:Around)(outer:List Env)(s:Ug)(H:Hp)(E:XK):Cx where
 prog:=P
 w:=w
 K:=K
 mg:=mg
 base:=base
 A:=A.deeper (envOfC qual scope s.heap.objs.size f cd)
 N:=N
 s₀:=s
 H₀:=H
 env:=envOfC qual scope s.heap.objs.size f cd
 outer:=outer
 stack:=envOfC qual scope s.heap.objs.size f cd::outer
 ex:=[]
 calm:=true
 fn:=fun _=>true
 pn:=[]
 xe:=fun e b=>wpAny (model P w) (A.deeper (envOfC qual scope s.heap.objs.size f cd)) (leaving (envOfC qual scope s.heap.objs.size f cd) e) (fun _ a=>CX outer H s E e a) (fun c a=>CX outer H s E c a) b
def Cu{a:Scope}{n:Nat}{x:Str}(h:a.names.lookup x=some .cell):∃c,(cellsFrom n a.names []).lookup x=some c:=by
 have q:=PySem.W.cellsFrom_some a.names n [] (.inl h)
 show Option.isSome_iff_exists.mp q
def G1{CX:CXT}{P:Ui}{w:Uj}{K:Ac}{mg:Str->Option Uf}{base:Uk}{N ps:LS}{qual:Str}{scope:Scope}{f:Uh}{cd:Uf}{A:Around}{outer:List Env}{s C:Ug}{H:Hp}{E:XK}{us:LW}{vs:LV}
  (S:FnScope N ps scope) (J:A.handled=none) (g:Env0 P w K mg base A outer s H) (O:vs.length=ps.length) (r:Vals vs us)
  (x:InCallC s s.heap.objs.size (bindL (envOfC qual scope s.heap.objs.size f cd).kindOf (ps.zip us) fun _=>none) (cellsFrom (s.heap.objs.size+1) scope.names []) (bindC (envOfC qual scope s.heap.objs.size f cd).kindOf (ps.zip us) fun _=>none) C):
  Inv (cxOf CX P w K mg base N qual scope f cd A outer s H E) [] (start N vs) H C:=by
 have I:ps.length<=N.length:=by have:=congrArg List.length S.pre;rw[Hu] at this;lia
 let⟨B,M,rfl,F⟩:=x.done
 have j:∀b:Uh,b∉(cxOf CX P w K mg base N qual scope f cd A outer s H E).ex:=fun b z=>absurd (show b∈([]:List Uh) from z) (by simp)
 refine⟨⟨g.mod,S.kind,rfl,rfl,na _,fun y z c B d=>?_,fun y l=>?_,fun y c _ h=>?_,fun _=>J,Around.frames_deeper g.frames,.inr ⟨rfl,rfl⟩,fun b z=>absurd z (j b),g.bs,g.bsz,fun b _ _=>j b,fun b z=>absurd z (j b),g.funs,g.frf⟩,
  rfl,g.bare,Un.kept F,⟨_,x.toInCall.ns,fun i y v B d Q=>?_⟩,fun y c h=>⟨_,x.cell y c h⟩,g.hok.fresh (na _),fun y c h=>?_,fun p o=>absurd (show p∈([]:PLO) from o) (by simp),g.hok.kept F,?_⟩
 .exact name_of_addr x.apart (Md B) (Md d)
 .have l:scope.names.lookup y=some .cell\/scope.names.lookup y=some .free:=l
  rcases l with l | l
  .exact Cu l
  .exact absurd rfl (S.nofree _ (Md l))
 .exact ma (x.above y c (Md h))
 .have t:i<vs.length:=by
   unfold start at d
   by_cases t:i<vs.length
   .exact t
   .rw[Di ↥t] at d
    rw[List.getElem?_replicate] at d
    split at d<;>cases d
  have L:vs[i]?=some v:=by
   unfold start at d
   rw[Az ↥t,Aw] at d
   cases e:vs[i]? with
   | none=>rw[e] at d;cases d
   | some a=>rw[e] at d;cases d;rfl
  let⟨u,D,G⟩:=r.get L
  have o:ps[i]?=some y:=by
   rw[<-S.pre,List.getElem?_take_of_lt 'o'];show B
  have m:ps.Nodup:=by rw[<-S.pre];show S.nd.sublist (List.take_sublist _ _)
  refine⟨u,G,?_⟩
  rcases S.par y (As o) with k | k
  .exact .inl ⟨k,G9 m o D k⟩
  .let⟨c,e⟩:=Cu (n:=s.heap.objs.size+1) k
   refine .inr ⟨.inl k,c,e,?_⟩
   have q:=x.cell y c e
   rw[F3 m o D (by change scope.names.lookup y≠_;rw[k];decide)] at q
   show q
 .exact g.hok.fresh (ma (x.above y c (Md h)))
 .unfold start
  change _=N.length
  rw[Ae,Ag,List.length_replicate]
  lia
def Zm7{CX:CXT}{P:Ui}{w:Uj}{K:Ac}{mg:Str->Option Uf}{base:Uk}{k:Nat}{f:Uh}{name qual:Str}{c:Arguments}{body:List Stmt}{scope:Scope}{U T B R a X oc:Uf}{Z od:Option Uh}
  {F:Array (Option Uf)} {N ps:LS} {sp:Sp} (lk:K.lookup f=some ⟨oc,od,.func (Ke name qual c body scope U T B R Z a X),F⟩) (M:Lv K a qual=true) (S:FnScope N ps scope)
  (l:∀vs H Q E,sp vs H Q E->vs.length=ps.length)
  (i:∀(A:Around) (outer:List Env) (s:Ug) (H:Hp) (vs:LV) (Q:VK) (E:XK),Room k (A.deeper (envOfC qual scope s.heap.objs.size f a))->sp vs H Q E->
   ∃t,PSs (cxOf CX P w K mg base N qual scope f a A outer s H E) body t/\t {nx:=fun _ g=>Q .non g,rt:=Q} (start N vs) H):
  FnOk P w K mg base CX (k+1) f (Ke name qual c body scope U T B R Z a X) ps sp:=by
 refine⟨l,fun A outer s H Y us vs Q E L z hb r m=>?_⟩
 have hl:=l _ _ _ _ m
 have KX:K.In s.heap:=z.mod.kin.keeps fun b o e=>(z.bs b o e).1
 have G:s.heap.NoLimit:=z.mod.nolimit.keeps fun b o e=>(z.bs b o e).1
 have h:∀y∈ps.zip us,scope.names.lookup y.1=some .local\/(scope.names.lookup y.1=some .cell/\((cellsFrom (s.heap.objs.size+1) scope.names []).lookup y.1).isSome=true):=fun zy2 hy=>by
  let⟨n,v⟩:=zy2
  rcases S.par n (List.of_mem_zip hy).1 with q | q
  .exact .inl q
  .exact .inr ⟨q,PySem.W.cellsFrom_some _ _ _ (.inl q)⟩
 refine codeAny_call_function L.depth (KX _ _ lk) rfl S.co S.gen rfl (PySem.W.codeRec_of KX M) (hb _ _ _ _ ?_)
 refine wpAny_newFunctionEnv_cells S.kind h fun z0 he O x=>?_
 subst he
 refine⟨G.keeps x.toInCall.keep,codeAny_func ?_⟩
 let⟨t,ht,hq⟩:=i A outer s H vs Q E (L.deeper _) m
 have I:Inv (cxOf CX P w K mg base N qual scope f a A outer s H E) [] (start N vs) H O:=G1 S L.hd z hl r x
 refine Dx (ht [] O (start N vs) H _ I hq) (fun fl C j=>?_) fun e C j=>j
 have p:∀{d:St} {g:Hp} {v:V} {u:Uf},Inv (cxOf CX P w K mg base N qual scope f a A outer s H E) [] d g C->RelV v u->Q v g->CE outer P w H s Q u C:=
  fun{d g v u} J D q=>⟨v,g,J.os,J.bare,J.base,J.hok,D,q⟩
 cases fl with
 | ret u=>
  let⟨v,d,g,J,D,q⟩:=j
  show p J D q
 | next=>
  let⟨d,g,J,q⟩:=j
  show p (v:=V.non) (u:=Value.none) J rfl q
 | brk=>
  let⟨_,_,_,q⟩:=j
  show Dk q
 | cont=>
  let⟨_,_,_,q⟩:=j
  show Dk q
section
variable{X:Cx}{x:Str}{p pos:Pos}{e:Expr}{es:List Expr}{t:TA}{id T:String}{r:LV->Hp->VK->Prop}
def tCB(r:LV->Hp->VK->Prop)(t:TA):TE:=fun a H Q=>t a H fun b c=>r b c Q
def Zp5(u:W2 X (.builtin id) r)(o:Gl X x)(n:X.mg x=none)(l:bootBuiltins x=some (.builtin id))(v:PA X (e::es) t)(m:x≠"__name__":=by decide)(c:(x==("__debug__":Str))=false:=by decide)
  (q:starEach (e::es) X.env=(false,eval e X.env)::starEach es X.env:=by rfl) (b:(backTo pos (starEach es X.env)).any (·.1)=false:=by rfl):PE X (.Call (.Name x p) (e::es) [] pos) (tCB r t):=by
 intro a s d H Q I h
 refine Hq (Of I o n l ?_ m c)
 show PyProof.Rows.callWith_builtin1 (thn (v pos a s d H _ I h) fun g i zz34=>by let⟨f,y,w,j,k⟩:=zz34;show u a i d y f g Q w j k) q b
def Vk(u:W2 X (.type T) r)(o:Gl X x)(n:X.mg x=none)(l:bootBuiltins x=some (.type T))(v:PA X (e::es) t)(m:x≠"__name__":=by decide)(c:(x==("__debug__":Str))=false:=by decide)
  (q:starEach (e::es) X.env=(false,eval e X.env)::starEach es X.env:=by rfl) (b:(backTo pos (starEach es X.env)).any (·.1)=false:=by rfl):PE X (.Call (.Name x p) (e::es) [] pos) (tCB r t):=by
 intro a s d H Q I h
 refine Hq (Of I o n l ?_ m c)
 show PyProof.Rows.callWith_type1 (thn (v pos a s d H _ I h) fun g i zz35=>by let⟨f,y,w,j,k⟩:=zz35;show u a i d y f g Q w j k) q b
end
end L2
namespace HT
open PySem PyProof.Rows
section
open PySem.SeqAt
open PySem.AutoSeq1 (wpAny_loadPart')
open PySem.MeetsSeq PySem.MeetsSeq2 PySem.MeetsSeq3
end
section
variable{prog:Ui}{w:Uj}{A:Around}{E:VSP}{s:Ug}
def Y34{t b:Uh}{vs a:LW}{Q:VSP}(y:IsTup s.heap t vs.toArray)(z:IsTup s.heap b a.toArray)(p:vs≠[])
  (C:a=[]->Q (.ref t) s) (B:a≠[]->Q (.ref s.heap.objs.size) {s with heap:=s.heap.push {cls:= .type "tuple",data:= .seq (vs++a).toArray}})
  (k:vs.length+a.length<=sizeLine):wpAny (model prog w) A (binaryOp .Add (.ref t) (.ref b)) Q E s:=by
 let⟨⟨D,u,v,m⟩,j,r,n,q⟩:=id y
 let⟨⟨x,h,l,d⟩,c,g,o,f⟩:=id z
 simp only at r q g f
 subst r q g f
 have e:vs.toArray++a.toArray=(vs++a).toArray:=by simp
 by_cases i:a=[]
 .exact concat_meets ⟨_,j,rfl⟩ ⟨_,c,rfl⟩ noFill_tuple_add seq_tuple_add PySem.F.slot_tuple_add PySem.F.entry_tuple_add (PySem.F.args_tuple_add_2 _ _)
   (tuple_addW1 t b vs.toArray a.toArray n o u h m d ↥p (by simp[i])) ⟨j,c,C i⟩
 .refine concat_meets ⟨_,j,rfl⟩ ⟨_,c,rfl⟩ noFill_tuple_add seq_tuple_add PySem.F.slot_tuple_add PySem.F.entry_tuple_add (PySem.F.args_tuple_add_2 _ _)
   (tuple_addW2 t b vs.toArray a.toArray n o u h m d ↥p ↥i (by rw[Ak,Ak];show k)) ⟨j,c,?_⟩
  rw[e]
  show B i
def sIx(n d:Nat):Option Int->Nat
 | none=>d
 | some v=>if v<0 then(v+(n:Int)).toNat else min v.toNat n
def Ye2(n d:Nat)(b:d<=n)(o:Option Int):sIx n d o<=n:=by
 cases o with
 | none=>show b
 | some v=>
  show(if v<0 then(v+(n:Int)).toNat else min v.toNat n)<=n
  by_cases a:v<0
  .rw[ng a];lia
  .rw[nc a];show Nat.min_le_right _ _
def Za7(v:Int)(n d:Nat):(if v<0 then max (v+(n:Int)) 0 else min v (n:Int))=((sIx n d (some v):Nat):Int):=by
 show(if v<0 then max (v+(n:Int)) 0 else min v (n:Int))=(((if v<0 then(v+(n:Int)).toNat else min v.toNat n):Nat):Int)
 by_cases a:v<0
 .simp only[if_pos a];lia
 .simp only[if_neg a];lia
def Z13(lo hi:Option Int)(n:Nat):Builtin.Slice.sliceAdjust lo hi 1 (n:Int)=(((sIx n 0 lo:Nat):Int),((sIx n n hi:Nat):Int)):=by
 have h1:¬((1:Int)<0):='o'
 unfold Builtin.Slice.sliceAdjust
 simp only[h1,if_false]
 refine Prod.ext ?_ ?_
 .cases lo with
  | none=>rfl
  | some v=>show Za7 v n 0
 .cases hi with
  | none=>rfl
  | some v=>show Za7 v n n
def Z21(i j:Nat):Lq (i:Int) (j:Int) 1=j - i:=by
 unfold Lq
 have a:(1:Int) >0:='o'
 simp only[a,if_true,Int.ediv_one]
 split<;>lia
def Pm{v:Uf}{o:Option Int}(p:IsPart v o)(h:Q o s):wpAny (model prog w) A (Builtin.Slice.slicePartIndex v) Q E s:=by
 cases p with
 | none=>show slicePart_none h
 | int i t=>show slicePart_int h
def Sr{sl:Uh}{vl vu:Uf}{lo hi:Option Int}{n:Nat}{Q:Int×Int×Nat->Ug->Prop}(hs:s.heap.IsSliceOf sl vl vu .none)(pl:IsPart vl lo)(pu:IsPart vu hi)
  (h:Q (((sIx n 0 lo:Nat):Int),1,sIx n n hi - sIx n 0 lo) s):wpAny (model prog w) A (Builtin.Slice.sliceApplied (.ref sl) (pure (n:Int))) Q E s:=by
 let⟨os,hos,hcs,hds⟩:=id hs
 unfold Builtin.Slice.sliceApplied Builtin.Slice.sliceFields
 refine Ad (Ad (Mz hos hds (x:=vl) rfl (Ad (Mz hos hds (x:=vu) rfl (Ad (Mz hos hds (x:= .none) rfl (Am ?_)))))))
 refine Ad (slicePart_none ?_)
 change wpAny _ _ (if ((1:Int)==0)=true then _ else _) _ _ s
 rw[nc 'd']
 refine Ad (Pm pl (Ad (Pm pu (Ad (Am ?_)))))
 change wpAny _ _ (match Builtin.Slice.sliceAdjust lo hi 1 (n:Int) with | (lo,hi)=>pure (lo,(1:Int),Lq lo hi 1)) _ _ s
 rw[Z13 lo hi n]
 change wpAny _ _ (pure (((sIx n 0 lo:Nat):Int),(1:Int),Lq ((sIx n 0 lo:Nat):Int) ((sIx n n hi:Nat):Int) 1)) _ _ s
 rw[Z21]
 show Am h
def Zq4(xs:Array Uf)(i k:Nat):((Ao k).filterMap fun(m:Nat)=>xs[((i:Int)+(m:Int) * 1).toNat]?).toArray=((xs.toList.drop i).take k).toArray:=by
 have e:(fun(m:Nat)=>xs[((i:Int)+(m:Int) * 1).toNat]?)=fun m=>xs[i+m]?:=by
  funext m
  have:((i:Int)+(m:Int) * 1).toNat=i+m:='o'
  rw[this]
 rw[e]
 have:=pick_run xs i k
 rw[List.filterMap_map] at this
 have a:((fun x=>xs[x]?) ∘ fun x=>i+x)=fun m=>xs[i+m]?:=rfl
 rw[a] at this
 rw[this]
def Tn{t sl:Uh}{items:Array Uf}{vl vu:Uf}{lo hi:Option Int}{Q:VSP}(ht:IsTup s.heap t items)(hs:s.heap.IsSliceOf sl vl vu .none)(pl:IsPart vl lo)(pu:IsPart vu hi)
  (hw:¬(sIx items.size 0 lo=0/\sIx items.size items.size hi=items.size))
  (h:Q (.ref s.heap.objs.size) {s with heap:=s.heap.push {cls:= .type "tuple",data:= .seq ((items.toList.drop (sIx items.size 0 lo)).take (sIx items.size items.size hi - sIx items.size 0 lo)).toArray}})
  (hsz:items.size<=sizeLine):wpAny (model prog w) A (getItem (.ref t) (.ref sl)) Q E s:=by
 have htake:sizeOk (.seq ((items.toList.drop (sIx items.size 0 lo)).take (sIx items.size items.size hi - sIx items.size 0 lo)).toArray):=by
  show((items.toList.drop (sIx items.size 0 lo)).take (sIx items.size items.size hi - sIx items.size 0 lo)).toArray.size<=sizeLine
  rw[Ak,Hu,List.length_drop,Mc]
  lia
 have hj:sIx items.size items.size hi<=items.size:=Ye2 _ _ (na _) hi
 let⟨os,hos,hcs,hds⟩:=id hs
 have hTs:s.TypeIs (.ref sl) "slice":=⟨os,hos,hcs⟩
 unfold getItem
 try with_reducible refine Iv ?_
 first | refine Ad (Am ?_) | skip
 refine Ad (wpAny_sequenceKey ht.typeIs 'd' ?_)
 refine Ad (wpAny_callSpecial?_slot (name:=Str.ofString "__getitem__") ht.typeIs PyProof.Rows.slot_tuple_getitem
  (wpAny_call_entry PyProof.Rows.slot_tuple_getitem ht.typeIs entry_tuple_getitem ?_ (args_tuple_getitem _ _)))
 change wpAny _ _ (Builtin.Tuple.tupleItemsOf (.ref t) >>=_) _ _ s
 refine Ad (tupleItemsOf_ ht ?_)
 refine Ad (wpAny_typeOf hTs ?_)
 rw[ng 'd']
 refine Ad (Sr hs pl pu ?_)
 have hno:¬((((sIx items.size 0 lo:Nat):Int)==0&&(1:Int)==1&&(sIx items.size items.size hi - sIx items.size 0 lo)==items.size)=true):=by
  intro q
  rw[Bz9,Bz9] at q
  have q1:((sIx items.size 0 lo:Nat):Int)=0:=La q.1.1
  have q2:sIx items.size items.size hi - sIx items.size 0 lo=items.size:=La q.2
  show hw ⟨'o','o'⟩
 change wpAny _ _ (if (((sIx items.size 0 lo:Nat):Int)==0&&(1:Int)==1&&(sIx items.size items.size hi - sIx items.size 0 lo)==items.size)=true then _ else _) _ _ s
 rw[nc hno,Zq4]
 first
  | show Ad (m:=Lx _) (Kw (Am ⟨_,rfl,Am h⟩) htake)
  | show Ad (m:=Lx _) (Kw (Ad (Am (Am ⟨_,rfl,Am h⟩))) htake)
  | show Ad (Ad (m:=Lx _) (Kw (Am (Am ⟨_,rfl,Am h⟩)) htake))
  | show Ad (Ad (m:=Lx _) (Kw (Am ⟨_,rfl,Am h⟩) htake))
end
end HT
namespace L2
open PySem PySem.Spec PyProof.Rows
abbrev TO:=St->Hp->(Option Int->Hp->Prop)->Prop
def PO(X:Cx)(e:Option Expr)(t:TO):Prop:=
 ∀(a:PLO) (s:Ug) (b:St) (H:Hp) (Q:Option Int->Hp->Prop),Inv X a b H s->t b H Q->
  ⇑X (evalPart e X.env) (fun u d=>∃o c,Inv X a b c d/\IsPart u o/\Q o c) X.xe s
def Zz0:TO:=fun _ H Q=>Q none H
def Yj9(t:TE):TO:=fun a H Q=>t a H fun x b=>∃i,x= .int i/\Q (some i) b
def Z09:∀{us:LW},Vals (ns.map V.int) us->IntsAre us ns:=by
 induction ns with
 | nil=>intro us r;rw[Dp] at r;cases r;show .nil
 | cons n ns c=>
  intro us r
  rw[Ch] at r
  cases r with
  | cons b a=>
   let⟨t,e⟩:=b
   subst e
   show .cons n t (c a)
section
variable{X:Cx}{e:Expr}{te:TE}{lo hi:Option Expr}{tl th:TO}{pos p2:Pos}
def Zy4:PO X none Zz0:=by
 intro a s b H Q I h
 rw[evalPart_none]
 show Am ⟨none,H,I,.none,h⟩
def Z77(h:PE X e te):PO X (some e) (Yj9 te):=by
 intro a s b H Q I f
 rw[evalPart_some]
 refine thn (h a s b H _ I f) fun u k zz36=>?_
 let⟨x,j,g,c,d⟩:=zz36
 let⟨i,rfl,q⟩:=d
 let⟨t,rfl⟩:=c
 show⟨some i,j,g,.int i t,q⟩
def SlR(X:Cx)(r:V->Option Int->Option Int->Hp->VK->Prop):Prop:=
 ∀(a:PLO) (s:Ug) (b:St) (H:Hp) (x:V) (v d c:Uf) (lo hi:Option Int) (f:Uh) (Q:VK),Inv X a b H s->RelV x v->s.heap.IsSliceOf f d c .none->IsPart d lo->IsPart c hi->r x lo hi H Q->
  ∃T id,typeLookup (.type T) "__getitem__"=pure (some (.builtin id))/\s.TypeIs v T/\⇑X (getItem v (.ref f)) (EP X a b Q) X.xe s
def tSl(r:V->Option Int->Option Int->Hp->VK->Prop)(te:TE)(tl th:TO):TE:=fun a H Q=>te a H fun x d=>tl a d fun l c=>th a c fun u b=>r x l u b Q
def Zn0(C:SlR X r)(F:PE X e te)(D:PO X lo tl)(z:PO X hi th):PE X (.Subscript e (.Slice lo hi none p2) pos) (tSl r te tl th):=by
 intro a s d H Q I h
 refine Subscript_ (thn (F a s d H _ I h) fun v k zz37=>?_)
 let⟨x,O,M,m,p⟩:=zz37
 refine wpAny_Slice (thn (D a k d O _ M p) fun g j ⟨l,N,L,y,o⟩=>thn (z a j d N _ L o) fun f c zz39=>?_)
 let⟨u,i,K,t,n⟩:=zz39
 rw[evalPart_none]
 refine Am ?_
 have J:Inv X a d i {c with heap:=c.heap.push {cls:= .type "slice",data:= .fields #[g,f,.none]}}:=K.kept (t':=c.toks) fun b P q=>Ah _ q
 let⟨T,id,G,B,E⟩:=C a {c with heap:=c.heap.push {cls:= .type "slice",data:= .fields #[g,f,.none]}} d i x v g f l u c.heap.objs.size Q J m (Heap.IsSliceOf.new ..) y t n
 change ⇑X (subscriptTail e (.Slice lo hi none p2) v (.ref c.heap.objs.size)) (EP X a d Q) X.xe {c with heap:=c.heap.push {cls:= .type "slice",data:= .fields #[g,f,.none]}}
 show tail_any (ops:=[.ref c.heap.objs.size,v]) B G E (by with_unfolding_all rfl)
def cutV(xs:LV)(lo hi:Option Int):LV:=(xs.drop (HT.sIx xs.length 0 lo)).take (HT.sIx xs.length xs.length hi - HT.sIx xs.length 0 lo)
def Q3(xs:LV)(lo hi:Option Int):(cutV xs lo hi).length<=xs.length:=by
 unfold cutV
 rw[Hu,List.length_drop]
 lia
def rSlT(K:Ac):V->Option Int->Option Int->Hp->VK->Prop:=fun x lo hi H Q=>∃a b,x= .ref a/\SqT K H a b/\
 ¬(HT.sIx b.length 0 lo=0/\HT.sIx b.length b.length hi=b.length)/\∀p,H p=none->Q (.ref p) (upd H p (.tup (cutV b lo hi)))
def Ye7:SlR X (rSlT X.K):=by
 intro g s u H x v y w lo hi z Q I k t m l h
 let⟨a,d,rfl,n,p,q⟩:=h
 cases k
 let⟨f,r,j,i⟩:=I.tuple n
 have c:f.toArray.size=d.length:=by rw[Ak];show r.length.symm
 refine⟨"tuple",_,PyProof.Rows.slot_tuple_getitem.lookup,j.typeIs,?_⟩
 refine HT.Tn j t m l (by rw[c];show p) ?_ (by rw[c];show i)
 rw[c]
 refine⟨.ref s.heap.objs.size,_,I.laid (t':=s.toks) (o:= .tup (cutV d lo hi)) (fun b A q=>Ah _ q) (na _) ?_,rfl,q _ (I.hok.fresh (na _))⟩
 show⟨ni (Q3 d lo hi) i,_,(r.drop (HT.sIx d.length 0 lo)).take (HT.sIx d.length d.length hi - HT.sIx d.length 0 lo),IsTup.new _ _⟩
def Yk3(K:Ac):R2:=fun x y H Q=>∃a b d c,x= .ref a/\y= .ref b/\SqT K H a d/\SqT K H b c/\d≠[]/\d.length+c.length<=sizeLine/\
 (c=[]->Q (.ref a) H)/\(c≠[]->∀p,H p=none->Q (.ref p) (upd H p (.tup (d++c))))
def Vals.nil_iff{xs:LV}(r:Vals xs us):us=[]↔xs=[]:=by
 cases r with
 | nil=>simp
 | cons _ _=>simp
def Zz9:OpR X (binaryOp .Add) (Yk3 X.K):=by
 intro f s D H x y v u Q I m l h
 let⟨a,b,k,j,rfl,rfl,C,B,A,i,p,n⟩:=h
 cases m
 cases l
 let⟨t,d,r,_⟩:=I.tuple C
 let⟨g,c,p2,_⟩:=I.tuple B
 refine HT.Y34 r p2 (fun z=>A (d.nil_iff.mp z)) (fun z=>⟨.ref a,H,I,rfl,p (c.nil_iff.mp z)⟩) (fun z=>?_) (by rw[<-d.length,<-c.length];show i)
 refine⟨.ref s.heap.objs.size,_,I.laid (t':=s.toks) (o:= .tup (k++j)) (fun b E q=>Ah _ q) (na _) ?_,rfl,n (fun w=>z (c.nil_iff.mpr w)) _ (I.hok.fresh (na _))⟩
 show⟨by rw[Ae];show i,_,d.append c,IsTup.new _ _⟩
end
def ixN(n:Nat)(i:Int):Option Nat:=if 0<=i then(if i<n then some i.toNat else none) else if -(n:Int)<=i then some (i+n).toNat else none
def atI{a:Type}(xs:List a)(i:Int):Option a:=(ixN xs.length i).bind fun j=>xs[j]?
def Zb3{n:Nat}{i:Int}(h:ixN n i=some j):seqIndex? i n=some j/\j<n/\ -(n:Int)<=i/\i<n:=by
 unfold ixN at h
 by_cases b:0<=i
 .rw[ng b] at h
  by_cases a:i<n
  .rw[ng a] at h
   have e:i.toNat=j:=Hb h
   show⟨by rw[seqIndex_of b a,e],'o','o',a⟩
  .rw[nc a] at h;cases h
 .rw[nc b] at h
  by_cases a:-(n:Int)<=i
  .rw[ng a] at h
   have e:(i+n).toNat=j:=Hb h
   show⟨by rw[seqIndex_neg 'o' a,e],'o',a,'o'⟩
  .rw[nc a] at h;cases h
def Fw{a:Type}{xs:List a}{i:Int}{v:a}(h:atI xs i=some v):∃j,seqIndex? i xs.length=some j/\xs[j]?=some v/\j<xs.length/\ -(xs.length:Int)<=i/\i<xs.length:=by
 unfold atI at h
 cases e:ixN xs.length i with
 | none=>rw[e] at h;cases h
 | some j=>
  rw[e] at h
  let⟨f,d,c,b⟩:=Zb3 e
  show⟨j,f,h,d,c,b⟩
def J3{a:Type}{xs:List a}{j:Nat}{v:a}(h:xs[j]?=some v):atI xs (j:Int)=some v:=by
 have b:j<xs.length:=(Ab.mp h).1
 have e:ixN xs.length (j:Int)=some j:=by
  unfold ixN
  rw[ng 'o',ng 'o'];simp
 unfold atI;rw[e];show h
def J9{a:Type}(xs:List a)(v:a):atI (xs++[v]) (-1)=some v:=by
 have b:(xs++[v]).length=xs.length+1:=by simp
 have e:ixN (xs++[v]).length (-1)=some xs.length:=by
  unfold ixN
  rw[b,nc 'd',ng 'o']
  congr 1
  lia
 unfold atI
 rw[e]
 show(xs++[v])[xs.length]?=some v
 simp
def Za1(b:Expr):Prop:=∀o i,subscripted b false o i=operate [o,i] (getItem o i)
def IxR(X:Cx)(r:R2):Prop:=
 ∀(c a:Expr) (b:PLO) (s:Ug) (d:St) (H:Hp) (x y:V) (v u:Uf) (Q:VK),Inv X b d H s->RelV x v->RelV y u->r x y H Q->
  subscripted a false v u=operate [v,u] (getItem v u)->⇑X (subscriptTail c a v u) (EP X b d Q) X.xe s
def MtR(X:Cx)(id:String)(r:V->LV->Hp->VK->Prop):Prop:=
 ∀(a:PLO) (s:Ug) (b:St) (H:Hp) (x:V) (c:LV) (v:Uf) (d:LW) (Q:VK),Inv X a b H s->RelV x v->Vals c d->r x c H Q->
  ⇑X (call (.builtin id) (v::d)) (EP X a b Q) X.xe s
section
variable{X:Cx}{a b:Expr}{ta tb:TE}{pos:Pos}
def Yl0(j:IxR X r)(l:PE X a ta)(k:PE X b tb)(i:Za1 b):PE X (.Subscript a b pos) (tOp r ta tb):=by
 intro c s d H Q I h
 show Subscript_ (binT l k I h fun v u e x y n m g f q=>j a b c e d n x y v u Q m g f q (i _ _))
def rIxL(K:Ac):R2:=fun x y H Q=>∃p c i v,x= .ref p/\y= .int i/\SqL K H p c/\atI c i=some v/\Q v H
def rIxT(K:Ac):R2:=fun x y H Q=>∃p c i v,x= .ref p/\y= .int i/\SqT K H p c/\atI c i=some v/\Q v H
def rIxS:R2:=fun x y H Q=>∃z i c,x= .str z/\y= .int i/\z.length<=sizeLine/\atI z.cps.toList i=some c/\Q (.str ⟨#[c]⟩) H
def Y24:IxR X (rIxL X.K):=by
 intro f g c s o H x y v u Q I F E h A
 let⟨p,P,i,z,rfl,rfl,G,L,q⟩:=h
 cases F
 let⟨t,rfl⟩:=E
 let⟨m,r,l,R⟩:=I.list G
 let⟨j,e,O,T,N,M⟩:=Fw L
 let⟨w,C,k⟩:=r.get O
 have J:=r.length
 have S:=Vr
 have d:EP X c o Q w s:=⟨z,H,I,k,q⟩
 by_cases B:0<=i
 .have n:i.toNat=j:=by
   rw[seqIndex_of B M] at e
   show Hb e
  show item_listR l.isList B 'o' (by rw[n];simpa using C) d A
 .have n:(i+(m.toArray.size:Int)).toNat=j:=by
   rw[seqIndex_neg 'o' N] at e
   rw[Ak,<-J]
   show Hb e
  show subscriptTail_builtinR (x:=w) l.isList.typeIs slot_list_getitem.lookup
   (wpAny_getItem_list_neg (Q:=fun r D=>r=w/\EP X c o Q r D) l.isList 'o' (by rw[Ak]<;>lia) 'o' (by rw[n];simpa using C) ⟨rfl,d⟩) A
def Zs7:IxR X (rIxT X.K):=by
 intro d e c s k H x y v u Q I o n h B
 let⟨p,L,i,z,rfl,rfl,C,E,q⟩:=h
 cases o
 let⟨t,rfl⟩:=n
 let⟨A,r,l,M⟩:=I.tuple C
 let⟨j,G,F,R,P,O⟩:=Fw E
 let⟨w,J,f⟩:=r.get F
 have D:=r.length
 have N:=Vr
 have g:EP X c k Q w s:=⟨z,H,I,f,q⟩
 show subscriptTail_builtinR (x:=w) l.typeIs slot_tuple_getitem.lookup
  (getItem_tuple (j:=j) (Q:=fun r m=>r=w/\EP X c k Q r m) l 'o' 'o' (by rw[Ak,<-D];show G) ↥J ⟨rfl,g⟩) B
def Yf7:IxR X rIxS:=by
 intro d e f s C H x y v u Q I l k h m
 let⟨z,i,c,rfl,rfl,E,o,q⟩:=h
 let⟨t,rfl⟩:=l
 let⟨D,rfl⟩:=k
 let⟨j,g,w,G,r,p⟩:=Fw o
 have n:z.cps.toList.length=z.length:=by simp[Str.length]
 rw[n] at g r p
 have F:=Vr
 show tail_any (typeIs_str s z t) slot_str_getitem.lookup (getItem_str (c:=c) (by
  have B:decide (i< -(2 ^ 63:Int))=false:=mh 'o'
  have A:decide (i >= 2 ^ 63)=false:=mh 'o'
  rw[B,A,Bool.or_false]) (by rw[g];simpa using w) ⟨.str ⟨#[c]⟩,H,I.tok _,⟨_,rfl⟩,q⟩) m
def Bx(its:LW)(n j:Nat)(u:Uf):Lr (·.setIfInBounds j u) {cls:= .type "list",data:= .seq its.toArray n}={cls:= .type "list",data:= .seq (its.set j u).toArray n}:=by
 simp[Lr]
def Inv.lst{pins:PLO}{c:St}{H:Hp}{s:Ug}{p:Uh}{xs:LV}(I:Inv X pins c H s)(h:H p=some (.lst xs)):
  ∃(its:LW) (n:Nat),Vals xs its/\s.heap.get? p=some {cls:= .type "list",data:= .seq its.toArray n}/\xs.length<=sizeLine:=by
 let⟨z,its,n,r,e⟩:=I.hok p _ h
 show⟨its,n,r,e,z⟩
def Inv.lstUpd{pins:PLO}{c:St}{H:Hp}{s:Ug}{p:Uh}{xs ys:LV}{its its':LW}{n n':Nat}{f:Obj->Obj}(I:Inv X pins c H s)(h:H p=some (.lst xs))
  (i:s.heap.get? p=some {cls:= .type "list",data:= .seq its.toArray n}) (d:f {cls:= .type "list",data:= .seq its.toArray n}={cls:= .type "list",data:= .seq its'.toArray n'}) (r:Vals ys its') (g:ys.length<=sizeLine) (t:Nat):
  Inv X pins c (upd H p (.lst ys)) {s with heap:=s.heap.update p f,toks:=t}:=by
 have e:(s.heap.update p f).get? p=some {cls:= .type "list",data:= .seq its'.toArray n'}:=by
  rw[Kd f i (by rw[d]<;>rfl),d]
 refine I.write (x:=p) (e:=p) (by rw[h];trivial) (.inl rfl) (fun b u j q=>(Hn _ _ (Ia j)).trans q) ⟨_,e⟩ ?_
 show⟨g,its',n',r,e⟩
def Y85:V->V->V->Hp->(Hp->Prop)->Prop:=fun o i v H Q=>∃p c k j,o= .ref p/\i= .int k/\H p=some (.lst c)/\ixN c.length k=some j/\Q (upd H p (.lst (c.set j v)))
def Zn7:PSet X Y85:=by
 intro c s A H o i v J K u Q I D E C h
 let⟨p,B,k,j,rfl,rfl,m,G,q⟩:=h
 cases D
 let⟨t,rfl⟩:=E
 let⟨d,n,r,f,F⟩:=I.lst m
 let⟨e,M,x,w⟩:=Zb3 G
 have g:=r.length
 have L:=Vr
 have z:Inv X c A (upd H p (.lst (B.set j v))) {s with heap:=s.heap.update p (Lr (·.setIfInBounds j u))}:=
  I.lstUpd m f (Bx d n j u) (r.set C j) (by rw[List.length_set];show F) s.toks
 by_cases y:0<=k
 .have l:k.toNat=j:=by
   rw[seqIndex_of y w] at e
   show Hb e
  show PySem.W.ki_setAt f y 'o' (by rw[Ak,<-g];show w) (by rw[l];show⟨_,z,q⟩)
 .have l:(k+(d.toArray.size:Int)).toNat=j:=by
   rw[seqIndex_neg 'o' x] at e
   rw[Ak,<-g]
   show Hb e
  show PySem.W.ki_setBack f 'o' (by rw[Ak,<-g];show x) 'o' (by rw[l];show⟨_,z,q⟩)
def Jr(lo hi:Option Int)(n:Nat):(sliceBounds lo hi none n).1=((HT.sIx n 0 lo:Nat):Int)/\(sliceBounds lo hi none n).2.1=((HT.sIx n n hi:Nat):Int)/\(sliceBounds lo hi none n).2.2=1:=by
 refine⟨?_,?_,rfl⟩
 .cases lo with
  | none=>simp[sliceBounds,HT.sIx]
  | some i=>
   simp only[sliceBounds,HT.sIx,Option.getD_none,show(1:Int) >0 by decide,if_true]
   by_cases h:i<0
   .simp only[h,if_true]<;>lia
   .simp only[h,if_false]<;>lia
 .cases hi with
  | none=>simp[sliceBounds,HT.sIx]
  | some i=>
   simp only[sliceBounds,HT.sIx,Option.getD_none,show(1:Int) >0 by decide,if_true]
   by_cases h:i<0
   .simp only[h,if_true]<;>lia
   .simp only[h,if_false]<;>lia
def Ng(its:LW)(lo hi:Option Int):slicePick its.toArray lo hi none=((its.drop (HT.sIx its.length 0 lo)).take (HT.sIx its.length its.length hi - HT.sIx its.length 0 lo)).toArray:=by
 let⟨e,d,c⟩:=Jr lo hi its.toArray.size
 unfold slicePick
 rw[e,d,c]
 simp only[sliceRange_one,pick_run,Ak]<;>rfl
def rSlL(K:Ac):V->Option Int->Option Int->Hp->VK->Prop:=fun x d e H Q=>∃a c,x= .ref a/\SqL K H a c/\∀p,H p=none->Q (.ref p) (upd H p (.lst (cutV c d e)))
def Y47:SlR X (rSlL X.K):=by
 intro g s u H x v y w e f z Q I j t l k h
 let⟨a,c,rfl,p,q⟩:=h
 cases j
 let⟨m,r,i,n⟩:=I.list p
 have d:=r.length
 refine⟨"list",_,slot_list_getitem.lookup,i.isList.typeIs,?_⟩
 refine wpAny_getItem_list_slice i.isList t l k .none (by simp) ?_ (by rw[Ak]<;>lia)
 rw[Ng,<-d]
 refine⟨.ref s.heap.objs.size,_,I.laid (t':=s.toks) (o:= .lst (cutV c e f)) (fun b A q=>Ah _ q) (na _) ?_,rfl,q _ (I.hok.fresh (na _))⟩
 show⟨ni (Q3 c e f) n,_,0,(r.drop (HT.sIx c.length 0 e)).take (HT.sIx c.length c.length f - HT.sIx c.length 0 e),Dn _ rfl⟩
def Yv:V->Bool
 | .non=>true
 | .bl _=>true
 | .int _=>true
 | .str _=>true
 | _=>false
def eqV:V->V->Bool
 | .non,.non=>true
 | .bl a,.bl b=>a==b
 | .bl a,.int b=>(if a then 1 else 0)==b
 | .int a,.bl b=>a==(if b then 1 else 0)
 | .int a,.int b=>a==b
 | .str a,.str b=>a==b
 | _,_=>false
def Cw{y x:V}{u v:Uf}(e:RelV y u)(c:RelV x v)(g:Yv y=true)(f:Yv x=true):Hh A s u v (eqV y x):=by
 cases y with
 | non=>
  cases e
  cases x with
  | non=>cases c;show Hh.same _
  | bl b=>cases c;show Hh.none_bool b
  | int b=>let⟨t,rfl⟩:=c;show Hh.none_int b t
  | str b=>let⟨t,rfl⟩:=c;show Hh.none_str b t
  | _=>show absurd (show false=true from f) Bf9
 | bl a=>
  cases e
  cases x with
  | non=>cases c;show Hh.bool_none a
  | bl b=>cases c;show Hh.bool_bool a b
  | int b=>let⟨t,rfl⟩:=c;show Hh.bool_int a b t
  | str b=>let⟨t,rfl⟩:=c;show Hh.bool_str a b t
  | _=>show absurd (show false=true from f) Bf9
 | int a=>
  let⟨d,rfl⟩:=e
  cases x with
  | non=>cases c;show Hh.int_none a d
  | bl b=>cases c;show Hh.int_bool a d b
  | int b=>let⟨t,rfl⟩:=c;show Hh.int_int a d b t
  | str b=>let⟨t,rfl⟩:=c;show Hh.int_str a d b t
  | _=>show absurd (show false=true from f) Bf9
 | str a=>
  let⟨d,rfl⟩:=e
  cases x with
  | non=>cases c;show Hh.str_none a d
  | bl b=>cases c;show Hh.str_bool a d b
  | int b=>let⟨t,rfl⟩:=c;show Hh.str_int a d b t
  | str b=>let⟨t,rfl⟩:=c;show Hh.str_str a d b t
  | _=>show absurd (show false=true from f) Bf9
 | _=>show absurd (show false=true from g) Bf9
def eqU(x:V)(u:Uf):Bool:=match u with
 | .none=>eqV .non x
 | .bool b=>eqV (.bl b) x
 | .int i _=>eqV (.int i) x
 | .str z _=>eqV (.str z) x
 | _=>false
def Zh5{x y:V}(r:RelV y u)(f:Yv y=true):eqU x u=eqV y x:=by
 cases y with
 | non=>cases r;rfl
 | bl b=>cases r;rfl
 | int i=>let⟨t,rfl⟩:=r;rfl
 | str z=>let⟨t,rfl⟩:=r;rfl
 | _=>show absurd (show false=true from f) Bf9
def Nw{x:V}:∀{xs:LV} {us:LW},Vals xs us->xs.all Yv=true->us.any (eqU x)=xs.any fun y=>eqV y x:=by
 intro xs us h
 induction h with
 | nil=>intro _;rfl
 | cons r t ih=>
  intro f
  rw[Iw,Bz9] at f
  rw[Ks,Ks,Zh5 r f.1,ih f.2]
def Vf{x:V}{v:Uf}(d:RelV x v)(e:Yv x=true):∀{xs:LV} {us:LW},Vals xs us->xs.all Yv=true->∀u∈us,Hh A s u v (eqU x u):=by
 intro xs us h
 induction h with
 | nil=>intro _ u c;cases c
 | cons r t ih=>
  intro f g c
  rw[Iw,Bz9] at f
  rcases Aq.mp c with rfl | c
  .rw[Zh5 r f.1];show Cw r d f.1 e
  .exact ih f.2 g c
def inV(x:V)(xs:LV):Bool:=xs.any fun y=>eqV y x
def rIn(K:Ac)(d:Bool):R2:=fun x y H Q=>∃p c,y= .ref p/\(SqL K H p c\/SqT K H p c)/\Yv x=true/\c.all Yv=true/\Q (.bl (if d then !inV x c else inV x c)) H
def Z71:OpR X (compareOp .In) (rIn X.K false):=by
 intro j s n H x y v u Q I i l h
 let⟨p,o,rfl,d,k,e,q⟩:=h
 cases l
 rcases d with d | d
 .let⟨c,r,f,m⟩:=I.list d
  refine SeqAt.in_listAt (eqU x) f.isList (fun w g=>Vf i k r e w ↥g) ⟨.bl _,H,I,rfl,?_⟩
  rw[show c.toArray.any (eqU x)=c.any (eqU x) by simp,Nw r e]
  show q
 .let⟨c,r,f,m⟩:=I.tuple d
  refine SeqAt.in_tupleAt (eqU x) f (fun w g=>Vf i k r e w ↥g) ⟨.bl _,H,I,rfl,?_⟩
  rw[show c.toArray.any (eqU x)=c.any (eqU x) by simp,Nw r e]
  show q
def G7:OpR X (compareOp .NotIn) (rIn X.K true):=by
 intro j s n H x y v u Q I i l h
 let⟨p,o,rfl,d,k,e,q⟩:=h
 cases l
 rcases d with d | d
 .let⟨c,r,f,m⟩:=I.list d
  refine SeqAt.notIn_listAt (eqU x) f.isList (fun w g=>Vf i k r e w ↥g) ⟨.bl _,H,I,rfl,?_⟩
  rw[show c.toArray.any (eqU x)=c.any (eqU x) by simp,Nw r e]
  show q
 .let⟨c,r,f,m⟩:=I.tuple d
  refine SeqAt.notIn_tupleAt (eqU x) f (fun w g=>Vf i k r e w ↥g) ⟨.bl _,H,I,rfl,?_⟩
  rw[show c.toArray.any (eqU x)=c.any (eqU x) by simp,Nw r e]
  show q
def Sm:W2 X (.builtin "len") (fun xs H Q=>∃p ys,xs=[.ref p]/\(SqL X.K H p ys\/SqT X.K H p ys)/\Q (.int ys.length) H):=by
 intro i s l H xs m Q I r h
 let⟨p,ys,rfl,d,q⟩:=h
 let⟨u,rfl,j⟩:=Vs r
 cases j
 have n:=Vr
 rcases d with d | d
 .let⟨g,e,f,k⟩:=I.list d
  have c:=e.length
  show Calls.call_len_list f.isList (by simp only[Ak]<;>lia) ⟨.int ys.length,H,I.tok _,⟨s.toks+1,by rw[Ak,c]⟩,q⟩
 .let⟨g,e,f,k⟩:=I.tuple d
  have c:=e.length
  show len_tuple f (by simp only[Ak]<;>lia) ⟨.int ys.length,H,I.tok _,⟨s.toks+1,by rw[Ak,c]⟩,q⟩
def Gy:W2 X (.builtin "len") (fun xs H Q=>∃z,xs=[.str z]/\z.length<=sizeLine/\Q (.int z.length) H):=by
 intro c s d H xs e Q I r h
 let⟨z,rfl,f,q⟩:=h
 let⟨u,rfl,t,rfl⟩:=Vs r
 have g:=Vr
 show len_str 'o' ⟨.int z.length,H,I.tok _,⟨_,rfl⟩,q⟩
def G3:W2 X (.type "list") (fun xs H Q=>∃p ys,xs=[.ref p]/\(SqL X.K H p ys\/SqT X.K H p ys)/\∀l,H l=none->Q (.ref l) (upd H l (.lst ys))):=by
 intro i s C H xs E Q I r h
 let⟨p,ys,rfl,m,q⟩:=h
 let⟨u,rfl,D⟩:=Vs r
 cases D
 have v:∀(c:LW),Vals ys c->ys.length<=sizeLine->∀(d:Uk) (g:Nat),(∀b B,s.heap.get? b=some B->d.get? b=some B)->
   d.get? s.heap.objs.size=some {cls:= .type "list",dict:=none,data:= .seq c.toArray g,slots:=#[]}->EP X i C Q (.ref s.heap.objs.size) {s with heap:=d}:=fun c f k d g j e=>
  ⟨.ref s.heap.objs.size,_,I.laid (t':=s.toks) j (na _) (show Y6 X.prog X.w _ d _ (.lst ys) from⟨k,c,g,f,e⟩),rfl,q _ (I.hok.fresh (na _))⟩
 rcases m with m | m
 .let⟨c,f,x,k⟩:=I.list m
  have t:=f.length
  let⟨o,y,A,n,z⟩:=x.isList
  show call_list_seq p (.inl rfl) y A z (fun d g j e=>v c f k d g j e) (by simp only[Ak]<;>lia)
 .let⟨c,f,x,k⟩:=I.tuple m
  have t:=f.length
  let⟨o,y,A,n,z⟩:=x
  show call_list_seq p (.inr rfl) y A z (fun d g j e=>v c f k d g j e) (by simp only[Ak]<;>lia)
def V9:W2 X (.type "tuple") (fun xs H Q=>∃p ys,xs=[.ref p]/\((SqL X.K H p ys/\∀l,H l=none->Q (.ref l) (upd H l (.tup ys)))\/(SqT X.K H p ys/\Q (.ref p) H))):=by
 intro c s k H xs z Q I r h
 let⟨p,ys,rfl,h⟩:=h
 let⟨u,rfl,v⟩:=Vs r
 cases v
 rcases h with⟨j,q⟩ | ⟨j,q⟩
 .let⟨d,g,i,m⟩:=I.list j
  have n:=g.length
  refine call_tuple_list i.isList (fun f x=>?_) (by simp only[Ak]<;>lia)
  have t:Inv X c k H {s with heap:=f}:=I.kept (t':=s.toks) x
  have y:Inv X c k (upd H f.objs.size (.tup ys)) {s with heap:=f.push {cls:= .type "tuple",data:= .seq d.toArray}}:=
   t.laid (t':=s.toks) (fun b o e=>Ah _ e) (na _) (show Y6 X.prog X.w _ _ _ (.tup ys) from⟨m,d,g,IsTup.new _ _⟩)
  show⟨.ref f.objs.size,_,y,rfl,q _ (t.hok.fresh (na _))⟩
 .let⟨d,g,i,m⟩:=I.tuple j
  show call_tuple_same i ⟨.ref p,H,I,rfl,q⟩
def tyV(K:Ac)(T:String)(x:V)(H:Hp):Prop:=match x with
 | .str _=>T="str"
 | .int _=>T="int"
 | .ref p=>(T="list"/\∃d,SqL K H p d)\/(T="tuple"/\∃o,K.lookup p=some o/\o.cls= .type "tuple"/\o.dict=none)\/
   (T="dict"/\((∃c,H p=some (.dK c))\/∃c,H p=some (.dT c)))\/(T="set"/\∃S n,H p=some (.set S n))
 | _=>False
def Zv6{H:Hp}{T:String}{x:V}{v:Uf}(I:Inv X pins q H s)(r:RelV x v)(g:tyV X.K T x H):
  s.TypeIs v T/\∀a,v= .ref a->∃m,s.heap.get? a=some m/\m.dict=none:=by
 cases x with
 | str z=>
  let⟨t,rfl⟩:=r
  cases (show T="str" from g)
  show⟨typeIs_str s z t,fun _ e=>nomatch e⟩
 | int i=>
  let⟨t,rfl⟩:=r
  cases (show T="int" from g)
  show⟨typeIs_int s i t,fun _ e=>nomatch e⟩
 | ref p=>
  cases r
  rcases g with⟨rfl,A,w⟩ | ⟨rfl,o,d,y,j⟩ | ⟨rfl,d⟩ | ⟨rfl,S,n,d⟩
  .let⟨u,_,l,_⟩:=I.list w
   refine⟨l.isList.typeIs,fun a e=>?_⟩
   cases e
   let⟨o,n,e,c,j,_⟩:=l
   show⟨o,e,j⟩
  .refine⟨⟨o,I.kIn p o d,y⟩,fun a e=>?_⟩
   cases e
   show⟨o,I.kIn _ o d,j⟩
  .have z:∃o,s.heap.get? p=some o/\o.ExactDict:=by
    rcases d with⟨h,d⟩ | ⟨h,d⟩
    .let⟨_,_,_,_,o,_,_,e,f,_⟩:=I.hok p _ d
     show⟨o,e,f⟩
    .let⟨_,_,_,_,o,_,_,e,f,_⟩:=I.hok p _ d
     show⟨o,e,f⟩
   let⟨o,e,f⟩:=z
   refine⟨⟨o,e,f.1⟩,fun a k=>?_⟩
   cases k
   show⟨o,e,f.2.1⟩
  .let⟨o,_,_,_,e,f,_⟩:=I.hok p _ d
   refine⟨⟨o,e,f.1⟩,fun a k=>?_⟩
   cases k
   show⟨o,e,f.2.1⟩
 | _=>show Dk g
def tBM0(K:Ac)(T:String)(r:V->LV->Hp->VK->Prop)(e:TE):TE:=fun d H Q=>e d H fun x c=>tyV K T x c/\r x [] c Q
def tBM(K:Ac)(T:String)(r:V->LV->Hp->VK->Prop)(f:TE)(t:TA):TE:=fun c H Q=>f c H fun x d=>tyV K T x d/\t c d fun e g=>r x e g Q
variable{o e:Expr}{es:List Expr}{to:TE}{t:TA}{name:Str}{apos cpos:Pos}{T id:String}{r:V->LV->Hp->VK->Prop}
def Yd0(q:PlainAttrs T)(g:Slot T name id)(i:typeOf (.builtin id)=pure (.type "method_descriptor"))(w:MtR X id r)(u:PE X o to)
  (f:attributeBase o name X.env (eval o X.env)=eval o X.env:=by rfl) (d:(apos.endLine==cpos.line)=true:=by rfl):PE X (.Call (.Attribute o name apos) [] [] cpos) (tBM0 X.K T r to):=by
 intro c s j H Q I h
 refine wpAny_Call_method0_late f d (thn (u c s j H _ I h) fun v n zz40=>?_)
 let⟨x,A,l,k,m,p⟩:=zz40
 let⟨z,y⟩:=Zv6 l k m
 show⟨T,id,q,g,i,z,y,Calls.callWith_builtin rfl (PySem.evalArgs_none (w c n j A x [] v [] Q l k .nil p))⟩
def Yh8(E:PlainAttrs T)(i:Slot T name id)(l:typeOf (.builtin id)=pure (.type "method_descriptor"))(J:MtR X id r)(G:PE X o to)(L:PA X (e::es) t)
  (g:attributeBase o name X.env (eval o X.env)=eval o X.env:=by rfl)
  (j:((backTo cpos (starEach (e::es) X.env)).all (fun x=> !x.1)&&(backToKw cpos (keywordEach [] X.env)).all (fun x=>x.1.isSome)
   &&decide ((e::es).length+([]:List Keyword).length+(if ([]:List Keyword).isEmpty then 0 else 1)<30))=true:=by rfl)
  (f:(apos.endLine==cpos.line)=true:=by rfl) (F:starEach (e::es) X.env=(false,eval e X.env)::starEach es X.env:=by rfl) (d:(backTo cpos (starEach es X.env)).any (·.1)=false:=by rfl):
  PE X (.Call (.Attribute o name apos) (e::es) [] cpos) (tBM X.K T r to t):=by
 intro c s k H Q I h
 refine wpAny_Call_method_late g j f rfl (thn (G c s k H _ I h) fun v A zz41=>?_)
 let⟨x,R,q,n,y,D⟩:=zz41
 let⟨N,M⟩:=Zv6 q n y
 refine⟨T,id,E,i,l,N,M,?_⟩
 have p:=L cpos c A k R _ q D
 rw[F] at p ⊢
 refine Calls.callWith_builtin (by show(false || (backTo cpos (starEach es X.env)).any (·.1))=false;rw[d]<;>rfl) (Calls.evalArgs_plain ?_)
 show thn p fun w z zz42=>by let⟨u,P,O,B,C⟩:=zz42;show J c z k P x u v w Q O n B C
end
def MtM(X:Cx)(id:String)(r:V->LV->Hp->VK->Prop):Prop:=
 ∀(a:PLO) (s:Ug) (b:St) (H:Hp) (x:V) (c:LV) (v:Uf) (d:LW) (Q:VK),Inv X a b H s->RelV x v->Vals c d->r x c H Q->
  ⇑X (call (.builtin id) (v::d)) (EP X a b Q) X.xe s
def Vals.one:∀{x:V} {us:LW},Vals [x] us->∃u,us=[u]/\RelV x u:=by
 intro x us h
 cases h with
 | cons r t=>cases t;show⟨_,rfl,r⟩
def Vals.zero:∀{us:LW},Vals [] us->us=[]
 | _,.nil=>rfl
def Vals.dropLast{xs:LV}(h:Vals xs us):Vals xs.dropLast us.dropLast:=by
 induction h with
 | nil=>show .nil
 | cons r t a=>
  cases t with
  | nil=>show .nil
  | cons q b=>show .cons r a
def Vals.reverse{xs:LV}(h:Vals xs us):Vals xs.reverse us.reverse:=by
 induction h with
 | nil=>show .nil
 | cons r t a=>rw[List.reverse_cons,List.reverse_cons];show Vals.append a (.cons r .nil)
def Vals.rep{xs:LV}(h:Vals xs us):∀k:Nat,Vals (Hf k xs).flatten (Hf k us).flatten
 | 0=> .nil
 | k+1=>by
  rw[Km,Km,Lp,Lp]
  show Vals.append h (Vals.rep h k)
def Z24{c:Type}(l:List c):l.eraseIdx (l.length - 1)=l.dropLast:=by
 induction l with
 | nil=>rfl
 | cons a r d=>
  cases r with
  | nil=>rfl
  | cons b r=>
   have e:(a::b::r).length - 1=((b::r).length - 1)+1:=by
    have g:(a::b::r).length=r.length+2:=rfl
    have f:(b::r).length=r.length+1:=rfl
    lia
   rw[e,List.eraseIdx_cons_succ,d]
   all_goals rfl
def Jf(its:LW):∀(k:Nat) (a:LW),
  List.foldl (fun c b=>c++b) a.toArray (Hf k its.toArray)=(a++(Hf k its).flatten).toArray
 | 0,a=>by simp
 | k+1,a=>by
  have e:a.toArray++its.toArray=(a++its).toArray:=by simp
  have d:(a++its)++(Hf k its).flatten=a++(Hf (k+1) its).flatten:=by
   rw[Km,Lp,Ar]
  rw[<-d,<-Jf its k (a++its),<-e,Km,Li]
section
variable{X:Cx}{pins:PLO}{σ:St}{H:Hp}{s:Ug}{l b:Uh}{xs ys zs:LV}
def Inv.lset{its its':LW}{n:Nat}{f:Array Uf->Array Uf}{t':Nat}(I:Inv X pins σ H s)(i:H l=some (.lst xs))
  (e:s.heap.get? l=some {cls:= .type "list",data:= .seq its.toArray n}) (g:f its.toArray=its'.toArray) (c:Vals ys its') (a:ys.length<=sizeLine):
  Inv X pins σ (upd H l (.lst ys)) {s with heap:=s.heap.update l (Lr f),toks:=t'}:=by
 have q:=PySem.IsL.update e f
 rw[g] at q
 refine I.write (x:=l) (e:=l) (by rw[i];show trivial) (.inl rfl) (fun j u h d=>(Hn s.heap (Lr f) (Ia h)).trans d) ⟨_,q⟩ ?_
 show⟨a,its',_,c,q⟩
def Inv.lnew(I:Inv X pins σ H s)(a:Vals ys its)(hz:ys.length<=sizeLine):
  Inv X pins σ (upd H s.heap.objs.size (.lst ys)) {s with heap:=s.heap.push {cls:= .type "list",data:= .seq its.toArray},toks:=t'}:=
 I.laid (fun _ _ q=>Ah _ q) (na _) ⟨hz,its,0,a,Dn _ rfl⟩
def Inv.fresh(I:Inv X pins σ H s):H s.heap.objs.size=none:=I.hok.fresh (na _)
def Inv.lstM(I:Inv X pins σ H s)(a:H l=some (.lst xs)):xs.length<=sizeLine/\∃(its:LW) (n:Nat),Vals xs its/\xs.length=its.length/\s.heap.get? l=some {cls:= .type "list",data:= .seq its.toArray n}:=by
 let⟨z,its,n,r,e⟩:=I.hok l _ a
 show⟨z,its,n,r,r.length,e⟩
def Em{n:Nat}(h:n<=sizeLine):Ly n=false:=by
 unfold Ly
 show mh 'o'
end
section
variable{X:Cx}
def Zy3:V->LV->Hp->VK->Prop:=fun x b H Q=>∃l a y,x= .ref l/\b=[y]/\H l=some (.lst a)/\a.length<sizeLine/\Q .non (upd H l (.lst (a++[y])))
def Q8:MtM X "list.append" Zy3:=by
 intro b s i H x k v m Q I d f h
 let⟨l,j,y,rfl,rfl,c,o,q⟩:=h
 cases d
 let⟨u,rfl,g⟩:=f.one
 let⟨z,a,n,r,p,e⟩:=I.lstM c
 refine Mr F.slot_list_append ⟨_,e,rfl⟩ F.entry_list_append (F.args_list_append_2 _ _) (PySem.list_append l a.toArray n u (by rw[Ak];lia)) ⟨e,?_⟩
 refine⟨.non,_,I.lset (its':=a++[u]) c e (by simp) (r.append (.cons g .nil)) ?_,rfl,q⟩
 rw[Ae,Ay]
 lia
def Y13:V->LV->Hp->VK->Prop:=fun x d H Q=>∃l b c a,x= .ref l/\d=[.ref b]/\H l=some (.lst c)/\H b=some (.lst a)/\c.length+a.length<=sizeLine/\Q .non (upd H l (.lst (c++a)))
def Zg3:MtM X "list.extend" Y13:=by
 intro g s A H x E v G Q I j k h
 let⟨l,b,D,B,rfl,rfl,i,w,J,q⟩:=h
 cases j
 let⟨u,rfl,m⟩:=k.one
 cases m
 let⟨z,c,n,r,K,e⟩:=I.lstM i
 let⟨C,a,p,o,t,y⟩:=I.lstM w
 have f:c.toArray.size+a.toArray.size<=sizeLine:=by rw[Ak,Ak];lia
 have d:¬(!c.toArray.isEmpty&&Ly (c.toArray.size+a.toArray.size))=true:=by
  rw[Em f,Bool.and_false]
  show Bf9
 refine Mr F.slot_list_extend ⟨_,e,rfl⟩ F.entry_list_extend (F.args_list_extend_2 _ _)
  (AutoSeq1.list_extend_list_list_0 l c.toArray n b a.toArray p d (by rw[Ak];lia) 'o') ⟨e,y,?_⟩
 refine⟨.non,_,I.lset (its':=c++a) i e (by simp) (r.append o) ?_,rfl,q⟩
 rw[Ae]
 lia
def rPop:V->LV->Hp->VK->Prop:=fun x b H Q=>∃l a y,x= .ref l/\b=[]/\H l=some (.lst a)/\a[a.length - 1]?=some y/\Q y (upd H l (.lst a.dropLast))
def Yd2:MtM X "list.pop" rPop:=by
 intro d s p H x w v A Q I g i h
 let⟨l,t,y,rfl,rfl,f,k,q⟩:=h
 cases g
 have c:=i.zero
 subst c
 let⟨z,a,n,r,o,e⟩:=I.lstM f
 let⟨u,m,j⟩:=r.get k
 have b:a.toArray[a.toArray.size - 1]?=some u:=by
  change a.toArray[a.length - 1]?=some u
  rw[<-Array.getElem?_toList,<-o]
  show m
 refine Mr F.slot_list_pop ⟨_,e,rfl⟩ F.entry_list_pop (F.args_list_pop_1 _) (MeetsSeq.list_pop_last l a.toArray n u b (by rw[Ak];lia)) ⟨e,?_⟩
 refine⟨y,_,I.lset (its':=a.dropLast) f e ?_ r.dropLast ?_,j,q⟩
 .change a.toArray.eraseIdxIfInBounds (a.toArray.size - 1)=a.dropLast.toArray
  rw[Ak,List.eraseIdxIfInBounds_toArray,Z24]
 .rw[List.length_dropLast]
  lia
def Zo3:V->LV->Hp->VK->Prop:=fun x b H Q=>∃l a,x= .ref l/\b=[]/\H l=some (.lst a)/\Q .non (upd H l (.lst a.reverse))
def Z12:MtM X "list.reverse" Zo3:=by
 intro c s i H x k v m Q I f g h
 let⟨l,j,rfl,rfl,d,q⟩:=h
 cases f
 have b:=g.zero
 subst b
 let⟨z,a,n,r,o,e⟩:=I.lstM d
 refine Mr F.slot_list_reverse ⟨_,e,rfl⟩ F.entry_list_reverse (F.args_list_reverse_1 _) (AutoSeq1.list_reverse_list_0 l a.toArray n (by rw[Ak];lia)) ⟨e,?_⟩
 refine⟨.non,_,I.lset (its':=a.reverse) d e (by simp) r.reverse ?_,rfl,q⟩
 rw[Ht]
 lia
def rCat:R2:=fun x y H Q=>∃l b c a,x= .ref l/\y= .ref b/\H l=some (.lst c)/\H b=some (.lst a)/\c.length+a.length<=sizeLine/\∀p,H p=none->Q (.ref p) (upd H p (.lst (c++a)))
def Yg7:OpR X (binaryOp .Add) rCat:=by
 intro d s t H x y v u Q I g f h
 let⟨l,b,B,w,rfl,rfl,k,m,D,q⟩:=h
 cases g
 cases f
 let⟨z,c,n,r,E,e⟩:=I.lstM k
 let⟨A,a,C,i,j,p⟩:=I.lstM m
 refine PySem.P.add_list e p ?_ (by rw[Ak,Ak];lia)
 have o:c.toArray++a.toArray=(c++a).toArray:=by simp
 rw[o]
 show⟨.ref _,_,I.lnew (t':=s.toks) (r.append i) (by rw[Ae];lia),rfl,q _ I.fresh⟩
def rRep:R2:=fun x y H Q=>∃l k a,x= .ref l/\y= .int k/\H l=some (.lst a)/\ -(2 ^ 63)<=k/\k<2 ^ 63/\a.length * k.toNat<=sizeLine/\
 ∀p,H p=none->Q (.ref p) (upd H p (.lst (Hf k.toNat a).flatten))
def Y22{a:Type}(xs:List a)(k:Nat):(Hf k xs).flatten.length=k * xs.length:=by
 induction k with
 | zero=>simp
 | succ k b=>rw[Km,Lp,Ae,b,Nat.succ_mul,Nat.add_comm]
def Yd7:OpR X (binaryOp .Mult) rRep:=by
 intro pins s σ H x y v u Q I rx ry h
 let⟨l,k,xs,rfl,rfl,hH,h1,h2,hz,q⟩:=h
 cases rx
 let⟨t,rfl⟩:=ry
 let⟨z,its,n,r,hl,e⟩:=I.lstM hH
 have hlen:its.toArray.size * k.toNat<=sizeLine:=by rw[Ak,<-hl];show hz
 have hcap:¬its.toArray.size * k.toNat >(2 ^ 63 - 1) / 8:=by
  have:(sizeLine:Nat)<=(2 ^ 63 - 1) / 8:='d'
  lia
 have hfit:¬(!Builtin.List.listFitsIndex k)=true:=by
  rw[fitsIndex_both h1 h2]
  show Bf9
 have hlong:¬Ly (its.toArray.size * k.toNat)=true:=by
  rw[Em hlen]
  show Bf9
 have hnew:List.foldl (fun x1 x2=>x1++x2) #[] (Hf (if its.toArray.isEmpty=true then 0 else k.toNat) its.toArray)=(Hf k.toNat its).flatten.toArray:=by
  have f0:∀m:Nat,List.foldl (fun x1 x2=>x1++x2) #[] (Hf m its.toArray)=(Hf m its).flatten.toArray:=fun m=>by
   have:=Jf its m []
   rw[Lj] at this
   show this
  rw[f0]
  cases its with
  | nil=>simp
  | cons a r'=>rw[nc (by simp)]
 refine wpAny_binaryOp_repeat_ref (T:="list") (U:="int") 'd' ⟨_,e,rfl⟩ (fun s'=>typeIs_int s' k t) noFill_list_mul F.fills_int_mul F.slot_int_rmul repeat_list F.slot_int_index.lookup
  (Mr F.slot_int_rmul (typeIs_int s k t) F.entry_int_rmul (F.args_int_rmul_2 _ _) (int___rmul___int_list k t l its.toArray n)
   ⟨e,rfl,⟨_,e,rfl⟩,Mr F.slot_list_mul ⟨_,e,rfl⟩ F.entry_list_mul (F.args_list_mul_2 _ _) (AutoListH.list___mul___list_int_3 l its.toArray n k t hfit hcap hlong) ⟨e,?_⟩⟩)
 rw[hnew]
 show⟨.ref _,_,I.lnew (t':=s.toks) (r.rep k.toNat) (by rw[Y22,Nat.mul_comm];show hz),rfl,q _ I.fresh⟩
end
section
variable{κ:Type}[DecidableEq κ]
def valV(kvs:List (κ×V))(k:κ):Option V:=(kvs.find? fun a=>decide (a.1=k)).map (·.2)
def putK(kvs:List (κ×V))(k:κ)(v:V):List (κ×V):=
 if (kvs.any fun a=>decide (a.1=k))=true then kvs.map (fun a=>if a.1=k then(a.1,v) else a) else kvs++[(k,v)]
def N0{p:κ×V}{k:κ}(e:p.1=k):valV (p::r) k=some p.2:=by simp[valV,Ie,e]
def Nk{p:κ×V}{k:κ}(e:¬p.1=k):valV (p::r) k=valV r k:=by simp[valV,Ie,e]
def Eg(k:κ):∀kvs:List (κ×V),(kvs.any fun a=>decide (a.1=k))=(valV kvs k).isSome
 | []=>rfl
 | p::r=>by
  rw[Ks]
  by_cases e:p.1=k
  .simp only[N0 e,decide_eq_true e,Bool.true_or,Option.isSome_some]
  .rw[Nk e,mh e,Bool.false_or];show Eg k r
def Xr(kvs:List (κ×V))(k:κ)(v:V):(putK kvs k v).length<=kvs.length+1:=by
 unfold putK
 split
 .rw[Ag];lia
 .rw[Ae,Ex,Ik];lia
def RelO.isSome_eq{o:Option V}(r:RelO o u):o.isSome=u.isSome:=by
 cases o with
 | none=>cases u with
  | none=>rfl
  | some _=>show(show False from r).elim
 | some _=>cases u with
  | none=>show(show False from r).elim
  | some _=>rfl
def RelO.getD{o:Option V}{d:V}(r:RelO o u)(a:RelV d d'):RelV (o.getD d) (u.getD d'):=by
 cases o with
 | none=>cases u with
  | none=>show a
  | some _=>show(show False from r).elim
 | some _=>cases u with
  | none=>show(show False from r).elim
  | some _=>show r
def KV.val(r:KV kvs vs)(k:κ):RelO (valV kvs k) (valueAt vs k):=by
 unfold KV at r
 induction r with
 | nil=>show Kf
 | @cons p q i a h t f=>
  let⟨d,g⟩:=h
  by_cases e:p.1=k
  .have c:q.1=k:=d.symm.trans e
   have b:valueAt (q::a) k=some q.2:=by simp[valueAt,Ie,c]
   rw[N0 e,b];show g
  .have c:¬q.1=k:=fun z=>e (d.trans z)
   have b:valueAt (q::a) k=valueAt a k:=by simp[valueAt,Ie,c]
   rw[Nk e,b];show f
def KV.any(r:KV kvs vs)(k:κ):(kvs.any fun a=>decide (a.1=k))=vs.any fun a=>decide (a.1=k):=by
 unfold KV at r
 induction r with
 | nil=>rfl
 | cons h t b=>rw[Ks,Ks,b,h.1]
def KV.repl(r:KV kvs vs)(k:κ){y:V}(c:RelV y u):
  KV (kvs.map fun a=>if a.1=k then(a.1,y) else a) (vs.map fun a=>if a.1=k then(a.1,u) else a):=by
 unfold KV at r ⊢
 induction r with
 | nil=>show .nil
 | @cons p q i g h t d=>
  rw[Ch,Ch]
  refine .cons ?_ d
  let⟨b,f⟩:=h
  by_cases e:p.1=k
  .rw[ng e,ng (b.symm.trans e)];show⟨b,c⟩
  .rw[nc e,nc (fun z=>e (b.trans z))];show⟨b,f⟩
def KV.put(r:KV kvs vs)(k:κ){y:V}(a:RelV y u):KV (putK kvs k y) (stored vs k u):=by
 unfold putK stored
 rw[r.any k]
 by_cases e:(vs.any fun b=>decide (b.1=k))=true
 .rw[ng e,ng e];show r.repl k a
 .rw[nc e,nc e];show Paired.snoc r ⟨rfl,a⟩
def KV.length(r:KV kvs vs):kvs.length=vs.length:=Paired.length r
end
def Gm{w:Uj}{k:Key}(r:RelV (kV k) u):(Zi P w).is k u=true:=by
 cases k with
 | inl i=>let⟨t,e⟩:=(show ∃t,u=Value.int i t from r);subst e;show Fl P w i t
 | inr x=>let⟨t,e⟩:=(show ∃t,u=Value.str x t from r);subst e;show Fp P w x t
def Jg{w:Uj}:∀{ks:List Key} {us:LW},Vals (ks.map kV) us->ItemsAre (Zi P w) ks us
 | [],_,r=>by rw[Dp] at r;cases r;show .nil
 | k::ks,_,r=>by
  rw[Ch] at r
  cases r with
  | cons h t=>show .cons (Gm h) (Jg t)
abbrev KT(H:Hp):List (List Key×V)->List (List Key×Uh×Uf)->Prop:=Paired fun p q=>p.1=q.1/\H q.2.1=some (.tup (p.1.map kV))/\RelV p.2 q.2.2
def KT.val{H:Hp}{xs:List (List Key×Uh×Uf)}(r:KT H kvs xs)(k:List Key):RelO (valV kvs k) ((atKey xs k).map (·.2)):=by
 induction r with
 | nil=>show Kf
 | @cons p q i a h t f=>
  let⟨d,_,g⟩:=h
  by_cases e:p.1=k
  .have c:q.1=k:=d.symm.trans e
   have b:atKey (q::a) k=some q.2:=by simp[atKey,Ie,c]
   rw[N0 e,b];show g
  .have c:¬q.1=k:=fun z=>e (d.trans z)
   have b:atKey (q::a) k=atKey a k:=by simp[atKey,Ie,c]
   rw[Nk e,b];show f
def KT.repl{H:Hp}{xs:List (List Key×Uh×Uf)}(r:KT H kvs xs)(k:List Key){y:V}(d:RelV y u):
  KT H (kvs.map fun b=>if b.1=k then(b.1,y) else b) (xs.map (putAt k u)):=by
 induction r with
 | nil=>show .nil
 | @cons p q j i h t f=>
  rw[Ch,Ch]
  refine .cons ?_ f
  let⟨a,c,g⟩:=h
  unfold putAt
  by_cases e:p.1=k
  .rw[ng e,ng (a.symm.trans e)];show⟨a,c,d⟩
  .rw[nc e,nc (fun z=>e (a.trans z))];show⟨a,c,g⟩
def KT.put{H:Hp}{xs:List (List Key×Uh×Uf)}(r:KT H kvs xs)(k:List Key){b:Uh}{y:V}(d:H b=some (.tup (k.map kV)))(a:RelV y u):
  KT H (putK kvs k y) (storedH xs k b u):=by
 have e:(kvs.any fun c=>decide (c.1=k))=(atKey xs k).isSome:=by
  rw[Eg,(r.val k).isSome_eq,Option.isSome_map]
 unfold putK storedH
 rw[e]
 by_cases q:(atKey xs k).isSome=true
 .rw[ng q,ng q];show r.repl k a
 .rw[nc q,nc q];show Paired.snoc r ⟨rfl,d,a⟩
def KT.keeps{H H':Hp}{xs:List (List Key×Uh×Uf)}(r:KT H kvs xs)(a:∀b ys,H b=some (.tup ys)->H' b=some (.tup ys)):KT H' kvs xs:=
 Paired.mapP r fun _ _ z=>⟨z.1,a _ _ z.2.1,z.2.2⟩
section
variable{P:Ui}{w:Uj}{H:Hp}{h:Uk}{a:Uh}
def Y83(b:HOk P w H h)(e:Rd H a u):Y6 P w H h a u:=e.ok b
def Ge(b:HOk P w H h)(e:Rd H a (.dK kvs)):kvs.length<=sizeLine/\(a==sysModules)=false/\∃vs,KV kvs vs/\h.DictOf (Zi P w) a vs:=
 show Y6 P w H h a (.dK kvs) from Y83 b e
def Gs(b:HOk P w H h)(e:H a=some (.dK kvs)):kvs.length<=sizeLine/\(a==sysModules)=false/\∃vs,KV kvs vs/\h.DictOf (Zi P w) a vs:=Ge b (.inl e)
def Pp(c:HOk P w H h)(e:H a=some (.tup (ks.map kV))):(tupleKind (Zi P w)).is h ks a:=by
 let⟨_,b,r,o,g,f,n,d⟩:=(show Y6 P w H h a (.tup (ks.map kV)) from c a _ e)
 show⟨o,b.toArray,n,g,f,d,by simpa using Jg r⟩
def Bo(d:HOk P w H h)(e:Rd H a (.dT kvs)):kvs.length<=sizeLine/\(a==sysModules)=false/\
  ∃xs,KT H kvs xs/\h.DictOfH (tupleKind (Zi P w)) a xs:=by
 let⟨z,y,xs,r,o,u,v,s,n,k,j,i⟩:=(show Y6 P w H h a (.dT kvs) from Y83 d e)
 refine⟨z,y,xs,r,o,u,v,s,n,k,j,fun x b=>?_,i⟩
 have c:∀{l:List (List Key×V)} {m:List (List Key×Uh×Uf)},KT H l m->∀x∈m,(tupleKind (Zi P w)).is h x.1 x.2.1:=by
  intro l m q
  induction q with
  | nil=>intro x b;show nomatch b
  | @cons p q B A f t g=>
   intro x b
   rcases Aq.mp b with e | b
   .subst e
    show Pp d (by rw[<-f.1];show f.2.1)
   .exact g x b
 show c r x b
def Yl1(b:HOk P w H h)(e:H a=some (.dT kvs)):kvs.length<=sizeLine/\(a==sysModules)=false/\
  ∃xs,KT H kvs xs/\h.DictOfH (tupleKind (Zi P w)) a xs:=Bo b (.inl e)
end
def DGet(H:Hp)(a:Uh)(y:V)(r:Option V):Prop:=
 (∃c k,Rd H a (.dK c)/\y=kV k/\r=valV c k)\/∃c k b,Rd H a (.dT c)/\y= .ref b/\H b=some (.tup (k.map kV))/\r=valV c k
def DPut(H:Hp)(a:Uh)(y v:V)(H':Hp):Prop:=
 (∃c k,H a=some (.dK c)/\y=kV k/\c.length<sizeLine/\H'=upd H a (.dK (putK c k v)))\/
 ∃c k b,H a=some (.dT c)/\y= .ref b/\H b=some (.tup (k.map kV))/\c.length<sizeLine/\H'=upd H a (.dT (putK c k v))
def DGet.k{H:Hp}{a:Uh}{k:Key}(e:H a=some (.dK kvs)):DGet H a (kV k) (valV kvs k):= .inl ⟨kvs,k,.inl e,rfl,rfl⟩
def DPut.k{H:Hp}{a:Uh}{k:Key}{v:V}(e:H a=some (.dK kvs))(b:kvs.length<sizeLine):DPut H a (kV k) v (upd H a (.dK (putK kvs k v))):= .inl ⟨kvs,k,e,rfl,b,rfl⟩
section
variable{X:Cx}{pins:PLO}{σ:St}{H:Hp}{s:Ug}{a:Uh}{y v:V}{u r:Uf}{o:Option V}{A:Around}{E:VSP}
def Inv.big(I:Inv X pins σ H s):sysModules<s.heap.objs.size:=by
 have h:mainGlobals<s.heap.objs.size:=(I.mod.glob.keeps I.bk).lt
 show Nat.lt_trans 'd' h
def Zd7(C:A.units+1<cLine)(I:Inv X pins σ H s)(g:DGet H a y (some v))(t:RelV y u)(h:∀f s',Inv X pins σ H s'->RelV v f->Q f s'):
  wpAny (model X.prog X.w) A (getItem (.ref a) u) Q E s:=by
 rcases g with⟨i,k,e,n,l⟩ | ⟨i,k,b,e,n,G,l⟩
 .subst n
  let⟨z,F,B,d,q⟩:=Ge I.hok e
  let⟨f,j,c⟩:=RelO.some_of (v:=v) (o:=valueAt B k) (by rw[l];show d.val k)
  show wpAny_getItem_of (Gm t) q.mapOf j (h f _ (I.tok _) c)
 .subst n
  cases (show u=Value.ref b from t)
  let⟨z,F,x,d,q⟩:=Bo I.hok e
  let⟨f,j,c⟩:=RelO.some_of (v:=v) (o:=(atKey x k).map (·.2)) (by rw[l];show d.val k)
  let⟨p,D,m⟩:=Ho.mp j
  refine wpAny_getItem_heap (Ml C) (Pp I.hok G) q D ?_
  rw[m]
  show h f _ (I.tok _) c
def d_in(n:A.units+1<cLine)(I:Inv X pins σ H s)(g:DGet H a y o)(m:RelV y u)(h:∀s',Inv X pins σ H s'->Q (.bool o.isSome) s'):
  wpAny (model X.prog X.w) A (compareOp .In u (.ref a)) Q E s:=by
 rcases g with⟨d,k,e,i,l⟩ | ⟨d,k,b,e,i,p,l⟩
 .subst i
  let⟨z,f,x,c,j⟩:=Ge I.hok e
  refine wpAny_in_of (Gm m) f j.mapOf ?_
  rw[<-(c.val k).isSome_eq,<-l]
  show h _ (I.tok _)
 .subst i
  cases (show u=Value.ref b from m)
  let⟨z,f,t,c,j⟩:=Bo I.hok e
  refine wpAny_in_heap (Ml n) (Pp I.hok p) f j ?_
  have q:=(c.val k).isSome_eq
  rw[Option.isSome_map] at q
  rw[<-q,<-l]
  show h _ (I.tok _)
def Y59(n:A.units+1<cLine)(I:Inv X pins σ H s)(g:DGet H a y o)(m:RelV y u)(h:∀s',Inv X pins σ H s'->Q (.bool (!o.isSome)) s'):
  wpAny (model X.prog X.w) A (compareOp .NotIn u (.ref a)) Q E s:=by
 rcases g with⟨d,k,e,i,l⟩ | ⟨d,k,b,e,i,p,l⟩
 .subst i
  let⟨z,f,x,c,j⟩:=Ge I.hok e
  refine wpAny_notIn_of (Gm m) f j.mapOf ?_
  rw[<-(c.val k).isSome_eq,<-l]
  show h _ (I.tok _)
 .subst i
  cases (show u=Value.ref b from m)
  let⟨z,f,t,c,j⟩:=Bo I.hok e
  refine wpAny_notIn_heap (Ml n) (Pp I.hok p) f j ?_
  have q:=(c.val k).isSome_eq
  rw[Option.isSome_map] at q
  rw[<-q,<-l]
  show h _ (I.tok _)
def Nm{c:HO}(I:Inv X pins σ H s)(f:Mut (H a))(g:Ku a s.heap h')(h:∃q,h'.get? a=some q)(d:Y6 X.prog X.w (upd H a c) h' a c):
  Inv X pins σ (upd H a c) {s with heap:=h',toks:=t'}:=
 I.write (x:=a) (e:=a) f (.inl rfl) (fun b q i z=>(g.2 b i).trans z) h d
def Jk{w:Uj}(z:kvs.length<=sizeLine)(c:(a==sysModules)=false)(b:KV kvs vs)(d:h'.DictOf (Zi P w) a vs):
  Y6 P w H' h' a (.dK kvs):=⟨z,c,vs,b,d⟩
def Z81(N:A.units+1<cLine)(I:Inv X pins σ H s)(g:DPut H a y v H')(D:RelV y u)(F:RelV v r)(h:∀s',Inv X pins σ H' s'->Q () s'):
  wpAny (model X.prog X.w) A (setItem (.ref a) u r) Q E s:=by
 rcases g with⟨f,k,e,x,l,B⟩ | ⟨f,k,b,e,x,K,l,B⟩
 .subst x B
  let⟨z,t,M,d,C⟩:=Gs I.hok e
  have m:M.length<=sizeLine:=by rw[<-d.length];show z
  have p:(putK f k v).length<=sizeLine:=by have:=Xr f k v;lia
  refine wpAny_setItem_pairs (hsz:=m) (Gm D) C fun G i n=>h _ ?_
  have O:∃q,G.get? a=some q:=by let⟨q,_,_,j,_⟩:=i;show⟨q,j⟩
  show Nm I (by rw[e];show Kf) n O (Jk p t (d.put k F) i)
 .subst x B
  cases (show u=Value.ref b from D)
  let⟨z,t,L,d,C⟩:=Yl1 I.hok e
  have m:L.length<=sizeLine:=by rw[<-Paired.length d];show z
  have p:(putK f k v).length<=sizeLine:=by have:=Xr f k v;lia
  refine wpAny_setItem_heap (hsz:=m) (Ml N) (Pp I.hok K) C fun G i n=>h _ ?_
  let⟨q,U,V,j,T,S,R,_,P⟩:=i
  refine Nm I (by rw[e];show Kf) n ⟨q,j⟩ ⟨p,t,_,(d.put k K F).keeps fun c W J=>?_,q,U,V,j,T,S,R,P⟩
  rw[Z7 (Yk9 J e (fun z=>nomatch z))]
  show J
end
section
variable{X:Cx}{pins:PLO}{σ:St}{H:Hp}{s:Ug}{a:Uh}{kvs:List (Key×V)}{k:Key}{u:Uf}{A:Around}{E:VSP}
def Yi7(I:Inv X pins σ H s)(e:Rd H a (.dK kvs))(h:∀t s',Inv X pins σ H s'->Q (.int kvs.length t) s'):wpAny (model X.prog X.w) A (call (.builtin "len") [.ref a]) Q E s:=by
 let⟨z,c,f,b,d⟩:=Ge I.hok e
 refine call_len_dict c d (by rw[<-b.length];rw[Mo] at z;lia) ?_
 rw[<-b.length]
 show h _ _ (I.tok _)
end
def Ea{H:Hp}{a:Uh}{y:V}{o:Option V}(I:Inv X pins f H s)(g:DGet H a y o):s.TypeIs (.ref a) "dict":=by
 rcases g with⟨c,k,e,_,_⟩ | ⟨c,k,b,e,_,_,_⟩
 .let⟨_,_,i,_,d⟩:=Ge I.hok e
  show d.typeIs
 .let⟨_,_,h,_,d⟩:=Bo I.hok e
  show d.typeIs
def B3{w:Uj}{H:Hp}(h:Uk)(a:sysModules<h.objs.size):Y6 P w H (h.push {cls:= .type "dict",data:= .dict #[]}) h.objs.size (.dK []):=
 ⟨nq _,beq_eq_false_iff_ne.mpr (Ia (nj a)),[],.nil,Heap.DictOf.new h⟩
def Yb6:TE:=fun _ H Q=>∀p,H p=none->Q (.ref p) (upd H p (.dK []))
section
variable{X:Cx}{pos:Pos}
def Zo6:PE X (.Dict [] [] pos) Yb6:=fun b s c H Q I h=>
 wpAny_Dict_empty ⟨.ref s.heap.objs.size,_,I.laid (a:=s.heap.objs.size) (o:= .dK []) (t':=s.toks) (fun _ _ q=>Ah _ q) (na _) (B3 s.heap I.big),rfl,h _ (I.hok.fresh (na _))⟩
end
def Z73:List (TE×TE)->St->Hp->(List (V×V)->Hp->Prop)->Prop
 | [],_,H,Q=>Q [] H
 |(c,b)::r,a,H,Q=>c a H fun x g=>b a g fun y f=>Z73 r a f fun d e=>Q ((x,y)::d) e
abbrev VV:List (V×V)->List (Uf×Uf)->Prop:=Paired fun p q=>RelV p.1 q.1/\RelV p.2 q.2
def PPs(X:Cx)(pos:Pos)(keys:List (Option Expr))(values:List Expr)(c:List (TE×TE)):Prop:=
 ∀(a:PLO) (s:Ug) (b:St) (H:Hp) (Q:List (V×V)->Hp->Prop),Inv X a b H s->Z73 c b H Q->
  ⇑X (evalPairs (pairTrees keys values X.env pos)) (fun f g=>∃d e,Inv X a b e g/\VV d f/\Q d e) X.xe s
def Y12:PPs X pos [] [] []:=fun a s b H Q I h=>pairTrees_nil_walk ⟨[],H,I,.nil,h⟩
def Zs1{k v:Expr}{b:List (TE×TE)}(r:PE X k tk)(p:PE X v e)(q:PPs X pos ks vs b):
  PPs X pos (some k::ks) (v::vs) ((tk,e)::b):=fun a s c H Q I h=>
 pairTrees_cons_walk (thn (r a s c H _ I h) fun u g ⟨x,C,z,j,n⟩=>thn (p a g c C _ z n) fun E f ⟨y,B,w,i,m⟩=>
  thn (q a f c B _ w m) fun D F zz43=>by let⟨o,A,t,d,l⟩:=zz43;show⟨(x,y)::o,A,t,.cons ⟨j,i⟩ d,l⟩)
def O0(kvs a:List (Key×V)):List (Key×V):=a.foldl (fun b c=>putK b c.1 c.2) kvs
def KV.merge:∀{a:List (Key×V)} {b:List (Key×Uf)} {kvs:List (Key×V)} {vs:List (Key×Uf)},KV a b->KV kvs vs->KV (O0 kvs a) (merged vs b):=by
 intro a b kvs vs r
 unfold KV at r
 induction r generalizing kvs vs with
 | nil=>intro q;show q
 | @cons p q g f h t d=>
  intro c
  have e:KV (putK kvs p.1 p.2) (stored vs q.1 q.2):=by
   have:=c.put p.1 h.2
   rw[<-h.1];show this
  show d e
def Vt:∀(a kvs:List (Key×V)),(O0 kvs a).length<=kvs.length+a.length
 | [],kvs=>by change kvs.length<=kvs.length+0;lia
 | p::r,kvs=>by
  have c:=Vt r (putK kvs p.1 p.2)
  have b:=Xr kvs p.1 p.2
  show(O0 (putK kvs p.1 p.2) r).length<=_
  rw[Ex];lia
def Oi{w:Uj}:∀{kvs:List (Key×V)} {e:List (Uf×Uf)},VV (kvs.map fun f=>(kV f.1,f.2)) e->∃d,Carries (Zi P w) e d/\KV kvs d
 | [],_,r=>by rw[Dp] at r;cases r;show⟨[],Kf,.nil⟩
 | p::kvs,_,r=>by
  rw[Ch] at r
  cases r with
  | @cons a b k i h t=>
   let⟨d,c,q⟩:=Oi (P:=P) (w:=w) t
   let⟨j,g⟩:=b
   show⟨(p.1,g)::d,⟨Gm h.1,rfl,c⟩,.cons ⟨rfl,h.2⟩ q⟩
def Yj0(b:List (TE×TE)):TE:=fun e H Q=>∀p,H p=none->Z73 b e (upd H p (.dK [])) fun f d=>d p=some (.dK [])/\∃a:List (Key×V),f=a.map (fun c=>(kV c.1,c.2))/\a.length<=15/\Q (.ref p) (upd d p (.dK (O0 [] a)))
def Y49{keys:List (Option Expr)}{b:List (TE×TE)}(h:PPs X pos keys values b)(g:keys.all (·.isSome)=true)(B:keys.length=values.length)(h0:keys≠[])
  (k:keys.length<=15):PE X (.Dict keys values pos) (Yj0 b):=by
 intro d s m H Q I q
 have A:=I.hok.fresh (na s.heap.objs.size)
 have K:=I.laid (a:=s.heap.objs.size) (o:= .dK []) (h':=s.heap.push {cls:= .type "dict",data:= .dict #[]}) (t':=s.toks) (fun _ _ q=>Ah _ q) (na _) (B3 s.heap I.big)
 refine wpAny_Dict_walk (knd:=Zi X.prog X.w) g B h0 k (thn (h d _ m _ _ K (q _ A)) fun L M zz44=>?_)
 let⟨N,R,l,j,e,f,G,O,u⟩:=zz44
 subst G
 let⟨p,c,r⟩:=Oi (P:=X.prog) (w:=X.w) j
 let⟨z,D,n,t,J⟩:=Gs l.hok e
 cases t
 refine⟨p,c,J,fun F i x=>⟨.ref s.heap.objs.size,_,?_,rfl,u⟩⟩
 have v:(O0 [] f).length<=sizeLine:=by
  have E:=Vt f []
  rw[Ik] at E
  rw[Mo];lia
 have C:∃q,F.get? s.heap.objs.size=some q:=by let⟨q,_,_,y,_⟩:=i;show⟨q,y⟩
 show Nm l (by rw[e];show Kf) x C (Jk v D (r.merge .nil) i)
structure M1(X:Cx)(o:Expr)(m:Str)(apos:Pos)(e:Expr)(cpos:Pos):Prop where
 base:attributeBase o m X.env (eval o X.env)=eval o X.env
 few:((backTo cpos (starEach [e] X.env)).all (fun x=> !x.1)&&(backToKw cpos (keywordEach [] X.env)).all (fun x=>x.1.isSome)
  &&decide (([e]:List Expr).length+([]:List Keyword).length+(if ([]:List Keyword).isEmpty then 0 else 1)<30))=true
 line:(apos.endLine==cpos.line)=true
 trees:backTo cpos (starEach [e] X.env)=[(false,eval e X.env)]
structure M2(X:Cx)(o:Expr)(m:Str)(apos:Pos)(e f:Expr)(cpos:Pos):Prop where
 base:attributeBase o m X.env (eval o X.env)=eval o X.env
 few:((backTo cpos (starEach [e,f] X.env)).all (fun x=> !x.1)&&(backToKw cpos (keywordEach [] X.env)).all (fun x=>x.1.isSome)
  &&decide (([e,f]:List Expr).length+([]:List Keyword).length+(if ([]:List Keyword).isEmpty then 0 else 1)<30))=true
 line:(apos.endLine==cpos.line)=true
 trees:backTo cpos (starEach [e,f] X.env)=[(false,eval e X.env),(false,eval f X.env)]
section
variable{X:Cx}{pins:PLO}{σ:St}{H:Hp}{s:Ug}{a:Uh}{y d:V}{u r:Uf}{o:Option V}{A:Around}{E:VSP}
def Ye5(v:A.units+1<cLine)(I:Inv X pins σ H s)(g:DGet H a y o)(p:RelV y u)(q:RelV d r)(h:∀n s',Inv X pins σ H s'->RelV (o.getD d) n->Q n s'):
  wpAny (model X.prog X.w) A (call (.builtin "dict.get") [.ref a,u,r]) Q E s:=by
 rcases g with⟨i,k,e,m,l⟩ | ⟨i,k,b,e,m,x,l⟩
 .subst m
  let⟨z,j,B,c,f⟩:=Ge I.hok e
  refine call_meetsIn PySem.F.slot_dict_get f.typeIs PySem.F.entry_dict_get (PySem.F.args_dict_get_3 _ _ _) (meets_dict_get_default (Zi X.prog X.w) a (Gm p) j r) ⟨_,f.mapOf,h _ _ (I.tok _) ?_⟩
  rw[l]
  show(c.val k).getD q
 .subst m
  cases (show u=Value.ref b from p)
  let⟨z,j,t,c,f⟩:=Bo I.hok e
  refine call_meetsIn PySem.F.slot_dict_get f.typeIs PySem.F.entry_dict_get (PySem.F.args_dict_get_3 _ _ _) (meetsH_dict_get_default (tupleKind (Zi X.prog X.w)) a b j r) ⟨Ml v,k,t,Pp I.hok x,f,h _ _ (I.tok _) ?_⟩
  rw[l]
  show(c.val k).getD q
end
section
variable{X:Cx}{pins:PLO}{σ:St}{H:Hp}{s:Ug}{a:Uh}{kvs:List (Key×V)}{A:Around}{E:VSP}
def Zo0(I:Inv X pins σ H s)(e:Rd H a (.dK kvs))(h:∀p s',H p=none->Inv X pins σ (upd H p (.dK kvs)) s'->Q (.ref p) s'):wpAny (model X.prog X.w) A (call (.type "dict") [.ref a]) Q E s:=by
 let⟨z,i,k,c,j⟩:=Ge I.hok e
 refine kt_call_dict i j (by rw[<-c.length];show z) fun l d g=>?_
 refine h _ _ (I.hok.fresh (na _)) (I.laid (a:=s.heap.objs.size) (o:= .dK kvs) (t':=s.toks) (fun b q f=>?_) (na _) (Jk z (beq_eq_false_iff_ne.mpr (Ia (nj I.big))) c d))
 show(g.2 b (nj (Ax f))).trans (Ah _ f)
end
end L2
namespace Att
open PySem PySem.W PySem.Calls PyProof.Rows
def Rq{P:Params}{h:Uk}:∀(ns:List Int) (vs:LW),WellAll P h vs (ns.map WData.int)->IntsAre vs ns:=by
 intro ns
 induction ns with
 | nil=>
  intro vs w
  rw[Dp] at w
  cases w
  show .nil
 | cons n ns c=>
  intro vs w
  rw[Ch] at w
  cases w with
  | cons a b=>
   cases a
   show .cons _ _ (c _ b)
def script_of{l:OpenLaw}{n:Nat}(u:l.most=some n){P:Params}{h:Uk}{args:List WData}{b:LW}
  (c:l.row.toRowW.claim.pre args=true) (j:WellAll P h b args):
  ∃a vs ns,b=[Value.ref a]/\args=[WData.list (ns.map WData.int)]/\h.get? a=some {cls:= .type "list",data:= .seq vs.toArray}/\IntsAre vs ns/\ns.length<=n:=by
 have k:WShape.hasAll [] args [.list .int]=true:=(pre_splitW c).1
 have m:l.pre.holds [] {args:=args}=true:=(pre_splitW c).2
 let⟨d,r,rfl,x,w⟩:=hasAllW_cons k
 obtain rfl:=hasAllW_nil w
 let⟨y,rfl,v⟩:=hasW_list x
 let⟨ns,rfl⟩:=items_int v
 have e:ns.length<=n:=by
  unfold OpenLaw.pre at m
  have i:(WTm.not (.lt (.lit (.int (n:Int))) (.len (.arg 0)))).holds [] {args:=[.list (ns.map .int)]}=true:=by
   have i:=(holds_andW m).1
   rw[u] at i
   show i
  have g:=condW_of i (w_not (w_lt w_lit (w_len_list (w_arg rfl))))
  rw[Ag] at g
  refine Nat.le_of_not_lt fun q=>?_
  have s:(n:Int)< ((ns.length:Nat):Int):='o'
  first
   |(rw[decide_eq_true s] at g;show absurd g 'd')
   |(simp at g;lia)
 cases j with
 | cons p o=>
  cases o
  cases p with
  | list t f=>show⟨_,_,ns,rfl,rfl,t,Rq ns _ f,e⟩
def post_true(l:OpenLaw)(args:List WData):l.row.toRowW.claim.post args (.bool true) args=true:=
 postW_of (r:=l.row.toRowW) (X:=(true==true))
  (show WShape.has [] (.bool true) .bool=true by first | rfl | decide | simp[WShape.has,WShape.arms,WShape.armsAll])
  (show(WTm.eq .res (.lit (.bool true))).value [] {args:=args,res:=some (.bool true),after:=args}=some (.bool (true==true)) from w_eq_bool (w_res rfl) w_lit) rfl
end Att
namespace L2
open PySem PySem.Spec PyProof.Rows
def W7:∀{vs:LW} {ns:List Int},IntsAre vs ns->Vals (ns.map V.int) vs
 | _,_,.nil=> .nil
 | _,_,.cons n t h=> .cons ⟨t,rfl⟩ (W7 h)
abbrev CX0:CXT:=fun _ _ _ _ _ _=>False
abbrev E0:XK:=fun _ _ _=>False
structure Fun(K:Ac)(x qual:Str)(st:Stmt)(f:Uh)(fd:FuncData):Prop where
 ex:∃(oc:Uf) (od:Option Uh) (dV kV doc pm:Uf) (an:Option Uh) (cdv ct:Uf) (osl:Array (Option Uf)),
  fd=Ke x qual (Xb st) (Zh st) (Z3 st) dV kV doc pm an cdv ct/\K.lookup f=some ⟨oc,od,.func fd,osl⟩/\Lv K cdv qual=true
 kp:Dv K (.ref f)=true
section
variable{P:Ui}{w:Uj}{K:Ac}{mg:Str->Option Uf}{base:Uk}
def Fun.ok{x qual:Str}{st:Stmt}{f:Uh}{g:FuncData}{N ps:LS}{k:Nat}{sp:Sp}(F:Fun K x qual st f g)(S:FnScope N ps (Z3 st))(c:∀vs H Q E,sp vs H Q E->vs.length=ps.length)
  (b:∀(a:Uf) (A:Around) (outer:List Env) (s:Ug) (H:Hp) (vs:LV) (Q:VK) (E:XK),Room k (A.deeper (envOfC qual (Z3 st) s.heap.objs.size f a))->sp vs H Q E->
   ∃t,PSs (cxOf CX0 P w K mg base N qual (Z3 st) f a A outer s H E).nox (Zh st) t/\t {nx:=fun _ n=>Q .non n,rt:=Q} (start N vs) H):FnOk P w K mg base CX0 (k+1) f g ps sp:=by
 let⟨r,p,v,u,m,o,z,a,y,i,rfl,j,e⟩:=F.ex
 refine Zm7 j e S c fun A outer s H vs Q E l d=>?_
 let⟨t,h,q⟩:=b a A outer s H vs Q E l d
 show⟨t,h.nox,q⟩
def Yc5{x qual:Str}{st:Stmt}{f:Uh}{m:Uf}{od j:Option Uh}{d:Array (Option Uf)}{h g b e a i:Uf}(l:K.lookup f=some ⟨m,od,.func (Ke x qual (Xb st) (Zh st) (Z3 st) h g b e j a i),d⟩)
  (c:Lv K a qual=true) (k:Dv K (.ref f)=true):Fun K x qual st f (Ke x qual (Xb st) (Zh st) (Z3 st) h g b e j a i):=⟨⟨m,od,h,g,b,e,j,a,i,d,rfl,l,c⟩,k⟩
end
section
variable{X:Cx}
def Zg6:W2 X (.builtin "len") (fun xs H Q=>∃a kvs,xs=[V.ref a]/\H a=some (.dK kvs)/\Q (.int kvs.length) H):=by
 intro b s f H xs g Q I r h
 let⟨a,kvs,rfl,d,q⟩:=h
 let⟨u,rfl,c⟩:=Vs r
 cases c
 show Yi7 I (.inl d) fun t i e=>⟨.int kvs.length,H,e,⟨t,rfl⟩,q⟩
end
end L2
namespace L3
open PySem PySem.Spec PyProof.Rows L2
def Bits(n:Nat)(x:Int):Prop:=x.natAbs<2 ^ n
def Bh{m n:Nat}(h:m<2 ^ n)(a:0<n):m.log2<n:=by
 rcases Nat.eq_zero_or_pos m with h0 | h0
 .rw[h0];show a
 .exact(Nat.log2_lt (nr h0)).mpr h
section
variable{X:Cx}
def Zc9(_ j:Int):Prop:=j≠0/\j.natAbs.log2<9000
def Zi8:OpR X (binaryOp .FloorDiv) (rI Zc9 fun i j=> .int (i.fdiv j)):=opI fun _ _ _ _ _ _ _ a q=>floordiv_int a.1 q (.inl (PyProof.noPylong_of_log2 a.2))
def Y01:OpR X (binaryOp .Mult) (rI IntMulOk fun i j=> .int (i * j)):=opI fun _ _ _ _ _ _ _ a q=>mul_int q a
def rIsB(K:Ac):LV->Hp->VK->Prop:=fun a H Q=>∃x n t b,a=[x,.ty n]/\TyOf K H x t/\Df K t (.type n)=some b/\Q (.bl b) H
def Zp2:W2 X (.builtin "isinstance") (rIsB X.K):=by
 intro a s i H j k Q I r h
 let⟨x,n,t,b,rfl,c,e,q⟩:=h
 let⟨u,v,rfl,g,f⟩:=Z48 r
 obtain rfl:v=Value.type n:=f
 show Zg9 I g c e fun d=>⟨.bl b,H,I.tok d,rfl,q⟩
end
mutual
def Rep(K:Ac)(H:Hp):PyData->V->Prop
 | .none,v=>v= .non
 | .bool b,v=>v= .bl b
 | .int i,v=>v= .int i
 | .str x,v=>v= .str x
 | .list d,v=>∃a c,v= .ref a/\SqL K H a c/\Xe K H d c
 | .tuple d,v=>∃a c,v= .ref a/\SqT K H a c/\Xe K H d c
 | .dict _,_=>False
def Xe(K:Ac)(H:Hp):List PyData->LV->Prop
 | [],a=>a=[]
 | d::c,a=>∃v b,a=v::b/\Rep K H d v/\Xe K H c b
end
section
variable{X:Cx}{pins:PLO}{σ:L2.St}{H:Hp}{s:Ug}
mutual
theorem Rep.reads(I:Inv X pins σ H s):∀(d:PyData) (v:V) (u:Uf),Rep X.K H d v->RelV v u->∃w,Reads s.heap u d w
 | .none,v,u,h,r=>by
  unfold Rep at h;subst h
  cases (show u=Value.none from r)
  show⟨[],.none⟩
 | .bool b,v,u,h,r=>by
  unfold Rep at h;subst h
  cases (show u=Value.bool b from r)
  show⟨[],.bool b⟩
 | .int i,v,u,h,r=>by
  unfold Rep at h;subst h
  let⟨t,rfl⟩:=(show ∃t,u=Value.int i t from r)
  show⟨[],.int i t⟩
 | .str x,v,u,h,r=>by
  unfold Rep at h;subst h
  let⟨t,rfl⟩:=(show ∃t,u=Value.str x t from r)
  show⟨[],.str x t⟩
 | .list q,v,u,h,r=>by
  unfold Rep at h
  let⟨a,e,rfl,j,k⟩:=h
  cases (show u=Value.ref a from r)
  let⟨c,f,⟨o,n,p,m,_,l⟩,_⟩:=I.list j
  let⟨w,g⟩:=Xe.reads I q e c k f
  show⟨_,.list p m l g⟩
 | .tuple q,v,u,h,r=>by
  unfold Rep at h
  let⟨a,e,rfl,j,k⟩:=h
  cases (show u=Value.ref a from r)
  let⟨c,f,⟨o,p,m,n,l⟩,_⟩:=I.tuple j
  let⟨w,g⟩:=Xe.reads I q e c k f
  show⟨_,.tuple p m l g⟩
 | .dict y,v,u,h,r=>by
  unfold Rep at h
  show h.elim
theorem Xe.reads(I:Inv X pins σ H s):∀(a:List PyData) (xs:LV) (us:LW),Xe X.K H a xs->Vals xs us->∃b,ReadsAll s.heap us a b
 | [],xs,us,h,r=>by
  unfold Xe at h;subst h
  cases r
  show⟨[],.nil⟩
 | d::a,xs,us,h,r=>by
  unfold Xe at h
  let⟨v,c,rfl,k,j⟩:=h
  cases r with
  | cons f e=>
   let⟨b,i⟩:=Rep.reads I d v _ k f
   let⟨l,g⟩:=Xe.reads I a c _ j e
   show⟨_,.cons i g⟩
end
end
section
variable{X:Cx}
def rEqD(K:Ac)(c:Bool):R2:=fun x y H Q=>∃b a,Rep K H b x/\Rep K H a y/\b.canLay0=true/\a.canLay0=true/\min b.depth a.depth<=60/\Q (.bl (if c then !PyData.eqv b a else PyData.eqv b a)) H
def Yf8(n:X.A.units+64<cLine):OpR X (compareOp .Eq) (rEqD X.K false):=by
 intro a s m H x y v u Q I c b h
 let⟨l,k,j,i,g,f,o,q⟩:=h
 let⟨r,e⟩:=Rep.reads I l x v j c
 let⟨p,d⟩:=Rep.reads I k y u i b
 show PySem.SeqAt.compareEq_reads e d g f 'o' ⟨.bl _,H,I,rfl,q⟩
end
end L3
namespace L3
open PySem PySem.W PySem.Calls PyProof.Rows L2
def bigN:Nat:=1048576
def Qc:∀(ns:List Int) (i:Int),i∈ns->WData.weight (.int i)<=WData.weightAll (ns.map WData.int)
 | [],_,h=>nomatch h
 | n::r,i,h=>by
  rw[Ch]
  have e:WData.weightAll (WData.int n::r.map WData.int)=WData.weight (.int n)+1+WData.weightAll (r.map WData.int):=by simp[WData.weightAll]
  rw[e]
  rcases Aq.mp h with q | q
  .subst q;lia
  .have:=Qc r i q;lia
def Qf{ns:List Int}(h:WData.layableAll [WData.list (ns.map WData.int)]=true):∀i∈ns,Bits bigN i:=by
 intro i d
 have a:WData.layable (WData.list (ns.map WData.int))=true:=by simpa[WData.layableAll] using h
 unfold WData.layable at a
 rw[Bz9] at a
 have k:WData.weight (WData.list (ns.map WData.int))<=2 ^ 20:=of_decide_eq_true a.2
 have j:WData.weight (WData.list (ns.map WData.int))=WData.weightAll (ns.map WData.int):=by simp[WData.weight]
 have g:=Qc ns i d
 have b:WData.weight (.int i)=if i==0 then 0 else i.natAbs.log2+1:=by simp[WData.weight]
 unfold Bits bigN
 by_cases c:i=0
 .subst c;show Nat.two_pow_pos _
 .have e:(i==0)=false:=by simpa using c
  rw[e] at b
  have f:i.natAbs.log2<1048576:=by
   have:(2:Nat) ^ 20=1048576:='d'
   simp only[Bool.false_eq_true,if_false] at b
   lia
  show(Nat.log2_lt 'o').mp f
def Gb{l:OpenLaw}{n:Nat}{q:Ui}{loose:LS}{XP:(Str->Option Uf)->Uk->Prop}{YP:Uj->Uk->Prop}{d:DefRec}(D:l.most=some n)(I:d.params.defaults=[])
  (p:∀(w:Uj) (c b:Ug) (mg u:Str->Option Uf) (t:Uh) (o:Obj) (z cd m:Uf) (a:Uh) (vs:LW) (ns:List Int),
   Ground q loose [] XP w c mg u b.heap->YP w b.heap->mg d.name=↑t->
   b.heap.get? a=some {cls:= .type "list",data:= .seq vs.toArray}->IntsAre vs ns->ns.length<=n->(∀i∈ns,Bits bigN i)->b.gens=#[]->
   codeAny (model l.prog w) callerA (.call (.ref t) ⟨[.ref a],[]⟩) (fun r s=>r= .ok (.ret (.bool true))/\OldK b.heap s.heap/\s.os=b.os/\AllBare s.gens) b):
  WalkO q loose XP YP l.row.toRowW d [] (fun f vs=>PySem.call f vs):=by
 intro w c b mg u G Y t o z cd m R N O P J Q x H A y S g k B v F
 let⟨a,vs,ns,rfl,rfl,h,e,j⟩:=Att.script_of D g v
 refine enter_call (Kr (p w c b mg u t o z cd m a vs ns G Y x h e j (Qf k) H) fun r s C=>?_)
 let⟨rfl,M,L,K⟩:=C
 show⟨.inl ⟨.bool true,.bool true,[],rfl,fun _=>rfl,.bool true,Att.post_true l _,fun _=>⟨Mh.nil,fun _ E=>(nomatch E)⟩⟩,M,L,K⟩
end L3
namespace L3
open PySem
section
variable{P:Ui}{w:Uj}{A:Around}{R:Result->Ug->Prop}{s:Ug}{elt tg iter c:Expr}{scope:Scope}{pos:Pos}{it acc:Uf}{env:Env}
abbrev noE:VSP:=fun _ _=>False
def Z20(I:Nat->Ug->Prop)
  (a:∀n s,I n s->wpAny (model P w) A (pyNext it) (fun r b=>match r with
   | none=>R (.ok .next) b
   | some v=>wpAny (model P w) A (letOwnedTupleGo tg it v) (fun _ i=>wpAny (model P w) A (assign tg env v) (fun _ g=>wpAny (model P w) A (eval elt env) (fun x e=>
     wpAny (model P w) A (call (.builtin "list.append") [acc,x]) (fun _ d=>∃m,m<n/\I m d) noE e) noE g) noE i) noE b) noE s)
  (n:Nat) (h:I n s):codeAny (model P w) A (.compLoop (.ListComp elt [⟨tg,iter,[],0⟩] scope pos) 0 it acc env) R s:=by
 refine codeAny_loop rfl I (fun m z k=>?_) n h
 change wpAny _ A ((compTurn (.ListComp elt [⟨tg,iter,[],0⟩] scope pos) 0 it acc env).onRaise fun x=>do noteFrame x env;theTreesLotGoes x) _ _ z
 refine wpAny_noted ?_
 rw[compTurn_list1]
 refine Ad (Lm (Ad (Dx (a m z k) (fun r b j=>?_) fun _ _ f=>f.elim)))
 cases r with
 | none=>show Am j
 | some v=>
  refine Ad (Dx j (fun _ i q=>?_) fun _ _ f=>f.elim)
  refine Ad (Dx q (fun _ g p=>?_) fun _ _ f=>f.elim)
  refine Ad (Ad (Dx p (fun x e o=>?_) fun _ _ f=>f.elim))
  show Ad (Dx o (fun _ d l=>Am (Am ⟨rfl,l⟩)) fun _ _ f=>f.elim)
def Z00(I:Nat->Ug->Prop)
  (a:∀n s,I n s->wpAny (model P w) A (pyNext it) (fun r d=>match r with
   | none=>R (.ok .next) d
   | some v=>wpAny (model P w) A (letOwnedTupleGo tg it v) (fun _ k=>wpAny (model P w) A (assign tg env v) (fun _ j=>wpAny (model P w) A (isTrue c env (eval c env)) (fun e b=>
     if e=true then wpAny (model P w) A (eval elt env) (fun x i=>wpAny (model P w) A (call (.builtin "list.append") [acc,x]) (fun _ g=>∃m,m<n/\I m g) noE i) noE b
     else ∃m,m<n/\I m b) noE j) noE k) noE d) noE s)
  (n:Nat) (h:I n s):codeAny (model P w) A (.compLoop (.ListComp elt [⟨tg,iter,[c],0⟩] scope pos) 0 it acc env) R s:=by
 refine codeAny_loop rfl I (fun m z p=>?_) n h
 change wpAny _ A ((compTurn (.ListComp elt [⟨tg,iter,[c],0⟩] scope pos) 0 it acc env).onRaise fun x=>do noteFrame x env;theTreesLotGoes x) _ _ z
 refine wpAny_noted ?_
 rw[compTurn_list]
 refine Ad (Lm (Ad (Dx (a m z p) (fun r d o=>?_) fun _ _ f=>f.elim)))
 cases r with
 | none=>show Am o
 | some v=>
  refine Ad (Dx o (fun _ k y=>?_) fun _ _ f=>f.elim)
  refine Ad (Dx y (fun _ j u=>?_) fun _ _ f=>f.elim)
  refine Ad (wpAny_tests_one (Dx u (fun e b l=>?_) fun _ _ f=>f.elim))
  cases e with
  | false=>show Am ⟨rfl,l⟩
  | true=>
   refine Ad (Ad (Dx l (fun x i t=>?_) fun _ _ f=>f.elim))
   show Ad (Dx t (fun _ g q=>Am (Am ⟨rfl,q⟩)) fun _ _ f=>f.elim)
end
def Tc:∀(b:List (Str×NameKind)) (a:List (Str×Uh)),(∀n,(n,Dy)∈b->∃c,env.cells.lookup n=some c)->
  (∀x c,a.lookup x=some c->env.cells.lookup x=some c)->
  ∃g,(forIn b a fun(x:Str×NameKind) (y:List (Str×Uh))=>match x with
   |(f,l)=>if (l==Dy)=true then do let c <-cellOf env f;pure (ForInStep.yield ((f,c)::y)) else pure (ForInStep.yield y):Sem (List (Str×Uh)))=pure g/\
   (∀x c,g.lookup x=some c->env.cells.lookup x=some c)/\(∀n,(n,Dy)∈b->∃c,g.lookup n=some c)/\∀x c,a.lookup x=some c->∃A,g.lookup x=some A
 | [],a,_,p=>⟨a,rfl,p,(fun _ h=>nomatch h),fun x c e=>⟨c,e⟩⟩
 |(n,k)::r,a,s,p=>by
  by_cases t:k= .free
  .subst t
   let⟨c,w⟩:=s n Db
   let⟨g,e,v,u,o⟩:=Tc r ((n,c)::a) (fun m j=>s m (Aj _ j)) (fun x d i=>by
    rw[Hv] at i
    cases q:x==n with
    | true=>rw[q] at i;cases i;rw[La q];show w
    | false=>rw[q] at i;show p x d i)
   refine⟨g,?_,v,fun m j=>?_,fun x d i=>?_⟩
   .rw[List.forIn_cons]
    show(bind (bind (cellOf env n) _) _:Sem _)=_
    unfold cellOf
    rw[w]
    show e
   .rcases Aq.mp j with q | q
    .cases q;show o n c (by simp[Hv])
    .exact u m q
   .cases q:x==n with
    | true=>show o x c (by rw[Hv,q])
    | false=>show o x d (by rw[Hv,q];show i)
  .have z:(k==Dy)=false:=by simpa using t
   let⟨g,e,v,u,o⟩:=Tc r a (fun m j=>s m (Aj _ j)) p
   refine⟨g,?_,v,fun m j=>?_,o⟩
   .rw[List.forIn_cons]
    show(bind (if (k==Dy)=true then _ else _) _:Sem _)=_
    rw[z]
    show e
   .rcases Aq.mp j with q | q
    .cases q;show absurd rfl t
    .exact u m q
def Wg(hn:∀n,(n,Dy)∈scope.names->∃c,env.cells.lookup n=some c):
  ∃cl,closureFor scope env=pure cl/\(∀x c,cl.lookup x=some c->env.cells.lookup x=some c)/\∀n,(n,Dy)∈scope.names->∃c,cl.lookup n=some c:=by
 let⟨cl,e,h1,h2,_⟩:=Tc scope.names [] hn (fun x c h=>by cases h)
 refine⟨cl,?_,h1,h2⟩
 show(congrArg (fun t:Sem (List (Str×Uh))=>bind t fun z=>pure z) e).trans rfl
end L3
namespace L3
open PySem PySem.Spec PyProof.Rows L2
def cxC(X:Cx)(b:LS)(scope:Scope)(a:List (Str×Uh))(C:Uh)(fp:List Uh)(pins:PLO)(s:Ug)(H:Hp):Cx where
 prog:=X.prog
 w:=X.w
 K:=X.K
 mg:=X.mg
 base:=X.base
 A:=X.A
 N:=b
 s₀:=s
 H₀:=H
 env:=compEnvC scope a C X.env
 outer:=X.stack
 stack:=X.stack
 ex:=fp
 fn:=fun x=>scope.names.any fun y=>y.1==x&&y.2== .cell
 calm:=X.calm
 pn:=X.pn++pins
 xe:=noE
def Yr(scope a:Scope):Scope:=
 {scope with names:=scope.names.map fun(n,k)=>if (k== .free&&a.kind== .function&&a.names.lookup n==some .cell) then(n,.cell) else(n,k)}
def Tx(js:List (Option Nat))(a:L2.St):L2.St:=js.map fun o=>o.bind fun j=>(a[j]?).join
structure CompScope(dsc:Scope)(dN N':LS)(js:List (Option Nat))(scope:Scope):Prop where
 kind:scope.kind= .function
 nd:(scope.names.map (·.1)).Nodup
 loc:∀y∈scope.names,y.2= .local->scope.names.lookup y.1=some .local
 len:js.length=N'.length
 cap:∀(i:Nat) (x:Str) (j:Nat),N'[i]?=some x->js[i]?=some (some j)->dN[j]?=some x/\(x,Dy)∈scope.names
 free:∀n,(n,Dy)∈scope.names->dsc.names.lookup n=some .cell\/dsc.names.lookup n=some .free
 seen:∀n,(n,Dy)∈scope.names->(Yr scope dsc).names.lookup n=some .cell\/(Yr scope dsc).names.lookup n=some .free
def Xw(a:Scope)(c b:LS)(js:List (Option Nat))(scope:Scope):Bool:=
 scope.kind== .function&&decide ((scope.names.map (·.1)).Nodup)&&scope.names.all (fun y=>y.2 != .local || scope.names.lookup y.1==some .local)&&js.length==b.length&&
 (b.zip js).all (fun p=>match p.2 with | some j=>c[j]?==some p.1&&scope.names.contains (p.1,Dy) | none=>true)&&
 scope.names.all (fun y=>y.2 != .free || ((a.names.lookup y.1==some .cell || a.names.lookup y.1==some .free)&&((Yr scope a).names.lookup y.1==some .cell || (Yr scope a).names.lookup y.1==some .free)))
def CompScope.of{a:Scope}{e c:LS}(h:Xw a e c js scope=true):CompScope a e c js scope:=by
 unfold Xw at h
 simp only[Bz9,Hw,beq_iff_eq,bne_iff_ne,Bool.or_eq_true,decide_eq_true_eq] at h
 let⟨⟨⟨⟨⟨r,p⟩,o⟩,m⟩,l⟩,d⟩:=h
 refine⟨r,p,fun y f k=>(o y f).resolve_left fun z=>z k,m,fun i x j t s=>?_,fun n b=>?_,fun n b=>?_⟩
 .have g:(x,some j)∈c.zip js:=As (i:=i) (by rw[List.getElem?_zip_eq_some];show⟨t,s⟩)
  have q:=l _ g
  simp only[Bz9,beq_iff_eq,Io] at q
  show q
 .exact((d _ b).resolve_left fun z=>z rfl).1
 .exact((d _ b).resolve_left fun z=>z rfl).2
def Wv{env:Env}{x:Str}{k:NameKind}:∀{a:List (Str×NameKind)},
  (a.map fun(n,k)=>if (k==Dy&&env.scope.kind== .function&&env.kindOf n==some .cell) then(n,Ig) else(n,k)).lookup x=some k->(k= .cell\/k= .free)->(x,Dy)∈a\/(x,Ig)∈a
 | [],h,_=>by simp at h
 |(n,q)::r,h,f=>by
  rw[Ch] at h
  by_cases d:x=n
  .subst d
   have i:q= .free\/q= .cell:=by
    by_cases c:(q==Dy&&env.scope.kind== .function&&env.kindOf x==some .cell)=true
    .rw[Bz9,Bz9] at c
     show .inl (La c.1.1)
    .simp only[if_neg c] at h
     rw[Hv,beq_self_eq_true] at h
     have e:q=k:=Hb h
     rcases f with z | z
     .exact .inr (e.trans z)
     .exact .inl (e.trans z)
   rcases i with rfl | rfl
   .exact .inl Db
   .exact .inr Db
  .have g:(x==n)=false:=by simpa using d
   have b:(r.map fun(n,k)=>if (k==Dy&&env.scope.kind== .function&&env.kindOf n==some .cell) then(n,Ig) else(n,k)).lookup x=some k:=by
    by_cases c:(q==Dy&&env.scope.kind== .function&&env.kindOf n==some .cell)=true
    .simp only[if_pos c] at h
     rw[Hv,g] at h
     show h
    .simp only[if_neg c] at h
     rw[Hv,g] at h
     show h
   show(Wv (env:=env) b f).imp (Aj _) (Aj _)
structure BlockCells(X:Cx)(scope:Scope)(cl:List (Str×Uh))(sz:Nat)(h1:Uk):Prop where
 each:∀x c,cl.lookup x=some c->X.env.cells.lookup x=some c\/(sz<c/\h1.IsCell c none)
 free:∀n,(n,Dy)∈scope.names->∃c,cl.lookup n=some c/\X.env.cells.lookup n=some c
 own:∀n,(n,Ig)∈scope.names->∃c,cl.lookup n=some c/\sz<c
 inj:∀x y c,cl.lookup x=some c->cl.lookup y=some c->sz<c->x=y
def Vb{x:Str}:∀(a:List (Str×NameKind)) (n:Nat) (b:List (Str×Uh)),(x,Ig)∉a->(cellsFrom n a b).lookup x=b.lookup x
 | [],_,_,_=>rfl
 |(y,k)::r,n,b,h=>by
  have d:(x,Ig)∉r:=fun z=>h (Aj _ z)
  unfold cellsFrom
  split
  .rename_i f
   have c:(x==y)=false:=by
    rw[beq_eq_false_iff_ne]
    intro e
    apply h
    rw[e,<-La f]
    show Db
   rw[Vb r _ _ d,Hv,c]
  .exact Vb r n b d
def Qp{x:Str}:∀(a:List (Str×NameKind)) (n:Nat) (b:List (Str×Uh)),(x,Ig)∈a->∃c,(cellsFrom n a b).lookup x=some c/\n<=c
 | [],_,_,h=>by cases h
 |(y,k)::r,n,b,h=>by
  unfold cellsFrom
  by_cases d:(x,Ig)∈r
  .split
   .let⟨c,e,l⟩:=Qp r (n+1) ((y,n)::b) d
    show⟨c,e,'o'⟩
   .exact Qp r n b d
  .rcases Aq.mp h with e | e
   .cases e
    rw[ng (by rfl),Vb r _ _ d,Hv,beq_self_eq_true]
    show⟨n,rfl,na _⟩
   .exact absurd e d
def V2:∀(b:List (Str×NameKind)) (n:Nat) (a c:List (Str×Uh)),∃own,cellsFrom n b (a++c)=own++c/\cellsFrom n b a=own
 | [],n,a,c=>⟨a,rfl,rfl⟩
 |(y,k)::r,n,a,c=>by
  unfold cellsFrom
  split
  .exact V2 r (n+1) ((y,n)::a) c
  .exact V2 r n a c
def Wi{x:Str}{c:Uh}:∀{a b:List (Str×Uh)},(a++b).lookup x=some c->a.lookup x=some c\/b.lookup x=some c
 | [],b,h=> .inr h
 |(y,d)::a,b,h=>by
  rw[Ih,Hv] at h
  rw[Hv]
  cases e:x==y with
  | true=>rw[e] at h;show .inl h
  | false=>rw[e] at h;show Wi h
def Pu{H:Hp}{i:List (Str×Uh)}(E:(scope.names.map (·.1)).Nodup)(I:Inv X pins C H s)(o:Obj)
  (c1:∀x c,i.lookup x=some c->X.env.cells.lookup x=some c) (c2:∀n,(n,Dy)∈scope.names->∃c,i.lookup n=some c):
  BlockCells X scope (cellsFrom (s.heap.objs.size+1) scope.names i) s.heap.objs.size (pushCells (s.heap.push o) scope.names):=by
 let⟨D,g,f⟩:=V2 scope.names (s.heap.objs.size+1) [] i
 rw[Lj] at g
 have p:=cellsFrom_ok scope.names (s.heap.push o) (s.heap.objs.size+1) [] ⟨fun _ _ G=>(nomatch G),Mh.nil⟩ (by rw[Uc];show na _)
 rw[Uc,f] at p
 have j:∀x c,i.lookup x=some c->c<s.heap.objs.size:=by
  intro x c e
  let⟨v,q⟩:=I.cell x c (c1 x c e)
  show q.lt
 have m:∀{n:Str},(n,Dy)∈scope.names->(n,Ig)∉scope.names:=by
  intro n K J
  have t:∀(l:List (Str×NameKind)),(l.map (·.1)).Nodup->(n,Dy)∈l->(n,Ig)∈l->False:=by
   intro l
   induction l with
   | nil=>intro _ h;cases h
   | cons y r F=>
    intro d a b
    rw[Ch,Hj] at d
    rcases Aq.mp a with g | B
    .rcases Aq.mp b with f | u
     .rw[<-g] at f;cases f
     .exact d.1 (De.mpr ⟨_,u,by rw[<-g]⟩)
    .rcases Aq.mp b with f | u
     .exact d.1 (De.mpr ⟨_,B,by rw[<-f]⟩)
     .exact F d.2 B u
  show t _ E K J
 refine⟨fun x c e=>?_,fun n d=>?_,fun n d=>?_,fun x y c A w k=>?_⟩
 .rw[g] at e
  rcases Wi e with z | z
  .let⟨a,b⟩:=p.empty x c (mem_of_lookup z)
   show .inr ⟨b,a⟩
  .exact .inl (c1 x c z)
 .let⟨c,k⟩:=c2 n d
  refine⟨c,?_,c1 n c k⟩
  rw[Vb _ _ _ (m d)]
  show k
 .let⟨c,a,b⟩:=Qp scope.names (s.heap.objs.size+1) i d
  show⟨c,a,b⟩
 .rw[g] at A w
  rcases Wi A with z | z
  .rcases Wi w with z2 | z2
   .exact name_of_addr p.apart (mem_of_lookup z) (mem_of_lookup z2)
   .exact absurd (j y c z2) (Nat.lt_asymm k)
  .exact absurd (j x c z) (Nat.lt_asymm k)
def Pb{M:Model}{A:Around}{E:VSP}{s:Ug}{scope:Scope}{a:Uh}{f:List (Str×Uh)}{qual:Str}{o:Env}{Q:Env->Ug->Prop}
  (g:Q {scope:=scope,locals:=s.heap.objs.size,globals:=a,cells:=cellsFrom (s.heap.objs.size+1) scope.names f,qual:=qual,func:=none,code:=o.code,frame:=o.frame,builtins:=o.builtins} {s with heap:=pushCells (s.heap.push {cls:= .type "dict",data:= .dict #[]}) scope.names}):
  wpAny M A (newFunctionEnv scope a f [] qual none .none (some o)) Q E s:=by
 simp only[newFunctionEnv,Option.isSome_some,if_true]
 refine Ad (wpAny_alloc ?_)
 refine Ad (wpAny_layCells _ (fun e b d=>by cases c:b==Ig<;>simp[c]) _ _ _ _ ?_)
 rw[show({s with heap:=s.heap.push {cls:= .type "dict",data:= .dict #[]}}:Ug).heap.objs.size=s.heap.objs.size+1 from Uc ..]
 rw[List.forIn_nil]
 show Ad (Am (Am g))
section
variable{X:Cx}{elt tg iter c:Expr}{scope:Scope}{pos:Pos}{N':LS}{js:List (Option Nat)}{wi:TI}{g:TG}{te:TE}{tc:TT}
def Pg{H:Hp}{W:List (Str×Uh)}{w:Uk}(S:CompScope X.env.scope X.N N' js scope)(I:Inv X pins A H s)
  (f:BlockCells X scope W s.heap.objs.size w) (P:∀b∈fp,FpOk X pins H b) (D:∀b∈fp,b<s.heap.objs.size)
  (hn:w.Ns s.heap.objs.size m) (E:∀b o,s.heap.get? b=some o->w.get? b=some o):
  Inv (cxC X N' scope W s.heap.objs.size fp pins s H) [] (Tx js A) H {s with heap:=w,toks:=tk}:=by
 have Z:(cxC X N' scope W s.heap.objs.size fp pins s H).Ok:=by
  refine⟨I.ok.mod,S.kind,I.ok.glob,I.ok.blt,na _,fun x y c w T=>?_,fun x C=>?_,fun x c C e=>?_,I.ok.hd,I.ok.frames,.inl rfl,fun b B=>⟨nj (D b B),fun x c e=>?_⟩,
   I.bs,ni I.ok.bsz I.sz,fun b o e B=>?_,fun b B C=>?_,I.stack,I.stkFree⟩
  .rcases f.each x c w with z | z
   .rcases f.each y c T with z2 | z2
    .exact I.ok.inj x y c z z2
    .exact f.inj x y c w T z2.1
   .exact f.inj x y c w T z.1
  .have h:(relabel scope X.env).names.lookup x=some .cell\/(relabel scope X.env).names.lookup x=some .free:=C
   have t:(x,Dy)∈scope.names\/(x,Ig)∈scope.names:=by
    rcases h with z | z
    .exact Wv z (.inl rfl)
    .exact Wv z (.inr rfl)
   rcases t with z | z
   .let⟨c,e,_⟩:=f.free x z;show⟨c,e⟩
   .let⟨c,e,_⟩:=f.own x z;show⟨c,e⟩
  .have h:(scope.names.any fun y=>y.1==x&&y.2==Ig)=true:=C
   rw[Kt] at h
   let⟨⟨y,k⟩,t,L⟩:=h
   rw[Bz9] at L
   have V:y=x:=La L.1
   have U:k= .cell:=La L.2
   subst V U
   let⟨Y,e',l⟩:=f.own _ t
   have:Y=c:=Hb (e'.symm.trans e)
   subst this
   show ma l
  .rcases f.each x c e with z | z
   .exact(P b B).2.2.2.2.1 x c z
   .exact fun q=>absurd z.1 (Nat.lt_asymm (by rw[q];show D b B))
  .let⟨_,_,_,f3,_⟩:=P b B
   rcases f3 with z | z
   .exact I.ok.noex b o e z
   .exact absurd (nh (Ax e) (ni I.ok.bsz z)) (nv _)
  .let⟨_,f1,f2,_⟩:=P b B
   rcases Aq.mp (I.stkSub b C) with z | z
   .exact f1 z
   .exact f2 z
 refine⟨Z,rfl,I.bare,Un.kept E,⟨m,hn,fun i x v V U e3=>?_⟩,fun x c e=>?_,I.hok.fresh (na _),fun x c e=>(f.each x c e).elim (fun z=>I.freeC x c z) (fun z=>I.hok.fresh (ma z.1)),fun p hp=>?_,I.hok.kept E,?_⟩
 .have a:(Tx js A)[i]?=some (some v):=U
  unfold Tx at a
  rw[Aw] at a
  cases q:js[i]? with
  | none=>rw[q] at a;cases a
  | some o=>
   rw[q] at a
   cases o with
   | none=>cases a
   | some j=>
    have J:(A[j]?).join=some v:=Hb a
    let⟨hN,t⟩:=S.cap i x j V q
    have K:A[j]?=some (some v):=by
     cases z:A[j]? with
     | none=>rw[z] at J;cases J
     | some o=>rw[z] at J;show congrArg some J
    let⟨m0,z0,hl⟩:=I.loc
    let⟨c,hc,R⟩:=f.free x t
    have hv:Vis X.env.scope x:=(S.free x t).elim (fun z=> .inr (.inl z)) fun z=> .inr (.inr z)
    let⟨u,r,l⟩:=hl j x v hN K hv
    refine⟨u,r,.inr ⟨?_,c,hc,?_⟩⟩
    .exact S.seen x t
    .rcases l with⟨kl,_⟩ | ⟨_,Y,F,G⟩
     .rcases S.free x t with y | y<;>(have z:=y.symm.trans (show X.env.scope.names.lookup x=some .local from kl);cases z)
     .rw[R] at F
      cases F
      let⟨o,O,Q⟩:=G
      show⟨o,E _ _ O,Q⟩
 .rcases f.each x c e with z | z
  .let⟨v,o,O,Q⟩:=I.cell x c z
   show⟨v,o,E _ _ O,Q⟩
  .exact⟨none,z.2⟩
 .have M:p∈X.pn++pins:=(Au.mp hp).elim (fun z=>z) fun z=>absurd z (by simp)
  let⟨e,n,ne,nf,d⟩:=I.pin p M
  refine⟨E _ _ e,n,nj (Ax e),fun z=>?_,d⟩
  rcases Aq.mp (I.stkSub p.1 z) with y | y
  .exact ne y
  .exact nf y
 .show(Tx js A).length=N'.length
  unfold Tx
  rw[Ag];show S.len
end
section
variable{X:Cx}{elt tg iter c:Expr}{scope:Scope}{pos:Pos}{N':LS}{js:List (Option Nat)}{wi:TI}{g:TG}{te:TE}{tc:TT}
def Zh9(js:List (Option Nat))(wi:TI)(g:TG)(te:TE):TE:=fun f H Q=>wi f H fun J k=>∀D,k D=none->∃W:Nat->Nat->L2.St->Hp->Prop,(∃m,W 0 m (Tx js f) (upd k D (.lst [])))/\
 ∀i m b e,W i m b e->(J.stop i e/\Q (.ref D) e)\/(J.go i e/\∀x l,J.yld i e x l->g x b l fun d n=>te d n fun y j=>∃a,j D=some (.lst a)/\a.length<sizeLine/\
  ∃h,h<m/\W (i+1) h d (upd j D (.lst (a++[y]))))
def Zt6(js:List (Option Nat))(wi:TI)(g:TG)(tc:TT)(te:TE):TE:=fun j H Q=>wi j H fun J n=>∀D,n D=none->∃W:Nat->Nat->L2.St->Hp->Prop,(∃m,W 0 m (Tx js j) (upd n D (.lst [])))/\
 ∀i m e h,W i m e h->(J.stop i h/\Q (.ref D) h)\/(J.go i h/\∀x o,J.yld i h x o->g x e o fun a p=>tc a p fun b l=>if b=true then te a l fun y k=>∃d,k D=some (.lst d)/\d.length<sizeLine/\
  ∃f,f<m/\W (i+1) f a (upd k D (.lst (d++[y]))) else ∃f,f<m/\W (i+1) f a l)
def Qa{pins:PLO}{σ:L2.St}{H2:Hp}{s2:Ug}{cl:List (Str×Uh)}{it:Uh}{fp:List Uh}{tn:Nat->Uk->Prop}{J:It}{QD:Uh->Hp->Prop}{R:Uf->Uh->Result->Ug->Prop}{E:VSP}
  (hc:X.calm=true) (S:CompScope X.env.scope X.N N' js scope) (c1:∀x c,cl.lookup x=some c->X.env.cells.lookup x=some c) (c2:∀n,(n,Dy)∈scope.names->∃c,cl.lookup n=some c)
  (hg:∀cl C fp pins s H,PG (cxC X N' scope cl C fp pins s H) tg g) (he:∀cl C fp pins s H,PE (cxC X N' scope cl C fp pins s H) elt te)
  (I2:Inv X pins σ H2 s2) (T:Turn X.prog X.w X.K tg J fp it tn) (st2:tn 0 s2.heap) (f2:∀b∈fp,FpOk X pins H2 b)
  (q:∀D,H2 D=none->∃W:Nat->Nat->L2.St->Hp->Prop,(∃m,W 0 m (Tx js σ) (upd H2 D (.lst [])))/\
   ∀i m σc Hc,W i m σc Hc->(J.stop i Hc/\QD D Hc)\/(J.go i Hc/\∀x H',J.yld i Hc x H'->g x σc H' fun σ2 H2=>te σ2 H2 fun y H4=>∃acc,H4 D=some (.lst acc)/\acc.length<sizeLine/\
    ∃m',m'<m/\W (i+1) m' σ2 (upd H4 D (.lst (acc++[y])))))
  (back:∀(D C:Uh) (Hc:Hp) (s4:Ug),(∃m,s4.heap.Ns C m)->Inv X pins σ Hc s4->Hc C=none->C≠X.env.locals->X.s₀.heap.objs.size<=C->(∀x c,X.env.cells.lookup x=some c->c≠C)->(∀p∈X.pn++pins,p.1≠C)->QD D Hc->R (.ref D) C (.ok .next) s4):
  ⇑X (newList []) (fun acc s3=>⇑X (newFunctionEnv scope X.env.globals cl [] X.env.qual none .none (some X.env)) (fun cenv s4=>
   codeAny (model X.prog X.w) X.A (.compStart (.ListComp elt [⟨tg,iter,[],0⟩] scope pos) 0 (.ref it) acc {cenv with scope:=relabel scope X.env}) (R acc cenv.locals) s4) E s3) E s2:=by
 refine Kw (Pb ?_)
 dsimp only
 have I3:Inv X pins σ (upd H2 s2.heap.objs.size (.lst [])) {s2 with heap:=s2.heap.push {cls:= .type "list",data:= .seq ([]:LW).toArray}}:=I2.lnew (its:=[]) (t':=s2.toks) .nil (nq _)
 let⟨W,⟨m0,w0⟩,turn⟩:=q s2.heap.objs.size I2.fresh
 have hob:=T.obj 0 _ st2
 have f3:∀b∈fp,FpOk X pins (upd H2 s2.heap.objs.size (.lst [])) b:=fun b hb=>by
  let⟨o,e,_⟩:=hob b hb
  show⟨by rw[Z7 (nj (Ax e))];show(f2 b hb).1,(f2 b hb).2⟩
 generalize hS3:(s2.heap.push {cls:= .type "list",data:= .seq ([]:LW).toArray}:Uk)=h3 at *
 have k23:∀b o,s2.heap.get? b=some o->h3.get? b=some o:=fun b o e=>by rw[<-hS3];show Ah _ e
 have hlt:∀b∈fp,b<h3.objs.size:=fun b hb=>by
  let⟨o,e,_⟩:=hob b hb
  show Ax (k23 b o e)
 have bc:=Pu S.nd I3 {cls:= .type "dict",data:= .dict #[]} c1 c2
 have hns:(pushCells (h3.push {cls:= .type "dict",data:= .dict #[]}) scope.names).Ns h3.objs.size (fun _=>none):=(Heap.Ns.new h3 (.type "dict")).keeps (pushCells_keeps _ _)
 have k31:∀b o,h3.get? b=some o->(pushCells (h3.push {cls:= .type "dict",data:= .dict #[]}) scope.names).get? b=some o:=fun b o e=>pushCells_keeps _ _ b o (Ah _ e)
 dsimp only at bc
 generalize cellsFrom (h3.objs.size+1) scope.names cl=cl' at bc ⊢
 generalize pushCells (h3.push {cls:= .type "dict",data:= .dict #[]}) scope.names=h1 at bc hns k31 ⊢
 have I4:=Pg (tk:=s2.toks) S I3 bc f3 hlt hns k31
 have st4:tn 0 h1:=T.keep 0 _ h1 st2 fun b hb o e=>k31 b o (k23 b o e)
 have nofs:∀b∈fp,b∉(cxC X N' scope cl' h3.objs.size fp pins {s2 with heap:=h3} (upd H2 s2.heap.objs.size (.lst []))).fs:=I4.ok.exfs
 have stat:∀{H':Hp},(∀b∈fp,H' b=none)->∀b∈fp,FpOk (cxC X N' scope cl' h3.objs.size fp pins {s2 with heap:=h3} (upd H2 s2.heap.objs.size (.lst []))) [] H' b:=fun{H'} hn b hb=>
  ⟨hn b hb,nj (hlt b hb),nofs b hb,.inl hb,fun x c e=>(bc.each x c e).elim (fun z=>(f3 b hb).2.2.2.2.1 x c z) (fun z q=>absurd z.1 (Nat.lt_asymm (by rw[q];show hlt b hb))),fun p hp=>(f3 b hb).2.2.2.2.2 p (by simpa[cxC] using hp)⟩
 have loop:codeAny (model X.prog X.w) X.A (.compLoop (.ListComp elt [⟨tg,iter,[],0⟩] scope pos) 0 (.ref it) (.ref s2.heap.objs.size) (compEnvC scope cl' h3.objs.size X.env))
   (R (.ref s2.heap.objs.size) h3.objs.size) {s2 with heap:=h1,toks:=s2.toks}:=by
  refine Z20 (fun n s'=>∃i σc Hc,Inv (cxC X N' scope cl' h3.objs.size fp pins {s2 with heap:=h3} (upd H2 s2.heap.objs.size (.lst []))) [] σc Hc s'/\tn i s'.heap/\(∀b∈fp,Hc b=none)/\W i n σc Hc) ?_ m0
   ⟨0,_,_,I4,st4,fun b hb=>(f3 b hb).1,w0⟩
  rintro n z ⟨i,σc,Hc,Iz,stz,frz,wz⟩
  rcases turn i n σc Hc wz with⟨stop,qd⟩ | ⟨go,step⟩
  .refine thn (T.done (cxC X N' scope cl' h3.objs.size fp pins {s2 with heap:=h3} (upd H2 s2.heap.objs.size (.lst []))) rfl rfl rfl hc i [] z σc Hc noE Iz (stat frz) stz stop) fun r s4 zz45=>?_
   let⟨hr,I5⟩:=zz45
   subst hr
   have J5:Inv X pins σ Hc s4:=I3.call' (s':=s4) I5.os I5.base I5.hok I5.bare fun b hb=>⟨(f3 b hb).2.2.2.1,(f3 b hb).2.1,(f3 b hb).2.2.2.2.1,(f3 b hb).2.2.2.2.2⟩
   let⟨m,hm,_⟩:=I5.loc
   refine back _ _ Hc s4 ⟨m,hm⟩ J5 I5.free (nr I3.lt) (ni I3.ok.above (ma I3.lt)) (fun x c e z=>?_) (fun p hp z=>?_) qd
   .let⟨v,q⟩:=I3.cell x c e
    show absurd q.lt (by rw[z];show nv _)
   .exact absurd (Ax (I3.pin p hp).1) (by rw[z];show nv _)
  .refine thn (T.item (cxC X N' scope cl' h3.objs.size fp pins {s2 with heap:=h3} (upd H2 s2.heap.objs.size (.lst []))) rfl rfl rfl hc i [] z σc Hc noE Iz (stat frz) stz go) fun r s4 zz46=>?_
   let⟨u,hr,h4⟩:=zz46
   subst hr
   refine thn h4 fun _ s5 zz47=>?_
   let⟨x,H5,I5,r5,y5,st5,fr5⟩:=zz47
   have I5':=I5.pinned (stat fr5) (T.obj _ _ st5)
   refine thn (hg _ _ _ _ _ _ _ s5 σc H5 x u _ I5' r5 (step x H5 y5)) fun _ s6 zz48=>?_
   let⟨σ6,H6,I6,q6⟩:=zz48
   refine thn (he _ _ _ _ _ _ _ s6 σ6 H6 _ I6 q6) fun v s7 zz49=>?_
   let⟨y,H7,I7,r7,acc,hD,hlen,m',hm,w7⟩:=zz49
   refine thn (Q8 _ s7 σ6 H7 (.ref s2.heap.objs.size) [y] (.ref s2.heap.objs.size) [v] (fun _ H8=>H8=upd H7 s2.heap.objs.size (.lst (acc++[y]))) I7 rfl (.cons r7 .nil) ⟨_,acc,y,rfl,rfl,hD,hlen,rfl⟩) fun _ s8 zz50=>?_
   let⟨_,H8,I8,_,e8⟩:=zz50
   subst e8
   refine⟨m',hm,i+1,σ6,_,I8.unpinned,T.keep _ _ _ st5 fun b hb o e=>(I8.pin (b,o) (Dd _ (Dd _ (Y3 hb e)))).1,fun b hb=>?_,w7⟩
   let⟨o,e,d⟩:=T.obj _ _ st5 b hb
   show(I8.pin (b,o) (Dd _ (Dd _ (Y3 hb e)))).2.1
 show codeAny_compStart_list loop (T.self _ 0 _ _ _ st4 loop)
def Cs(M:X.calm=true)(E:Xw X.env.scope X.N N' js scope=true)(hi:PI X tg iter wi)(K:∀a C fp pins s H,PG (cxC X N' scope a C fp pins s H) tg g)(L:∀a C fp pins s H,PE (cxC X N' scope a C fp pins s H) elt te)
  (B:∀x,foldedSetIterable iter X.env x=pure x:=by intro _;rfl):PE X (.ListComp elt [⟨tg,iter,[],0⟩] scope pos) (Zh9 js wi g te):=by
 intro pins s l H Q I h
 have S:=CompScope.of E
 let⟨a,i,c1,Z⟩:=Wg (scope:=scope) (env:=X.env) fun n F=>I.ok.has n (S.free n F)
 rw[eval_ListComp]
 refine Lz (use:=none) rfl B i S.kind S.loc (thn (hi pins s l H _ I h) fun v s1 U=>thn U fun z s2 P=>?_)
 let⟨it,fp,tn,J,H2,e,I2,T,d,W,t⟩:=P
 subst e
 refine Qa (QD:=fun D k=>Q (.ref D) k) (R:=fun j C=>compPost (model X.prog X.w) X.A X.xe none (EP X pins l Q) j C) M S c1 Z K L I2 T d W t ?_
 rintro D C k q ⟨m,G⟩ J4 V y p Y u r
 refine⟨m,G,fun h' f=>⟨.ref D,k,?_,rfl,r⟩⟩
 show J4.turned (t':=q.toks) (fun b o O e=>(f.2 b O).trans e) V y (.inr p) Y u
def Yc9(i:Nat)(js:List (Option Nat))(wi:TI)(g:TG)(te:TE):TS:=fun D a H=>Zh9 js wi g te a H fun v b=>D.nx (a.set i (some v)) b
def Zs6{i:Nat}{x:Str}{f d:Pos}(hc:X.calm=true)(ho:Xw X.env.scope X.N N' js scope=true)(hN:X.N.Nodup)(Z:X.N[i]?=some x)(G:X.env.scope.names.lookup x=some .local)(hi:PI X tg iter wi)
  (hg:∀l C fp pins s H,PG (cxC X N' scope l C fp pins s H) tg g) (he:∀l C fp pins s H,PE (cxC X N' scope l C fp pins s H) elt te)
  (r:swapsWith (.ListComp elt [⟨tg,iter,[],0⟩] scope pos) (some (.Name x f)) d.line X.env=pure true)
  (hs:∀x,foldedSetIterable iter X.env x=pure x:=by intro _;rfl):PS X (.Assign [.Name x f] (.ListComp elt [⟨tg,iter,[],0⟩] scope pos) d) (Yc9 i js wi g te):=by
 intro pins s p H D I h
 have S:=CompScope.of ho
 let⟨l,u,c1,c2⟩:=Wg (scope:=scope) (env:=X.env) fun n hn=>I.ok.has n (S.free n hn)
 rw[exec_Assign_Name_used _ _ _ _ r]
 refine Ad (Lm (Ad ?_))
 change wpAny _ _ (do let _ <-comprehension (.ListComp elt [⟨tg,iter,[],0⟩] scope pos) scope X.env _ (newList []) false (eval iter X.env) (some (assign (.Name x f) X.env))) _ _ s
 refine Ad (Dx (Lz (use:=some (assign (.Name x f) X.env)) (Q:=fun _ k=>SP X pins D .next k) rfl hs u S.kind S.loc (thn (hi pins s p H _ I h) fun v s1 h1=>thn h1 fun Y s2 h2=>?_)) (fun _ k hq=>Am (Am hq)) fun _ _ e=>e)
 let⟨it,fp,tn,J,H2,e,I2,T,q,f2,V⟩:=h2
 subst e
 refine Qa (QD:=fun j E=>D.nx (p.set i (↑j)) E) (R:=fun B C=>compPost (model X.prog X.w) X.A X.xe (some (assign (.Name x f) X.env)) (fun _ k=>SP X pins D .next k) B C) hc S c1 c2 hg he I2 T q f2 V ?_
 rintro j C E P ⟨m,hm⟩ J4 fC F M K W U
 change wpAny _ _ (assign (.Name x f) X.env (.ref j)) _ _ P
 refine wpAny_assign_Name (Q4 J4 hN Z (.inl G) (v:= .ref j) rfl (fun O J5 zz51=>?_) (.inr G))
 let⟨a,L,ha⟩:=zz51
 have y:C≠a:=by
  rcases ha with z | z
  .rw[z];show F
  .exact(K x a z).symm
 refine⟨m,hm.sameBut L y,fun h' t=>⟨p.set i (↑j),E,?_,U⟩⟩
 show J5.turned (t':=O.toks) (fun b o hb e=>(t.2 b hb).trans e) fC F (.inr M) K W
def Qr{pins:PLO}{σ:L2.St}{H2:Hp}{s2:Ug}{cl:List (Str×Uh)}{it:Uh}{fp:List Uh}{tn:Nat->Uk->Prop}{J:It}{QD:Uh->Hp->Prop}{R:Uf->Uh->Result->Ug->Prop}{E:VSP}
  (hc:X.calm=true) (S:CompScope X.env.scope X.N N' js scope) (c1:∀x c,cl.lookup x=some c->X.env.cells.lookup x=some c) (c2:∀n,(n,Dy)∈scope.names->∃c,cl.lookup n=some c)
  (hg:∀cl C fp pins s H,PG (cxC X N' scope cl C fp pins s H) tg g) (hq:∀cl C fp pins s H,PT (cxC X N' scope cl C fp pins s H) c tc) (he:∀cl C fp pins s H,PE (cxC X N' scope cl C fp pins s H) elt te)
  (I2:Inv X pins σ H2 s2) (T:Turn X.prog X.w X.K tg J fp it tn) (st2:tn 0 s2.heap) (f2:∀b∈fp,FpOk X pins H2 b)
  (q:∀D,H2 D=none->∃W:Nat->Nat->L2.St->Hp->Prop,(∃m,W 0 m (Tx js σ) (upd H2 D (.lst [])))/\
   ∀i m σc Hc,W i m σc Hc->(J.stop i Hc/\QD D Hc)\/(J.go i Hc/\∀x H',J.yld i Hc x H'->g x σc H' fun σ2 H2=>tc σ2 H2 fun b H3=>if b=true then te σ2 H3 fun y H4=>∃acc,H4 D=some (.lst acc)/\acc.length<sizeLine/\
    ∃m',m'<m/\W (i+1) m' σ2 (upd H4 D (.lst (acc++[y]))) else ∃m',m'<m/\W (i+1) m' σ2 H3))
  (back:∀(D C:Uh) (Hc:Hp) (s4:Ug),(∃m,s4.heap.Ns C m)->Inv X pins σ Hc s4->Hc C=none->C≠X.env.locals->X.s₀.heap.objs.size<=C->(∀x c,X.env.cells.lookup x=some c->c≠C)->(∀p∈X.pn++pins,p.1≠C)->QD D Hc->R (.ref D) C (.ok .next) s4):
  ⇑X (newList []) (fun acc s3=>⇑X (newFunctionEnv scope X.env.globals cl [] X.env.qual none .none (some X.env)) (fun cenv s4=>
   codeAny (model X.prog X.w) X.A (.compStart (.ListComp elt [⟨tg,iter,[c],0⟩] scope pos) 0 (.ref it) acc {cenv with scope:=relabel scope X.env}) (R acc cenv.locals) s4) E s3) E s2:=by
 refine Kw (Pb ?_)
 dsimp only
 have I3:Inv X pins σ (upd H2 s2.heap.objs.size (.lst [])) {s2 with heap:=s2.heap.push {cls:= .type "list",data:= .seq ([]:LW).toArray}}:=I2.lnew (its:=[]) (t':=s2.toks) .nil (nq _)
 let⟨W,⟨m0,w0⟩,turn⟩:=q s2.heap.objs.size I2.fresh
 have hob:=T.obj 0 _ st2
 have f3:∀b∈fp,FpOk X pins (upd H2 s2.heap.objs.size (.lst [])) b:=fun b hb=>by
  let⟨o,e,_⟩:=hob b hb
  show⟨by rw[Z7 (nj (Ax e))];show(f2 b hb).1,(f2 b hb).2⟩
 generalize hS3:(s2.heap.push {cls:= .type "list",data:= .seq ([]:LW).toArray}:Uk)=h3 at *
 have k23:∀b o,s2.heap.get? b=some o->h3.get? b=some o:=fun b o e=>by rw[<-hS3];show Ah _ e
 have hlt:∀b∈fp,b<h3.objs.size:=fun b hb=>by
  let⟨o,e,_⟩:=hob b hb
  show Ax (k23 b o e)
 have bc:=Pu S.nd I3 {cls:= .type "dict",data:= .dict #[]} c1 c2
 have hns:(pushCells (h3.push {cls:= .type "dict",data:= .dict #[]}) scope.names).Ns h3.objs.size (fun _=>none):=(Heap.Ns.new h3 (.type "dict")).keeps (pushCells_keeps _ _)
 have k31:∀b o,h3.get? b=some o->(pushCells (h3.push {cls:= .type "dict",data:= .dict #[]}) scope.names).get? b=some o:=fun b o e=>pushCells_keeps _ _ b o (Ah _ e)
 dsimp only at bc
 generalize cellsFrom (h3.objs.size+1) scope.names cl=cl' at bc ⊢
 generalize pushCells (h3.push {cls:= .type "dict",data:= .dict #[]}) scope.names=h1 at bc hns k31 ⊢
 have I4:=Pg (tk:=s2.toks) S I3 bc f3 hlt hns k31
 have st4:tn 0 h1:=T.keep 0 _ h1 st2 fun b hb o e=>k31 b o (k23 b o e)
 have nofs:∀b∈fp,b∉(cxC X N' scope cl' h3.objs.size fp pins {s2 with heap:=h3} (upd H2 s2.heap.objs.size (.lst []))).fs:=I4.ok.exfs
 have stat:∀{H':Hp},(∀b∈fp,H' b=none)->∀b∈fp,FpOk (cxC X N' scope cl' h3.objs.size fp pins {s2 with heap:=h3} (upd H2 s2.heap.objs.size (.lst []))) [] H' b:=fun{H'} hn b hb=>
  ⟨hn b hb,nj (hlt b hb),nofs b hb,.inl hb,fun x c e=>(bc.each x c e).elim (fun z=>(f3 b hb).2.2.2.2.1 x c z) (fun z q=>absurd z.1 (Nat.lt_asymm (by rw[q];show hlt b hb))),fun p hp=>(f3 b hb).2.2.2.2.2 p (by simpa[cxC] using hp)⟩
 have loop:codeAny (model X.prog X.w) X.A (.compLoop (.ListComp elt [⟨tg,iter,[c],0⟩] scope pos) 0 (.ref it) (.ref s2.heap.objs.size) (compEnvC scope cl' h3.objs.size X.env))
   (R (.ref s2.heap.objs.size) h3.objs.size) {s2 with heap:=h1,toks:=s2.toks}:=by
  refine Z00 (fun n s'=>∃i σc Hc,Inv (cxC X N' scope cl' h3.objs.size fp pins {s2 with heap:=h3} (upd H2 s2.heap.objs.size (.lst []))) [] σc Hc s'/\tn i s'.heap/\(∀b∈fp,Hc b=none)/\W i n σc Hc) ?_ m0
   ⟨0,_,_,I4,st4,fun b hb=>(f3 b hb).1,w0⟩
  rintro n z ⟨i,σc,Hc,Iz,stz,frz,wz⟩
  rcases turn i n σc Hc wz with⟨stop,qd⟩ | ⟨go,step⟩
  .refine thn (T.done (cxC X N' scope cl' h3.objs.size fp pins {s2 with heap:=h3} (upd H2 s2.heap.objs.size (.lst []))) rfl rfl rfl hc i [] z σc Hc noE Iz (stat frz) stz stop) fun r s4 zz52=>?_
   let⟨hr,I5⟩:=zz52
   subst hr
   have J5:Inv X pins σ Hc s4:=I3.call' (s':=s4) I5.os I5.base I5.hok I5.bare fun b hb=>⟨(f3 b hb).2.2.2.1,(f3 b hb).2.1,(f3 b hb).2.2.2.2.1,(f3 b hb).2.2.2.2.2⟩
   let⟨m,hm,_⟩:=I5.loc
   refine back _ _ Hc s4 ⟨m,hm⟩ J5 I5.free (nr I3.lt) (ni I3.ok.above (ma I3.lt)) (fun x c e z=>?_) (fun p hp z=>?_) qd
   .let⟨v,q⟩:=I3.cell x c e
    show absurd q.lt (by rw[z];show nv _)
   .exact absurd (Ax (I3.pin p hp).1) (by rw[z];show nv _)
  .refine thn (T.item (cxC X N' scope cl' h3.objs.size fp pins {s2 with heap:=h3} (upd H2 s2.heap.objs.size (.lst []))) rfl rfl rfl hc i [] z σc Hc noE Iz (stat frz) stz go) fun r s4 zz53=>?_
   let⟨u,hr,h4⟩:=zz53
   subst hr
   refine thn h4 fun _ s5 zz54=>?_
   let⟨x,H5,I5,r5,y5,st5,fr5⟩:=zz54
   have I5':=I5.pinned (stat fr5) (T.obj _ _ st5)
   refine thn (hg _ _ _ _ _ _ _ s5 σc H5 x u _ I5' r5 (step x H5 y5)) fun _ s6 zz55=>?_
   let⟨σ6,H6,I6,q6⟩:=zz55
   refine thn (hq _ _ _ _ _ _ _ s6 σ6 H6 _ I6 q6) fun ok s6' zz56=>?_
   let⟨H6',I6',q6'⟩:=zz56
   cases ok with
   | false=>
    rw[nc Bf9] at q6' ⊢
    let⟨m',hm,w7⟩:=q6'
    refine⟨m',hm,i+1,σ6,_,I6'.unpinned,T.keep _ _ _ st5 fun b hb o e=>(I6'.pin (b,o) (Dd _ (Dd _ (Y3 hb e)))).1,fun b hb=>?_,w7⟩
    let⟨o,e,d⟩:=T.obj _ _ st5 b hb
    show(I6'.pin (b,o) (Dd _ (Dd _ (Y3 hb e)))).2.1
   | true=>
   rw[ng rfl] at q6' ⊢
   refine thn (he _ _ _ _ _ _ _ s6' σ6 H6' _ I6' q6') fun v s7 zz57=>?_
   let⟨y,H7,I7,r7,acc,hD,hlen,m',hm,w7⟩:=zz57
   refine thn (Q8 _ s7 σ6 H7 (.ref s2.heap.objs.size) [y] (.ref s2.heap.objs.size) [v] (fun _ H8=>H8=upd H7 s2.heap.objs.size (.lst (acc++[y]))) I7 rfl (.cons r7 .nil) ⟨_,acc,y,rfl,rfl,hD,hlen,rfl⟩) fun _ s8 zz58=>?_
   let⟨_,H8,I8,_,e8⟩:=zz58
   subst e8
   refine⟨m',hm,i+1,σ6,_,I8.unpinned,T.keep _ _ _ st5 fun b hb o e=>(I8.pin (b,o) (Dd _ (Dd _ (Y3 hb e)))).1,fun b hb=>?_,w7⟩
   let⟨o,e,d⟩:=T.obj _ _ st5 b hb
   show(I8.pin (b,o) (Dd _ (Dd _ (Y3 hb e)))).2.1
 show codeAny_compStart_list loop (T.self _ 0 _ _ _ st4 loop)
def Zr1(O:X.calm=true)(F:Xw X.env.scope X.N N' js scope=true)(hi:PI X tg iter wi)(L:∀a C fp pins s H,PG (cxC X N' scope a C fp pins s H) tg g)(E:∀a C fp pins s H,PT (cxC X N' scope a C fp pins s H) c tc)(M:∀a C fp pins s H,PE (cxC X N' scope a C fp pins s H) elt te)
  (B:∀x,foldedSetIterable iter X.env x=pure x:=by intro _;rfl):PE X (.ListComp elt [⟨tg,iter,[c],0⟩] scope pos) (Zt6 js wi g tc te):=by
 intro pins s l H Q I h
 have S:=CompScope.of F
 let⟨a,i,c1,c2⟩:=Wg (scope:=scope) (env:=X.env) fun n G=>I.ok.has n (S.free n G)
 rw[eval_ListComp]
 refine Lz (use:=none) rfl B i S.kind S.loc (thn (hi pins s l H _ I h) fun v s1 V=>thn V fun z s2 U=>?_)
 let⟨it,fp,tn,J,H2,e,I2,T,d,Y,t⟩:=U
 subst e
 refine Qr (QD:=fun D k=>Q (.ref D) k) (R:=fun j C=>compPost (model X.prog X.w) X.A X.xe none (EP X pins l Q) j C) O S c1 c2 L E M I2 T d Y t ?_
 rintro D C k q ⟨m,K⟩ J4 W y p Z u r
 refine⟨m,K,fun h' f=>⟨.ref D,k,?_,rfl,r⟩⟩
 show J4.turned (t':=q.toks) (fun b o P e=>(f.2 b P).trans e) W y (.inr p) Z u
def Yf4(i:Nat)(js:List (Option Nat))(wi:TI)(g:TG)(tc:TT)(te:TE):TS:=fun D a H=>Zt6 js wi g tc te a H fun v b=>D.nx (a.set i (some v)) b
def Zj7{i:Nat}{x:Str}{f d:Pos}(hc:X.calm=true)(ho:Xw X.env.scope X.N N' js scope=true)(hN:X.N.Nodup)(hx:X.N[i]?=some x)(K:X.env.scope.names.lookup x=some .local)(hi:PI X tg iter wi)
  (hg:∀j C fp pins s H,PG (cxC X N' scope j C fp pins s H) tg g) (u:∀j C fp pins s H,PT (cxC X N' scope j C fp pins s H) c tc) (he:∀j C fp pins s H,PE (cxC X N' scope j C fp pins s H) elt te)
  (r:swapsWith (.ListComp elt [⟨tg,iter,[c],0⟩] scope pos) (some (.Name x f)) d.line X.env=pure true)
  (hs:∀x,foldedSetIterable iter X.env x=pure x:=by intro _;rfl):PS X (.Assign [.Name x f] (.ListComp elt [⟨tg,iter,[c],0⟩] scope pos) d) (Yf4 i js wi g tc te):=by
 intro pins s p H D I h
 have S:=CompScope.of ho
 let⟨j,y,c1,c2⟩:=Wg (scope:=scope) (env:=X.env) fun n hn=>I.ok.has n (S.free n hn)
 rw[exec_Assign_Name_used _ _ _ _ r]
 refine Ad (Lm (Ad ?_))
 change wpAny _ _ (do let _ <-comprehension (.ListComp elt [⟨tg,iter,[c],0⟩] scope pos) scope X.env _ (newList []) false (eval iter X.env) (some (assign (.Name x f) X.env))) _ _ s
 refine Ad (Dx (Lz (use:=some (assign (.Name x f) X.env)) (Q:=fun _ l=>SP X pins D .next l) rfl hs y S.kind S.loc (thn (hi pins s p H _ I h) fun v s1 h1=>thn h1 fun Z s2 h2=>?_)) (fun _ l u=>Am (Am u)) fun _ _ e=>e)
 let⟨it,fp,tn,J,H2,e,I2,T,q,f2,W⟩:=h2
 subst e
 refine Qr (QD:=fun k F=>D.nx (p.set i (↑k)) F) (R:=fun E C=>compPost (model X.prog X.w) X.A X.xe (some (assign (.Name x f) X.env)) (fun _ l=>SP X pins D .next l) E C) hc S c1 c2 hg u he I2 T q f2 W ?_
 rintro k C F U ⟨m,hm⟩ J4 fC G O L Y V
 change wpAny _ _ (assign (.Name x f) X.env (.ref k)) _ _ U
 refine wpAny_assign_Name (Q4 J4 hN hx (.inl K) (v:= .ref k) rfl (fun P J5 zz59=>?_) (.inr K))
 let⟨a,M,ha⟩:=zz59
 have B:C≠a:=by
  rcases ha with z | z
  .rw[z];show G
  .exact(L x a z).symm
 refine⟨m,hm.sameBut M B,fun h' t=>⟨p.set i (↑k),F,?_,V⟩⟩
 show J5.turned (t':=P.toks) (fun b o hb e=>(t.2 b hb).trans e) fC G (.inr O) L Y
end
end L3
namespace L3
open PySem
def ExAt(h:Uk)(e:Uh)(b:Uf)(f:Option Uh)(d:Uf):Prop:=∃a c,h.get? e=some a/\(a.cls=b/\a.dict=f)/\a.data= .fields c/\c[1]?=some d
def TbAt(h:Uk)(T:Uh)(c:Uf):Prop:=∃b a,h.get? T=some b/\b.data= .fields a/\a[3]?=some c
def ExAt.at{a:Uf}{c:Option Uh}{b:Uf}(x:ExAt h e a c b)(k:∀o,h.get? e=some o->h'.get? e=some o):ExAt h' e a c b:=
 let ⟨f,d,g,r⟩:=x;⟨f,d,k _ g,r⟩
def Qz(o:Obj)(f:Array Uf->Array Uf):(o.mapFields f).dict=o.dict:=by
 let⟨c,d,a,b⟩:=o;cases a<;>rfl
structure Flown(fs xs:List Uh)(h h':Uk):Prop where
 keep:∀b o,h.get? b=some o->b∉fs->b∉xs->h'.get? b=some o
 slot:∀b o,h.get? b=some o->b∈fs->b∉xs->∃sl,h'.get? b=some {o with slots:=sl}
 there:∀b o,h.get? b=some o->∃o',h'.get? b=some o'
def Flown.trans{i xs ys:List Uh}(a:Flown i xs h m)(b:Flown i ys m l)(k:∀z∈ys,z∈xs\/h.get? z=none):Flown i xs h l where
 keep:=fun c o e f d=>b.keep c o (a.keep c o e f d) f fun z=>(k c z).elim d fun q=>by rw[q] at e;cases e
 slot:=fun c o e f d=>by
  let⟨r,j⟩:=a.slot c o e f d
  let⟨g,p⟩:=b.slot c _ j f fun z=>(k c z).elim d fun q=>by rw[q] at e;cases e
  show⟨g,p⟩
 there:=fun c o e=>by let⟨n,j⟩:=a.there c o e;show b.there c n j
section
variable{M:Model}{A:Around}{E:VSP}{s:Ug}{base:Uk}{env:Env}{outer:List Env}{L e:Uh}{cls:Uf}{dd:Option Uh}{tb:Uf}
abbrev frsE(l:List Env):List Uh:=l.filterMap (·.frame)
def Zy9(g:s.heap.FunFrames base (env::outer))(d:ExAt s.heap e cls dd tb):e∉frsE (env::outer):=fun f=>by
 let⟨j,c,h,_,i,_⟩:=d
 let⟨_,o,a,b⟩:=g.mem f
 rw[h] at a;injection a with a;subst a;show b c i
def Gk{j:Uf}{g:Bool}{Q:Unit->Ug->Prop}(w:A.frames=some (env::outer))(C:s.heap.FunFrames base (env::outer))(G:env.frame=some L)(l:ExAt s.heap e cls dd tb)
  (h:∀h' T,s.heap.objs.size<=T->T≠e->ExAt h' e cls dd (.ref T)->TbAt h' T (rawInt L)->Flown (frsE (env::outer)) [e] s.heap h'->Q () {s with heap:=h'}):
  wpAny M A (do let a <-frameOf env;let u <-entryPlaceOf L g;let b <-EntryCells.newEntry j a .none (rawInt L) .none u;setField (.ref e) 1 b) Q E s:=by
 have r:=Zy9 C l
 let⟨F,D,H,⟨I,x⟩,y,i⟩:=l
 have m:1<D.size:=(Array.getElem?_eq_some_iff.mp i).1
 refine Ad (wpAny_frameOf_fun w C G fun i d=>?_)
 refine Ad (wpAny_entryPlaceOf fun u n=>?_)
 unfold EntryCells.newEntry newFields
 refine Ad (Kw ?_ (n.sizeOk5 _ _ _ _ _))
 generalize p:({cls:= .type "traceback",dict:=none,data:= .fields ([j,.ref L,.none,rawInt L,.none]++(if u.isEmpty then Hf 6 Value.none else u)).toArray}:Obj)=ob
 have f:i.get? e=some F:=(d.2.1 e r).trans H
 have v:ob.isFreed=false:=by rw[<-p];rfl
 refine wpAny_setField (Ah ob f) y m (h _ i.objs.size ?_ (nr (Ax f)) ?_ ?_ ?_)
 .exact Nat.le_of_eq d.1.symm
 .have t:=Mm y (·.setIfInBounds 1 (Value.ref i.objs.size))
  refine⟨_,_,Kd _ (Ah ob f) (Mp t),⟨(Obj.cls_mapFields _ _).trans I,(Qz _ _).trans x⟩,t,by simp[m]⟩
 .refine⟨ob,_,(Hn _ _ (nj (Ax f))).trans (Dn i v),by rw[<-p],?_⟩
  first | (simp;done) | (rcases n with rfl | ⟨_,_,_,_,_,_,_,rfl⟩<;>simp)
 .have c:∀b o,b≠e->i.get? b=some o->((i.push ob).update e (Mi (·.setIfInBounds 1 (Value.ref i.objs.size)))).get? b=some o:=fun b o k q=>by
   rw[Hn _ _ (Ia k)]
   show Ah _ q
  refine⟨fun b o q k l=>c b o ↥l ((d.2.1 b k).trans q),fun b o q k l=>?_,fun b o q=>?_⟩
  .let⟨B,z⟩:=d.2.2 b o q
   show⟨B,c b _ ↥l z⟩
  .let⟨B,z⟩:=d.2.2 b o q
   by_cases k:b=e
   .subst k
    show⟨_,Kd _ (Ah ob f) (Mp (Mm y _))⟩
   .exact⟨_,c b _ k z⟩
def Z03{Q:Unit->Ug->Prop}(a:A.frames=some (env::outer))(d:s.heap.FunFrames base (env::outer))(c:env.frame=some L)(b:ExAt s.heap e cls dd .none)
  (h:∀h' T,s.heap.objs.size<=T->T≠e->ExAt h' e cls dd (.ref T)->TbAt h' T (rawInt L)->Flown (frsE (env::outer)) [e] s.heap h'->Q () {s with heap:=h'}):
  wpAny M A (noteFrame (.ref e) env) Q E s:=by
 let⟨k,j,f,l,g,i⟩:=id b
 unfold noteFrame
 simp only[c]
 refine Ad (Mz f g i ?_)
 rw[nc 'd']
 show Gk a d c b h
def Gf{c:Uh}{Q:Unit->Ug->Prop}(n:A.frames=some (env::outer))(H:s.heap.FunFrames base (env::outer))(u:env.frame=some L)(g:ExAt s.heap e cls dd (.ref c))(G:TbAt s.heap c .none)(m:c≠e)
  (h:∀h' T,s.heap.objs.size<=T->T≠e->ExAt h' e cls dd (.ref T)->TbAt h' T (rawInt L)->Flown (frsE (env::outer)) [e,c] s.heap h'->Q () {s with heap:=h'}):
  wpAny M A (noteFrame (.ref e) env) Q E s:=by
 let⟨N,r,I,O,J,K⟩:=id g
 let⟨F,D,l,f,v⟩:=id G
 unfold noteFrame
 simp only[u]
 refine Ad (Mz I J K ?_)
 rw[ng (show(Value.ref c !=Value.none)=true from by simp)]
 refine Ad (Mz l f v ?_)
 rw[nc (show ¬((Value.none==rawInt L)=true) from by simp[rawInt])]
 refine Ad (wpAny_setField l f (Array.getElem?_eq_some_iff.mp v).1 ?_)
 have a:∀b,b≠c->(s.heap.update c (Mi (·.setIfInBounds 3 Value.none))).get? b=s.heap.get? b:=fun b d=>Hn _ _ (Ia d)
 have i:(s.heap.update c (Mi (·.setIfInBounds 3 Value.none))).get? c=some (F.mapFields (·.setIfInBounds 3 Value.none)):=Kd _ l (Mp (Mm f _))
 have j:∀b o,s.heap.get? b=some o->(∀r,o.data≠ .fields r)->b≠c:=fun b o d k q=>by
  rw[q,l] at d;injection d with d;subst d;show k D f
 have p:Flown (frsE (env::outer)) [e,c] s.heap (s.heap.update c (Mi (·.setIfInBounds 3 Value.none))):=by
  refine⟨fun b o q _ g=>(a b (by simp at g;show g.2)).trans q,fun b o q _ g=>⟨o.slots,(a b (by simp at g;show g.2)).trans q⟩,fun b o q=>?_⟩
  by_cases d:b=c
  .subst d;show⟨_,i⟩
  .exact⟨o,(a b d).trans q⟩
 refine Gk (s:={s with heap:=s.heap.update c (Mi (·.setIfInBounds 3 Value.none))}) n (H.of_keeps fun b o d k=>⟨o,(a b (j b o d k)).trans d,rfl⟩) u
  (g.at fun o q=>(a e (Ia m)).trans q) fun h' T C B y x w=>h h' T ?_ B y x (p.trans w fun z t=> .inl (by simp at t;simp[t]))
 show ni (Nat.le_of_eq (Heap.size_update ..).symm) C
def S3{c:Uh}{z:Uf}{k:Option Uh}{Q:Unit->Ug->Prop}(m:ExAt s.heap e cls dd (.ref c))(u:TbAt s.heap c z)(l:c≠e)
  (h:∀h',ExAt h' e cls dd (.ref c)->TbAt h' c (k.elim Value.none fun f=>rawInt f)->(∀b o,b≠c->s.heap.get? b=some o->h'.get? b=some o)->(∀b o,s.heap.get? b=some o->∃t,h'.get? b=some t)->Q () {s with heap:=h'}):
  wpAny M A (setFlight (.ref e) k) Q E s:=by
 let⟨C,B,v,D,w,y⟩:=id m
 let⟨r,p,n,i,x⟩:=id u
 have g:3<p.size:=(Array.getElem?_eq_some_iff.mp x).1
 have a:∀b,b≠c->(s.heap.update c (Mi (·.setIfInBounds 3 (k.elim Value.none fun f=>rawInt f)))).get? b=s.heap.get? b:=fun b j=>Hn _ _ (Ia j)
 have d:(s.heap.update c (Mi (·.setIfInBounds 3 (k.elim Value.none fun f=>rawInt f)))).get? c=some (r.mapFields (·.setIfInBounds 3 (k.elim Value.none fun f=>rawInt f))):=Kd _ n (Mp (Mm i _))
 unfold setFlight
 refine Ad (Mz v w y ?_)
 rw[ng (show(Value.ref c !=Value.none)=true from by simp)]
 refine wpAny_setField n i g (h _ (m.at fun o q=>(a e (Ia l)).trans q) ⟨_,_,d,Mm i _,by simp[g]⟩ (fun b o j q=>(a b j).trans q) fun b o q=>?_)
 by_cases j:b=c
 .subst j;show⟨_,d⟩
 .exact⟨o,(a b j).trans q⟩
end
end L3
namespace L3
open PySem PySem.W
abbrev Jm(rest:LW):Obj:={cls:= .type "tuple",data:= .seq rest.toArray}
abbrev Qu(C t:Uh):Obj:={cls:= .ref C,data:= .fields #[.ref t,.none,.none,.none,.bool false,.none]}
section
variable{prog:Ui}{w:Uj}{A:Around}{h:Uk}{g:Array GenState}{d:Drawn}{t:Nat}{os:OsState}
variable{nm q:Str}{C N f:Uh}{bs bm:LW}{hdct:Bool}{sn:LS}{sub:LW}{ab:Bool}{col:Option Bool}{dd:Option Uh}{k0 k1 k2 k3 k5:Option Uf}{Bn newId inN:String}{bmN:LW}
structure ExcCls(h:Uk)(C:Uh)(nm q:Str)(N:Uh)(bs bm:LW)(hdct:Bool)(sn:LS)(sub:LW)(ab:Bool)(col:Option Bool)(dd:Option Uh)(k0 k1 k2 k3 k5:Option Uf)(Bn newId:String):Prop where
 obj:h.get? C=some (excClassObj nm q C N bs bm hdct sn sub ab col dd k0 k1 k2 k3 k5 newId)
 hB:(Value.ref C::bm).contains (.type Bn)=true
 hA:(Value.ref C::bm).contains (.type "AttributeError")=false
 hN:(Value.ref C::bm).contains (.type "NameError")=false
 hE:(Value.ref C::bm).contains (.type "BaseException")=true
def Za4{E:VSP}(b:ExcBaseFacts Bn newId inN bmN)(x:ExcCls h C nm q N bs bm hdct sn sub ab col dd k0 k1 k2 k3 k5 Bn newId)(e:Q () ⟨h,g,d,t,os⟩):
  wpAny M A (checkBuiltinCall newId ⟨.ref C::rest,[]⟩) Q E ⟨h,g,d,t,os⟩:=by
 have a:=x.obj
 have i:=x.hB
 have c:=b.noStar
 simp only[checkBuiltinCall,b.newKind,b.newSplit,b.newRow]
 repeat (first
  | refine Kx a ?_
  |(refine Me a ?_;rw[i])
  | refine wpAny_staticBase_exc a ?_
  | refine wpAny_madeBy_exc a ?_
  | simp only[bne_self_eq_false,Bool.false_eq_true,if_false]
  | wp_step)
 show e
def Y67(a:ExcBaseFacts Bn newId inN bmN)(x:ExcCls h C nm q N bs bm hdct sn sub ab col dd k0 k1 k2 k3 k5 Bn newId)
  (m:R (.ok (.ret (.ref (h.objs.size+1)))) ⟨(h.push (Jm rest)).push (Qu C h.objs.size),g,d,t,os⟩) (b:rest.length<=sizeLine):
  codeAny (model prog w) A (.builtin newId ⟨.ref C::rest,[]⟩) R ⟨h,g,d,t,os⟩:=by
 have c:=a.ends
 let⟨k,i,j,e,_⟩:=x
 refine codeAny_builtinAt a.entry ?_
 unfold Builtin.«BaseException.__new__»
 refine wpAt_bind ?_
 change wpAt _ _ _ (stack >>=_) _ _ _
 refine wpAt_bind (wpAt_stack fun p l=>wpAt_of_wpAny ?_)
 wp_walk
 refine wpAt_of_wpAny ?_
 rw[a.owner]
 repeat (first
  | with_reducible refine wpAny_madeHere_exc a.canon k ?_
  | with_reducible refine Kx k ?_
  |(with_reducible refine Me k ?_;first | rw[i] | rw[j] | rw[e])
  | wp_step)
 change R _ _
 rw[Uc]
 show m
def Zx9(e:Uh)(R:Result->Ug->Prop)(r:Result)(s':Ug):Prop:=match r with
 | .ok (.ret v)=>v= .none/\R (.ok (.ret (.ref e))) s'
 | .ok _=>False
 | .error z=>R (.error z) s'
def Zq0(n:ExcBaseFacts Bn newId inN bmN)(x:ExcCls h C nm q N bs bm hdct sn sub ab col dd k0 k1 k2 k3 k5 Bn newId)
  (hi:Looks (model prog w) h (typeLookup (.ref C) "__init__") (↑f)) (s:∀a,Looks (model prog w) h (bindSpecial (.ref f) a) (.ref f,[a]))
  (p:codeAny (model prog w) (A.under (.builtin "type.__call__" ⟨.ref C::rest,[]⟩)) (.call (.ref f) ⟨.ref (h.objs.size+1)::rest,[]⟩) (Zx9 (h.objs.size+1) R) ⟨(h.push (Jm rest)).push (Qu C h.objs.size),g,d,t,os⟩)
  (i:rest.length<=sizeLine):codeAny (model prog w) A (.call (.ref C) ⟨rest,[]⟩) R ⟨h,g,d,t,os⟩:=by
 have j:=x.obj
 have F:=tc_lookup
 have E:=tc_bind (.ref C)
 have D:(⟨h,g,d,t,os⟩:Ug).TypeIs (.ref C) "type":=⟨_,j,rfl⟩
 refine codeAny_of_tree ?_
 change wpAny _ _ (callAny (.ref C) _) _ _ _
 repeat (any_goals (first | assumption | with_reducible refine Kx j ?_ | wp_step))
 refine⟨rfl,?_⟩
 refine codeAny_call_builtin_at (Code.quiet_builtin _ 'k') entry_typeCall (wpAny_check_type_call_sub j ?_)
 repeat (first | with_reducible refine Kx j ?_ | with_reducible refine wpAny_madeBy_exc j ?_ | wp_step)
 refine codeAny_call_builtin_code (Code.quiet_builtin _ n.quiet) (Za4 n x ?_)
 refine Y67 n x ?_ i
 change wpAny _ _ _ _ _ _
 have k:∀b o,h.get? b=some o->((h.push (Jm rest)).push (Qu C h.objs.size)).get? b=some o:=fun b o e=>Ah _ (Ah _ e)
 have m:=k _ _ j
 have c:((h.push (Jm rest)).push (Qu C h.objs.size)).get? (h.objs.size+1)=some (Qu C h.objs.size):=by heap_get
 have l:(Value.ref C::bm).contains (.ref C)=true:=by simp
 have B:=hi.keeps k
 have G:=(s (.ref (h.objs.size+1))).keeps k
 have u:Looks (model prog w) ((h.push (Jm rest)).push (Qu C h.objs.size)) (typeOf (.ref (h.objs.size+1))) (.ref C):=(Looks.ld c).andThen .now
 unfold isInstance
 repeat (first | with_reducible refine Kx c ?_ | (with_reducible refine Me m ?_;rw[l]) | wp_step)
 change wpAny _ (A.under (.builtin "type.__call__" ⟨.ref C::rest,[]⟩)) (isSubtype (.ref C) (.ref C)) _ _ ⟨(h.push (Jm rest)).push (Qu C h.objs.size),g,d,t,os⟩
 refine Me m ?_
 rw[l]
 unfold callSpecial? specialOf
 repeat (first | simp only[Bool.not_true,Bool.false_eq_true,if_false] | with_reducible refine Lc ?_ | lk)
 refine Kr p fun r y z=>?_
 rcases r with e | (v | _ | _ | _)<;>first | show z | show z.elim | skip
 let⟨rfl,z⟩:=z
 show Am (Am z)
end
end L3
namespace L3
open PySem PySem.W PySem.Calls PyProof.Rows Builtin Builtin.ObjectAttr
def Bj(a:Uf):refuseLoop a "__setattr__" [.type "ValueError",.type "Exception",.type "BaseException",.type "object"]=pure ():=by
 kernel_rfl
structure ExcSet(K:Frag)(C:Uh)(name:Str):Prop where
 cls:∃cd own,clsIn K C=some cd/\cd.hasDict=true/\cd.mro=own++[.type "ValueError",.type "Exception",.type "BaseException",.type "object"]/\∀v∈own,∃a,v=Value.ref a
 no:findIn K (.ref C) name=some none
 set:findIn K (.ref C) "__setattr__"=some (some (.builtin "object.__setattr__"))
def Oe(b:Uf):∀own:LW,(∀v∈own,∃a,v=Value.ref a)->refuseLoop b "__setattr__" (own++[.type "ValueError",.type "Exception",.type "BaseException",.type "object"])=pure ()
 | [],_=>Bj b
 | v::r,h=>by
  let⟨a,rfl⟩:=h v Db
  rw[Ih,refuseLoop_ref]
  show Oe b r fun u c=>h u (Aj _ c)
section
variable{prog:Ui}{w:Uj}{A:Around}{K:Frag}{C e:Uh}{s:Ug}{name:Str}{R:Result->Ug->Prop}
def Zg4{tk:Tok}{v:Uf}{j:Obj}{vs:Array Uf}(X:K.In s.heap)(S:ExcSet K C name)(k:s.heap.get? e=some j)(G:j.cls= .ref C)(p:j.dict=none)(L:j.data= .fields vs)
  (h:∀h' u,h'.get? e=some {j with dict:=some s.heap.objs.size}->h'.Ns1 s.heap.objs.size (fun x=>if x=name then some v else none)->(∀b o,b≠e->s.heap.get? b=some o->h'.get? b=some o)->R (.ok (.ret .none)) {s with heap:=h',toks:=u}):
  codeAny (model prog w) A (.call (.builtin "object.__setattr__") ⟨[.ref e,.str name tk,v],[]⟩) R s:=by
 let⟨⟨I,l,i,E,g,m⟩,z,_⟩:=S
 have r:=PySem.F.store_object
 have t:Looks (model prog w) s.heap (typeOf (.ref e)) (.ref C):=by rw[<-G];show(Looks.ld k).andThen .now
 have N:I.mro.isEmpty=false:=by rw[g];cases l<;>rfl
 have O:I.mro.contains (.type "object")=true:=by rw[g];simp
 have y:Looks (model prog w) s.heap (isInstance (.ref e) (.type "object")) true:=t.andThen (looks_mroIn X (by unfold mroIn;rw[i,Go,nc (by rw[N];decide),O]))
 refine codeAny_call_builtin r.slot.plain r.entry (@check_slot (model prog w) _ _ s "object.__setattr__" "object" "__setattr__" (.ref e) [.str name tk,v] [] _ r.kind r.split y (r.args (.ref e) (.str name tk) v) ?_)
 have P:Looks (model prog w) s.heap (mroOf (.ref C)) I.mro:=(looks_clsIn X i).andThen .now
 rw[osa_eq,refuse_eq]
 refine Ad (Ad (t.here (Ad (P.here ?_))))
 rw[g,Oe _ l m]
 refine Am (Ad (t.here (Ad ((looks_findIn X z).here (Ad (Am ?_))))))
 change wpAny _ _ (storeInOwnDict (.ref e) (.ref C) (.str name tk) name v false) _ _ _
 let⟨c,T,V,U⟩:=j
 dsimp only at G p L
 subst G p L
 refine Ad (Am (Ad (Ad (wpAny_loadPart k (Ad ((looks_clsIn X i).here ?_))))))
 rw[E]
 change wpAny _ _ (alloc {cls:=Value.type "dict",data:=Data.dict #[]} >>=fun d=>update e (fun o=>{o with dict:=some d}) >>=fun _=>dictMade (.ref C) e d) _ _ s
 refine Ad (wpAny_alloc (Ad (wpAny_update (Ah _ k) ?_)))
 refine Am (a:=some s.heap.objs.size) ?_
 refine Ad (Am (Ad ?_))
 have D:((s.heap.push {cls:=Value.type "dict",data:=Data.dict #[]}).update e fun o=>{o with dict:=some s.heap.objs.size}).get? s.heap.objs.size=some {cls:=Value.type "dict",data:=Data.dict #[]}:=
  (Hn _ _ (nj (Ax k))).trans (Dn _ rfl)
 have M:∀f:Obj->Obj,(f {cls:=Value.type "dict",data:=Data.dict #[]}).isFreed=false->(((s.heap.push {cls:=Value.type "dict",data:=Data.dict #[]}).update e fun o=>{o with dict:=some s.heap.objs.size}).update s.heap.objs.size f).get? s.heap.objs.size=
   some (f {cls:=Value.type "dict",data:=Data.dict #[]}):=fun f Q=>Kd f D Q
 unfold nsSet
 refine Ad (Ad (wpAny_askSetting (Am (Ad (wpAny_mkText (Ad (wpAny_loadPart D ?_)))))))
 dsimp only
 rw[show aRefKeyMayBeTheName name #[]=false from rfl,nc Bf9]
 refine wpAny_updatePart D ?_
 refine Ad (wpAny_lookBehind (M _ rfl) ?_ ?_)
 .exact pastItsLine_dict (by change 1<=_;decide)
 refine Am ?_
 refine h _ _ ?_ ?_ ?_
 .rw[Hn _ _ (nr (Ax k))]
  show Kd _ (Ah _ k) rfl
 .refine⟨_,_,_,M _ rfl,rfl,?_,?_,?_⟩
  .change StrKeys #[(⟨_,.str name _,v⟩:DictEntry)]
   intro x J
   simp at J
   subst J
   show⟨name,_,rfl⟩
  .change UniqKeys #[(⟨_,.str name _,v⟩:DictEntry)]
   simp[UniqKeys]
  .intro n
   change nsFind #[(⟨_,.str name _,v⟩:DictEntry)] n=_
   by_cases B:n=name
   .subst B
    simp[nsFind,findBy,Value.isStr]
   .have H:(name==n)=false:=by simpa using Ia B
    simp[nsFind,findBy,Value.isStr,H,B]
 .intro b o H q
  rw[Hn _ _ (nr (Ax q)),Hn _ _ (Ia H)]
  show Ah _ q
def F9{v:Uf}{f:Obj}{vs:Array Uf}{E:VSP}{Q:Unit->Ug->Prop}(X:K.In s.heap)(S:ExcSet K C name)(i:s.heap.get? e=some f)(k:f.cls= .ref C)(g:f.dict=none)(j:f.data= .fields vs)
  (h:∀h' d,h'.get? e=some {f with dict:=some s.heap.objs.size}->h'.Ns1 s.heap.objs.size (fun x=>if x=name then some v else none)->(∀b o,b≠e->s.heap.get? b=some o->h'.get? b=some o)->Q () {s with heap:=h',toks:=d}):
  wpAny (model prog w) A (setAttr (.ref e) name v) Q E s:=by
 have J:InstAt s.heap e f C none:=⟨i,k,by unfold notCls;rw[j],by rw[g];trivial⟩
 show set_plain X J S.set (Zg4 (s:={s with toks:=s.toks+1}) X S i k g j fun h' d a b c=>h h' d a b c)
structure ExcGet(K:Frag)(C:Uh)(name:Str):Prop where
 cls:∃cd,clsIn K C=some cd/\cd.hasDict=true
 no:findIn K (.ref C) name=some none
 ga:findIn K (.ref C) "__getattribute__"=some (some (.builtin "BaseException.__getattribute__"))
 gh:findIn K (.ref C) "__getattr__"=some none
 base:mroIn K C (.type "BaseException")=some true
def Zc5(a:Uf):bindSpecial (.builtin "BaseException.__getattribute__") a=pure (.builtin "BaseException.__getattribute__",[a]):=by kernel_rfl
def Z58:builtinKind "BaseException.__getattribute__"=some .slot:='k'
def Ct:splitId "BaseException.__getattribute__"=some ("BaseException","__getattribute__"):='k'
def Bd:plainId "BaseException.__getattribute__"=true:='k'
def Zd9(a b:Uf):argsOk "BaseException.__getattribute__" ⟨[a,b],[]⟩:=by unfold argsOk;kernel_rfl
def Ec{v:Uf}{q od:Obj}{a:Bool}{E:VSP}{Q:VSP}(X:K.In s.heap)(S:ExcGet K C name)(J:InstAt s.heap e q C (some od))
  (u:lookIn name od=some (some v)) (x:handedIn v=true) (h:Q v {s with toks:=s.toks+1}):wpAny (model prog w) A (getAttr (.ref e) name a) Q E s:=by
 let⟨⟨z,m,b⟩,j,l,k,c⟩:=S
 let⟨r,g,d,t,G⟩:=s
 have y:findObj K C (some od) name=some (.value v):=by
  unfold findObj
  rw[m,Go,j,Go]
  show(W.ownOf z (some od) name).bind _=_
  unfold W.ownOf
  rw[b]
  simp only[if_true,u]
  rfl
 have o:=J.type (M:=model prog w)
 have D:=looks_findIn (M:=model prog w) X l
 have B:=looks_findIn (M:=model prog w) X k
 have n:=looks_find (M:=model prog w) X J y
 have f:Looks (model prog w) r (isInstance (.ref e) (.type "BaseException")) true:=o.andThen (looks_mroIn X c)
 unfold getAttr getAttrBy
 refine Ad (wpAny_mkText (Iv (Ad (o.at (Ad (D.at ?_))))))
 change wpAny _ _ (getAttrByItsOwn _ _ _ _ _ _) _ _ _
 unfold getAttrByItsOwn
 refine Ad (B.at (Ad (wpAny_attempt (Iv ?_))))
 have i:¬(a&&onTheHeap (Value.builtin "BaseException.__getattribute__"))=true:=by cases a<;>decide
 unfold callGetattribute
 rw[nc i]
 unfold boundAndCalled
 rw[Zc5]
 refine Ad (Am (Lc ?_))
 refine codeAny_call_builtin Bd F.entry_bexc_ga (@check_slot (model prog w) _ _ _ "BaseException.__getattribute__" "BaseException" "__getattribute__" (.ref e) [.str name t] [] _ Z58 Ct f (Zd9 (.ref e) (.str name t)) ?_)
 change wpAny _ _ (typeOf (.ref e) >>=fun p=>find (.ref e) p name >>=_) _ _ _
 refine Ad (o.at (Ad (n.at ?_)))
 refine Am ?_
 change wpAny _ _ (handedOut v) _ _ _
 rw[handedOut_of x]
 show Am h
end
end L3
namespace L3
open PySem PySem.Spec PyProof.Rows L2
def XO(e:Uh)(b:Uf)(f:Option Uh):HO:= .ext fun h=>∃a c d,h.get? e=some a/\(a.cls=b/\a.dict=f)/\a.data= .fields c/\c[1]?=some d
def XO.ok{w:Uj}{H:Hp}{c:Uf}{d:Uf}(x:ExAt h e c j d):Y6 P w H h e (XO e c j):=by
 let⟨f,g,i,p,o,n⟩:=x
 show⟨⟨f,g,d,i,p,o,n⟩,⟨f,i⟩,fun a b zz60 k=>by let⟨f,g,d,m,l⟩:=zz60;show⟨f,g,d,k _ m,l⟩⟩
def XO.at{w:Uj}{H:Hp}{a:Uf}{c:Option Uh}(x:Y6 P w H h e (XO e a c)):∃b,ExAt h e a c b:=by
 let⟨⟨k,d,b,j,i,g,f⟩,_⟩:=x
 show⟨b,k,d,j,i,g,f⟩
def CX1(P:Ui)(w:Uj):CXT:=fun a H s E e c=>∃(d T:Uh) (b:Uf) (g:Option Uh) (f:Hp),e= .ref d/\c.os=s.os/\AllBare c.gens/\Un (frs a) [] H f s.heap c.heap/\HOk P w f c.heap/\
 (s.heap.objs.size<=d/\s.heap.objs.size<=T)/\f d=some (XO d b g)/\(f T=none/\T≠d)/\ExAt c.heap d b g (.ref T)/\TbAt c.heap T .none/\E b g f
structure Leaves(X:Cx)(E:XK):Prop where
 stk:X.stack=X.env::X.outer
 fr:X.env.frame=some X.env.locals
 ex:X.ex=[]
 xe:∀e s',⇑X (leaving X.env e) (fun _ s''=>CX1 X.prog X.w X.outer X.H₀ X.s₀ E e s'') (fun e' s''=>CX1 X.prog X.w X.outer X.H₀ X.s₀ E e' s'') s'->X.xe e s'
def Gw{w:Uj}{K:Ac}{cd:Uf}{H:Hp}{E:XK}:
  Leaves (cxOf (CX1 P w) P w K mg base N qual scope f cd A outer s H E) E:=⟨rfl,rfl,rfl,fun _ _ h=>h⟩
def Ya6{w:Uj}{H:Hp}{a:Uh}{o:HO}(x:Y6 P w H h a o):∃u,h.get? a=some u:=by
 cases o with
 | lst c=>let⟨_,_,_,_,e⟩:=x;show⟨_,e⟩
 | tup c=>let⟨_,_,_,⟨_,e,_⟩⟩:=x;show⟨_,e⟩
 | dK b=>let⟨_,_,_,_,o,_,_,e,_⟩:=x;show⟨_,e⟩
 | dT b=>let⟨_,_,_,_,o,_,_,e,_⟩:=x;show⟨_,e⟩
 | set S n=>let⟨o,_,_,_,e,_⟩:=x;show⟨_,e⟩
 | ins C m d=>let⟨_,_,_,e,_⟩:=x;show⟨_,e⟩
 | own y=>show x
 | xd d=>let⟨_,⟨_,_,_,e,_⟩,_⟩:=x;show⟨_,e⟩
 | rng k l=>let⟨_,_,_,e⟩:=x;show⟨_,e⟩
 | frz j u=>let⟨e,_⟩:=x;show⟨_,e⟩
 | tbl i=>show⟨_,x⟩
 | met f y=>show⟨_,x⟩
 | ext g=>show x.2.1
section
variable{X:Cx}{E:XK}{pins:PLO}{σ:L2.St}{H:Hp}{s:Ug}{e T:Uh}{cls:Uf}{dd:Option Uh}{xs:List Uh}{h1:Uk}{fl:Uf}
def Gn{w:Uj}(g:HOk P w H h)(a:H e=some (XO e cls dd))(x:ExAt h' e cls dd f)(k:∀b u o,H b=some u->b≠e->h.get? b=some o->h'.get? b=some o):HOk P w H h':=fun b u q=>by
 by_cases d:b=e
 .subst d
  rw[a] at q
  cases q
  show XO.ok x
 .refine(g b u q).stay (fun c v i r=>?_) (fun _ z=>z) fun _ _ z=>z
  rcases i with z | z
  .rw[z] at r ⊢;show k b u v q d r
  .refine k c _ v z (fun y=>?_) r
   rw[y,a] at z
   cases z
def Oc(L:Leaves X E)(I:Inv X pins σ H s)(a:∀b∈xs,(H b=none\/b=e)/\X.s₀.heap.objs.size<=b)(Q:e∈xs)(F:H e=some (XO e cls dd))(j:s.heap.objs.size<=T)(k:T≠e)
  (J:ExAt h1 e cls dd (.ref T)) (N:TbAt h1 T fl) (f:Flown (frsE X.stack) xs s.heap h1) (R:E cls dd H):
  wpAny M A (setFlight (.ref e) none) (fun _ p=>CX1 X.prog X.w X.outer X.H₀ X.s₀ E (.ref e) p) U {s with heap:=h1}:=by
 have G:s.heap.get? T=none:=Heap.get?_none_of_le j
 refine S3 (s:={s with heap:=h1}) J N k fun W D K x l=>?_
 have h:∀b o,s.heap.get? b=some o->b≠T:=fun b o q z=>by rw[z,G] at q;cases q
 have v:∀b o,X.s₀.heap.get? b=some o->b∉frs X.outer->b∉frsE X.stack:=fun b o q d z=>by
  rw[L.stk] at z
  have C:b∈(X.env::X.outer).filterMap (·.frame):=z
  rw[Mb,L.fr] at C
  rcases Aq.mp C with y | y
  .exact absurd (Ax q) (by rw[y];show Nat.not_lt.mpr I.ok.above)
  .exact d y
 have i:∀b o,X.s₀.heap.get? b=some o->b∉xs:=fun b o q z=>absurd (Ax q) (Nat.not_lt.mpr (a b z).2)
 have c:∀b:Uh,b∉X.ex:=fun b z=>by rw[L.ex] at z;cases z
 have S:X.s₀.heap.objs.size<=T:=ni I.sz j
 refine⟨e,T,cls,dd,H,rfl,I.os,I.bare,⟨fun b o q n d _=>?_,fun b o q n d _=>?_,fun b o q n _=>I.base.free b o q n (c b),fun b o q _=>?_,I.base.tups,I.base.frzs,I.base.tbls⟩,?_,⟨(a e Q).2,S⟩,F,⟨?_,k⟩,D,K,R⟩
 .have g:=I.base.keep b o q n d (c b)
  show x b o (h b o g) (f.keep b o g (v b o q d) (i b o q))
 .let⟨V,g⟩:=I.base.slot b o q n d (c b)
  have B:b∈frsE X.stack:=by
   change b∈X.stack.filterMap (·.frame)
   rw[L.stk,Mb,L.fr]
   show Aj _ d
  let⟨m,t⟩:=f.slot b _ g B (i b o q)
  show⟨m,x b _ (h b _ g) t⟩
 .let⟨P,g⟩:=I.base.there b o q (c b)
  let⟨O,t⟩:=f.there b P g
  show l b O t
 .refine Gn I.hok F D fun b u o q d r=>x b o (h b o r) (f.keep b o r (fun z=>?_) fun z=>?_)
  .have:=I.stkFree b z
   rw[q] at this;cases this
  .rcases(a b z).1 with y | y
   .rw[q] at y;cases y
   .exact d y
 .cases q:H T with
  | none=>rfl
  | some u=>
   let⟨o,z⟩:=Ya6 (I.hok T u q)
   rw[G] at z;cases z
def Yl2(L:Leaves X E):Jj (CX1 X.prog X.w) X E:=by
 rintro pins σ H s e o I ⟨v,T,cls,dd,x,u,p,a,m,c,⟨t,r⟩,g1,⟨g2,g3⟩,l,n,q⟩
 subst u
 have J:Inv X pins σ x o:=I.call' (ch:=[]) p m c a fun b z=>absurd z (by simp)
 have f:∀b,s.heap.objs.size<=b->X.s₀.heap.objs.size<=b:=fun b d=>ni I.sz d
 refine L.xe _ _ ?_
 unfold leaving
 refine Ad (Gf (outer:=X.outer) (base:=X.base) (L:=X.env.locals) (by rw[<-L.stk];show J.ok.frames) (by rw[<-L.stk];show J.stack) L.fr l n g3 fun h1 y k j i h g=>?_)
 refine Oc (xs:=[v,T]) L J (fun b d=>?_) (by simp) g1 k j i h (by rw[L.stk];show g) q
 rcases Aq.mp d with z | z
 .rw[z];show⟨.inr rfl,f _ t⟩
 .rw[An.mp z];show⟨.inl g2,f _ r⟩
def Yb1(L:Leaves X E)(I:Inv X pins σ H s)(h:H e=some (XO e cls dd))(i:ExAt s.heap e cls dd .none)(h0:X.s₀.heap.objs.size<=e)(k:E cls dd H):X.xe (.ref e) s:=by
 refine L.xe _ _ ?_
 unfold leaving
 refine Ad (Z03 (outer:=X.outer) (base:=X.base) (L:=X.env.locals) (by rw[<-L.stk];show I.ok.frames) (by rw[<-L.stk];show I.stack) L.fr i fun h1 l g f d c a=>?_)
 refine Oc (xs:=[e]) L I (fun b j=>?_) (by simp) h g f d c (by rw[L.stk];show a) k
 rw[An.mp j];show⟨.inr rfl,h0⟩
def XN(e:Uh)(cls:Uf)(dd:Option Uh):HO:= .ext fun h=>ExAt h e cls dd .none
def XN.ok{w:Uj}{H:Hp}(x:ExAt h e cls dd .none):Y6 P w H h e (XN e cls dd):=by
 refine⟨x,?_,fun a b y k=>y.at k⟩
 let⟨c,_,h1,_⟩:=x
 show⟨c,h1⟩
def Y40{y:V}(I:Inv X pins σ H s)(he:H e=some (XN e (.ref C) none))(S:ExcSet X.K C f)(ry:RelV y u)
  (h:∀dx s',H dx=none->Inv X pins σ (upd (upd H dx (.xd [(f,y)])) e (XN e (.ref C) (some dx))) s'->Q () s'):wpAny (model X.prog X.w) A (setAttr (.ref e) f u) Q E' s:=by
 let⟨oe,vs,h1,⟨h2,h3⟩,h4,h5⟩:=(show ExAt s.heap e (.ref C) none .none from(I.hok e _ he).1)
 have nde:s.heap.objs.size≠e:=nr (Ax h1)
 have fr:H s.heap.objs.size=none:=I.hok.fresh (na _)
 refine F9 I.kIn S h1 h2 h3 h4 fun h' tk' a1 a2 a3=>h s.heap.objs.size _ fr (I.un (t':=tk') ⟨fun b o q n _ _=>?_,fun b o q n _ _=>?_,fun b o q n _=>?_,fun b o q _=>?_,fun b xs q=>?_,fun b o u q=>?_,fun b ps q=>?_⟩ fun b w' q=>?_)
 .exact a3 b o (fun z=>by rw[z,he] at n;cases n) q
 .exact⟨o.slots,a3 b o (fun z=>by rw[z,he] at n;cases n) q⟩
 .rw[Z7 (fun z=>by rw[z,he] at n;cases n),Z7 (nj (Ax q))];show n
 .by_cases hb:b=e
  .exact⟨_,by rw[hb];show a1⟩
  .exact⟨o,a3 b o hb q⟩
 .rw[Z7 (fun z=>by rw[z,he] at q;cases q),Z7 (fun z=>by rw[z,fr] at q;cases q)];show q
 .rw[Z7 (fun z=>by rw[z,he] at q;cases q),Z7 (fun z=>by rw[z,fr] at q;cases q)];show q
 .exact⟨#[],by rw[Z7 (fun z=>by rw[z,he] at q;cases q),Z7 (fun z=>by rw[z,fr] at q;cases q),q];simp⟩
 .by_cases hb:b=e
  .subst hb
   rw[Zd] at q
   cases q
   show XN.ok ⟨_,vs,a1,⟨h2,rfl⟩,h4,h5⟩
  .rw[Z7 hb] at q
   by_cases hd:b=s.heap.objs.size
   .subst hd
    rw[Zd] at q
    cases q
    refine⟨_,a2,fun g=>?_⟩
    by_cases hg:g=f
    .subst hg
     simp only[Hv,beq_self_eq_true,if_true]
     show ry
    .have hb:(g==f)=false:=by simpa using hg
     simp only[Hv,hb,List.lookup_nil,if_neg hg]
     trivial
   .rw[Z7 hd] at q
    refine(I.hok b w' q).stay (fun c v hc r=>a3 c v ?_ r) (fun c z=>?_) fun c xs z=>?_
    .intro z
     rcases hc with y | y
     .exact hb (y.symm.trans z)
     .rw[z,he] at y;cases y
    .rw[Z7 (fun y=>by rw[y,he] at z;cases z),Z7 (fun y=>by rw[y,fr] at z;cases z)];show z
    .rw[Z7 (fun y=>by rw[y,he] at z;cases z),Z7 (fun y=>by rw[y,fr] at z;cases z)];show z
end
section
variable{X:Cx}{pos pos':Pos}{o value:Expr}{f:Str}{ta tv:TE}
def sExc(K:Ac)(ta tv:TE)(f:Str):TS:=fun D a H=>tv a H fun y d=>ta a d fun x c=>∃e C,x= .ref e/\c e=some (XN e (.ref C) none)/\ExcSet K C f/\∀b,c b=none->D.nx a (upd (upd c b (.xd [(f,y)])) e (XN e (.ref C) (some b)))
def Ye8(n:PE X o ta)(k:PE X value tv)(l:swapsWith value (some (.Attribute o f pos')) pos.line X.env=pure false):PS X (.Assign [.Attribute o f pos'] value pos) (sExc X.K ta tv f):=by
 intro a s b H D I h
 refine plainObj_wpAny_Assign_Attribute (thn (k a s b H _ I h) fun u c ⟨y,A,z,d,q⟩=>thn (n a c b A _ z q) fun j E zz62=>?_) l
 let⟨x,F,w,g,e,C,p,r,S,i⟩:=zz62
 subst p
 obtain rfl:j=Value.ref e:=g
 show Y40 w r S d fun t B m v=>⟨b,_,v,i t m⟩
end
structure ExcMk(K:Ac)(C f:Uh):Prop where
 cls:∃nm q N bs bm hdct sn sub ab col dd k0 k1 k2 k3 k5,K.lookup C=some (excClassObj nm q C N bs bm hdct sn sub ab col dd k0 k1 k2 k3 k5 "ValueError.__new__")/\(Value.ref C::bm).contains (.type "ValueError")=true/\
  (Value.ref C::bm).contains (.type "AttributeError")=false/\(Value.ref C::bm).contains (.type "NameError")=false/\(Value.ref C::bm).contains (.type "BaseException")=true
 init:Hs K (.ref C) "__init__"=some (↑f)
 fn:PySem.W.isFn K (.ref f)=true
 kp:Dv K (.ref C)=true
def ExcMk.at{K:Ac}(M:ExcMk K C f)(k:K.In h):∃nm q N n o a d b p c m l j i g e,ExcCls h C nm q N n o a d b p c m l j i g e "ValueError" "ValueError.__new__":=by
 let⟨nm,q,N,n,o,a,d,b,p,c,m,l,j,i,g,e,v,u,t,s,r⟩:=M.cls
 show⟨nm,q,N,n,o,a,d,b,p,c,m,l,j,i,g,e,k _ _ v,u,t,s,r⟩
section
variable{X:Cx}{k:Nat}{f C:Uh}{fd:FuncData}{ps:LS}{sp:Sp}{dvs:LV}{ds:LW}{pins:PLO}{σ:L2.St}{H:Hp}{s:Ug}{us:LW}{vs:LV}
def Zj2{Q:Uh->Hp->Prop}{E':VSP}(M:ExcMk X.K C f)(F:FnOk X.prog X.w X.K X.mg X.base CX0 k f fd ps sp)(J:Room (k+1) X.A)(R:Y9 X.K fd ps ds)(P:Vals dvs ds)(I:Inv X pins σ H s)(r:Vals vs us)(hz:us.length<=sizeLine)
  (h:∀e,H e=none->sp (.ref e::(vs++dvs)) (upd H e (XN e (.ref C) none)) (fun v H2=>v= .non/\Q e H2) E0):
  ⇑X (call (.ref C) us) (fun u s'=>∃e H',u= .ref e/\Inv X pins σ H' s'/\X.s₀.heap.objs.size<=e/\X.K.In s'.heap/\Q e H') E' s:=by
 let⟨nm,q,N,bs,bm,x,sn,z,ab,Y,dd,k0,k1,k2,k3,k5,Z⟩:=M.at I.kIn
 have S:H (s.heap.objs.size+1)=none:=I.hok.fresh (mm _)
 have p:=h (s.heap.objs.size+1) S
 have j:((s.heap.push (Jm us)).push (Qu C s.heap.objs.size)).get? (s.heap.objs.size+1)=some (Qu C s.heap.objs.size):=by heap_get
 have n:Inv X pins σ (upd H (s.heap.objs.size+1) (XN (s.heap.objs.size+1) (.ref C) none)) {s with heap:=(s.heap.push (Jm us)).push (Qu C s.heap.objs.size)}:=
  I.laid (a:=s.heap.objs.size+1) (t':=s.toks) (fun b u e=>Ah _ (Ah _ e)) (mm _) (XN.ok ⟨_,_,j,⟨rfl,rfl⟩,rfl,rfl⟩)
 have o:Vals (V.ref (s.heap.objs.size+1)::(vs++dvs)) (Value.ref (s.heap.objs.size+1)::(us++ds)):= .cons rfl (r.append P)
 have L:(Value.ref (s.heap.objs.size+1)::us++ds).length=ps.length:=by
  have e:=o.length
  rw[F.len _ _ _ _ p] at e
  show e.symm
 have B:X.s₀.heap.objs.size<=s.heap.objs.size+1:=ni I.sz (mm _)
 refine Lc ?_
 have O:=PySem.W.looks_findIn (M:=model X.prog X.w) I.kIn M.init
 have m:=fun i=>PySem.W.bind_fn (M:=model X.prog X.w) I.kIn i (beq_iff_eq.mp M.fn)
 let⟨l,g,d,t,os⟩:=s
 refine Zq0 PySem.F.excBase_ValueError Z O m (Kr (F.run _ X.stack _ _ ⟨Value.ref (l.objs.size+1)::us,[]⟩ (Value.ref (l.objs.size+1)::(us++ds)) _ _ E0 (J.make C us []) (n.env0.make C us []) (R _ (Value.ref (l.objs.size+1)::us) n.kIn L) o p) fun E s' c=>?_) hz
 cases E with
 | error e=>show Dk c
 | ok T=>
  cases T with
  | ret u=>
   let⟨v,H',y,D,U,G⟩:=n.after c
   subst U
   show⟨D,l.objs.size+1,H',rfl,y,B,y.kIn,G⟩
  | next=>show Dk c
  | brk=>show Dk c
  | cont=>show Dk c
def Px{E:VSP}{x:Sem Uf}(O:A.handled=none)
  (h:wpAny M A x (fun v i=>∃(e:Uh) (nm q:Str) (N:Uh) (I J:LW) (a:Bool) (o:LS) (b:LW) (K:Bool) (l:Option Bool) (G:Option Uh) (w u t r p:Option Uf) (F:Option Uh),
   v= .ref e/\ExcCls i.heap C nm q N I J a o b K l G w u t r p "ValueError" "ValueError.__new__"/\ExAt i.heap e (.ref C) F .none/\E (.ref e) i) E s):
  wpAny M A (raiseStmt env (some x) none) Q E s:=by
 unfold raiseStmt
 refine Ad (Dx h (fun v i n=>?_) fun _ _ z=>z)
 let⟨e,nm,q,N,I,J,a,o,b,K,l,G,w,u,t,r,p,F,rfl,S,⟨L,vs,P,⟨B,j⟩,y,n⟩,R⟩:=n
 let⟨D,_,_,_,m⟩:=S
 let⟨W,g,d,T,V⟩:=i
 let⟨c,Z,Y,U⟩:=L
 dsimp only at B j y
 subst B j y
 repeat (first | with_reducible refine Kx P ?_ | with_reducible refine Kx D ?_ | (with_reducible refine Me D ?_;rw[m]) | wp_step)
 rw[n]
 refine Am ?_
 rw[nc 'd']
 show Am (wpAny_raiseNew_none O R)
def Zu4(C:Uh)(sp:Sp)(dvs:LV)(E:XK)(t:TA):TS:=fun _ σ H=>t σ H fun vs c=>vs.length<=8/\∀e,c e=none->sp (.ref e::(vs++dvs)) (upd c e (XN e (.ref C) none)) (fun v b=>v= .non/\∃a,b e=some (XN e (.ref C) a)/\E (.ref C) a (upd b e (XO e (.ref C) a))) E0
def Ef{E:XK}{vs:LV}(L:Leaves X E)(M:ExcMk X.K C f)(F:FnOk X.prog X.w X.K X.mg X.base CX0 k f fd ps sp)(P:Room (k+1) X.A)(S:Y9 X.K fd ps ds)(R:Vals dvs ds)(I:Inv X pins σ H s)(r:Vals vs us)(hz:vs.length<=8)
  (h:∀e,H e=none->sp (.ref e::(vs++dvs)) (upd H e (XN e (.ref C) none)) (fun v H2=>v= .non/\∃b,H2 e=some (XN e (.ref C) b)/\E (.ref C) b (upd H2 e (XO e (.ref C) b))) E0):
  ⇑X (call (.ref C) us) (fun v c=>∃(e:Uh) (nm q:Str) (N:Uh) (u y:LW) (a:Bool) (j:LS) (d:LW) (B:Bool) (i:Option Bool) (b:Option Uh) (t p o n m:Option Uf) (W:Option Uh),
   v= .ref e/\ExcCls c.heap C nm q N u y a j d B i b t p o n m "ValueError" "ValueError.__new__"/\ExAt c.heap e (.ref C) W .none/\X.xe (.ref e) c) X.xe s:=by
 refine thn (Zj2 (Q:=fun e H2=>∃b,H2 e=some (XN e (.ref C) b)/\E (.ref C) b (upd H2 e (XO e (.ref C) b))) M F P S R I r (by rw[<-r.length];show ni hz 'd') h) fun v c zz63=>?_
 let⟨e,H',U,G,J,l,g,D,T⟩:=zz63
 let⟨nm,q,N,u,y,a,j,d,B,i,b,t,p,o,n,m,Y⟩:=M.at l
 have x:ExAt c.heap e (.ref C) g .none:=(G.hok e _ D).1
 have Z:Inv X pins σ (upd H' e (XO e (.ref C) g)) {c with heap:=c.heap,toks:=c.toks}:=
  G.write (x:=e) (e:=e) (by rw[D];show Kf) (.inl rfl) (fun _ _ _ z=>z) (by let⟨O,_,z,_⟩:=x;show⟨O,z⟩) (XO.ok x)
 show⟨e,nm,q,N,u,y,a,j,d,B,i,b,t,p,o,n,m,g,U,Y,x,Yb1 L Z Zd x J T⟩
def Zd3{E:XK}{x:Str}{l b pos:Pos}(L:Leaves X E)(O:X.calm=true)(M:ExcMk X.K C f)(F:FnOk X.prog X.w X.K X.mg X.base CX0 k f fd ps sp)(y:Room (k+1) X.A)(P:Y9 X.K fd ps ds)(J:Vals dvs ds)(G:Gl X x)(B:X.mg x=↑C)
  (g:(x==("__debug__":Str))=false:=by decide):PS X (.Raise (some (.Call (.Name x l) [] [] b)) none pos) (Zu4 C sp dvs E tNil):=by
 intro pins s σ H D I h
 let⟨u,h⟩:=h
 rw[arm_exec_Raise]
 simp only[show ∀e v,evalOpt (some e) v=some (eval e v) from fun _ _=>rfl,show ∀v,evalOpt none v=none from fun _=>rfl,Option.map]
 refine Ad (Lm (Px (C:=C) (I.ok.hd O) ?_))
 refine Ad (Dx (Q:=fun v c=>∃(e:Uh) (m q:Str) (N:Uh) (T U:LW) (a:Bool) (j:LS) (d:LW) (V:Bool) (i:Option Bool) (S:Option Uh) (t r p o n:Option Uf) (R:Option Uh),
   v= .ref e/\ExcCls c.heap C m q N T U a j d V i S t r p o n "ValueError" "ValueError.__new__"/\ExAt c.heap e (.ref C) R .none/\X.xe (.ref e) c) ?_ (fun v c z=>Ad (Lm (Am z))) fun _ _ z=>z)
 refine Hq (Xp I G B ?_ g)
 show PySem.W.callWith_K0 I.kIn M.kp (Ef (us:=[]) L M F y P J I .nil u h)
end
end L3
namespace L3
open PySem PySem.W PySem.Calls PyProof.Rows Builtin Builtin.ObjectAttr
section
variable{prog:Ui}{w:Uj}{A:Around}{E:VSP}{K:Frag}{C D e:Uh}{s:Ug}
structure ExcIs(K:Frag)(C:Uh):Prop where
 cls:∃cd,clsIn K C=some cd/\cd.hasDict=true
 ga:findIn K (.ref C) "__getattribute__"=some (some (.builtin "BaseException.__getattribute__"))
 gh:findIn K (.ref C) "__getattr__"=some none
 base:mroIn K C (.type "BaseException")=some true
 own:findIn K (.ref C) "__class__"=some (some (.builtin "object.__class__"))
 ds:specialIn K (.builtin "object.__class__") "__get__"=some (some (.builtin "getset_descriptor.__get__"))
 tk:takesIn K (.builtin "object.__class__")=some true
 obj:mroIn K C (.type "object")=some true
def Zb5{B:Obj}{od:Obj}{Q:Option Uf->Ug->Prop}(X:K.In s.heap)(S:ExcIs K C)(J:InstAt s.heap e B C (some od))(h:Q (↑C) {s with toks:=s.toks+1}):
  wpAny (model prog w) A (getAttr? (.ref e) "__class__") Q E s:=by
 let⟨⟨L,p,o⟩,m,l,b,c,n,j,f⟩:=S
 let⟨k,g,d,t,x⟩:=s
 have G:findObj K C (some od) "__class__"=some (.bind (.builtin "getset_descriptor.__get__") (.builtin "object.__class__")):=findObj_data (by rw[p];rfl) c n j
 have u:=J.type (M:=model prog w)
 have I:=looks_findIn (M:=model prog w) X m
 have H:=looks_findIn (M:=model prog w) X l
 have q:=looks_find (M:=model prog w) X J G
 have i:Looks (model prog w) k (isInstance (.ref e) (.type "BaseException")) true:=u.andThen (looks_mroIn X b)
 unfold getAttr? getAttrBy? getAttrBy
 refine Ad (wpAny_mkText (Ad (wpAny_attempt (Iv (Ad (u.at (Ad (I.at ?_))))))))
 change wpAny _ _ (getAttrByItsOwn _ _ _ _ _ _) _ _ _
 unfold getAttrByItsOwn
 refine Ad (H.at (Ad (wpAny_attempt (Iv ?_))))
 unfold callGetattribute
 rw[nc 'd']
 unfold boundAndCalled
 rw[Zc5]
 refine Ad (Am (Lc ?_))
 refine codeAny_call_builtin Bd F.entry_bexc_ga (@check_slot (model prog w) _ _ _ "BaseException.__getattribute__" "BaseException" "__getattribute__" (.ref e) [.str "__class__" t] [] _ Z58 Ct i (Zd9 (.ref e) (.str "__class__" t)) ?_)
 change wpAny _ _ (typeOf (.ref e) >>=fun y=>find (.ref e) y "__class__" >>=_) _ _ _
 refine Ad (u.at (Ad (q.at ?_)))
 have a:=class_get (prog:=prog) (w:=w) (A:=A.in1) (s:=⟨k,g,d,t+1,x⟩) (tp:= .ref C) (R:=fun r v=>r= .ok (.ret (.ref C))/\v=⟨k,g,d,t+1,x⟩) X J f ⟨rfl,rfl⟩
 unfold bindTo
 refine Ad (Iv (Lc (Kr a fun r v z=>?_)))
 let⟨rfl,rfl⟩:=z
 refine Am ?_
 change wpAny _ _ (handedOut (.ref C)) _ _ _
 show handed_on rfl (Am h)
end
end L3
namespace L3
open PySem PySem.Spec PyProof.Rows L2
section
variable{K:Ac}{C e:Uh}
def Ee(S:ExcIs K C):PySem.W.KitX K (.ref e) (.ref C) (fun h=>PySem.W.InstAt h e f C (some od)) where
 ty:=fun _ _ _ I=>I.type
 it:=fun _ _ X _=>by
  let⟨i,a,_⟩:=S.cls
  unfold Mv at a
  split at a
  .rename_i c
   intro r o p l k q
   unfold isType loadHead
   show Ad (wpAny_loadPart (k _ _ (X _ _ c)) (Am q))
  .cases a
 ne:=fun h d m g n j X b=>by
  let⟨i,a,_⟩:=S.cls
  refine Bool.eq_false_iff.mpr fun q=>?_
  have z:C=d:=Value.ref.inj (beq_iff_eq.mp q)
  subst z
  unfold Mv at a
  split at a
  .rename_i c
   have y:=(X _ _ c).symm.trans b
   cases y
  .cases a
 ca:=fun X I k=>Zb5 X S I k
variable{X:Cx}{pins:PLO}{σ:L2.St}{H:Hp}{s:Ug}{dx:Uh}{fs:List (Str×V)}
def N5(I:Inv X pins σ H s)(i:H e=some (XO e (.ref C) (some dx)))(j:H dx=some (.xd fs)):∃(b od:Obj) (a:Str->Option Uf),PySem.W.InstAt s.heap e b C (some od)/\(∀name,PySem.W.lookIn name od=some (a name))/\∀f,RelO (fs.lookup f) (a f):=by
 let⟨p,b,o,n,⟨m,l⟩,k,_⟩:=XO.at (I.hok e _ i)
 let⟨a,h,g⟩:=(show Y6 X.prog X.w H s.heap dx (.xd fs) from I.hok dx _ j)
 let⟨od,d,c⟩:=F4 h
 refine⟨b,od,a,⟨n,m,by unfold PySem.W.notCls;rw[k],by rw[l];show d⟩,c,g⟩
def rIsX(K:Ac):LV->Hp->VK->Prop:=fun d H Q=>∃e C dx fs c a b,d=[.ref e,c]/\H e=some (XO e (.ref C) (some dx))/\H dx=some (.xd fs)/\ExcIs K C/\(∀u,RelV c u->u=a)/\Df K (.ref C) a=some b/\Q (.bl b) H
def B5:W2 X (.builtin "isinstance") (rIsX X.K):=by
 intro pins s σ H l m Q I r h
 let⟨e,C,dx,fs,c,t,b,rfl,g,i,S,j,k,q⟩:=h
 let⟨u,v,rfl,f,d⟩:=Z48 r
 obtain rfl:u=Value.ref e:=f
 cases j v d
 let⟨n,o,p,J,_⟩:=N5 I g i
 show Ij (Ee S) I.kIn J k (fun z=>nomatch z) fun a=>⟨.bl b,H,I.tok a,rfl,q⟩
def Yk2(K:Ac)(b:TE)(f:Str):TE:=fun σ H Q=>b σ H fun x a=>∃e C dx fs v,x= .ref e/\a e=some (XO e (.ref C) (some dx))/\a dx=some (.xd fs)/\ExcGet K C f/\fs.lookup f=some v/\Q v a
def Y71{a:Expr}{c:TE}(o:PE X a c)(n:attributeBase a f X.env (eval a X.env)=eval a X.env):PE X (.Attribute a f pos) (Yk2 X.K c f):=by
 intro pins s σ H Q I h
 refine Y15 n (thn (o pins s σ H _ I h) fun u y zz64=>?_)
 let⟨x,w,b,g,e,C,dx,fs,v,t,k,m,S,l,q⟩:=zz64
 subst t
 obtain rfl:u=Value.ref e:=g
 let⟨A,B,D,J,j,i⟩:=N5 b k m
 have r:=i f
 rw[l] at r
 let⟨z,p,d⟩:=r.some_of
 show Ec b.kIn S J (by rw[j,p]) (Zf6 d) ⟨v,w,b.tok _,d,q⟩
end
def XP(X:Cx)(pins:PLO)(d:L2.St)(E:XK)(x:Uf)(s':Ug):Prop:=∃(e T:Uh) (a:Uf) (c:Option Uh) (b:Hp),x= .ref e/\Inv X pins d b s'/\FpOk X pins b T/\T≠e/\b e=some (XO e a c)/\
 ExAt s'.heap e a c (.ref T)/\TbAt s'.heap T .none/\E a c b
abbrev TEX:=L2.St->Hp->VK->XK->Prop
abbrev TSX:=Ends->XK->L2.St->Hp->Prop
def PEX(X:Cx)(e:Expr)(t:TEX):Prop:=
 ∀(a:PLO) (s:Ug) (b:L2.St) (H:Hp) (Q:VK) (E:XK),Inv X a b H s->t b H Q E->⇑X (eval e X.env) (EP X a b Q) (XP X a b E) s
def PSX(X:Cx)(st:List Stmt)(t:TSX):Prop:=
 ∀(a:PLO) (s:Ug) (b:L2.St) (H:Hp) (D:Ends) (E:XK),Inv X a b H s->t D E b H->⇑X (execs st X.env) (SP X a D) (XP X a b E) s
section
variable{X:Cx}{k:Nat}{f:Uh}{fd:FuncData}{ps:LS}{sp:Sp}{dvs:LV}{ds:LW}{x:Str}{p pos:Pos}{e:Expr}{es:List Expr}{t:TA}
def Yb9{c:L2.St}{H:Hp}{E:XK}{x:Uf}(I:Inv X pins c H s)(h:CX1 X.prog X.w X.stack H s E x s'):XP X pins c E x s':=by
 let⟨u,T,g,v,i,r,n,a,l,d,⟨y,q⟩,g1,⟨g2,g3⟩,j,m,o⟩:=h
 have J:Inv X pins c i s':=I.call' (ch:=[]) n l d a fun b z=>absurd z (by simp)
 show⟨u,T,g,v,i,r,J,I.fpOk q g2,g3,g1,j,m,o⟩
def Zu9(sp:Sp)(dvs:LV)(t:TA):TEX:=fun a H Q E=>t a H fun b c=>sp (b++dvs) c Q E
def Zl9(F:FnOk X.prog X.w X.K X.mg X.base (CX1 X.prog X.w) k f fd ps sp)(y:Room k X.A)(G:Gl X x)(B:X.mg x=↑f)(D:Dv X.K (.ref f)=true)(M:Y9 X.K fd ps ds)(L:Vals dvs ds)
  (N:PA X.nox (e::es) t) (j:(x==("__debug__":Str))=false:=by decide) (J:starEach (e::es) X.env=(false,eval e X.env)::starEach es X.env:=by rfl) (i:(backTo pos (starEach es X.env)).any (·.1)=false:=by rfl):
  PEX X (.Call (.Name x p) (e::es) [] pos) (Zu9 sp dvs t):=by
 intro a s l H Q E I h
 refine Hq (Xp I G B ?_ j)
 refine Mj (h₀:=X.base) I.ok.mod.kin D (Dx (N pos a s l H _ (I.wish _) h) (fun b g zz65=>?_) fun _ _ z=>z.elim) J i
 let⟨m,o,P,r,q⟩:=zz65
 have d:Inv X a l o g:=P.unwish
 refine⟨d.kIn,?_⟩
 have n:Vals (m++dvs) (b++ds):=r.append L
 have C:(b++ds).length=ps.length:=by rw[<-n.length];show F.len _ _ _ _ q
 refine Lc (Kr (F.run X.A X.stack g o ⟨b,[]⟩ (b++ds) (m++dvs) Q E y d.env0 (M g b d.kIn C) n q) fun v R c=>?_)
 cases v with
 | error z=>show Yb9 d c
 | ok O=>
  cases O with
  | ret u=>show d.after c
  | next=>show Dk c
  | brk=>show Dk c
  | cont=>show Dk c
variable{te:TEX}
def Zs9(te:TEX):TSX:=fun D E a H=>te a H (fun _ b=>D.nx a b) E
def Cb(d:PEX X e te)(c:swapsWith e none pos.line X.env=pure false:=by rfl):PSX X [.Expr e pos] (Zs9 te):=by
 intro a s b H D E I h
 refine wpAny_execs_cons (wpAny_Expr_any (thn (d a s b H _ E I h) fun u l g=>?_) I.quiet c)
 let⟨v,j,i,r,q⟩:=g
 show Lg ⟨b,j,i,q⟩
end
def Held(X:Cx)(e:Uh):Cx:={X with A:=X.A.mark (↑e),calm:=false,xe:=fun _ _=>False}
section
variable{X:Cx}{pins:PLO}{σ:L2.St}{H:Hp}{s:Ug}{e:Uh}
def Y45(a:X.Ok)(e:Uh):(Held X e).Ok:=
 ⟨a.mod,a.kind,a.glob,a.blt,a.above,a.inj,a.has,a.cab,(fun z=>nomatch z),a.frames,a.stk,a.exf,a.bs,a.bsz,a.noex,a.exfs,a.funs,a.frf⟩
def Zw3(I:Inv X pins σ H s)(e:Uh):Inv (Held X e) pins σ H s:=⟨Y45 I.ok e,I.os,I.bare,I.base,I.loc,I.cell,I.free,I.freeC,I.pin,I.hok,I.len⟩
def Sx(a:X.Ok)(I:Inv (Held X e) pins σ H s):Inv X pins σ H s:=⟨a,I.os,I.bare,I.base,I.loc,I.cell,I.free,I.freeC,I.pin,I.hok,I.len⟩
def Zm4{T L:Uh}{w:Option Uh}(I:Inv X pins σ H s)(C:FpOk X pins H T)(t:H e=some (XO e g w))(x:ExAt f e g w (.ref L))(k:Flown (frsE X.stack) [e,T] s.heap f):
  Inv X pins σ H {s with heap:=f}:=by
 let⟨G,v,N,F,E,D⟩:=C
 have h:∀b,H b=none->b≠e:=fun b n z=>by rw[z,t] at n;cases n
 have i:∀b o,b∉frsE X.stack->b≠T->b≠e->s.heap.get? b=some o->f.get? b=some o:=fun b o d c a q=>k.keep b o q d (by simp[c,a])
 have p:∀b o,b≠T->b≠e->s.heap.get? b=some o->∃l,f.get? b=some {o with slots:=l}:=fun b o c a q=>by
  by_cases d:b∈frsE X.stack
  .exact k.slot b o q d (by simp[c,a])
  .exact⟨o.slots,i b o d c a q⟩
 refine I.step (g':=s.gens) (t':=s.toks) (d':=s.drawn) (ch:=[T]) (fun b j=>?_) (fun b o d c a q n=>i b o (fun z=>?_) ↥a (h b n) q) (fun b o _ _ a q n=>p b o ↥a (h b n) q) (fun _ _ _ _ n=>n)
  (fun b o _ q=>k.there b o q) (fun _ _ q=>q) (fun _ _ _ q=>q) (fun _ M q=>⟨#[],by rw[q];simp⟩) (fun m B=>?_) ?_ I.bare
 .rw[An.mp j]
  show⟨F,v,E,D⟩
 .rcases Aq.mp (I.stkSub b z) with y | y
  .exact d y
  .exact c y
 .let⟨o,J,K,A,r⟩:=B
  let⟨l,q⟩:=p _ o (Ia v) (h _ I.free) A
  show⟨_,J,K,q,r⟩
 .refine Gn I.hok t x fun b u o q j r=>i b o (fun z=>?_) (fun z=>?_) j r
  .rw[I.stkFree b z] at q;cases q
  .rw[z,G] at q;cases q
def Cf{c:Uh}{a:Uk}(I:Inv X pins σ H s)(d:FpOk X pins H c)(k:∀b o,b≠c->s.heap.get? b=some o->a.get? b=some o):Inv X pins σ H {s with heap:=a}:=by
 let⟨j,i,l,h,g,f⟩:=d
 show I.turned (t':=s.toks) k j i h g f
def Vy{E:VSP}{i:Nat}{n:Str}(I:Inv X pins σ H s)(hN:X.N.Nodup)(hi:X.N[i]?=some n)(hl:X.env.kindOf n=some .local)
  (h:∀s',Inv X pins (σ.set i none) H s'->Q () s'):wpAny M A (do bindName X.env n .none;unbindBehindTheSuite X.env n pos) Q E s:=by
 let⟨m,Z,f⟩:=id I.loc
 refine wpAny_nameGoes_keeps hl Z (by rw[I.ok.kind];rfl) fun h' v J G=>h _ ?_
 have D:∀b o,X.s₀.heap.get? b=some o->b≠X.env.locals:=fun b o q z=>absurd (Ax q) (by rw[z];show Nat.not_lt.mpr I.ok.above)
 have d:∀b,b≠X.env.locals->h'.get? b=s.heap.get? b:=fun b z=>G.2 b z
 refine⟨I.ok,I.os,I.bare,⟨fun b o q C B t=>(d b (D b o q)).trans (I.base.keep b o q C B t),fun b o q C B t=>?_,I.base.free,fun b o q z=>?_,I.base.tups,I.base.frzs,I.base.tbls⟩,⟨_,J,fun j x w O k e3=>?_⟩,fun x c q=>?_,I.free,I.freeC,fun p Y=>?_,fun b o q=>?_,?_⟩
 .let⟨U,y⟩:=I.base.slot b o q C B t
  show⟨U,(d b (D b o q)).trans y⟩
 .let⟨V,y⟩:=I.base.there b o q z
  show⟨V,(d b (D b o q)).trans y⟩
 .have L:j≠i:=fun z=>by
   subst z
   rw[List.getElem?_set] at k
   simp at k
  rw[Dh (Ia L)] at k
  let⟨u,r,l⟩:=f j x w O k e3
  refine⟨u,r,?_⟩
  rcases l with⟨F,g⟩ | ⟨F,c,g,W⟩
  .refine .inl ⟨F,?_⟩
   have:x≠n:=fun z=>L (J8 hN O (z ▸ hi))
   simp[this,g]
  .exact .inr ⟨F,c,g,W.sameBut G (I.cne x c g)⟩
 .let⟨w,y⟩:=I.cell x c q
  show⟨w,y.sameBut G (I.cne x c q)⟩
 .let⟨T,S,K,R,P⟩:=I.pin p Y
  show⟨(d p.1 K).trans T,S,K,R,P⟩
 .refine(I.hok b o q).stay (fun c u a y=>?_) (fun _ z=>z) fun _ _ z=>z
  refine(d c fun z=>?_).trans y
  rcases a with a | a
  .rw[<-a,z] at q
   rw[I.free] at q;cases q
  .rw[z,I.free] at a;cases a
 .rw[List.length_set];show I.len
end
structure Catch(K:Ac)(C D:Uh)(b:Bool):Prop where
 ty:PySem.W.typeIn K (.ref D)=some (.type "type")
 cls:(Mv K D).isSome=true
 exc:Ll K D (.type "BaseException")=some true
 sub:Ll K C (.ref D)=some b
section
open PySem.W
def Fa{w:Uj}{E:VSP}{K:Frag}{C D e:Uh}{b:Bool}(X:K.In s.heap)(S:Catch K C D b)(m:s.heap.get? e=some f)(n:f.cls= .ref C)(h:Q b s):
  wpAny (model prog w) A (excMatches (.ref e) (.ref D)) Q E s:=by
 let⟨i,c,o,j⟩:=S
 let⟨a,g,d,t,z⟩:=s
 have x:Looks (model prog w) a (typeOf (.ref D)) (.type "type"):=looks_typeIn X i
 have v:Looks (model prog w) a (isType (.ref D)) true:=by
  unfold clsIn at c
  split at c
  .rename_i l
   intro G B F y k q
   unfold isType loadHead
   show Ad (wpAny_loadPart (k _ _ (X _ _ l)) (Am q))
  .cases c
 have u:Looks (model prog w) a (isSubtype (.ref D) (.type "BaseException")) true:=looks_mroIn X o
 have r:Looks (model prog w) a (typeOf (.ref e)) (.ref C):=by rw[<-n];show(Looks.ld m).andThen .now
 have p:Looks (model prog w) a (isSubtype (.ref C) (.ref D)) b:=looks_mroIn X j
 unfold excMatches isInstance
 refine Ad (Ad (x.at ?_))
 rw[tc_notTuple]
 refine Am ?_
 simp only[Bool.false_eq_true,if_false]
 refine Ad (Am ?_)
 rw[List.forIn_cons]
 refine Ad (Ad ?_)
 unfold isExcClass
 refine Ad (Ad (v.at ?_))
 simp only[if_true]
 refine u.at ?_
 simp only[Bool.not_true,Bool.false_eq_true,if_false]
 refine Am ?_
 change wpAny _ _ (pure PUnit.unit) _ _ _
 refine Am ?_
 refine Ad (r.at (Ad ?_))
 rw[List.forIn_cons]
 refine Ad (Ad (p.at ?_))
 cases b with
 | true=>
  simp only[if_true]
  show Am (Am (Am h))
 | false=>
  simp only[Bool.false_eq_true,if_false]
  refine Am ?_
  change wpAny _ _ (pure (none,PUnit.unit)) _ _ _
  show Am (Am h)
end
section
variable{X:Cx}{body suite:List Stmt}{b₀:Stmt}{x n:Str}{np hpos pos:Pos}{D:Uh}{i:Nat}{tb:TSX}{ts:TS}
def tTry(K:Ac)(D:Uh)(i:Nat)(tb:TSX)(ts:TS):TS:=fun R d H=>tb R (fun b g f=>∃C,b= .ref C/\Catch K C D true/\∀e,f e=some (XO e b g)->
 ts {nx:=fun a c=>R.nx (a.set i none) c,rt:=R.rt,bk:=fun a c=>R.bk (a.set i none) c,ct:=fun a c=>R.ct (a.set i none) c} (d.set i (↑e)) f) d H
def Yc0(hb:PSX X body tb)(hs:∀e,PSs (Held X e) (b₀::suite) ts)(l:X.N.Nodup)(hi:X.N[i]?=some n)(k:X.env.scope.names.lookup n=some .local)(hg:Gl X x)(hm:X.mg x=↑D)(L:X.stack=X.env::X.outer)(hf:X.env.frame=some X.env.locals)
  (w:(x==("__debug__":Str))=false:=by decide):PS X (.Try body [.ExceptHandler (some (.Name x np)) (some n) (b₀::suite) hpos] [] [] pos) (tTry X.K D i tb ts):=by
 intro a s p H R I h
 refine wpAny_Try_except (Dx (hb a s p H R _ I h) (fun f c q=>?_) fun y c q=>?_)
 .cases f with
  | next=>show Lg q
  | ret v=>show q
  | brk=>show q
  | cont=>show q
 let⟨e,T,z0,dd,o,rfl,m,ft,A,P,Z,t1,C,rfl,S,q⟩:=q
 refine Gf (outer:=X.outer) (base:=X.base) (L:=X.env.locals) (by rw[<-L];show m.ok.frames) (by rw[<-L];show m.stack) hf Z t1 A fun B T1 M J G V U=>?_
 have I2:Inv X a p o {c with heap:=B}:=Zm4 m ft P G (by rw[L];show U)
 have Q:FpOk X a o T1:=m.fpOk M (m.hok.fresh M)
 refine S3 (s:={c with heap:=B}) G V J fun r O t3 k3 _=>?_
 have I3:Inv X a p o {c with heap:=r}:=Cf (s:={c with heap:=B}) I2 Q k3
 have E:=Zw3 I3 e
 refine wpAny_handleBy_cons (codeAny_handlers_test ?_) (by intro z;cases z)
 refine Xp (X:=Held X e) E hg hm ?_ w
 let⟨oe,vs,Y,⟨W,y3⟩,y4,y5⟩:=id O
 refine Fa (s:={c with heap:=r}) E.kIn S Y W ?_
 refine codeAny_handlers_suite_as ?_
 refine S3 (s:={c with heap:=r}) O t3 J fun h4 x4 t4 k4 _=>?_
 have J4:Inv (Held X e) a p o {c with heap:=h4}:=Cf (s:={c with heap:=r}) E Q k4
 refine Nj (X:=Held X e) J4 l hi (.inl k) (v:= .ref e) rfl (fun s5 J5=>?_) (.inr k)
 refine Dx (hs e a s5 _ o _ J5 (q e P)) (fun f s6 b=>?_) fun _ _ z=>z.elim
 cases f with
 | next=>
  let⟨d,F,g,b⟩:=b
  show Vy (Sx I.ok g) l hi k fun t j=>⟨_,_,j,b⟩
 | brk=>
  let⟨d,F,g,b⟩:=b
  show Vy (Sx I.ok g) l hi k fun t j=>⟨_,_,j,b⟩
 | cont=>
  let⟨d,F,g,b⟩:=b
  show Vy (Sx I.ok g) l hi k fun t j=>⟨_,_,j,b⟩
 | ret u=>
  let⟨v,d,F,g,rv,b⟩:=b
  show Vy (Sx I.ok g) l hi k fun t j=>⟨v,_,_,j,rv,b⟩
def Y52{P:Ui}{w:Uj}{K:Ac}{mg:Str->Option Uf}{base:Uk}{x qual:Str}{st:Stmt}{f:Uh}{g:FuncData}{N ps:LS}{k:Nat}{sp:Sp}(F:Fun K x qual st f g)(S:FnScope N ps (Z3 st))(c:∀vs H Q E,sp vs H Q E->vs.length=ps.length)
  (b:∀(a:Uf) (A:Around) (outer:List Env) (s:Ug) (H:Hp) (vs:LV) (Q:VK) (E:XK),Room k (A.deeper (envOfC qual (Z3 st) s.heap.objs.size f a))->sp vs H Q E->
   ∃t,PSs (cxOf (CX1 P w) P w K mg base N qual (Z3 st) f a A outer s H E) (Zh st) t/\t {nx:=fun _ o=>Q .non o,rt:=Q} (start N vs) H):FnOk P w K mg base (CX1 P w) (k+1) f g ps sp:=by
 let⟨r,q,v,u,m,p,z,a,y,h,rfl,j,e⟩:=F.ex
 show Zm7 j e S c fun A outer s H vs Q E l d=>b a A outer s H vs Q E l d
end
end L3
namespace L3
open PySem PyProof.Rows
section
variable{prog:Ui}{w:Uj}{A:Around}{E:VSP}{s:Ug}
abbrev Zv4(h:Uk)(z d c:Uh)(a:Uf)(b:Bool):Prop:=
 h.get? z=some {cls:= .type "zip",dict:=none,data:= .fields #[a,.bool b,.bool false,.ref d,.ref c],slots:=#[]}
end
section
variable{prog:Ui}{w:Uj}{A:Around}{E:VSP}{s:Ug}
structure ZS(h0 h:Uk)(S z TI TO i1 i2 l1 l2:Uh)(xs ys:Array Uf)(Ts:List Uh):Prop where
 kept:∀b o,h0.get? b=some o->h.get? b=some o
 zp:(Ts=[]/\Zv4 h z TI TO .none false/\∃a b,IsPair h TO a b)\/∃(T:Uh) (b:Bool) (oT:Obj),Zv4 h z TI TO (rawInt T) b/\h.get? T=some oT
 ti:IsPair h TI (.ref i1) (.ref i2)
 to:∃o,h.get? TO=some o
 t1:h.IsListIter i1 l1 Ts.length
 t2:h.IsListIter i2 l2 Ts.length
 nd:Ts.Nodup
 tp:∀(j:Nat) T,Ts[j]?=some T->∃x y,xs[j]?=some x/\ys[j]?=some y/\IsPair h T x y
 tb:∀T∈Ts,h0.objs.size<=T/\T≠z/\T≠TO/\T≠i1/\T≠i2/\T≠S
structure ZF(h0:Uk)(S z TI TO i1 i2 l1 l2:Uh)(xs ys:Array Uf):Prop where
 D:ZipApart z TI TO i1 i2 l1 l2
 l1:h0.IsList l1 xs
 l2:h0.IsList l2 ys
 nz:h0.objs.size<=z
 nTO:h0.objs.size<=TO
 n1:h0.objs.size<=i1
 n2:h0.objs.size<=i2
 nS:h0.objs.size<=S
 sz:S≠z
 sTI:S≠TI
 sTO:S≠TO
 s1:S≠i1
 s2:S≠i2
end
structure ZEnd(h0 h:Uk)(S:Uh)(xs ys:Array Uf)(Ts:List Uh):Prop where
 kept:∀b o,h0.get? b=some o->h.get? b=some o
 len:Ts.length=min xs.size ys.size
 nd:Ts.Nodup
 tp:∀(j:Nat) T,Ts[j]?=some T->∃x y,xs[j]?=some x/\ys[j]?=some y/\IsPair h T x y
 tb:∀T∈Ts,h0.objs.size<=T/\T≠S
 so:∃c,h.get? S=some {cls:= .type "list",dict:=none,data:= .seq (Ts.map Value.ref).toArray c,slots:=#[]}
end L3
namespace L3
open PySem PySem.Spec PyProof.Rows L2
section
variable{X:Cx}{pins:PLO}{σ:L2.St}{H H':Hp}{s:Ug}{h':Uk}
def Vq:∀Ts:List Uh,Vals (Ts.map V.ref) (Ts.map Value.ref)
 | []=> .nil
 | _::r=> .cons rfl (Vq r)
end
section
variable{X:Cx}
def tRev(K:Ac)(e:TE)(tk:TO):TE:=fun c H Q=>e c H fun x f=>tk c f fun o b=>o=some (-1)/\∃a d,x=V.ref a/\SqL K b a d/\∀p,b p=none->Q (.ref p) (upd b p (.lst d.reverse))
def Yc2{e k:Expr}(G:PE X e j)(F:PO X (some k) tk):PE X (.Subscript e (.Slice none none (some k) p2) pos) (tRev X.K j tk):=by
 intro c s f H Q I h
 refine Subscript_ (thn (G c s f H _ I h) fun v p zz66=>?_)
 let⟨x,N,L,t,y⟩:=zz66
 refine wpAny_Slice ?_
 simp only[evalPart_none]
 refine Am (Am ?_)
 refine thn (F c p f N _ L y) fun i d zz67=>?_
 let⟨o,M,J,z,u⟩:=zz67
 let⟨rfl,a,n,rfl,E,q⟩:=u
 cases t
 have g:Inv X c f M {d with heap:=d.heap.push {cls:= .type "slice",data:= .fields #[.none,.none,i]}}:=J.kept (t':=d.toks) fun b B q=>Ah _ q
 let⟨C,r,l,D⟩:=g.list E
 have m:=r.length
 change ⇑X (subscriptTail e (.Slice none none (some k) p2) (.ref a) (.ref d.heap.objs.size)) (EP X c f Q) X.xe {d with heap:=d.heap.push {cls:= .type "slice",data:= .fields #[.none,.none,i]}}
 refine tail_any (ops:=[.ref a,.ref d.heap.objs.size]) l.isList.typeIs slot_list_getitem.lookup ?_ (by with_unfolding_all rfl)
 refine wpAny_getItem_list_slice l.isList (Heap.IsSliceOf.new ..) .none .none z (by simp) ?_ (by rw[Ak]<;>lia)
 rw[PySem.W.krv_pick]
 refine⟨.ref _,_,g.laid (t':=d.toks) (o:= .lst n.reverse) (fun b B q=>Ah _ q) (na _) ?_,rfl,q _ (g.hok.fresh (na _))⟩
 show⟨by rw[Ht];show D,_,0,r.reverse,Dn _ rfl⟩
def Ya5(K:Ac):V->LV->Hp->VK->Prop:=fun x b H Q=>∃l a y k z,x= .ref l/\b=[y]/\SqL K H l a/\Yv y=true/\a.all Yv=true/\a[k]?=some z/\eqV z y=true/\(∀(j:Nat) u,j<k->a[j]?=some u->eqV u y=false)/\Q (.int k) H
def Zj9:MtR X "list.index" (Ya5 X.K):=by
 intro A s σ H x vs v us Q I O P h
 let⟨l,t,y,k,z,rfl,rfl,S,Z,o,D,W,g,q⟩:=h
 cases O
 let⟨u,rfl,R⟩:=Vs P
 let⟨a,r,p,hz⟩:=I.list S
 let⟨⟨z0,dd,L,N⟩,B,G,n,E⟩:=p.isList
 simp only at G E
 subst G E
 have C:=r.length
 have T:=(Ab.mp D).1
 have J:∀(j:Nat) (w:V),t[j]?=some w->∀m:j<a.toArray.size,eqU y a.toArray[j]=eqV w y:=by
  intro j w c m
  let⟨M,f,d⟩:=r.get c
  have U:Yv w=true:=by
   rw[Hw] at o
   show o w (As c)
  have e:a.toArray[j]=M:=by
   have:=(Ab.mp f).2
   simpa using this
  rw[e];show Zh5 d U
 have Y:=Vr
 refine Mr PySem.F.slot_list_index ⟨_,B,rfl⟩ PySem.F.entry_list_index (PySem.F.args_list_index_2 _ _)
  (SeqAt.list_indexAt l a.toArray n dd N u (eqU y) k (by rw[Ak];lia) 'o' ?_ ?_) ⟨B,fun w c=>Vf R Z r o w ↥c,⟨.int k,H,I.tok _,⟨_,rfl⟩,q⟩⟩
 .rw[J k z D];show W
 .intro j m i
  have b:j<t.length:=by rw[Ak] at m;lia
  rw[J j _ (Aa b)]
  show g j _ i (Aa b)
def eqVs(vs ys:LV):Bool:=(Ao (min vs.length ys.length)).all (fun j=>eqV (vs.getD j .non) (ys.getD j .non))&&vs.length==ys.length
def eqUT(H:Hp)(ys:LV):Uf->Bool
 | .ref a=>match H a with
  | some (.tup b)=>eqVs b ys
  | _=>false
 | _=>false
def Zr9{x:V}(h:Yv x=true):eqV x x=true:=by
 cases x<;>first | rfl | show decide_eq_true rfl | show beq_self_eq_true _ | (simp[eqV];done) | show absurd (show false=true from h) Bf9
def Z85{xs:LV}(h:xs.all Yv=true):eqVs xs xs=true:=by
 unfold eqVs
 rw[Bz9,Hw]
 refine⟨fun j b=>?_,by simp⟩
 rw[He] at b
 have a:j<xs.length:='o'
 rw[Hw] at h
 rw[Af,Aa a]
 show Zr9 (h _ (Hx a))
def Y80{p:L2.St}{H:Hp}(I:Inv X pins p H s)(J:A.units+2<cLine){a b:Uh}(n:H a=some (.tup vs))(k:H b=some (.tup ys))(l:vs.all Yv=true)(o:ys.all Yv=true):Hh A s (.ref a) (.ref b) (eqVs vs ys):=by
 by_cases e:a=b
 .subst e
  rw[n] at k
  cases k
  rw[Z85 l]
  show Hh.same _
 .let⟨g,m,v,_⟩:=I.tuple (.of n)
  let⟨f,c,t,_⟩:=I.tuple (.of k)
  have B:=m.length
  have z:=c.length
  have d:=SeqAt.RcAt.tuples (A:=A) (e:=fun j=>eqV (vs.getD j .non) (ys.getD j .non)) v t 'o' (fun j E D=>by
   have i:j<vs.length:=by rw[Ak] at E;lia
   have h:j<ys.length:=by rw[Ak] at D;lia
   let⟨u,G,y⟩:=m.get (Aa i)
   let⟨w,F,x⟩:=c.get (Aa h)
   have r:g.toArray[j]=u:=by have:=(Ab.mp G).2;simpa using this
   have q:f.toArray[j]=w:=by have:=(Ab.mp F).2;simpa using this
   rw[r,q,Af,Af,Aa i,Aa h]
   rw[Hw] at l o
   show Cw y x (l _ (Hx i)) (o _ (Hx h)))
  have C:((Ao (min g.toArray.size f.toArray.size)).all (fun j=>eqV (vs.getD j .non) (ys.getD j .non))&&g.toArray.size==f.toArray.size)=eqVs vs ys:=by
   unfold eqVs
   rw[Ak,Ak,B,z]
  rw[C] at d
  show Hh.of_refs e d
def Y36{H:Hp}{a b:Uh}(I:Inv X pins j H s)(k:∀c o,c≠a->c≠b->s.heap.get? c=some o->h'.get? c=some o)(h:FpOk X pins H a)(g:FpOk X pins H b):Inv X pins j H {s with heap:=h',toks:=t'}:=by
 have p:∀c u,H c=some u->c≠a:=by
  intro c u e z
  rw[z,h.1] at e
  cases e
 have l:∀c u,H c=some u->c≠b:=by
  intro c u e z
  rw[z,g.1] at e
  cases e
 have i:∀c o,c∉[a,b]->s.heap.get? c=some o->h'.get? c=some o:=by
  intro c o f e
  refine k c o ?_ ?_ e
  .intro z;apply f;rw[z];simp
  .intro z;apply f;rw[z];simp
 refine I.step (ch:=[a,b]) (g':=s.gens) (d':=s.drawn) ?_ ?_ ?_ ?_ ?_ ?_ ?_ ?_ ?_ ?_ I.bare
 .intro c f
  have:c=a\/c=b:=by simpa using f
  rcases this with rfl | rfl
  .exact⟨h.2.2.2.1,h.2.1,h.2.2.2.2.1,h.2.2.2.2.2⟩
  .exact⟨g.2.2.2.1,g.2.1,g.2.2.2.2.1,g.2.2.2.2.2⟩
 .intro c o _ _ f e _;show i c o f e
 .intro c o _ _ f e _;show⟨o.slots,i c o f e⟩
 .intro _ _ _ _ n;show n
 .intro c o f e;show⟨o,i c o f e⟩
 .intro _ _ e;show e
 .intro _ _ _ e;show e
 .intro c A e;show⟨#[],by rw[e];simp⟩
 .rintro m ⟨o,x,y,t,r⟩
  show⟨o,x,y,k _ o (Ia h.2.1) (Ia g.2.1) t,r⟩
 .intro c u e
  refine(I.hok c u e).stay ?_ (fun _ q=>q) fun _ _ q=>q
  intro d v w q
  rcases w with z | z
  .subst z;show k d v (p d u e) (l d u e) q
  .exact k d v (p d _ z) (l d _ z) q
def Ite(K:Ac)(a:Uh):It:=
 ⟨fun i H=>∃b x,SqL K H a b/\b[i]?=some x,fun i H x c=>∃p y,H p=none/\c=upd H p (.tup [.int i,y])/\x= .ref p/\∀b,SqL K H a b->b[i]?=some y,fun i H=>∃b,SqL K H a b/\b.length<=i⟩
def Z30{h:Uk}{o u:Obj}{b:Uh}(e:(h.push o).get? b=some u):h.get? b=some u\/b=h.objs.size:=by
 by_cases a:b=h.objs.size
 .exact .inr a
 .refine .inl ?_
  have c:=Ax e
  rw[Uc] at c
  let⟨f,d⟩:=Heap.get?_some_iff.mp e
  refine Heap.get?_some_iff.mpr ⟨?_,d⟩
  cases h
  simpa[Heap.push,Array.getElem?_push,a] using f
def Zg8{P:Ui}{w:Uj}{K:Ac}{elts:List Expr}{x1:Nat}{tp:Pos}(a e it:Uh)(t:e≠it):
  Turn P w K (.Tuple elts x1 tp) (Ite K a) [e,it] e (fun i h=>(∃j,IsEnum h e it i j)/\h.IsListIter it a i) where
 mem:=by simp
 obj:=by
  rintro i h ⟨⟨j,n⟩,g⟩ b r
  have:b=e\/b=it:=by simpa using r
  rcases this with rfl | rfl
  .exact⟨_,n,fun v z=>by cases z⟩
  .let⟨o,e,c,d⟩:=g
   show⟨o,e,fun v z=>by rw[d] at z;cases z⟩
 keep:=by
  rintro i h h' ⟨⟨j,n⟩,g⟩ k
  show⟨⟨j,k e (by simp) _ n⟩,g.at fun o z=>k it (by simp) o z⟩
 item:=by
  rintro X rfl rfl rfl V i l s S H E I D ⟨⟨j,n⟩,g⟩ ⟨xs,x,C,L⟩
  let⟨J,F,p,hz⟩:=I.list C
  let⟨u,hu,ru⟩:=F.get L
  have fe:=D e (by simp)
  have Z:=D it (by simp)
  have G:e<s.heap.objs.size:=Ax n
  have U:it<s.heap.objs.size:=by let⟨o,z,_⟩:=g;show Ax z
  refine wpAny_pyNext_enum_item n g p.isList (x:=u) ↥hu t fun h1 ho y hT z0 hk=>?_
  refine⟨_,rfl,wpAny_letOwnedTupleGo_enum ho fun O M m=>?_⟩
  replace m:Ku e h1 O:=m
  have N:O.get? s.heap.objs.size=some {cls:= .type "tuple",data:= .seq #[.int i s.toks,u]}:=(m.2 _ (nr G)).trans hT
  have hn:H s.heap.objs.size=none:=I.hok.fresh (na _)
  have I1:Inv X l S (upd H s.heap.objs.size (.tup [.int i,x])) {s with heap:=s.heap.push {cls:= .type "tuple",data:= .seq #[.int i s.toks,u]},toks:=s.toks+1}:=by
   refine I.laid (fun b ob q=>Ah _ q) (na _) ⟨show 2<=sizeLine by rw[Mo];lia,[.int i s.toks,u],.cons ⟨_,rfl⟩ (.cons ru .nil),⟨_,Dn _ rfl,rfl,_,rfl⟩⟩
  have B:∀b,b<s.heap.objs.size->FpOk X l H b->FpOk X l (upd H s.heap.objs.size (.tup [.int i,x])) b:=by
   rintro b lb ⟨R,f⟩
   refine⟨?_,f⟩
   rw[Z7 (nj lb)]
   show R
  have I2:=Y36 (h':=O) (t':=s.toks+1) I1 (fun c o Y r e'=>by
   rcases Z30 e' with z | z
   .exact(m.2 c Y).trans (hk c o Y r z)
   .subst z
    have T:(s.heap.push {cls:= .type "tuple",data:= .seq #[.int i s.toks,u]}).get? s.heap.objs.size=some o:=e'
    rw[Dn _ rfl] at T
    cases T
    show N) (B e G fe) (B it U Z)
  refine⟨.ref s.heap.objs.size,_,I2,rfl,⟨_,x,hn,rfl,rfl,fun ys hy=>by rw[I.list_inj hy C];show L⟩,⟨⟨_,↥M⟩,y.at fun o z=>(m.2 it (Ia t)).trans z⟩,fun b r=>?_⟩
  have:b=e\/b=it:=by simpa using r
  rcases this with rfl | rfl
  .exact(B _ G fe).1
  .exact(B _ U Z).1
 done:=by
  rintro X rfl rfl rfl V i l s S H E I D ⟨⟨j,n⟩,g⟩ ⟨xs,C,L⟩
  let⟨J,F,p,hz⟩:=I.list C
  let⟨R,f1,f2,f3,f4,f5⟩:=D it (by simp)
  have hl:=F.length
  show wpAny_pyNext_enum_end (I.ok.hd V) n g p.isList (by simp;lia) fun h' eb=>⟨rfl,I.turned (t':=s.toks) (fun b o r e=>eb b o r e) R f1 f3 f4 f5⟩
 self:=by
  rintro A i s Q E ⟨⟨j,n⟩,g⟩ h
  show wpAny_pyIter_enum n h
def Yi1(K:Ac)(f:TA):TI:=fun c H R=>f c H fun e b=>∃a,e=[V.ref a]/\(∃d,SqL K b a d)/\R (Ite K a) b
def Zz6{n:Nat}{p pos:Pos}(C:Gl X "enumerate")(A:X.mg "enumerate"=none)(E:PA X [l] j)(y:starEach [l] X.env=[(false,eval l X.env)]):
  PI X (.Tuple elts n tp) (.Call (.Name "enumerate" p) [l] [] pos) (Yi1 X.K j):=by
 intro d s m H R I h
 refine Call_ (Of I C A (u:= .type "enumerate") (by kernel_rfl) (PyProof.Rows.callWith_type1 (thn (E pos d s m H _ I h) fun L c zz68=>?_) y rfl))
 let⟨J,F,f,r,t⟩:=zz68
 let⟨a,rfl,⟨G,z⟩,q⟩:=t
 let⟨u,rfl,o⟩:=Vs r
 cases o
 let⟨w,M,v,N⟩:=f.list z
 refine call_enumerate_list v.isList fun O k i x B=>?_
 refine wpAny_pyIter_enum k ?_
 have g:c.heap.objs.size+1≠c.heap.objs.size:='o'
 refine⟨c.heap.objs.size+1,[c.heap.objs.size+1,c.heap.objs.size],_,_,F,rfl,f.kept (t':=c.toks) B,Zg8 a _ _ g,⟨⟨_,k⟩,i⟩,fun b D=>?_,q⟩
 have e:c.heap.objs.size<=b:=by
  have:b=c.heap.objs.size+1\/b=c.heap.objs.size:=by simpa using D
  rcases this with rfl | rfl
  .exact mm _
  .exact na _
 show f.fpOk e (f.hok.fresh e)
end
end L3
namespace PySem
def Gg:typeLookup (.type "list") "keys"=pure none:=by rw[typeLookup_type,builtinLookup_eq_fast];kernel_rfl
def Y30{prog:Ui}{w:Uj}{A:Around}{E:VSP}{s:Ug}{a:Uh}{o:Obj}{xs:Array Uf}{k:Nat}{name:Str}{u:Tok}{Q:VSP}
  (n:s.heap.get? a=some o) (q:o.cls= .type "list") (b:o.data= .seq xs k) (p:o.dict=none) (i:typeLookup (.type "list") name=pure none) (f:(["__module__","__name__","__qualname__","__doc__","__annotations__"]:LS).contains name=false) (y:A.handled=none)
  (h:∀h' tk e,Heap.NewExcOf s.heap h' e "AttributeError"->E (.ref e) {s with heap:=h',toks:=tk}) (m:name.length+100<=sizeLine:=by size_fits):
  wpAny (model prog w) A (getAttrBy (.ref a) (.str name u) false) Q E s:=by
 let⟨c,z,B,t⟩:=o
 simp only at q b p
 subst q b p
 let⟨x,g,d,tk,v⟩:=s
 have r:∀j,(⟨x,g,d,j,v⟩:Ug).TypeIs (.ref a) "list":=fun _=>⟨_,n,rfl⟩
 have K:=sub_AttributeError
 have J:=F.slot_list_getattribute.lookup
 have I:=F.slot_list_getattribute.bind (.ref a)
 have H:=am_list_getattr_none
 unfold getAttrBy
 repeat (any_goals (first | assumption | show r _ | ((with_reducible show wpAny _ _ (call (Value.builtin "list.__getattribute__") _ _) _ _ _);refine Mr F.slot_list_getattribute (r _) am_entry_list_getattribute (F.args_list_getattribute_2 _ _) (meets_getattribute_miss_list a xs k t name _ i f m) ⟨n,y,fun h' j e l=>?_⟩) | wp_step))
 let⟨D,C,G⟩:=l.there
 change wpAny _ _ (getattributeRaised _ _ _ _ _ _ _) _ _ _
 unfold getattributeRaised
 repeat (any_goals (first | assumption | wp_step))
 show h _ _ _ l.of
def Y14{prog:Ui}{w:Uj}{A:Around}{E:VSP}{s:Ug}{a:Uh}{o:Obj}{xs:Array Uf}{k:Nat}{Q:Option Uf->Ug->Prop}
  (hx:s.heap.get? a=some o) (hc:o.cls= .type "list") (hdat:o.data= .seq xs k) (hd:o.dict=none) (hA:A.handled=none)
  (h:∀h' tk,(∀b o,s.heap.get? b=some o->h'.get? b=some o)->Q none {s with heap:=h',toks:=tk}):wpAny (model prog w) A (getAttr? (.ref a) "keys") Q E s:=by
 let⟨hp,g,d,tk,os⟩:=s
 unfold getAttr? getAttrBy?
 have f1:=sub_AttributeError
 repeat (any_goals (first | assumption | ((with_reducible show wpAny _ _ (getAttrBy _ _ false) _ _ _);refine Y30 hx hc hdat hd Gg 'k' hA fun h' tk' e hx'=>?_;let⟨ob,vs,he,hcl,_,_⟩:=hx'.there;refine Ad (wpAny_isInstance (T:="AttributeError") ⟨ob,he,hcl⟩ f1 ?_);show Am (h h' tk' hx'.keeps)) | wp_step))
section
variable{prog:Ui}{w:Uj}{A:Around}{E:VSP}{R:Result->Ug->Prop}
def Vd:entryFor table "dict.update.loop"=some Builtin.«dict.update.loop»:=entryFor_of_tree (by kernel_rfl)
def Ys:plainId "dict.update.loop"=true:='k'
def Y64{K:Type}[DecidableEq K](knd:KeyKind prog w K)(h:Uk)(v:Uf)(p:K×Uf):Prop:=∃t u,v= .ref t/\h.IsTuple t #[u,p.2]/\knd.is p.1 u=true
def Ey{K:Type}[DecidableEq K]{knd:KeyKind prog w K}{h:Uk}{d I l:Uh}{i:Nat}{kvs:List (K×Uf)}(e:h.DictOf knd d kvs)(g:h.IsListIter I l i):d≠I:=by
 rintro rfl
 let⟨o,_,_,c,_,f,_⟩:=e
 let⟨j,a,_,b⟩:=g
 rw[c] at a
 cases a
 rw[f] at b
 cases b
def Y23{K:Type}[DecidableEq K]{knd:KeyKind prog w K}{l I d:Uh}{items:Array Uf}{ps:List (K×Uf)}(hh:A.in1.handled=none)(hsz:items.size<sizeLine)(w0:ps.length=items.size):
  ∀(k i:Nat) (s:Ug) (kvs:List (K×Uf)) (t:Tok),items.size - i=k->i<=items.size->kvs.length<=i->
  s.heap.IsListIter I l i->s.heap.IsList l items->s.heap.DictOf knd d kvs->(∀(j:Nat) v p,items[j]?=some v->ps[j]?=some p->Y64 knd s.heap v p)->
  (∀h' tk,h'.DictOf knd d ((ps.drop i).foldl (fun m p=>stored m p.1 p.2) kvs)->(∀b o,b≠I->b≠d->s.heap.get? b=some o->h'.get? b=some o)->R (.ok (.ret .none)) {s with heap:=h',toks:=tk})->
  codeAny (model prog w) A (.builtin "dict.update.loop" ⟨[.ref d,.ref I,.int i t,.none],[]⟩) R s:=by
 intro k
 induction k with
 | zero=>
  intro i s kvs t hk hi U z J D Q q
  have W:i=items.size:='o'
  refine No Vd ?_
  rw[Ls Ys _]
  change wpAny _ A.in1 (pyNext (.ref I) >>=_) _ _ s
  refine Ad (wpAny_pyNext_list_end hh z J (by rw[W];simp) fun h' he=>?_)
  change wpAny _ _ (Builtin.Dict.addKeywords d [] >>=_) _ _ _
  refine Ad (Am (Am ?_))
  have y:=Ey D z
  refine q h' _ ?_ fun b o B _ e=>he b o B e
  rw[List.drop_of_length_le 'o']
  show D.extBut he y
 | succ k ih=>
  intro i s kvs t hk hi U z J D Q q
  have S:i<items.size:='o'
  obtain⟨v,hv⟩:∃v,items[i]?=some v:=⟨_,Array.getElem?_eq_getElem S⟩
  obtain⟨p,C⟩:∃p,ps[i]?=some p:=⟨_,Aa 'o'⟩
  refine No Vd ?_
  rw[Ls Ys _]
  change wpAny _ A.in1 (pyNext (.ref I) >>=_) _ _ s
  refine Ad (wpAny_pyNext_list_item z J hv fun h' x0 P=>?_)
  let⟨tt,u,rfl,F,V⟩:=Q i v p hv C
  have y:=Ey D z
  have f:∀b o,b≠I->s.heap.get? b=some o->h'.get? b=some o:=fun b o hb e=>(P.2 b hb).trans e
  have tI:tt≠I:=by
   rintro rfl
   let⟨o,g,_,n,x⟩:=F
   let⟨O,a,_,c⟩:=z
   rw[g] at a;cases a;rw[x] at c;cases c
  have lI:l≠I:=by
   rintro rfl
   let⟨o,g,_,n,x⟩:=J
   let⟨O,a,_,c⟩:=z
   rw[g] at a;cases a;rw[x] at c;cases c
  have M:∀(b:Uh) (o:Obj) xs n,s.heap.get? b=some o->o.data= .seq xs n->b≠d/\b≠I:=by
   intro b o xs n g x
   constructor
   .rintro rfl
    let⟨O,_,_,a,_,c,_⟩:=D
    rw[g] at a;cases a;rw[x] at c;cases c
   .rintro rfl
    let⟨O,a,_,c⟩:=z
    rw[g] at a;cases a;rw[x] at c;cases c
  let⟨ot,H,y0,nt,X⟩:=id F
  change wpAny _ _ (holding [.ref tt] _ >>=_) _ _ _
  refine Ad (Iv (Ad (Lw ?_)))
  unfold Builtin.Dict.pairItems
  refine Ad (wpAny_typeOf (T:="tuple") ⟨ot,f _ _ tI H,y0⟩ ?_)
  rw[ng 'd']
  refine Ad (wpAny_seqItems (f _ _ tI H) X ?_)
  refine Am ?_
  change wpAny _ _ (holding [u,p.2] (dictSet d u p.2)) _ _ _
  have z0:h'.DictOf knd d kvs:=D.extBut (fun b o hb e=>f b o hb e) y
  refine Iv (wpAny_dictSet_pairs V z0 (fun h2 Z G=>?_) 'o')
  refine Am ⟨Mw Ys _,?_⟩
  have h:∀b o,b≠I->b≠d->s.heap.get? b=some o->h2.get? b=some o:=fun b o B L e=>(G.2 b L).trans (f b o B e)
  have:=ih (i+1) {s with heap:=h2,toks:=s.toks+1} (stored kvs p.1 p.2) 0 'o' 'o' ?_ ?_ ?_ Z ?_ ?_
  .exact this
  .unfold stored
   split
   .rw[Ag];lia
   .rw[Ae,Ay];lia
  .let⟨o,g,r⟩:=x0
   show⟨o,(G.2 I (Ia y)).trans g,r⟩
  .let⟨o,g,x,n,r⟩:=J
   show⟨o,h _ _ (M _ _ _ _ g r).2 (M _ _ _ _ g r).1 g,x,n,r⟩
  .intro j v p' B L
   let⟨t3,u3,e3,⟨o,g,x,n,r⟩,g3⟩:=Q j v p' B L
   show⟨t3,u3,e3,⟨o,h _ _ (M _ _ _ _ g r).2 (M _ _ _ _ g r).1 g,x,n,r⟩,g3⟩
  .intro L N Y k3
   refine q L N ?_ fun b o B h4 e=>k3 b o B h4 (h b o B h4 e)
   rw[Im (by lia:i<ps.length)]
   rw[Aa 'o'] at C
   cases C
   show Y
variable{s:Ug}
def Zw5{K:Type}[DecidableEq K]{knd:KeyKind prog w K}{l:Uh}{o:Obj}{n:Nat}{items:Array Uf}{ps:List (K×Uf)}{Q:VSP}(hh:A.handled=none)
  (ho:s.heap.get? l=some o) (hc:o.cls= .type "list") (hdat:o.data= .seq items n) (hdi:o.dict=none) (hsz:items.size<sizeLine) (hps:ps.length=items.size)
  (hp:∀(j:Nat) v p,items[j]?=some v->ps[j]?=some p->Y64 knd s.heap v p)
  (h:∀h' tk,h'.DictOf knd s.heap.objs.size (ps.foldl (fun m p=>stored m p.1 p.2) [])->(∀b o,s.heap.get? b=some o->h'.get? b=some o)->Q (.ref s.heap.objs.size) {s with heap:=h',toks:=tk}):
  wpAny (model prog w) A (call (.type "dict") [.ref l]) Q E s:=by
 refine callType_codes (Q₁:=fun obj s₁=>obj= .ref s.heap.objs.size/\s₁={s with heap:=s.heap.push {cls:= .type "dict",data:= .dict #[]}}) F.kt_called_dict (F.kt_typeCall_dict_1 _) F.entry_dict_init (kt_code_dict_new _ ⟨rfl,rfl⟩) ?_
 rintro obj s₁ ⟨rfl,rfl⟩
 have hnew:(s.heap.push {cls:= .type "dict",data:= .dict #[]}).DictOf knd s.heap.objs.size []:=Heap.DictOf.new s.heap
 refine⟨hnew.typeIs,F.args_dict_init_2 _ _,?_⟩
 unfold Builtin.«dict.__init__»
 refine Ad ?_
 unfold Builtin.Dict.selfAndRest
 refine Ad (wpAny_notOrdered_dict hnew.typeIs ?_)
 change wpAny _ _ (pure (s.heap.objs.size,[Value.ref l])) _ _ _
 refine Am ?_
 change wpAny _ _ (Builtin.Dict.updateFrom "dict.__init__" s.heap.objs.size (.ref l) [] .none) _ _ _
 unfold Builtin.Dict.updateFrom
 have ho':(s.heap.push {cls:= .type "dict",data:= .dict #[]}).get? l=some o:=Ah _ ho
 refine Ad (wpAny_typeOf (T:="list") ⟨o,ho',hc⟩ ?_)
 rw[ng 'd']
 refine Ad (Y14 ho' hc hdat hdi (by first | show hh | rfl) fun h1 tk1 k1=>?_)
 simp only[Option.isNone_none,if_true]
 have hl1:h1.IsList l items:=⟨o,k1 _ _ ho',hc,n,hdat⟩
 have hd1:h1.DictOf knd s.heap.objs.size []:=by
  let⟨q,es,ep,hq,r⟩:=hnew
  show⟨q,es,ep,k1 _ _ hq,r⟩
 have old:∀b o,s.heap.get? b=some o->h1.get? b=some o:=fun b o e=>k1 b o (Ah _ e)
 refine Ad (wpAny_rule ?_)
 refine Ad (wpAny_pyIter_list hl1 ?_)
 refine Am ⟨Mw Ys _,?_⟩
 refine Y23 (A:=A.in1) (knd:=knd) (ps:=ps) hh hsz hps _ 0 _ [] 0 rfl (nq _) (nq _) ⟨_,Dn _ rfl,rfl,rfl⟩ (hl1.push _) (hd1.push _) ?_ ?_
 .intro j v p h2 h3
  let⟨t,u,e,⟨q,hq,r⟩,g⟩:=hp j v p h2 h3
  show⟨t,u,e,⟨q,Ah _ (old _ _ hq),r⟩,g⟩
 .intro h' tk hd' hk
  refine⟨rfl,h h' tk hd' fun b o e=>hk b o ?_ ?_ (Ah _ (old _ _ e))⟩
  .exact nj (Ax (old _ _ e))
  .exact nj (Ax e)
end
end PySem
namespace L3
open PySem PySem.Spec PyProof.Rows L2
section
variable{X:Cx}{pins:PLO}{σ:L2.St}{H:Hp}{s:Ug}
def Jy(K:Ac)(H:Hp):LV->List (Key×V)->Prop
 | [],[]=>True
 | v::r,p::q=>(∃t,v= .ref t/\SqT K H t [kV p.1,p.2])/\Jy K H r q
 | _,_=>False
def Ei(I:Inv X pins σ H s):∀(vs:LV) (its:LW) (ps:List (Key×V)),Vals vs its->Jy X.K H vs ps->∃a,KV ps a/\a.length=its.length/\∀(j:Nat) v p,its[j]?=some v->a[j]?=some p->Y64 (Zi X.prog X.w) s.heap v p
 | [],its,ps,r,h=>by
  cases ps with
  | cons _ _=>show h.elim
  | nil=>
   have:=r.length
   cases its with
   | cons _ _=>simp at this
   | nil=>show⟨[],by constructor,rfl,fun j v p h=>by simp at h⟩
 | v::vs,its,ps,r,h=>by
  cases ps with
  | nil=>show h.elim
  | cons p ps=>
   let⟨⟨t,rfl,x⟩,h⟩:=h
   cases r with
   | @cons _ u _ its k r=>
   cases (show u=Value.ref t from k)
   let⟨y,l,b,_⟩:=I.tuple x
   let⟨f,e,rfl,i,g⟩:=Z48 l
   let⟨a,o,n,m⟩:=Ei I vs its ps r h
   refine⟨(p.1,e)::a,.cons ⟨rfl,g⟩ o,by rw[Ex,Ex,n],fun j v q d c=>?_⟩
   cases j with
   | zero=>
    cases d;cases c
    show⟨t,f,rfl,b,Gm i⟩
   | succ j=>show m j v q d c
def Zc6:∀{ps:List (Key×V)} {a:List (Key×Uf)} {kvs:List (Key×V)} {vs:List (Key×Uf)},KV ps a->KV kvs vs->KV (ps.foldl (fun m p=>putK m p.1 p.2) kvs) (a.foldl (fun m p=>stored m p.1 p.2) vs):=by
 intro ps a kvs vs h
 induction h generalizing kvs vs with
 | nil=>intro h;show h
 | cons e r ih=>
  intro h
  rw[Li,Li]
  refine ih ?_
  rw[e.1]
  show h.put _ e.2
def Nq:∀(ps:List (Key×V)) (kvs:List (Key×V)),(ps.foldl (fun m p=>putK m p.1 p.2) kvs).length<=kvs.length+ps.length
 | [],kvs=>na _
 | p::ps,kvs=>by
  rw[Li,Ex]
  have:=Nq ps (putK kvs p.1 p.2)
  have:=Xr kvs p.1 p.2
  lia
def Z97{K:Ac}:∀{vs:LV} {ps:List (Key×V)},Jy K H vs ps->vs.length=ps.length:=by
 intro vs ps h
 induction vs generalizing ps with
 | nil=>
  cases ps with
  | nil=>rfl
  | cons _ _=>show Dk h
 | cons v vs ih=>
  cases ps with
  | nil=>show Dk h
  | cons p ps=>rw[Ex,Ex,ih h.2]
def Z35(B:X.calm=true):W2 X (.type "dict") (fun xs H Q=>∃(a:Uh) (vs:LV) (ps:List (Key×V)),xs=[V.ref a]/\SqL X.K H a vs/\Jy X.K H vs ps/\vs.length<sizeLine/\
  ∀p,H p=none->Q (.ref p) (upd H p (.dK (ps.foldl (fun m p=>putK m p.1 p.2) [])))):=by
 intro pins s σ H xs L Q I r h
 let⟨a,vs,ps,rfl,y,f,M,q⟩:=h
 let⟨u,rfl,i⟩:=Vs r
 cases i
 let⟨d,e,⟨o,n,z,E,D,C⟩,_⟩:=I.list y
 let⟨c,x,t,l⟩:=Ei I vs d ps e f
 have N:=e.length
 have A:=Z97 f
 refine Zw5 (knd:=Zi X.prog X.w) (ps:=c) (I.ok.hd B) z E C D (by rw[Ak];lia) (by rw[Ak];show t) (fun j v p G F=>l j v p ↥G F) fun O g J b=>?_
 have k:=Nq ps []
 refine⟨.ref _,_,I.laid (a:=s.heap.objs.size) (o:= .dK (ps.foldl (fun m p=>putK m p.1 p.2) [])) (t':=g) b (na _) (Jk (by rw[Ik] at k;lia) (beq_eq_false_iff_ne.mpr (Ia (nj I.big))) (Zc6 x .nil) J),rfl,q _ (I.hok.fresh (na _))⟩
end
def Itd(a:Uh)(o:Obj):It:=⟨fun i H=>∃b p,H a=some (.frz o (.dK b))/\b[i]?=some p,fun i H x c=>c=H/\∀b,H a=some (.frz o (.dK b))->∃p,b[i]?=some p/\x=kV p.1,fun i H=>∃b,H a=some (.frz o (.dK b))/\b.length<=i⟩
def Zb1{w:Uj}{H:Hp}{a:Uh}{o:Obj}(x:Y6 P w H h a (.frz o (.dK kvs)))(c:o.data= .dict es ep):
  ∃vs,KV kvs vs/\h.DictAt (Zi P w) a vs ep/\vs.length=es.size:=by
 let⟨e,_,_,vs,b,n,l,m,g,k,f,j,d,i⟩:=x
 rw[e] at g
 cases g
 rw[c] at f
 cases f
 refine⟨vs,b,⟨o,es,e,k,c,j,d,i⟩,?_⟩
 have:=d.length
 simpa using this.symm
def Yk8{w:Uj}{k:Key}(h:(Zi P w).is k u=true):L2.RelV (kV k) u:=by
 rcases Zs h with⟨i,t,rfl,rfl⟩ | ⟨x,t,rfl,rfl⟩
 .exact⟨t,rfl⟩
 .exact⟨t,rfl⟩
def Yl4(r:KV kvs vs):∀{i:Nat} {p:Key×V},kvs[i]?=some p->∃u,vs[i]?=some (p.1,u)/\L2.RelV p.2 u:=by
 unfold KV at r
 induction r with
 | nil=>intro i p e;simp at e
 | @cons p q c b h t a=>
  intro i p e
  cases i with
  | zero=>
   cases e
   show⟨q.2,by rw[h.1];rfl,h.2⟩
  | succ i=>show a ↥e
def Z98{w:Uj}{K:Ac}(a it:Uh){o:Obj}(U:o.data= .dict es ep):Turn P w K Z (Itd a o) [it] it (fun i h=>h.IsKeyIter it a i es.size ep) where
 mem:=by simp
 obj:=fun i h f b m=>by
  have e:b=it:=by simpa using m
  subst e
  let⟨o,e,c,d⟩:=f
  show⟨o,e,fun v z=>by rw[d] at z;cases z⟩
 keep:=fun i h x f k=>f.at fun o e=>k it (by simp) o e
 item:=by
  intro X G D J V i g s S H E I u f F
  subst G D J
  let⟨y,p,r,C⟩:=F
  let⟨Y,l,R,t⟩:=Zb1 (I.hok a _ r) U
  let⟨q,B,e2⟩:=Yl4 l C
  let⟨Q,O,f2,N,M,L⟩:=u it (by simp)
  rw[<-t] at f
  refine wpAny_pyNext_dict_item f R B fun A x n j sb=>?_
  have I1:Inv X g S H {s with heap:=x}:=I.turned (t':=s.toks) (fun b o m e=>(sb.2 b m).trans e) Q O N M L
  let⟨ob,e,c,d⟩:=id j
  rw[t] at j
  show⟨A,rfl,Zb7 (s:={s with heap:=x}) e c d 'd' ⟨kV p.1,H,I1,Yk8 n,⟨rfl,fun ys T=>by rw[r] at T;cases T;show⟨p,C,rfl⟩⟩,j,fun b m=>(u b m).1⟩⟩
 done:=by
  intro X G D J V i g s S H E I u f F
  subst G D J
  let⟨y,r,C⟩:=F
  let⟨Y,l,R,t⟩:=Zb1 (I.hok a _ r) U
  let⟨Q,O,f2,N,M,L⟩:=u it (by simp)
  have z0:=l.length
  rw[<-t] at f
  show wpAny_pyNext_dict_end (I.ok.hd V) f R (by simp;lia) fun x eb=>⟨rfl,I.turned (t':=s.toks) (fun b o m e=>eb b o m e) Q O N M L⟩
 self:=fun _ _ _ _ _ f h=>wpAny_pyIter_keyiter f h
section
variable{X:Cx}{pins:PLO}{σ:L2.St}{H:Hp}{s:Ug}{a:Uh}
def Zp8(I:Inv X pins σ H s)(e:H a=some (.dK kvs)):
  ∃o es ep,o.data= .dict es ep/\s.heap.get? a=some o/\Inv X pins σ (upd H a (.frz o (.dK kvs))) s/\(∀o u,X.H₀ a≠some (.frz o u)):=by
 let⟨z,i,g,c,f⟩:=Gs I.hok e
 let⟨o,es,ep,d,l,j,k⟩:=id f
 refine⟨o,es,ep,j,d,?_,fun h u q=>?_⟩
 .exact I.write (x:=a) (e:=a) (o:= .frz o (.dK kvs)) (h':=s.heap) (t':=s.toks) (by rw[e];show Kf) (.inl rfl) (fun b q _ r=>r) ⟨o,d⟩ ⟨d,z,i,g,c,f⟩
 .have:=I.base.frzs a h u q
  rw[e] at this
  cases this
def Ze9{o:Obj}(I:Inv X pins σ H s)(e:H a=some (.frz o (.dK kvs)))(j:∀o u,X.H₀ a≠some (.frz o u)):Inv X pins σ (upd H a (.dK kvs)) s where
 ok:=I.ok
 os:=I.os
 bare:=I.bare
 base:=by
  have k:∀b,H b=none->b≠a:=fun b n z=>by subst z;rw[e] at n;cases n
  refine⟨I.base.keep,I.base.slot,fun b q h n l=>?_,I.base.there,fun b f h=>?_,fun b q u h=>?_,fun b i h=>?_⟩
  .have:=I.base.free b q h n l
   rw[Z7 (k b this)];show this
  .have:=I.base.tups b f h
   rw[Z7 (fun z=>by subst z;rw[e] at this;cases this)];show this
  .have:=I.base.frzs b q u h
   rw[Z7 (fun z=>by subst z;show j q u h)];show this
  .let⟨m,this⟩:=I.base.tbls b i h
   show⟨m,by rw[Z7 (fun z=>by subst z;rw[e] at this;cases this)];show this⟩
 loc:=I.loc
 cell:=I.cell
 free:=by rw[Z7 (fun z=>by have:=I.free;rw[z,e] at this;cases this)];show I.free
 freeC:=fun x c h=>by
  have:=I.freeC x c h
  rw[Z7 (fun z=>by subst z;rw[e] at this;cases this)];show this
 pin:=fun p t=>by
  let⟨y,d,w⟩:=I.pin p t
  show⟨y,by rw[Z7 (fun z=>by rw[z,e] at d;cases d)];show d,w⟩
 hok:=by
  intro b u h
  by_cases g:b=a
  .subst g
   rw[Zd] at h
   cases h
   let⟨_,q⟩:=I.hok b _ e
   show q
  .rw[Z7 g] at h
   refine(I.hok b u h).stay (fun c v _ r=>r) (fun c r=>?_) fun c f r=>?_
   .rw[Z7 (fun z=>by subst z;rw[e] at r;cases r)];show r
   .rw[Z7 (fun z=>by subst z;rw[e] at r;cases r)];show r
 len:=I.len
end
end L3
namespace SW
open PySem
def Rise(xs:Array Nat):Prop:=∀i k,i<k->k<xs.size->xs.getD i 0<xs.getD k 0
structure At(xs:Array Nat)(j i:Nat):Prop where
 le:i<=xs.size
 lo:∀k,k<i->xs.getD k 0<j
 hi:∀k,i<=k->k<xs.size->j<=xs.getD k 0
structure TOk(t:SetTable)(led:Bool):Prop where
 rise:Rise t.place
 dum:t.dummies=#[]
 led:t.led=led
end SW
namespace SW
open PySem PyProof.Rows
section
variable{M:Model}{prog:Ui}{w:Uj}{A:Around}{E:VSP}{s:Ug}
inductive KeysOf {K:Type} [DecidableEq K] (knd:KeyKind prog w K):List K->List (Int×Uf)->Prop
 | nil:KeysOf knd [] []
 | cons {k:K} {e:Int×Uf} {ks:List K} {l:List (Int×Uf)} (h:knd.is k e.2=true) (r:KeysOf knd ks l):KeysOf knd (k::ks) (e::l)
variable{K:Type}[DecidableEq K]{knd:KeyKind prog w K}
structure SetO(knd:KeyKind prog w K)(led:Bool)(o:Obj)(ks:List K):Prop where
 ex:o.ExactSet
 dat:∃es ep t,o.data= .set es ep t/\ElemsOf knd es.toList/\KeysOf knd ks es.toList/\t.fits es.size=true/\TOk t led
 nd:ks.Nodup
 sm:ks.length<scanBound
end
section
variable{prog:Ui}{w:Uj}{A:Around}{E:VSP}{s:Ug}
end
section
variable{prog:Ui}{w:Uj}{A:Around}{E:VSP}{s:Ug}
abbrev itO(f:Uf)(i:Nat)(a:Uh)(n ep:Nat):Obj:={cls:= .type "set_iterator",dict:=none,data:= .fields #[f,rawInt i,.ref a,rawInt n,rawInt ep],slots:=#[]}
end
section
variable{prog:Ui}{w:Uj}{A:Around}{E:VSP}{s:Ug}
structure ItSt(w:Uj)(I a T:Uh)(o:Obj)(es:Array (Int×Uf))(ep:Nat)(t:SetTable)(vs:LW)(i:Nat)(h:Uk):Prop where
 set:h.get? a=some o
 md:(w.params.followText "set-order"=true/\vs=(pickOrder (w.params.setOrder a ep) es).toList.map (·.2)/\h.get? I=some (itO (rawInt 0) i a es.size ep))
  \/(w.params.followText "set-order"=false/\(!t.plain&&decide (es.size >1))=false/\t.led=true/\Rise t.place/\vs=es.toList.map (·.2)/\∃slot,SetTable.below t.place slot=i/\h.get? I=some (itO (rawInt slot) i a es.size ep))
  \/(∃pl:LQ,h.IsTuple T (pl.map fun(k:Nat)=>rawInt k).toArray/\vs=pl.map (fun k=>(es.getD k (0,.none)).2)/\(∀k∈pl,k<es.size)/\h.get? I=some (itO (.ref T) i a es.size ep))
end
end SW
namespace SW
open PySem PyProof.Rows PySem.W
end SW
namespace SW
open PySem PyProof.Rows
end SW
namespace L3
open PySem PySem.Spec PyProof.Rows L2
section
variable{X:Cx}{pins:PLO}{σ:L2.St}{H:Hp}{s:Ug}
def W7:∀{vs:LW} {ns:List Int},IntsAre vs ns->Vals (ns.map V.int) vs
 | _,_,.nil=> .nil
 | _,_,.cons n t r=> .cons ⟨t,rfl⟩ (W7 r)
end
end L3
namespace L2
open PySem PySem.Spec PyProof.Rows
variable{X:Cx}
end L2
namespace SW
open PySem PySem.Spec PyProof.Rows
end SW
namespace L3
open PySem PySem.Spec PyProof.Rows L2
section
variable{X:Cx}{pins:PLO}{σ:L2.St}{H:Hp}{s:Ug}
def Zq2(I:Inv X pins σ H s)(o:X.A.units+64<cLine)(c:Bool){p b:Uh}(m:SqL X.K H p vs)(n:SqL X.K H b [])(q:Q (.bl (if c then !vs.isEmpty else vs.isEmpty)) H):
  ⇑X (compareOp (if c then .NotEq else .Eq) (.ref p) (.ref b)) (EP X pins σ Q) X.xe s:=by
 let⟨g,r,d,_⟩:=I.list m
 let⟨f,k,a,_⟩:=I.list n
 have l:f=[]:=by cases k;rfl
 subst l
 cases vs with
 | nil=>
  cases r
  cases c with
  | true=>show SeqAt.RcNeAt.lists (e:=fun _=>true) d.isList a.isList rfl 'o' (fun j h=>absurd h (Nat.not_lt_zero _)) _ _ _ _ ⟨.bl _,H,I,rfl,q⟩
  | false=>show SeqAt.RcAt.lists (e:=fun _=>true) d.isList a.isList rfl 'o' (fun j h=>absurd h (Nat.not_lt_zero _)) _ _ _ _ ⟨.bl _,H,I,rfl,q⟩
 | cons v vs=>
  have i:(g.toArray.size !=([]:LW).toArray.size)=true:=by
   cases r
   rfl
  cases c with
  | true=>show SeqAt.RcNeAt.lists_lengths d.isList a.isList i 'o' _ _ _ _ ⟨.bl _,H,I,rfl,q⟩
  | false=>show SeqAt.RcAt.lists_lengths d.isList a.isList i 'o' _ _ _ _ ⟨.bl _,H,I,rfl,q⟩
def Zz7(I:Inv X pins σ H s)(L:X.A.units+64<cLine)(c:Bool){a b:Uh}(F:SqT X.K H a vs)(E:SqT X.K H b ys)(v:vs.all Yv=true)(t:ys.all Yv=true)(q:Q (.bl (if c then !eqVs vs ys else eqVs vs ys)) H):
  ⇑X (compareOp (if c then .NotEq else .Eq) (.ref a) (.ref b)) (EP X pins σ Q) X.xe s:=by
 let⟨f,m,l,_⟩:=I.tuple F
 let⟨d,g,k,_⟩:=I.tuple E
 have D:=m.length
 have C:=g.length
 have o:∀j (r:j<f.toArray.size) (p:j<d.toArray.size),Hh X.A.in1 s f.toArray[j] d.toArray[j] (eqV (vs.getD j .non) (ys.getD j .non)):=fun j r p=>by
  have i:j<vs.length:=by rw[Ak] at r;lia
  have h:j<ys.length:=by rw[Ak] at p;lia
  let⟨u,J,B⟩:=m.get (Aa i)
  let⟨w,G,z⟩:=g.get (Aa h)
  have y:f.toArray[j]=u:=by have:=(Ab.mp J).2;simpa using this
  have x:d.toArray[j]=w:=by have:=(Ab.mp G).2;simpa using this
  rw[y,x,Af,Af,Aa i,Aa h]
  rw[Hw] at v t
  show Cw B z (v _ (Hx i)) (t _ (Hx h))
 have n:((Ao (min f.toArray.size d.toArray.size)).all (fun j=>eqV (vs.getD j .non) (ys.getD j .non))&&f.toArray.size==d.toArray.size)=eqVs vs ys:=by
  unfold eqVs
  rw[Ak,Ak,D,C]
 cases c with
 | true=>show SeqAt.RcNeAt.tuples (e:=fun j=>eqV (vs.getD j .non) (ys.getD j .non)) l k 'o' o _ _ _ _ ⟨.bl _,H,I,rfl,by rw[n];show q⟩
 | false=>show SeqAt.RcAt.tuples (e:=fun j=>eqV (vs.getD j .non) (ys.getD j .non)) l k 'o' o _ _ _ _ ⟨.bl _,H,I,rfl,by rw[n];show q⟩
end
end L3
namespace L3
open PySem PySem.Spec PyProof.Rows L2 PySem.Builtin PySem.Builtin.Str
section
variable{X:Cx}{pins:PLO}{σ:L2.St}{H:Hp}{s:Ug}
def Its(x:Str):It:=⟨fun i _=>i<x.length,fun i H v a=>a=H/\∃c,x.cps.toList[i]?=some c/\v= .str ⟨#[c]⟩,fun i _=>x.length<=i⟩
def Cr{P:Ui}{w:Uj}{K:Ac}{L:Expr}(it:Uh)(x:Str)(t:Tok)(n:String)
  (R:["enumerate","zip","dict_itemiterator","dict_reverseitemiterator","odict_iterator","itertools.zip_longest","itertools.pairwise"].contains n=false)
  (W:∀A:Around,A.handled=none->Walks P w A it [it] [it] x.cps.size (SignAt x) (fun i h=>h.IsStrIter it n x t i))
  (S:∀(A:Around) (i:Nat) (s:Ug) (Q:Option Uf->Ug->Prop) (E:VSP),A.handled=none->s.heap.IsStrIter it n x t i->x.cps[i]?=none->(∀h',Heap.ExtBut it s.heap h'->Q none {s with heap:=h'})->wpAny (model P w) A (pyNext (.ref it)) Q E s)
  (O:∀(A:Around) (i:Nat) (s:Ug) (Q:VSP) (E:VSP),s.heap.IsStrIter it n x t i->Q (.ref it) s->wpAny (model P w) A (pyIter (.ref it)) Q E s):
  Turn P w K L (Its x) [it] it (fun i h=>h.IsStrIter it n x t i) where
 mem:=by simp
 obj:=fun i h a b f=>by
  have e:b=it:=by simpa using f
  subst e
  let⟨o,e,c,d⟩:=a
  show⟨o,e,fun v z=>by rw[d] at z;cases z⟩
 keep:=fun i h h' a k=>by
  let⟨o,e,r⟩:=a
  show⟨o,k it (by simp) o e,r⟩
 item:=by
  intro X u l y q i pins s σ H E I j a m
  subst u l y
  let⟨G,F,T,D,C,B⟩:=j it (by simp)
  refine(W X.A (I.ok.hd q)).item i s _ _ m a fun v h' J N g M=>?_
  let⟨c,Z,p,rfl⟩:=N
  have Y:Inv X pins σ H {s with heap:=h',toks:=J}:=I.turned (fun b o f e=>M b o ↥f e) G F D C B
  let⟨o,e,V,d⟩:=id g
  show⟨_,rfl,Zb7 (s:={s with heap:=h',toks:=J}) e V d R ⟨.str ⟨#[c]⟩,H,Y,⟨_,rfl⟩,⟨rfl,c,↥p,rfl⟩,g,fun b f=>(j b f).1⟩⟩
 done:=by
  intro X u l y q i pins s σ H E I j a m
  subst u l y
  let⟨G,F,T,D,C,B⟩:=j it (by simp)
  have e:x.cps.size<=i:=m
  show S X.A i s _ _ (I.ok.hd q) a (by simp;lia) fun h' U=>⟨rfl,I.turned (t':=s.toks) (fun b o f e=>U b o f e) G F D C B⟩
 self:=fun A i s Q E a h=>O A i s Q E a h
def Zo7{c:Ug}{a:Str}{t:Tok}(g:Inv X pins σ f c)(q:R (Its a) f):⇑X (pyIter (.str a t)) (PIE X pins σ m R) X.xe c:=by
 have l:∀b∈[c.heap.objs.size],FpOk X pins f b:=fun b n=>by
  have e:b=c.heap.objs.size:=by simpa using n
  subst e
  show g.fpOk (na _) (g.hok.fresh (na _))
 cases k:a.cps.all (· <128)
 .exact wpAny_pyIter_wide k ⟨c.heap.objs.size,[c.heap.objs.size],_,_,f,rfl,g.kept (t':=c.toks) fun b o e=>Ah _ e,Cr _ a t "str_iterator" 'd' (fun A j=>Walks.strWide j _ a t) (fun _ _ _ _ _ h d e q=>wpAny_pyNext_wide_end h d e q) (fun _ _ _ _ _ d i=>wpAny_pyIter_striter_wide d i),⟨_,Dn _ rfl,rfl,rfl⟩,l,q⟩
 .exact wpAny_pyIter_ascii k ⟨c.heap.objs.size,[c.heap.objs.size],_,_,f,rfl,g.kept (t':=c.toks) fun b o e=>Ah _ e,Cr _ a t "str_ascii_iterator" 'd' (fun A j=>Walks.strAscii j _ a t) (fun _ _ _ _ _ h d e q=>wpAny_pyNext_ascii_end h d e q) (fun _ _ _ _ _ d i=>wpAny_pyIter_striter_ascii d i),⟨_,Dn _ rfl,rfl,rfl⟩,l,q⟩
end
end L3
namespace Tt
open PySem PySem.Builtin PySem.Builtin.Str
abbrev L(x:Str):LQ:=x.cps.toList
end Tt
namespace L3
open PySem PySem.Spec PyProof.Rows L2
section
variable{X:Cx}
def PFs(X:Cx)(vs:List Expr)(t:Str->L2.St->Hp->(Str->Hp->Prop)->Prop):Prop:=
 ∀(a:PLO) (s:Ug) (c:L2.St) (H:Hp) (b:Str) (Q:Str->Hp->Prop),Inv X a c H s->t b c H Q->
  ⇑X (joinParts b (evalEach vs X.env)) (EP X a c fun v d=>∃x,v= .str x/\Q x d) X.xe s
def Ye1:PFs X [] (fun out _ H Q=>out.length<=sizeLine/\Q out H):=by
 intro a s b H out Q I h
 show joinParts_nil ⟨.str out,H,I.tok _,⟨_,rfl⟩,out,rfl,h.2⟩ h.1
def Yg5{x:Str}{t:Str->L2.St->Hp->(Str->Hp->Prop)->Prop}(h:PFs X r t):PFs X (.Constant (.str x) j pos::r) (fun out b H Q=>(out++x).length<=sizeLine/\t (out++x) b H Q):=by
 intro a s b H out Q I c
 refine joinParts_cons (thn (Zt3 (X:=X) (x:=x) (j:=j) (pos:=pos) a s b H (fun v l=>v= .str x/\l=H) I ⟨rfl,rfl⟩) fun u d zz69=>?_)
 let⟨v,k,i,e,g,f⟩:=zz69
 subst g f
 let⟨m,rfl⟩:=e
 show⟨c.1,h a d b k (out++x) Q i c.2⟩
def Yb0{t:Str->L2.St->Hp->(Str->Hp->Prop)->Prop}(q:PE X e j)(h:PFs X r t):
  PFs X (.FormattedValue e (-1) none pos::r) (fun out b H Q=>j b H fun v c=>(∃i:Int,v= .int i/\i.natAbs.log2<1920/\(out++toString i:Str).length<=sizeLine/\t (out++toString i) b c Q)\/∃y,v= .str y/\y.length<=sizeLine/\(out++y).length<=sizeLine/\t (out++y) b c Q):=by
 intro a s b H out Q I p
 refine joinParts_cons (FormattedValue_plain (thn (q a s b H _ I p) fun u x zz70=>?_))
 let⟨v,c,m,l,o⟩:=zz70
 rcases o with⟨i,rfl,g,f,d⟩ | ⟨y,rfl,g,f,d⟩
 .let⟨n,rfl⟩:=l
  show formatField_int_small g ⟨f,h a _ b c _ Q (m.tok _) d⟩
 .let⟨n,rfl⟩:=l
  show formatField_str (fun w k=>⟨f,h a _ b c _ Q (m.tok _) d⟩) g
def Zx7{b a:Expr}{t:Str->L2.St->Hp->(Str->Hp->Prop)->Prop}(h:PFs X (b::a::r) t):PE X (.JoinedStr (b::a::r) pos) (fun d H Q=>t Str.empty d H fun x H'=>Q (.str x) H'):=by
 intro c s d H Q I g
 refine JoinedStr_many (thn (h c s d H Str.empty _ I g) fun u l zz71=>?_)
 let⟨v,k,j,e,x,i,f⟩:=zz71
 subst i
 show⟨_,k,j,e,f⟩
end
section
variable{X:Cx}{pins:PLO}{σ:L2.St}{H:Hp}{s:Ug}
def Je:W2 X (.builtin "sorted") (fun xs H Q=>∃(p:Uh) (ns:List Int),xs=[V.ref p]/\SqL X.K H p (ns.map V.int)/\ns.length<64/\∀q (d:List Int),H q=none->d.Perm ns->d.Pairwise (·<=·)->Q (.ref q) (upd H q (.lst (d.map V.int)))):=by
 intro pins s σ H xs z Q I r h
 let⟨p,ns,rfl,m,A,q⟩:=h
 let⟨u,rfl,n⟩:=Vs r
 cases n
 let⟨f,t,v,w⟩:=I.list m
 have j:=Z09 t
 have B:=j.length
 refine sorted_ints v.isList j 'o' fun c d y l x=>?_
 let⟨e,g⟩:=sortedAll_at s.heap f c
 have k:c=c.toList.toArray:=by simp
 rw[k] at g
 have i:s.heap.objs.size<=s.heap.objs.size+1:=mm _
 refine⟨.ref (s.heap.objs.size+1),_,I.laid (a:=s.heap.objs.size+1) (o:= .lst (d.map V.int)) (t':=s.toks) (fun b u e=>sortedAll_old (out:=c) e) i ⟨?_,c.toList,e,W7 y,by rw[<-k] at g ⊢;show g⟩,rfl,q _ d (I.hok.fresh i) l x⟩
 rw[Ag,l.length_eq,Mo];lia
end
section
variable{X:Cx}{pins:PLO}{σ:L2.St}{H:Hp}{s:Ug}
def Y78:LV->Hp->VK->Prop:=fun b H Q=>∃d a,b=[V.ref d]/\H d=some (.dK a)/\∀p,H p=none->Q (.ref p) (upd H p (.lst (a.map fun q=>kV q.1)))
def Z14(R:X.calm=true):W2 X (.type "list") Y78:=by
 intro pins s σ H Z us Q I r h
 let⟨d,j,rfl,P,q⟩:=h
 let⟨u,rfl,L⟩:=Vs r
 cases L
 let⟨D,M,C,E,S⟩:=I.hok d _ P
 let⟨T,B⟩:=S.dictAt
 have N:C.length=j.length:=E.length.symm
 refine PySem.W.kdl_call (PySem.W.kdl_dict (knd:=Zi X.prog X.w) (kvs:=C) (ep:=T) M) (I.ok.hd R) B (by rw[N];show D) fun h' K f c k g J=>?_
 have e:f=f.toList.toArray:=by simp
 rw[e] at g
 refine⟨.ref _,_,I.laid (a:=s.heap.objs.size) (o:= .lst (j.map fun q=>kV q.1)) (t':=K) k (na _) ⟨by rw[Ag];show D,f.toList,c,?_,g⟩,rfl,q _ (I.hok.fresh (na _))⟩
 have n:∀(k:Key) (v:Uf),(Zi X.prog X.w).is k v=true->RelV (kV k) v:=fun k v F=>by
  rw[Bp] at F
  rcases Zs F with⟨i,t,rfl,rfl⟩ | ⟨x,t,rfl,rfl⟩
  .exact⟨t,rfl⟩
  .exact⟨t,rfl⟩
 have p:∀{a:List (Key×V)} {b:List (Key×Uf)} {l:LW},KV a b->l.length=b.length->(∀(i:Nat) x,l[i]?=some x->∃k y,b[i]?=some (k,y)/\(Zi X.prog X.w).is k x=true)->Vals (a.map fun q=>kV q.1) l:=by
  intro a b l h
  induction h generalizing l with
  | nil=>
   intro m _
   cases Hz.mp m
   show .nil
  | cons e r O=>
   intro m G
   cases l with
   | nil=>cases m
   | cons x l=>
    let⟨k,y,Y,U⟩:=G 0 x rfl
    cases Y
    show .cons (by have z:=e.1;change L2.RelV (kV _) x;rw[z];show n _ _ U) (O ↥m fun i x A=>by simpa using G (i+1) x ↥A)
 show p E (by rw[Mc];show J.1) fun i x A=>J.2 i x (by rw[<-Array.getElem?_toList];show A)
end
section
variable{X:Cx}{pins:PLO}{σ:L2.St}{H:Hp}{s:Ug}
def Y86:LV->Hp->VK->Prop:=fun a H Q=>∃j:Int,a=[V.int j]/\0<=j/\j<=1000000/\∀p,H p=none->Q (.ref p) (upd H p (.rng 0 j))
def Fv:W2 X (.type "range") Y86:=by
 intro pins s σ H d f Q I r h
 let⟨j,rfl,i,g,q⟩:=h
 let⟨u,rfl,c⟩:=Vs r
 let⟨t,rfl⟩:=c
 refine call_range_1 ⟨.ref _,_,I.laid (a:=s.heap.objs.size) (o:= .rng 0 j) (t':=s.toks+1+1) (fun b u e=>Ah _ e) (na _) ⟨_,_,_,Dn _ rfl⟩,rfl,q _ (I.hok.fresh (na _))⟩
def Y56:LV->Hp->VK->Prop:=fun a H Q=>∃(p:Uh) (j:Int),a=[V.ref p]/\H p=some (.rng 0 j)/\0<=j/\j<=1000000/\∀l,H l=none->Q (.ref l) (upd H l (.lst ((Ao j.toNat).map fun(k:Nat)=>V.int (0+(k:Int)))))
def F8(K:X.calm=true):W2 X (.type "list") Y56:=by
 intro pins s σ H L M Q I r h
 let⟨p,j,rfl,F,O,N,q⟩:=h
 let⟨u,rfl,C⟩:=Vs r
 cases C
 let⟨t,u,v,e⟩:=I.hok p _ F
 have G:Builtin.Range.rangeSize 0 j 1=(j.toNat:Nat):=by
  rw[rangeSize_one]
  split<;>lia
 refine call_list_range (I.ok.hd K) (show IsRange s.heap p 0 j 1 t u v from e) (small_one 'd' 'd' 'o' 'o') G 'o' fun P B b c k g A=>?_
 have e:b=b.toList.toArray:=by simp
 rw[e] at g
 refine⟨.ref _,_,I.laid (a:=s.heap.objs.size) (o:= .lst ((Ao j.toNat).map fun(k:Nat)=>V.int (0+(k:Int)))) (t':=B) k (na _) ⟨by rw[Ag,Ky];show ni (show j.toNat<=1000000 by lia) 'd',b.toList,c,?_,g⟩,rfl,q _ (I.hok.fresh (na _))⟩
 have w:∀(n:Nat) (l:LW),l.length=n->(∀(i:Nat) x,l[i]?=some x->∃t,x= .int (0+i * 1) t)->Vals ((Ao n).map fun(k:Nat)=>V.int (0+(k:Int))) l:=by
  intro n
  induction n with
  | zero=>
   intro l d _
   cases Hz.mp d
   show .nil
  | succ n D=>
   intro l d y
   have f:l≠[]:=fun z=>by rw[z] at d;cases d
   have e:=Ic f
   rw[<-e,Il,Ai]
   have J:l.dropLast.length=n:=by rw[List.length_dropLast,d];rfl
   refine Vals.append (D _ J fun i x m=>y i x ?_) (.cons ?_ .nil)
   .rw[<-e,Az (Ab.mp m).1];show m
   .let⟨t,E⟩:=y n (l.getLast f) (by
     rw[List.getLast_eq_getElem,Aa 'o']
     simp only[d,Nat.add_sub_cancel])
    show⟨t,by rw[E,Int.mul_one]⟩
 show w _ _ (by rw[Mc];show A.1) fun i x m=>A.2 i x (by rw[<-Array.getElem?_toList];show m)
end
section
variable{X:Cx}{pins:PLO}{σ:L2.St}{H:Hp}{s:Ug}{a b:Uh}{A:Around}{E:VSP}
def Zi7{kvs c:List (Key×V)}(I:Inv X pins σ H s)(g:H a=some (.dK kvs))(v:H b=some (.dK c))(t:a≠b)(G:kvs.length+c.length<=sizeLine)
  (h:∀s',Inv X pins σ (upd H a (.dK (c.foldl (fun m p=>putK m p.1 p.2) kvs))) s'->Q .none s'):wpAny (model X.prog X.w) A (call (.builtin "dict.update") [.ref a,.ref b]) Q E s:=by
 let⟨z,r,l,f,j⟩:=Gs I.hok g
 let⟨y,o,k,e,x⟩:=Gs I.hok v
 have D:=f.length
 have C:=e.length
 refine call_meetsIn PySem.F.slot_dict_update j.typeIs PySem.F.entry_dict_update (PySem.F.args_dict_update_2 _ _) (meets_dict_update (Zi X.prog X.w) a b t o) ⟨l,k,j,x,'o',fun J i _ n=>?_⟩
 have B:=Nq c kvs
 let⟨q,K,L,u,d⟩:=id i
 show h _ (Nm I (by rw[g];show Kf) n ⟨q,u⟩ (Jk 'o' r (Zc6 e f) i))
end
end L3
namespace ZT
open PySem PyProof.Rows
structure Nx(P:Ui)(w:Uj)(i l:Uh)(its:Array Uf)(St:Nat->Uk->Prop):Prop where
 obj:∀k h,St k h->∃o,h.get? i=some o/\o.cls≠ .type "zip"/\∀v,o.data≠ .cell v
 stay:∀k h h',St k h->(∀b o,b=i\/b=l->h.get? b=some o->h'.get? b=some o)->St k h'
 item:∀{A:Around} {E:VSP} {s:Ug} {k:Nat} {x:Uf} {Q:VSP},St k s.heap->its[k]?=some x->(∀h',St (k+1) h'->Ku i s.heap h'->Q x {s with heap:=h'})->wpAny (model P w) A (Builtin.SmallTypes.nextOf (.ref i)) Q E s
 done:∀{A:Around} {E:VSP} {s:Ug} {k:Nat} {Q:VSP},A.handled=none->St k s.heap->its[k]?=none->(∀h' e,(∀c o,c≠i->s.heap.get? c=some o->h'.get? c=some o)->(∃o,h'.get? e=some o/\o.cls= .type "StopIteration")->E (.ref e) {s with heap:=h'})->wpAny (model P w) A (Builtin.SmallTypes.nextOf (.ref i)) Q E s
section
variable{prog:Ui}{w:Uj}{A:Around}{E:VSP}{s:Ug}
structure Ap(z TI TO i1 i2 l1 l2:Uh):Prop where
 z1:TI≠z/\TO≠z/\i1≠z/\i2≠z/\l1≠z/\l2≠z
 z2:TI≠TO/\i1≠TO/\i2≠TO/\l1≠TO/\l2≠TO
 z3:TI≠i1/\i2≠i1/\l1≠i1/\l2≠i1
 z4:TI≠i2/\l1≠i2/\l2≠i2
variable{z TI TO i1 i2 l1 l2:Uh}{xs ys:Array Uf}{S1 S2:Nat->Uk->Prop}
end
end ZT
namespace L3
open PySem PySem.Spec PyProof.Rows L2
structure RoomH(k:Nat)(A:Around):Prop where
 dp:A.depth+3 * k+5<recursionLimit
 un:A.units+16 * k+200<cLine
def RoomH.of{j k:Nat}(r:Room k A)(h:j<=k):RoomH j A:=⟨by have:=r.dp;lia,by have:=r.un;lia⟩
def RoomH.deeper{k:Nat}(r:RoomH (k+1) A)(env:Env):RoomH k (A.deeper env):=
 ⟨by have:=r.dp;change A.depth+1+3 * k+5<_;lia,by have:=r.un;change A.units+3+16 * k+200<_;lia⟩
structure FnOkH(P:Ui)(w:Uj)(K:Ac)(mg:Str->Option Uf)(base:Uk)(k:Nat)(f:Uh)(fd:FuncData)(ps:LS)(sp:Sp):Prop where
 len:∀vs H Q E,sp vs H Q E->vs.length=ps.length
 run:∀(A:Around) (outer:List Env) (s:Ug) (H:Hp) (args:Args) (us:LW) (vs:LV) (Q:VK) (E:XK),RoomH k A->Env0 P w K mg base A outer s H->BindsTo s fd args (ps.zip us)->Vals vs us->sp vs H Q E->
  codeAny (model P w) A (.call (.ref f) args) (CR CX0 outer P w H s Q E) s
def cxH(P:Ui)(w:Uj)(K:Ac)(mg:Str->Option Uf)(base:Uk)(N:LS)(qual:Str)(scope:Scope)(f:Uh)(cd:Uf)(A:Around)(outer:List Env)(s:Ug)(H:Hp):Cx:={cxOf CX0 P w K mg base N qual scope f cd A outer s H E0 with calm:=false,xe:=fun _ _=>False}
def Ye4{P:Ui}{w:Uj}{K:Ac}{mg:Str->Option Uf}{base:Uk}{k:Nat}{x qual:Str}{st:Stmt}{f:Uh}{R:FuncData}{N ps:LS}{sp:Sp}(F:Fun K x qual st f R)(S:FnScope N ps (Z3 st))(m:∀vs H Q E,sp vs H Q E->vs.length=ps.length)
  (j:∀(c:Uf) (A:Around) (outer:List Env) (s:Ug) (H:Hp) (vs:LV) (Q:VK) (E:XK),RoomH k (A.deeper (envOfC qual (Z3 st) s.heap.objs.size f c))->sp vs H Q E->
   ∃t,PSs (cxH P w K mg base N qual (Z3 st) f c A outer s H) (Zh st) t/\t {nx:=fun _ h=>Q .non h,rt:=Q} (start N vs) H):FnOkH P w K mg base (k+1) f R ps sp:=by
 let⟨oc,od,dV,kV,y0,pm,an,c,ct,Y,rfl,Z,L⟩:=F.ex
 refine⟨m,fun A outer s H T X vs Q E O d hb r p=>?_⟩
 have hl:=m _ _ _ _ p
 have U:K.In s.heap:=d.mod.kin.keeps fun b o e=>(d.bs b o e).1
 have G:s.heap.NoLimit:=d.mod.nolimit.keeps fun b o e=>(d.bs b o e).1
 have i:∀y∈ps.zip X,(Z3 st).names.lookup y.1=some .local\/((Z3 st).names.lookup y.1=some .cell/\((cellsFrom (s.heap.objs.size+1) (Z3 st).names []).lookup y.1).isSome=true):=fun zy4 hy=>by
  let⟨n,v⟩:=zy4
  rcases S.par n (List.of_mem_zip hy).1 with q | q
  .exact .inl q
  .exact .inr ⟨q,PySem.W.cellsFrom_some _ _ _ (.inl q)⟩
 refine codeAny_call_function (by have:=O.dp;lia) (U _ _ Z) rfl S.co S.gen rfl (PySem.W.codeRec_of U L) (hb _ _ _ _ ?_)
 refine wpAny_newFunctionEnv_cells S.kind i fun z0 he M x=>?_
 subst he
 refine⟨G.keeps x.toInCall.keep,codeAny_func ?_⟩
 let⟨t,ht,hq⟩:=j c A outer s H vs Q E (O.deeper _) p
 have a:=G1 (CX:=CX0) (N:=N) (qual:=qual) (f:=f) (cd:=c) (E:=E0) (A:={A with handled:=none}) S rfl (⟨d.frames,d.mod,d.bs,d.bsz,d.funs,d.frf,d.hok,d.bare⟩:Env0 P w K mg base {A with handled:=none} outer s H) hl r x
 have I:Inv (cxH P w K mg base N qual (Z3 st) f c A outer s H) [] (start N vs) H M:=
  ⟨⟨a.ok.mod,a.ok.kind,a.ok.glob,a.ok.blt,a.ok.above,a.ok.inj,a.ok.has,a.ok.cab,(fun z=>nomatch z),a.ok.frames,a.ok.stk,a.ok.exf,a.ok.bs,a.ok.bsz,a.ok.noex,a.ok.exfs,a.ok.funs,a.ok.frf⟩,a.os,a.bare,a.base,a.loc,a.cell,a.free,a.freeC,a.pin,a.hok,a.len⟩
 refine Dx (ht [] M (start N vs) H _ I hq) (fun fl C l=>?_) fun e C l=>l.elim
 have B:∀{g:L2.St} {h:Hp} {v:V} {u:Uf},Inv (cxH P w K mg base N qual (Z3 st) f c A outer s H) [] g h C->RelV v u->Q v h->CE outer P w H s Q u C:=
  fun{g h v u} J D q=>⟨v,h,J.os,J.bare,J.base,J.hok,D,q⟩
 cases fl with
 | ret u=>
  let⟨v,g,h,J,D,q⟩:=l
  show B J D q
 | next=>
  let⟨g,h,J,q⟩:=l
  show B (v:=V.non) (u:=Value.none) J rfl q
 | brk=>
  let⟨_,_,_,q⟩:=l
  show Dk q
 | cont=>
  let⟨_,_,_,q⟩:=l
  show Dk q
section
variable{X:Cx}{k:Nat}{f:Uh}{fd:FuncData}{ps:LS}{sp:Sp}{x:Str}{p pos:Pos}{e:Expr}{es:List Expr}{t:TA}
def Zp1(F:FnOkH X.prog X.w X.K X.mg X.base k f fd ps sp)(v:RoomH k X.A)(C:Gl X x)(y:X.mg x=↑f)(B:Dv X.K (.ref f)=true)(E:Y9 X.K fd ps [])
  (G:PA X (e::es) t) (m:(x==("__debug__":Str))=false:=by decide) (D:starEach (e::es) X.env=(false,eval e X.env)::starEach es X.env:=by rfl) (l:(backTo pos (starEach es X.env)).any (·.1)=false:=by rfl):
  PE X (.Call (.Name x p) (e::es) [] pos) (fun i H Q=>t i H fun j n=>sp j n Q E0):=by
 intro a s i H Q I h
 refine Hq (Xp I C y ?_ m)
 refine Mj (h₀:=X.base) I.ok.mod.kin B (thn (G pos a s i H _ I h) fun d o ⟨j,n,g,r,q⟩=>⟨g.kIn,?_⟩) D l
 have z:d.length=ps.length:=by rw[<-r.length];show F.len _ _ _ _ q
 have c:=E o d g.kIn ↥z
 rw[Hd] at c
 refine Lc (Kr (F.run X.A X.stack o n ⟨d,[]⟩ d j Q E0 v g.env0 c r q) fun r L b=>?_)
 cases r with
 | error e=>show b.elim
 | ok J=>
  cases J with
  | ret u=>show g.after b
  | next=>show Dk b
  | brk=>show Dk b
  | cont=>show Dk b
end
end L3
namespace L2
open PySem PySem.Spec PyProof.Rows PySem.W
section
variable{prog:Ui}{w:Uj}{A:Around}{E:VSP}{J:Ug->Prop}{l q I S:Uh}{N:Nat}{P:Uf->Prop}{R:Result->Ug->Prop}{Q:VSP}
def Y26(hh:A.handled=none)(hl:∀z,J z->∃vs:LW,z.heap.IsList l vs.toArray/\vs.length=N/\∀v∈vs,P v)(lI:l≠I)(SI:S≠I)
  (jI:∀(z:Ug) h' k',J z->(∀b o,b∉[I]->z.heap.get? b=some o->h'.get? b=some o)->J {z with heap:=h',toks:=k'})
  (jS:∀(z:Ug) h',J z->Ku S z.heap h'->J {z with heap:=h'})
  (B:∀v,P v->∀(z:Ug) V u,J z->z.heap.get? S=some V->z.heap.get? I=some u->(∀v,V.data≠ .cell v)->(∀v,u.data≠ .cell v)->
   wpAny (model prog w) A.in1 (call (.ref q) [v]) (fun x O=>∃k t,x= .int k t/\J O/\O.heap.get? S=some V/\O.heap.get? I=some u) (fun _ _=>False) z)
  (hR:∀v z,P v->J z->R (.ok (.ret v)) z):
  ∀(r j:Nat) (z:Ug) (s:Uf) (y:Int) (h:Tok) (c:Nat),N - (j+1)=r->j+1<=N->J z->z.heap.get? S=some (seqObj "list" #[s,.int y h] c)->z.heap.IsListIter I l (j+1)->P s->
   codeAny (model prog w) A (.builtin "min.loop" ⟨[.ref I,.ref q,.ref S],[]⟩) R z:=by
 have nm:(toString "min"++toString ".loop":String)="min.loop":='d'
 intro r
 induction r with
 | zero=>
  intro j z s y h c hr hj H G hI hb
  let⟨vs,X,vl,vp⟩:=hl z H
  have T:=Walks.list (prog:=prog) (w:=w) (A:=A.in1) hh I l lI vs.toArray
  have U:vs.toArray.size=vs.length:=Ak ..
  have e:j+1=vs.length:='o'
  refine No PySem.F.entry_min_loop ?_
  rw[Ls Kb _]
  change wpAny _ A.in1 (seqItems? (.ref S) >>=_) _ _ z
  refine Ad (wpAny_seqItems G rfl ?_)
  change wpAny _ A.in1 (tryCatch (pyNext (.ref I)) _ >>=_) _ _ z
  refine Ad (Lw (T.done _ _ _ ⟨by rw[U,<-e];show hI,X⟩ fun M W C=>?_))
  have J1:=jI z M W H C
  have p:=C S _ ↥SI G
  change wpAny _ A.in1 (updateSeq S (fun _=>#[]) >>=_) _ _ _
  refine Ad (wpAny_updateSeq p rfl (Ad (wpAny_letGo (Am ?_))))
  show hR s _ hb (jS _ _ J1 (Ku.update M S (Lr fun _=>(#[]:Array Uf))))
 | succ r ih=>
  intro j z s y h c hr hj H G hI hb
  let⟨vs,X,vl,vp⟩:=hl z H
  have T:=Walks.list (prog:=prog) (w:=w) (A:=A.in1) hh I l lI vs.toArray
  have U:vs.toArray.size=vs.length:=Ak ..
  have lt:j+1<vs.length:='o'
  refine No PySem.F.entry_min_loop ?_
  rw[Ls Kb _]
  change wpAny _ A.in1 (seqItems? (.ref S) >>=_) _ _ z
  refine Ad (wpAny_seqItems G rfl ?_)
  change wpAny _ A.in1 (tryCatch (pyNext (.ref I)) _ >>=_) _ _ z
  refine Ad (Lw (T.item (j+1) _ _ _ (by rw[U];show lt) ⟨hI,X⟩ fun v M W hP st C=>?_))
  have hv:P v:=vp v (As (i:=j+1) ↥hP)
  let⟨u,Y,D,m⟩:=id st.1
  have J1:=jI z M W H C
  have p:=C S _ ↥SI G
  change wpAny _ A.in1 (tryCatch (holding [v] (call (.ref q) [v])) _ >>=_) _ _ _
  refine Ad (Lw (Iv (Dx (B v hv _ _ _ J1 p Y (fun _ z=>nomatch z) (by rw[m];show fun _ z=>nomatch z)) (fun x L he=>?_) fun _ _ f=>f.elim)))
  let⟨g,a,rfl,J2,n,K⟩:=he
  change wpAny _ A.in1 (tryCatch (holding [v,.int g a] (richCompare .Lt (.int g a) (.int y h) >>=_)) _ >>=_) _ _ _
  refine Ad (Lw (Iv (Ad (richCompare_gives (op:= .Lt) (typeIs_int L _ a) (typeIs_int L _ h) F.slot_int_lt F.entry_int_lt (F.args_int_lt_2 _ _) (gives_int_lt _ _ a h) (fun x=>nomatch x) ?_))))
  refine Ad (Iv (Lo ?_))
  refine Ad (wpAny_letGo (Am ?_))
  by_cases d:g<y
  .simp only[d,decide_true,if_true]
   refine Ad (wpAny_updateSeq n rfl (Ad (wpAny_letGo ?_)))
   rw[nm]
   have sb:=Ku.update L.heap S (Lr fun _=>#[v,.int g a])
   obtain⟨c2,Z⟩:∃c2,(L.heap.update S (Lr fun _=>#[v,.int g a])).get? S=some (seqObj "list" #[v,.int g a] c2):=⟨_,get?_update_seq n fun _=>#[v,.int g a]⟩
   show Am ⟨Mw Kb _,ih (j+1) _ v g a c2 'o' 'o' (jS _ _ J2 sb) Z ⟨u,(sb.2 I SI.symm).trans K,D,m⟩ hv⟩
  .simp only[d,decide_false,Bool.false_eq_true,if_false]
   refine Ad (wpAny_letGo ?_)
   rw[nm]
   show Am ⟨Mw Kb _,ih (j+1) _ s y h c 'o' 'o' J2 n ⟨u,K,D,m⟩ hb⟩
def Yg9{s:Ug}(hh:A.handled=none)(hl:∀z,J z->∃vs:LW,z.heap.IsList l vs.toArray/\vs.length=N/\∀v∈vs,P v)(m:∃vs:LW,s.heap.IsList l vs.toArray)(y0:0<N)
  (j0:∀h' u,(∀b o,s.heap.get? b=some o->h'.get? b=some o)->J {s with heap:=h',toks:=u})
  (Y:∀(z:Ug) h' u,J z->(∀b o,b∉[s.heap.objs.size]->z.heap.get? b=some o->h'.get? b=some o)->J {z with heap:=h',toks:=u})
  (X:∀(z:Ug) h',J z->Ku (s.heap.objs.size+1) z.heap h'->J {z with heap:=h'})
  (a:∀v,P v->∀(z:Ug) r g,J z->z.heap.get? (s.heap.objs.size+1)=some r->z.heap.get? s.heap.objs.size=some g->(∀v,r.data≠ .cell v)->(∀v,g.data≠ .cell v)->
   wpAny (model prog w) A.in1 (call (.ref q) [v]) (fun x n=>∃k t,x= .int k t/\J n/\n.heap.get? (s.heap.objs.size+1)=some r/\n.heap.get? s.heap.objs.size=some g) (fun _ _=>False) z)
  (hQ:∀v z,P v->J z->Q v z):wpAny (model prog w) A (call (.builtin "min") [.ref l] [(Str.ofString "key",.ref q)]) Q E s:=by
 have U:(toString "min"++toString ".loop":String)="min.loop":='d'
 let⟨z0,m⟩:=m
 let⟨ol,y,_⟩:=id m
 have ll:l<s.heap.objs.size:=Ax y
 have V:l≠s.heap.objs.size:=nj ll
 have M:s.heap.objs.size+1≠s.heap.objs.size:='o'
 refine kmk_tree PySem.F.kind_min PySem.F.plain_min PySem.F.entry_min (kmk_min_key _ _) ?_
 change wpAny _ A.in1 (Builtin.Builtins.bindParams "min" ["key","default"] 0 ⟨[],[(Str.ofString "key",.ref q)]⟩ >>=_) _ _ s
 refine Ad (wpAny_of_eq (show Builtin.Builtins.bindParams "min" ["key","default"] 0 ⟨[],[(Str.ofString "key",.ref q)]⟩=pure [↑q,none] from rfl) (Ad (Am ?_)))
 refine Ad (wpAny_pyIter_list m (Ad (wpAny_newList ?_ (nq _))))
 rw[U]
 have eS:(s.heap.push {cls:= .type "list_iterator",data:= .fields #[.ref l,.int 0 0]}).objs.size=s.heap.objs.size+1:=size_push' ..
 rw[eS]
 refine Am ⟨Mw Kb _,?_⟩
 generalize K:(s.heap.push {cls:= .type "list_iterator",data:= .fields #[.ref l,.int 0 0]}).push (seqObj "list" #[] 0)=hp
 have gI:hp.get? s.heap.objs.size=some {cls:= .type "list_iterator",data:= .fields #[.ref l,.int 0 0]}:=by
  rw[<-K];show Ah _ (Dn _ rfl)
 have gS:hp.get? (s.heap.objs.size+1)=some (seqObj "list" #[] 0):=by
  rw[<-K,<-eS];show Dn _ rfl
 have p:∀b o,s.heap.get? b=some o->hp.get? b=some o:=fun b o e=>by
  rw[<-K];show Ah _ (Ah _ e)
 have J0:=j0 hp s.toks p
 let⟨vs,il,vl,vp⟩:=hl _ J0
 have wk:=Walks.list (prog:=prog) (w:=w) (A:=A.in1) hh s.heap.objs.size l V vs.toArray
 have sz:vs.toArray.size=vs.length:=Ak ..
 refine No PySem.F.entry_min_loop ?_
 rw[Ls Kb _]
 change wpAny _ A.in1 (seqItems? (.ref _) >>=_) _ _ _
 refine Ad (wpAny_seqItems gS rfl ?_)
 change wpAny _ A.in1 (tryCatch (pyNext (.ref s.heap.objs.size)) _ >>=_) _ _ _
 refine Ad (Lw (wk.item 0 _ _ _ (by rw[sz];lia) ⟨⟨_,gI,rfl,rfl⟩,il⟩ fun v h1 k1 hP st W=>?_))
 have Z:P v:=vp v (As (i:=0) ↥hP)
 let⟨g,C,B,h⟩:=id st.1
 have J1:=Y _ h1 k1 J0 W
 have G:=W (s.heap.objs.size+1) _ ↥M gS
 change wpAny _ A.in1 (tryCatch (holding [v] (call (.ref q) [v])) _ >>=_) _ _ _
 refine Ad (Lw (Iv (Dx (a v Z _ _ _ J1 G C (fun _ z=>nomatch z) (by rw[h];show fun _ z=>nomatch z)) (fun x O he=>?_) fun _ _ f=>f.elim)))
 let⟨d,c,rfl,J2,j,H⟩:=he
 change wpAny _ A.in1 (updateSeq (s.heap.objs.size+1) (fun _=>#[v,.int d c]) >>=_) _ _ _
 refine Ad (wpAny_updateSeq j rfl ?_)
 rw[U]
 have T:=Ku.update O.heap (s.heap.objs.size+1) (Lr fun _=>#[v,.int d c])
 obtain⟨L,D⟩:∃L,(O.heap.update (s.heap.objs.size+1) (Lr fun _=>#[v,.int d c])).get? (s.heap.objs.size+1)=some (seqObj "list" #[v,.int d c] L):=⟨_,get?_update_seq j fun _=>#[v,.int d c]⟩
 show Am ⟨Mw Kb _,Y26 hh hl V M Y X a hQ _ 0 _ v d c L rfl 'o' (X _ _ J2 T) D ⟨g,(T.2 _ M.symm).trans H,B,h⟩ Z⟩
end
def Xo:Str:=(("chosen_head":Str)++".<locals>.")++"<lambda>"
def Ww(p1:Pos):Arguments:={posonlyargs:=[],args:=[⟨"head",none,p1⟩],vararg:=none,kwonlyargs:=[],kw_defaults:=[],kwarg:=none,defaults:=[]}
def V4(p1 p2 p3 p4 p5 p6 p7 p8:Pos):Expr:= .Call (.Name "len" p1) [.Call (.Name "come_round" p2) [.Name "goals" p3,.Name "together" p4,.Name "doors" p5,.Name "head" p6] [] p7] [] p8
def Zy:Scope:={kind:= .function,names:=[("head",.local),("doors",.free),("goals",.free),("together",.free),("len",.globalImplicit),("come_round",.globalImplicit)],isGenerator:=false,isCoroutine:=false,more:=[]}
def Y5(c:Uh):Uk->Prop:=fun h=>h.CodeRec (.ref c) Xo
abbrev Qx(c1 c2 c3:Uh):List (Str×Uh):=[("together",c2),("goals",c1),("doors",c3)]
def W6(f c1 c2 c3 c:Uh):Uk->Prop:=fun h=>∃n m l k j i g e d b a,h.get? f=some (kla_obj "<lambda>" Xo (Ww n) (V4 m l k j i g e d) Zy (Qx c1 c2 c3) b c a)
def Zr3{w:Uj}{H:Hp}{c:Uh}(x:Y5 c h):Y6 P w H h c (.ext (Y5 c)):=by
 refine⟨x,?_,fun g f q k=>?_⟩
 .let⟨d,o,_,_,e,a,_⟩:=x
  cases e
  show⟨o,a⟩
 .let⟨d,o,b,t,e,a,r⟩:=q
  cases e
  show⟨c,o,b,t,rfl,k o a,r⟩
def Z57{w:Uj}{H:Hp}{f c1 c2 c3 c:Uh}(x:W6 f c1 c2 c3 c h):Y6 P w H h f (.ext (W6 f c1 c2 c3 c)):=by
 refine⟨x,?_,fun s r q k=>?_⟩
 .let⟨p,o,n,m,l,j,i,g,d,b,a,e⟩:=x
  show⟨_,e⟩
 .let⟨p,o,n,m,l,j,i,g,d,b,a,e⟩:=q
  show⟨p,o,n,m,l,j,i,g,d,b,a,k _ e⟩
def Zj4{c a d b:Uf}:bindArgs (kla_fn "<lambda>" Xo (Ww p1) body Zy e c a d) ⟨[b],[]⟩=(pure [(("head":Str),b)]:Sem (List (Str×Uf))):=by
 rfl
def Tz{E:VSP}(c:starEach (e::es) env=(false,eval e env)::starEach es env)
  (h:wpAny M A (eval e env) (fun u b=>wpAny M A (spliced (backTo pos (starEach es env))) (fun us a=>Q (u::us) a) E b) E s):wpAny M A (spliced (backTo pos (starEach (e::es) env))) Q E s:=by
 rw[c]
 change wpAny _ _ (spliced ((false,eval e env)::backTo pos (starEach es env))) _ _ s
 show Calls.spliced_cons h
section
variable{X:Cx}{pins:PLO}{σ:St}{H:Hp}{s:Ug}
def Z72{f c c1 c2 c3 Y:Uh}{x:Int}{t:Tok}{C B y:Uf}{k:Nat}{sp:Sp}(I:Inv X pins σ H s)(hA:A.frames=some X.stack)(hr:Room (k+1) A)(h1:H f=some (.ext (W6 f c1 c2 c3 c)))(h2:H c=some (.ext (Y5 c)))
  (g1:∃o,s.heap.get? c1=some o/\o.data= .cell (some C)) (g2:∃o,s.heap.get? c2=some o/\o.data= .cell (some B)) (g3:∃o,s.heap.get? c3=some o/\o.data= .cell (some y)) (r1:RelV P C) (r2:RelV O B) (r3:RelV N y)
  (F:FnOk X.prog X.w X.K X.mg X.base CX k Y fd pr sp) (hm:X.mg "len"=none) (hc:X.mg "come_round"=↑Y) (hk:Dv X.K (.ref Y)=true) (j:Y9 X.K fd pr Z) (hd:Vals dvs Z)
  (i:∀out H s e s',CX out H s EX e s'->False) (q:sp ([P,O,N,.int x]++dvs) H Q EX) (hQ:∀v H',Q v H'->∃r ys,v= .ref r/\SqL X.K H' r ys):
  wpAny (model X.prog X.w) A (call (.ref f) [.int x t]) (fun v z=>∃kk t' r H',v= .int kk t'/\Inv X pins σ H' z/\Q (.ref r) H') (fun _ _=>False) s:=by
 let⟨⟨p1,p2,p3,p4,p5,p6,p7,p8,p9,pm,w0,ho⟩,_,_⟩:=I.hok f _ h1
 let⟨T,_⟩:=I.hok c _ h2
 let⟨o1,d1,e1⟩:=g1
 let⟨o2,d2,e2⟩:=g2
 let⟨o3,d3,e3⟩:=g3
 refine Lc (kla_callFunE (by have:=hr.dp;lia) ho rfl rfl rfl rfl T ?_)
 rw[Zj4]
 refine Am (wpAny_newFunctionEnv (fun x i=>?_) (fun x i=>?_) (fun g L E=>⟨I.nolimit.fresh _ E,?_⟩) rfl)
 .simp[Zy] at i
  rcases i with rfl | rfl | rfl | rfl | rfl | rfl<;>decide
 .simp at i
  rcases i with rfl
  rfl
 .have d:∀b o,s.heap.get? b=some o->g.get? b=some o:=fun b o e=>E.extBut b o (nj (Ax e)) (Ah _ e)
  have D:∀tk,Inv X pins σ H {s with heap:=g,toks:=tk}:=fun tk=>I.kept d
  change codeAny _ _ (.expr (V4 p2 p3 p4 p5 p6 p7 p8 p9) (envX Xo Zy s.heap.objs.size f (.ref c) (Qx c1 c2 c3))) _ _
  refine kla_codeExpr ?_
  let⟨mb,b1,b2⟩:=I.mod.blt
  refine Hq (Lk rfl rfl (Calls.loadGlobal_builtin (I.mod.glob.keeps (D 0).bk) hm (b1.keeps (D 0).bk) ((b2 "len" 'd').trans rfl) ?_) rfl)
  refine PyProof.Rows.callWith_builtin1 (Tz rfl ?_) rfl rfl
  refine Hq (Lk rfl rfl (Calls.loadGlobal_global (I.mod.glob.keeps (D 0).bk) hc ?_) rfl)
  refine Mj (first:=[]) (h₀:=X.base) I.ok.mod.kin hk (Tz rfl (Ub (wpAny_loadName_free rfl rfl rfl ⟨o1,d _ _ d1,e1⟩ ?_))) rfl rfl
  refine Tz rfl (Ub (wpAny_loadName_free rfl rfl rfl ⟨o2,d _ _ d2,e2⟩ ?_))
  refine Tz rfl (Ub (wpAny_loadName_free rfl rfl rfl ⟨o3,d _ _ d3,e3⟩ ?_))
  refine Tz rfl (Ub (wpAny_loadName_local rfl rfl L rfl (Calls.spliced_nil ⟨(D 0).kIn,?_⟩)))
  have m:H s.heap.objs.size=none:=I.hok.fresh (na _)
  have nb:X.base.get? s.heap.objs.size=none:=by
   cases e:X.base.get? s.heap.objs.size with
   | none=>rfl
   | some o=>show absurd (Ax (I.bk _ _ e)) (nv _)
  have e0:Env0 X.prog X.w X.K X.mg X.base (A.deeper (envX Xo Zy s.heap.objs.size f (.ref c) (Qx c1 c2 c3))) (envX Xo Zy s.heap.objs.size f (.ref c) (Qx c1 c2 c3)::X.stack) {s with heap:=g,toks:=s.toks+[((Str.ofString "head"),Value.int x t)].length} H:=by
   have p:=(D (s.toks+[((Str.ofString "head"),Value.int x t)].length)).env0
   refine⟨?_,p.mod,p.bs,p.bsz,Heap.FunFrames.cons (show ScopeKind.function≠ScopeKind.module by decide) rfl L nb p.funs,fun b j=>?_,p.hok,p.bare⟩
   .change A.frames.map _=_
    rw[hA];rfl
   .rcases Aq.mp (show b∈s.heap.objs.size::frs X.stack from j) with rfl | j
    .exact m
    .exact p.frf b j
  have rv:Vals [P,O,N,.int x] [C,B,y,.int x t]:= .cons r1 (.cons r2 (.cons r3 (.cons ⟨t,rfl⟩ .nil)))
  refine Lc (Kr (F.run _ _ _ H ⟨[C,B,y,.int x t],[]⟩ ([C,B,y,.int x t]++Z) ([P,O,N,.int x]++dvs) Q EX (hr.deeper _) e0 (j _ [C,B,y,.int x t] (D _).kIn (by rw[<-(rv.append hd).length];show F.len _ _ _ _ q)) (rv.append hd) q) fun r z G=>?_)
  cases r with
  | error e=>show(i _ _ _ _ _ G).elim
  | ok fl=>
   cases fl with
   | next=>show Dk G
   | brk=>show Dk G
   | cont=>show Dk G
   | ret u=>
    let⟨v,H',os,M,h,J,S,qv⟩:=G
    let⟨rr,ys,rfl,sq⟩:=hQ v H' qv
    cases (show u=Value.ref rr from S)
    have ne:∀b o,s.heap.get? b=some o->b≠s.heap.objs.size:=fun b o e=>nj (Ax e)
    have fr:∀b,b∈frs (envX Xo Zy s.heap.objs.size f (.ref c) (Qx c1 c2 c3)::X.stack)->b=s.heap.objs.size\/b∈frs X.stack:=fun b j=>Aq.mp (show b∈s.heap.objs.size::frs X.stack from j)
    have R:Un (frs X.stack) [] H H' s.heap z.heap:=by
     refine⟨fun b o e n U l=>h.keep b o (d b o e) n (fun z=>(fr b z).elim (ne b o e) U) l,fun b o e n U l=>h.slot b o (d b o e) n (Aj (a:=b) s.heap.objs.size U) l,fun b o e n l=>h.free b o (d b o e) n l,fun b o e l=>h.there b o (d b o e) l,h.tups,h.frzs,h.tbls⟩
    let⟨hz,gz,dz,tz,oz⟩:=z
    obtain rfl:oz=s.os:=os
    have I2:Inv X pins σ H' ⟨hz,gz,dz,tz,s.os⟩:=I.call (h':=hz) (g':=gz) (d':=dz) (t':=tz) (ch:=[]) R J M (fun b z=>absurd z (by simp))
    refine Calls.spliced_nil ?_
    let⟨y0,r',pl,x0⟩:=I2.list sq
    have z0:=r'.length
    have hn:=Vr
    refine Calls.call_len_list pl.isList (by simp only[Ak]<;>lia) ?_
    show⟨_,_,rr,H',rfl,I2.tok _,qv⟩
def Tri(H:Hp)(ps:Array Uf):Prop:=TriplesOk ps.toList/\∀a v,codeAmong a ps.toList=some v->∃c,v= .ref c/\H c=some (.ext (Y5 c))
def Tri.keep{H H':Hp}(x:Tri H ps)(k:∀c,H c=some (.ext (Y5 c))->H' c=some (.ext (Y5 c))):Tri H' ps:=
 ⟨x.1,fun a v e=>by let⟨c,q,r⟩:=x.2 a v e;show⟨c,q,k c r⟩⟩
def Tri.nil(H:Hp):Tri H #[]:=⟨trivial,fun _ _ e=>by cases e⟩
def Bw{pos q:Pos}{c v:Uf}:∀(l:LW),TriplesOk l->codeAmong pos (l++[rawInt q.line,rawInt q.col,c])=some v->codeAmong pos l=some v\/v=c:=by
 intro l h
 fun_induction TriplesOk l with
 | case1=>
  intro e
  simp only[Lj,codeAmong,rawInt] at e
  split at e
  .cases e;show .inr rfl
  .cases e
 | case2 a t b u x f g=>
  intro e
  simp only[Ih,codeAmong] at e ⊢
  split at e
  .rename_i d
   rw[ng d];show .inl e
  .rename_i d
   rw[nc d];show g h e
 | case3 l j i=>show h.elim
def Tri.snoc{H H':Hp}{ps:Array Uf}{pos:Pos}{c:Uh}(x:Tri H ps)(k:∀c,H c=some (.ext (Y5 c))->H' c=some (.ext (Y5 c)))(f:H' c=some (.ext (Y5 c))):Tri H' (ps++#[rawInt pos.line,rawInt pos.col,.ref c]):=by
 refine⟨?_,fun q v e=>?_⟩
 .rw[Array.toList_append];show TriplesOk_snoc _ _ _ _ x.1
 .rw[Array.toList_append] at e
  rcases Bw (q:=pos) ps.toList x.1 e with e | e
  .let⟨a,d,b⟩:=x.2 q v e;show⟨a,d,k a b⟩
  .exact⟨c,e,f⟩
structure Bs(K:Ac)(mg:Str->Option Uf)(base:Uk):Prop where
 bm:∃bm ob,mg "__builtins__"=↑bm/\bm≠builtinsNs/\base.get? bm=some ob/\ob.cls= .type "module"/\ob.dict=some builtinsNs/\ob.data= .plain
 cd:∀c P,tabIn K "chosen_head"=some (c,P)->CodeHd base c P
def Zm1{c0 P c1 c2 c3:Uh}{ps:Array Uf}{p1 p2 p3 p4 p5 p6 p7 p8 p9 pos:Pos}{Q:VSP}(I:Inv X pins σ H s)(B:Bs X.K X.mg X.base)(hq:X.env.qual=("chosen_head":Str)++".<locals>.")(l:X.env.code= .ref c0)
  (ht:tabIn X.K "chosen_head"=some (c0,P)) (g:H P=some (.tbl ps)) (G:Tri H ps) (T:closureFor Zy X.env=(pure (Qx c1 c2 c3):Sem (List (Str×Uh))))
  (h:∀f c F s',Inv X pins σ F s'->F f=some (.ext (W6 f c1 c2 c3 c))->F c=some (.ext (Y5 c))->(∃J,F P=some (.tbl J)/\Tri F J)->(∀b o,b≠P->H b=some o->F b=some o)->Q (.ref f) s'):
  ⇑X (eval (.Lambda (Ww p1) (V4 p2 p3 p4 p5 p6 p7 p8 p9) Zy pos) X.env) Q X.xe s:=by
 refine kla_eval rfl ?_
 rw[hq]
 have D:s.heap.get? P=some (tabObj ps):=I.hok P _ g
 have C:=(B.cd c0 P ht).keeps I.bk
 have nb:∀b o,X.base.get? b=some o->b≠P:=fun b o e z=>by
  have:=(I.bs b o e).2
  rw[z,g] at this;cases this
 let⟨bm,ob,b1,b2,Z,b4,b5,b6⟩:=B.bm
 have R:=I.mod.glob.keeps I.bk
 have x0:bm≠mainGlobals:=fun q=>by
  let⟨o,es,ep,e,hd,_⟩:=I.mod.glob
  rw[q,e] at Z;cases Z;rw[hd] at b6;cases b6
 have z0:mainGlobals≠P:=by
  let⟨o,es,ep,e,hd,_⟩:=I.mod.glob
  show nb _ _ e
 have Y:s.heap.BuiltinsAt X.mg P:=⟨bm,ob,b1,b2,x0,nb _ _ Z,I.bk _ _ Z,b4,b5,b6⟩
 cases O:codeAmong pos ps.toList with
 | some cv=>
  let⟨c,rfl,W⟩:=G.2 pos cv O
  refine kla_makeFunctionHit (mg:=X.mg) T I.ok.glob R l C D G.1 O Y fun p d tk hk M=>?_
  have y:H d.objs.size=none:=I.hok.fresh M
  have v:∀b u,s.heap.get? b=some u->(d.push (kla_obj "<lambda>" Xo (Ww p1) (V4 p2 p3 p4 p5 p6 p7 p8 p9) Zy (Qx c1 c2 c3) ((X.mg "__name__").getD .none) c p)).get? b=some u:=fun b u e=>Ah _ (hk b u e)
  refine h d.objs.size c (upd H d.objs.size (.ext (W6 d.objs.size c1 c2 c3 c))) _ (I.laid v M (Z57 ⟨p1,p2,p3,p4,p5,p6,p7,p8,p9,_,p,Dn _ rfl⟩)) Zd ?_ ?_ fun b o _ e=>?_
  .exact(Z7 (Zj W y)).trans W
  .exact⟨ps,(Z7 (Zj g y)).trans g,G.keep fun c e=>(Z7 (Zj e y)).trans e⟩
  .exact(Z7 (Zj e y)).trans e
 | none=>
  refine kla_makeFunction (mg:=X.mg) T I.ok.glob R l C D G.1 O z0 Y fun c p d tk hx t x N L=>?_
  have V:H c=none:=I.hok.fresh t
  have S:H d.objs.size=none:=I.hok.fresh (ni t (ma x))
  have y0:c≠d.objs.size:=nj x
  have v0:P≠c:=Zj g V
  have w0:P≠d.objs.size:=Zj g S
  have U:∀b o,s.heap.get? b=some o->b≠c/\b≠d.objs.size:=fun b o e=>⟨nj (nh (Ax e) t),nj (Nat.lt_trans (nh (Ax e) t) x)⟩
  have hH:∀b o,H b=some o->b≠c/\b≠d.objs.size:=fun b o e=>⟨Zj e V,Zj e S⟩
  have v:∀b u,b≠P->s.heap.get? b=some u->(d.push (kla_obj "<lambda>" Xo (Ww p1) (V4 p2 p3 p4 p5 p6 p7 p8 p9) Zy (Qx c1 c2 c3) ((X.mg "__name__").getD .none) c p)).get? b=some u:=fun b u j e=>Ah _ (hx b u j e)
  have k:∀b,b≠P->b≠c->b≠d.objs.size->upd (upd (upd H P (.tbl (ps++#[rawInt pos.line,rawInt pos.col,.ref c]))) c (.ext (Y5 c))) d.objs.size (.ext (W6 d.objs.size c1 c2 c3 c)) b=H b:=fun b h1 h2 h3=>by rw[Z7 h3,Z7 h2,Z7 h1]
  have lP:upd (upd (upd H P (.tbl (ps++#[rawInt pos.line,rawInt pos.col,.ref c]))) c (.ext (Y5 c))) d.objs.size (.ext (W6 d.objs.size c1 c2 c3 c)) P=some (.tbl (ps++#[rawInt pos.line,rawInt pos.col,.ref c])):=by rw[Z7 w0,Z7 v0,Zd]
  have lc:upd (upd (upd H P (.tbl (ps++#[rawInt pos.line,rawInt pos.col,.ref c]))) c (.ext (Y5 c))) d.objs.size (.ext (W6 d.objs.size c1 c2 c3 c)) c=some (.ext (Y5 c)):=by rw[Z7 y0,Zd]
  have i:∀b o,b≠P->H b=some o->upd (upd (upd H P (.tbl (ps++#[rawInt pos.line,rawInt pos.col,.ref c]))) c (.ext (Y5 c))) d.objs.size (.ext (W6 d.objs.size c1 c2 c3 c)) b=some o:=fun b o j e=>(k b j (hH b o e).1 (hH b o e).2).trans e
  refine h d.objs.size c _ _ (I.step (ch:=[]) (g':=s.gens) (d':=s.drawn) (H':=upd (upd (upd H P (.tbl (ps++#[rawInt pos.line,rawInt pos.col,.ref c]))) c (.ext (Y5 c))) d.objs.size (.ext (W6 d.objs.size c1 c2 c3 c))) (fun _ z=>nomatch z) (fun b o _ _ _ e n=>v b o (fun z=>by rw[z,g] at n;cases n) e) (fun b o _ _ _ e n=>⟨o.slots,v b o (fun z=>by rw[z,g] at n;cases n) e⟩) (fun b o _ e n=>?_) (fun b o _ e=>?_) (fun b xs e=>i b _ (fun z=>by rw[z,g] at e;cases e) e) (fun b o u e=>i b _ (fun z=>by rw[z,g] at e;cases e) e) (fun b qs e=>?_) (fun m O=>?_) (fun b o e=>?_) I.bare) Zd lc ⟨_,lP,G.snoc (fun c' e=>i c' _ (fun z=>by rw[z,g] at e;cases e) e) lc⟩ i
  .exact(k b (fun z=>by rw[z,g] at n;cases n) (U b o e).1 (U b o e).2).trans n
  .by_cases j:b=P
   .subst j;show⟨_,Ah _ L⟩
   .exact⟨o,v b o j e⟩
  .by_cases j:b=P
   .subst j
    rw[g] at e;cases e
    show⟨_,lP⟩
   .exact⟨#[],by rw[i b _ j e,Array.append_empty]⟩
  .let⟨o,es,ep,ho,r⟩:=O
   show⟨o,es,ep,v _ o (fun z=>by rw[z,D] at ho;cases ho;cases r.1) ho,r⟩
  .by_cases y:b=d.objs.size
   .subst y
    rw[Zd] at e;cases e
    show Z57 ⟨p1,p2,p3,p4,p5,p6,p7,p8,p9,_,p,Dn _ rfl⟩
   .by_cases W:b=c
    .subst W
     rw[lc] at e;cases e
     show Zr3 (N.keeps fun b o e=>Ah _ e)
    .by_cases j:b=P
     .subst j
      rw[lP] at e;cases e
      show Ah _ L
     .rw[k b j W y] at e
      refine(I.hok b o e).stay (fun a u E q=>v a u (fun z=>?_) q) (fun a q=>i a _ (fun z=>by rw[z,g] at q;cases q) q) fun a xs q=>i a _ (fun z=>by rw[z,g] at q;cases q) q
      rcases E with E | E
      .exact j (E.symm.trans z)
      .rw[z,g] at E;cases E
end
section
variable{X:Cx}
def Zx3{ns:List Int}{its:LW}(r:Vals (ns.map V.int) its){v:Uf}(h:v∈its):∃x∈ns,∃t,v= .int x t:=by
 induction ns generalizing its with
 | nil=>rw[Dp] at r;cases r;simp at h
 | cons n ns c=>
  rw[Ch] at r
  cases r with
  | cons a b=>
   rcases Aq.mp h with rfl | h
   .let⟨t,rfl⟩:=a;show⟨n,Db,t,rfl⟩
   .let⟨x,d,t,e⟩:=c b h;show⟨x,Aj _ d,t,e⟩
def E2{d:St}{H:Hp}{i:Nat}{x:Str}{v:V}(I:Inv X pins d H s)(n:X.N[i]?=some x)(e:d[i]?=some (some v))(h:Vis X.env.scope x)(q:X.env.cells.lookup x=some g)(k:X.env.kindOf x=some .cell):
  ∃u,RelV v u/\∃o,s.heap.get? g=some o/\o.data= .cell (some u):=by
 let⟨m,p,c⟩:=I.loc
 let⟨u,j,l⟩:=c i x v n e h
 rcases l with⟨f,_⟩ | ⟨_,r,b,a⟩
 .rw[k] at f;cases f
 .rw[q] at b
  cases b
  show⟨u,j,a⟩
def Zy6{c0 T c1 c2 c3 fc:Uh}{k:Nat}{sp:Sp}(B:Bs X.K X.mg X.base)(hq:X.env.qual=("chosen_head":Str)++".<locals>.")(Z:X.env.code= .ref c0)
  (ht:tabIn X.K "chosen_head"=some (c0,T)) (q0:closureFor Zy X.env=(pure (Qx c1 c2 c3):Sem (List (Str×Uh)))) (m0:X.env.cells.lookup ("goals":Str)=some c1) (o0:X.env.cells.lookup ("together":Str)=some c2) (p0:X.env.cells.lookup ("doors":Str)=some c3)
  (hc:X.calm=true) (hr:Room (k+2) X.A) (r0:Gl X "min") (t0:X.mg "min"=none) (s0:X.mg "len"=none)
  (n0:X.N[0]?=some ("goals":Str)) (n1:X.N[1]?=some ("together":Str)) (n2:X.N[2]?=some ("doors":Str)) (v0:Vis X.env.scope "goals") (v1:Vis X.env.scope "together") (v2:Vis X.env.scope "doors") (k0:X.env.kindOf "goals"=some .cell) (k1:X.env.kindOf "together"=some .cell) (k2:X.env.kindOf "doors"=some .cell)
  (F:FnOk X.prog X.w X.K X.mg X.base CX k fc fd pr sp) (hm:X.mg "come_round"=↑fc) (hk:Dv X.K (.ref fc)=true) (i:Y9 X.K fd pr ds) (hd:Vals dvs ds) (hx:∀out H s e s',CX out H s EX e s'->False):
  PE X (.Call (.Name "min" q1) [.Name "together" q2] [{arg:=some "key",value:= .Lambda (Ww p1) (V4 p2 p3 p4 p5 p6 p7 p8 p9) Zy pos,pos:=q3}] q4) (fun U H Q=>
   ∃(w1 w3:V) (n:Uh) (G:List Int) (ps:Array Uf) (R:Hp->Prop),U[0]?=some (some w1)/\U[1]?=some (↑n)/\U[2]?=some (some w3)/\0<G.length/\H T=some (.tbl ps)/\Tri H ps/\
    (∀g,(∀b o,b≠T->H b=some o->g b=some o)->(∃z0,g T=some (.tbl z0)/\Tri g z0)->R g)/\(∀g,R g->SqL X.K g n (G.map V.int))/\
    (∀g,R g->∀x∈G,sp ([w1,.ref n,w3,.int x]++dvs) g (fun v S=>(∃r ys,v= .ref r/\SqL X.K S r ys)/\R S/\∀b φ,g b=some (.ext φ)->S b=some (.ext φ)) EX)/\∀m∈G,∀g,R g->Q (.int m) g):=by
 rintro a s U H Q I ⟨w1,w3,n,G,ps,R,e0,e1,e2,u0,hP,tr,j0,jl,jt,q⟩
 refine Hq (Of I r0 t0 rfl ?_)
 refine callWith_kw (Tz rfl (thn (C0 n1 v1 rfl rfl a s U H (fun v g=>v= .ref n/\g=H) I ⟨_,e1,rfl,rfl⟩) fun u s1 zz73=>?_))
 let⟨v,g,I1,rv,e3,e4⟩:=zz73
 subst e3 e4
 cases (show u=Value.ref n from rv)
 refine Calls.spliced_nil ?_
 refine kws_cons (Zm1 I1 B hq Z ht hP tr q0 fun f c S E I2 f1 f2 f3 f4=>kws_nil ?_)
 change wpAny _ _ (call (.builtin "min") [.ref n] [(Str.ofString "key",.ref f)]) _ _ _
 have y0:=j0 S f4 f3
 have l:∀{z:Ug} {d:Hp},Inv X a U d z->R d->∃vs:LW,z.heap.IsList n vs.toArray/\vs.length=G.length/\∀v∈vs,∃x∈G,∃t,v= .int x t:=fun{z d} j y=>by
  let⟨w0,O,pl,_⟩:=j.list (jl d y)
  have hl:=O.length
  rw[Ag] at hl
  show⟨w0,pl.isList,hl.symm,fun v hv=>Zx3 O hv⟩
 have fI:FpOk X a S E.heap.objs.size:=I2.fpOk (na _) (I2.hok.fresh (na _))
 have fS:FpOk X a S (E.heap.objs.size+1):=I2.fpOk (mm _) (I2.hok.fresh (mm _))
 refine Yg9 (N:=G.length) (P:=fun v=>∃x∈G,∃t,v= .int x t) (J:=fun z=>∃d,Inv X a U d z/\R d/\d f=some (.ext (W6 f c1 c2 c3 c))/\d c=some (.ext (Y5 c))/\FpOk X a d E.heap.objs.size/\FpOk X a d (E.heap.objs.size+1))
  (I2.ok.hd hc) (fun z L=>?_) ?_ u0 (fun h' t' kp=>?_) (fun z h' t' L kp=>?_) (fun z h' L sb=>?_) (fun v hv z oS oI L gS gI dS dI=>?_) fun v z hv L=>?_
 .let⟨d,j,y,_⟩:=L
  show l j y
 .let⟨vs,il,_⟩:=l I2 y0
  show⟨vs,il⟩
 .exact⟨S,I2.kept kp,y0,f1,f2,fI,fS⟩
 .let⟨d,j,y,a1,a2,D,C⟩:=L
  show⟨d,j.turned (it:=E.heap.objs.size) (fun b o i e=>kp b o ↥i e) D.1 D.2.1 D.2.2.2.1 D.2.2.2.2.1 D.2.2.2.2.2,y,a1,a2,D,C⟩
 .let⟨d,j,y,a1,a2,D,C⟩:=L
  show⟨d,j.turned (t':=z.toks) (it:=E.heap.objs.size+1) (fun b o i e=>(sb.2 b i).trans e) C.1 C.2.1 C.2.2.2.1 C.2.2.2.2.1 C.2.2.2.2.2,y,a1,a2,D,C⟩
 .let⟨d,j,y,a1,a2,D,C⟩:=L
  let⟨x,Y,t,rfl⟩:=hv
  have Ip:=j.pinned (fp:=[E.heap.objs.size,E.heap.objs.size+1]) (fun b i=>by
   rcases Aq.mp i with rfl | i
   .exact D
   .rw[An.mp i];show C) fun b i=>by
   rcases Aq.mp i with rfl | i
   .exact⟨_,gI,dI⟩
   .rw[An.mp i];show⟨_,gS,dS⟩
  let⟨u1,r1,g1⟩:=E2 Ip n0 e0 v0 m0 k0
  let⟨u2,r2,g2⟩:=E2 Ip n1 e1 v1 o0 k1
  let⟨u3,r3,g3⟩:=E2 Ip n2 e2 v2 p0 k2
  refine Dx (Z72 (A:=X.A.in1) Ip j.ok.frames ⟨hr.hd,by have:=hr.dp;change X.A.depth+3 * (k+1)+5<_;lia,by have:=hr.un;change X.A.units+1+16 * (k+1)+200<_;lia⟩ a1 a2 g1 g2 g3 r1 r2 r3 F s0 hm hk i hd hx (jt d y x Y) fun v x0 z=>z.1) (fun v z' h=>?_) fun _ _ z=>z
  let⟨kk,t',r,x0,ev,M,q1,q2,q3⟩:=h
  have pI:=M.pin (E.heap.objs.size,oI) (Dd _ (Dd _ (Y3 Db gI)))
  have pS:=M.pin (E.heap.objs.size+1,oS) (Dd _ (Dd _ (Y3 (Aj _ Db) gS)))
  show⟨kk,t',ev,⟨x0,M.pins_of (fun p hp=>M.pin p (Dd _ (Dg _ hp))),q2,q3 _ _ a1,q3 _ _ a2,⟨pI.2.1,D.2⟩,⟨pS.2.1,C.2⟩⟩,pS.1,pI.1⟩
 .let⟨d,j,y,_⟩:=L
  let⟨x,Y,t,rfl⟩:=hv
  show⟨.int x,d,j,⟨t,rfl⟩,q x Y d y⟩
end
def Z26(K:Ac)(H:Hp):Prop:=∀c P,tabIn K "chosen_head"=some (c,P)->∃a,H P=some (.tbl a)/\Tri H a
def Za0{P:Ui}{w:Uj}{K:Ac}{mg mb:Str->Option Uf}{CX:CXT}{k:Nat}{fa a c0 T:Uh}{fd:FuncData}{x:Str}{sp:Sp}{f:Ug}{vs:LW}{ns:List Int}
  (KX:K.In f.heap) (S:f.heap.Ns mainGlobals mg) (i:f.heap.Ns builtinsNs mb) (s0:∀x:Str,x≠"__name__"->mb x=bootBuiltins x) (U:f.heap.NoLimit) (hg:f.gens=#[])
  (t0:∃bm B,mg "__builtins__"=↑bm/\bm≠builtinsNs/\f.heap.get? bm=some B/\B.cls= .type "module"/\B.dict=some builtinsNs/\B.data= .plain)
  (ht:tabIn K "chosen_head"=some (c0,T)) (u0:noTabs K=true) (hC:CodeHd f.heap c0 T) (L:f.heap.get? T=some (tabObj #[]))
  (N:f.heap.get? a=some {cls:= .type "list",data:= .seq vs.toArray}) (hi:IntsAre vs ns) (hl:ns.length<=sizeLine) (hr:Room k callerA)
  (F:∀j:Uk,K.In j->j.Ns mainGlobals mg->Bs K mg j->FnOk P w K mg j CX k fa fd [x] sp) (J:∀(s:Ug) (u:Uf),BindsTo s fd ⟨[u],[]⟩ [(x,u)])
  (v0:∀H:Hp,((∃o,H a=some (.frz o (.lst (ns.map V.int))))\/SqL K (fun _=>none) a (ns.map V.int))->Z26 K H->sp [.ref a] H (fun v _=>v= .bl true) fun _ _ _=>False)
  (r0:∀H e p,CX [] H f (fun _ _ _=>False) e p->False):
  codeAny (model P w) callerA (.call (.ref fa) ⟨[.ref a],[]⟩) (fun r p=>r= .ok (.ret (.bool true))/\OldK f.heap p.heap/\p.os=f.os/\AllBare p.gens) f:=by
 have rv:=W7 hi
 have Q:=hi.length
 have A:a≠T:=fun z=>by rw[z,L] at N;cases N
 have G:∀H:Hp,((∃o,H a=some (.frz o (.lst (ns.map V.int))))\/SqL K (fun _=>none) a (ns.map V.int))->H T=some (.tbl #[])->HOk P w H f.heap->(∀b,H b≠none->b=a\/b=T)->(H a≠none->K.lookup a=none)->(∀u,H a=some u->∃o xs,u= .frz o (.lst xs))->
   codeAny (model P w) callerA (.call (.ref fa) ⟨[.ref a],[]⟩) (fun r p=>r= .ok (.ret (.bool true))/\OldK f.heap p.heap/\p.os=f.os/\AllBare p.gens) f:=by
  intro H hS X R hA hK hO
  have g:∀{b:Uh} {o:Obj},f.heap.get? b=some o->H b=none->(hidT f.heap H).get? b=some o:=fun e n=>Zp0 e n
  have I:∀{b:Uh} {o:Obj},f.heap.get? b=some o->o≠{cls:= .type "list",data:= .seq vs.toArray}->o≠tabObj #[]->H b=none:=fun{b o} e d1 d2=>by
   cases q:H b with
   | none=>rfl
   | some u=>
    rcases hA b (by rw[q];simp) with z | z
    .rw[z,N] at e;cases e;show absurd rfl d1
    .rw[z,L] at e;cases e;show absurd rfl d2
  have y:∀{b:Uh} {m:Str->Option Uf},f.heap.Ns b m->(hidT f.heap H).Ns b m:=fun{b m} zz74=>by let⟨o,es,ep,e,d,r⟩:=zz74;show⟨o,es,ep,g e (I e (fun z=>by rw[z] at d;cases d) fun z=>by rw[z] at d;cases d),d,r⟩
  have Z:K.In (hidT f.heap H):=fun b o e=>g (KX b o e) (by
   cases q:H b with
   | none=>rfl
   | some u=>
    rcases hA b (by rw[q];simp) with z | z
    .subst z;rw[hK (by rw[q];simp)] at e;cases e
    .have E:=KX b o e
     rw[z,L] at E;cases E
     have h2:=Hw.mp u0 _ (mem_of_lookupK e)
     show absurd (show false=true from h2) Bf9)
  have hM:Mod K mg (hidT f.heap H):=⟨Z,y S,⟨mb,y i,s0⟩,let ⟨mc,h1,h2⟩:=U;⟨mc,y h1,h2⟩⟩
  have hB:Bs K mg (hidT f.heap H):=by
   refine⟨?_,fun c P e=>?_⟩
   .let⟨bm,B,b1,b2,b3,b4,b5,b6⟩:=t0
    show⟨bm,B,b1,b2,g b3 (I b3 (fun z=>by rw[z] at b6;cases b6) fun z=>by rw[z] at b6;cases b6),b4,b5,b6⟩
   .rw[ht] at e;cases e
    let⟨o,x0,z0,tf,M,tg,w0,O,tt,e1,E,e3,r⟩:=hC
    show⟨o,x0,z0,tf,M,tg,w0,O,tt,g e1 (I e1 (fun z=>by rw[z] at e3;cases e3) fun z=>by rw[z] at E;cases E),E,e3,r⟩
  have e0:Env0 P w K mg (hidT f.heap H) callerA [] f H:=⟨rfl,hM,fun b o e=>Y62 e,Nat.le_of_eq (Z88 _ _),trivial,fun b i=>absurd (show b∈([]:List Uh) from i) (by simp),R,.of_eq hg⟩
  have tA:Z26 K H:=fun c P e=>by
   rw[ht] at e;cases e
   show⟨#[],X,Tri.nil H⟩
  refine Kr ((F _ Z (y S) hB).run callerA [] f H ⟨[.ref a],[]⟩ [.ref a] [.ref a] _ _ hr e0 (J f (.ref a)) (.cons rfl .nil) (v0 H hS tA)) fun r p h=>?_
  cases r with
  | error e=>show(r0 H e p h).elim
  | ok fl=>
   cases fl with
   | next=>show Dk h
   | brk=>show Dk h
   | cont=>show Dk h
   | ret u=>
    let⟨v,H',os,y0,un,D,r',q⟩:=h
    have q':v= .bl true:=q
    subst q'
    obtain rfl:u=Value.bool true:=r'
    let⟨C,hm⟩:=un.tbls T #[] X
    have Y:p.heap.get? T=some (tabObj (#[]++C)):=D T _ hm
    have kp:∀b o,b≠T->f.heap.get? b=some o->p.heap.get? b=some o:=fun b o i e=>by
     cases q:H b with
     | none=>show un.keep b o e q (by intro z;show absurd (show b∈([]:List Uh) from z) (by simp)) (by simp)
     | some u=>
      rcases hA b (by rw[q];simp) with z | z
      .subst z
       let⟨B,xs,rfl⟩:=hO u q
       have z2:=un.frzs b B _ q
       let⟨e1,_⟩:=R b _ q
       let⟨E,_⟩:=D b _ z2
       rw[e] at e1;cases e1
       show E
      .exact absurd z i
    refine⟨rfl,⟨fun b o e=>?_,fun b o e=>?_⟩,os,y0⟩
    .by_cases i:b=T
     .subst i
      rw[L] at e;cases e
      show .inr (.inl ⟨(hC.tab L).isCodeTable,rfl,#[],C,rfl,Y⟩)
     .exact .inl (kp b o i e)
    .by_cases i:b=T
     .subst i;show⟨_,Y⟩
     .exact⟨o,kp b o i e⟩
 cases hk:K.lookup a with
 | some o=>
  have e:=KX a o hk
  rw[N] at e
  cases e
  refine G (fun b=>if b=T then some (.tbl #[]) else none) (.inr (.inr ⟨_,vs.toArray,_,hk,rfl,rfl,rfl,by rw[Ak,Q];show hl,↥rv⟩)) (ng rfl) (fun b u z=>?_) (fun b z=>?_) (fun z=>absurd (nc A) z) fun u z=>?_
  .by_cases i:b=T
   .have l:=(ng i).symm.trans z
    cases l
    subst i
    show L
   .have l:=(nc i).symm.trans z
    cases l
  .by_cases i:b=T
   .exact .inr i
   .exact absurd (nc i) z
  .have l:=(nc A).symm.trans z
   cases l
 | none=>
  refine G (fun b=>if b=T then some (.tbl #[]) else if b=a then some (.frz {cls:= .type "list",data:= .seq vs.toArray} (.lst (ns.map V.int))) else none) (.inl ⟨{cls:= .type "list",data:= .seq vs.toArray},(nc A).trans (ng rfl)⟩) (ng rfl) (fun b u z=>?_) (fun b z=>?_) (fun _=>hk) fun u z=>?_
  .by_cases i:b=T
   .have l:=(ng i).symm.trans z
    cases l
    subst i
    show L
   .have z1:=(nc i).symm.trans z
    by_cases t:b=a
    .have l:=(ng t).symm.trans z1
     cases l
     subst t
     show⟨N,by rw[Ag];show hl,vs,_,rv,N⟩
    .have l:=(nc t).symm.trans z1
     cases l
  .by_cases i:b=T
   .exact .inr i
   .by_cases t:b=a
    .exact .inl t
    .exact absurd ((nc i).trans (nc t)) z
  .have l:=((nc A).trans (ng rfl)).symm.trans z
   cases l
   show⟨_,_,rfl⟩
end L2
namespace U
open PySem PySem.Spec PyProof.Rows L2 L3
inductive D where
 | non | bl (b:Bool) | int (i:Int) | str (x:Str) | tup (ds:List D) | ref (n:Nat) | ty (n:String) | gtup (ds:List D) | cls (a:Uh) | exn (e C dx:Uh) (row:D)
inductive Cell where
 | lst (ds:List D) | frz (ds:List D) | dct (kvs:List (Key×D)) | fdc (kvs:List (Key×D))
abbrev LD:=List D
abbrev KQ9:=List (Key×D)
abbrev Z1:=List Cell
abbrev DEnv:=List (Option D)
abbrev DK:=D->Z1->Prop
abbrev DX:=Uh->D->Z1->Prop
abbrev DE:=DEnv->Z1->DK->Prop
abbrev DA:=DEnv->Z1->(LD->Z1->Prop)->Prop
abbrev DT:=DEnv->Z1->(Bool->Z1->Prop)->Prop
abbrev DSp:=LD->Z1->DK->DX->Prop
structure DEnds where
 nx:DEnv->Z1->Prop
 rt:DK
 bk:DEnv->Z1->Prop:=fun _ _=>False
 ct:DEnv->Z1->Prop:=fun _ _=>False
abbrev DS:=DEnds->DEnv->Z1->Prop
structure Vw where
 K:Ac
 H:Hp
 μ:Nat->Uh
 n:Nat
mutual
def RD(w:Vw):D->V->Prop
 | .non,v=>v= .non
 | .bl b,v=>v= .bl b
 | .int i,v=>v= .int i
 | .str x,v=>v= .str x
 | .tup f,v=>∃a c,v= .ref a/\w.H a=some (.tup c)/\RDs w f c
 | .ref i,v=>i<w.n/\v= .ref (w.μ i)
 | .ty n,v=>v= .ty n
 | .gtup f,v=>∃a c,v= .ref a/\SqT w.K w.H a c/\RDs w f c
 | .cls a,v=>v= .ref a
 | .exn e C g d,v=>v= .ref e/\w.H e=some (XO e (.ref C) (some g))/\∃r,w.H g=some (.xd [("row",r)])/\RD w d r
def RDs(w:Vw):LD->LV->Prop
 | [],a=>a=[]
 | d::b,a=>∃v r,a=v::r/\RD w d v/\RDs w b r
end
def RKV(w:Vw):KQ9->List (Key×V)->Prop
 | [],a=>a=[]
 |(k,d)::b,a=>∃v r,a=(k,v)::r/\RD w d v/\RKV w b r
def SqF(K:Ac)(H:Hp)(a:Uh)(vs:LV):Prop:=(∃o,H a=some (.frz o (.lst vs)))\/SqL K (fun _=>none) a vs
def Cell.mut:Cell->Bool
 | .frz _=>false
 | _=>true
def Qv(w:Vw):Cell->Uh->Prop
 | .lst d,a=>∃b,w.H a=some (.lst b)/\RDs w d b
 | .frz d,a=>∃b,SqF w.K w.H a b/\RDs w d b
 | .dct c,a=>∃b,w.H a=some (.dK b)/\RKV w c b
 | .fdc c,a=>∃o b,w.H a=some (.frz o (.dK b))/\RKV w c b
structure RS(w:Vw)(M:Z1):Prop where
 len:w.n=M.length
 inj:∀(i j:Nat) (ci cj:Cell),M[i]?=some ci->M[j]?=some cj->ci.mut=true->cj.mut=true->w.μ i=w.μ j->i=j
 cell:∀i c,M[i]?=some c->Qv w c (w.μ i)
 tab:Z26 w.K w.H
def Tb:HO->Bool
 | .tbl _ | .ext _=>true
 | _=>false
def R9{K:Ac}{H H':Hp}(x:Z26 K H)(k:∀b o,H b=some o->Tb o=true->H' b=some o):Z26 K H':=fun c P e=>by
 let⟨a,f,d⟩:=x c P e
 show⟨a,k _ _ f rfl,d.keep fun c q=>k _ _ q rfl⟩
def Imm:HO->Bool
 | .tup _ | .xd _ | .ext _ | .frz _ _=>true
 | _=>false
structure Ext(w w':Vw):Prop where
 K:w'.K=w.K
 n:w.n<=w'.n
 μ:∀i,i<w.n->w'.μ i=w.μ i
 imm:∀a o,w.H a=some o->Imm o=true->w'.H a=some o
def Ext.refl(w:Vw):Ext w w:=⟨rfl,na _,fun _ _=>rfl,fun _ _ h _=>h⟩
def Ext.trans{a b c:Vw}(x:Ext a b)(y:Ext b c):Ext a c:=
 ⟨y.K.trans x.K,ni x.n y.n,fun i h=>(y.μ i (nh h x.n)).trans (x.μ i h),fun p o h q=>y.imm p o (x.imm p o h q) q⟩
def Ext.sqT{w b:Vw}(x:Ext w b){a:Uh}(h:SqT w.K w.H a vs):SqT b.K b.H a vs:=by
 rw[x.K]
 rcases h with(h | ⟨o,h⟩) | h
 .exact .inl (.inl (x.imm _ _ h rfl))
 .exact .inl (.inr ⟨o,x.imm _ _ h rfl⟩)
 .exact .inr h
structure Ext0(w w':Vw):Prop where
 K:w'.K=w.K
 n:w.n<=w'.n
 μ:∀i,i<w.n->w'.μ i=w.μ i
 imm:∀a o,w.H a=some o->Imm o=true->(∀ob kvs,o≠ .frz ob (.dK kvs))->w'.H a=some o
mutual
theorem RD.ext0{w f:Vw}(x:Ext0 w f):∀{d:D} {v:V},RD w d v->RD f d v
 | .non,v,h=>h
 | .bl b,v,h=>h
 | .int i,v,h=>h
 | .str _,v,h=>h
 | .tup m,v,h=>by
  unfold RD at *
  let⟨a,c,e,q,r⟩:=h
  show⟨a,c,e,x.imm _ _ q rfl (fun _ _ z=>by cases z),RDs.ext0 x r⟩
 | .ref i,v,h=>by
  unfold RD at *
  show⟨nh h.1 x.n,by rw[x.μ i h.1];show h.2⟩
 | .ty n,v,h=>h
 | .gtup m,v,h=>by
  unfold RD at *
  let⟨a,c,e,q,r⟩:=h
  refine⟨a,c,e,?_,RDs.ext0 x r⟩
  rw[x.K]
  rcases q with(h | ⟨o,h⟩) | h
  .exact .inl (.inl (x.imm _ _ h rfl (fun _ _ z=>by cases z)))
  .exact .inl (.inr ⟨o,x.imm _ _ h rfl (fun _ _ z=>by cases z)⟩)
  .exact .inr h
 | .cls a,v,h=>h
 | .exn e C p g,v,h=>by
  unfold RD at *
  let⟨l,q,r,k,j⟩:=h
  show⟨l,x.imm _ _ q rfl (fun _ _ z=>by cases z),r,x.imm _ _ k rfl (fun _ _ z=>by cases z),RD.ext0 x j⟩
theorem RDs.ext0{w b:Vw}(x:Ext0 w b):∀{a:LD} {vs:LV},RDs w a vs->RDs b a vs
 | [],vs,h=>h
 | d::a,vs,h=>by
  unfold RDs at *
  let⟨v,r,e,f,c⟩:=h
  show⟨v,r,e,RD.ext0 x f,RDs.ext0 x c⟩
end
theorem RKV.ext0{w b:Vw}(x:Ext0 w b):∀{a:KQ9} {vs:List (Key×V)},RKV w a vs->RKV b a vs
 | [],vs,h=>h
 |(k,d)::a,vs,h=>by
  unfold RKV at *
  let⟨v,r,e,f,c⟩:=h
  show⟨v,r,e,RD.ext0 x f,RKV.ext0 x c⟩
def Ext.z{w f:Vw}(x:Ext w f):Ext0 w f:=⟨x.K,x.n,x.μ,fun a o h q _=>x.imm a o h q⟩
def RD.ext{w f:Vw}(x:Ext w f){d:D}{v:V}(h:RD w d v):RD f d v:=RD.ext0 x.z h
def RDs.ext{w f:Vw}(x:Ext w f){d:LD}{v:LV}(h:RDs w d v):RDs f d v:=RDs.ext0 x.z h
def RKV.ext{w f:Vw}(x:Ext w f){d:KQ9}{v:List (Key×V)}(h:RKV w d v):RKV f d v:=RKV.ext0 x.z h
def RDs.nil(w:Vw):RDs w [] []:=by unfold RDs;rfl
def RDs.cons{w:Vw}{d:D}{v:V}{a:LD}{vs:LV}(h:RD w d v)(r:RDs w a vs):RDs w (d::a) (v::vs):=by unfold RDs;show⟨v,vs,rfl,h,r⟩
def RDs.length{w:Vw}:∀{a:LD} {vs:LV},RDs w a vs->vs.length=a.length
 | [],vs,h=>by unfold RDs at h;subst h;rfl
 | d::a,vs,h=>by
  unfold RDs at h
  let⟨v,r,rfl,_,b⟩:=h
  simp[b.length]
def RDs.get{w:Vw}:∀{a:LD} {vs:LV} {i:Nat} {d:D},RDs w a vs->a[i]?=some d->∃v,vs[i]?=some v/\RD w d v
 | [],vs,i,d,h,e=>by simp at e
 | d::a,vs,i,f,h,e=>by
  unfold RDs at h
  let⟨v,r,rfl,c,b⟩:=h
  cases i with
  | zero=>simp at e;subst e;show⟨v,rfl,c⟩
  | succ i=>simpa using RDs.get b ↥e
def RDs.append{w:Vw}:∀{a es:LD} {vs us:LV},RDs w a vs->RDs w es us->RDs w (a++es) (vs++us)
 | [],es,vs,us,h,g=>by unfold RDs at h;subst h;show g
 | d::a,es,vs,us,h,g=>by
  unfold RDs at h
  let⟨v,r,rfl,c,b⟩:=h
  show RDs.cons c (RDs.append b g)
def RDs.take{w:Vw}:∀{a:LD} {vs:LV} (n:Nat),RDs w a vs->RDs w (a.take n) (vs.take n)
 | _,_,0,_=>by simp[RDs.nil]
 | [],vs,n+1,h=>by unfold RDs at h;subst h;simp[RDs.nil]
 | d::a,vs,n+1,h=>by
  unfold RDs at h
  let⟨v,r,rfl,c,b⟩:=h
  show RDs.cons c (RDs.take n b)
def RDs.drop{w:Vw}:∀{a:LD} {vs:LV} (n:Nat),RDs w a vs->RDs w (a.drop n) (vs.drop n)
 | _,_,0,h=>by simpa using h
 | [],vs,n+1,h=>by unfold RDs at h;subst h;simp[RDs.nil]
 | d::a,vs,n+1,h=>by
  unfold RDs at h
  let⟨v,r,rfl,c,b⟩:=h
  simpa using RDs.drop n b
def RDs.set{w:Vw}{d:D}{v:V}(q:RD w d v):∀{a:LD} {vs:LV} (n:Nat),RDs w a vs->RDs w (a.set n d) (vs.set n v)
 | [],vs,n,h=>by unfold RDs at h;subst h;simp[RDs.nil]
 | d::a,vs,0,h=>by
  unfold RDs at h
  let⟨v,r,rfl,c,b⟩:=h
  show RDs.cons q b
 | d::a,vs,n+1,h=>by
  unfold RDs at h
  let⟨v,r,rfl,c,b⟩:=h
  show RDs.cons c (RDs.set q n b)
def RDs.reverse{w:Vw}:∀{a:LD} {vs:LV},RDs w a vs->RDs w a.reverse vs.reverse
 | [],vs,h=>by unfold RDs at h;subst h;simp[RDs.nil]
 | d::a,vs,h=>by
  unfold RDs at h
  let⟨v,r,rfl,c,b⟩:=h
  simp only[List.reverse_cons]
  show(RDs.reverse b).append (RDs.cons c (RDs.nil w))
def Vw.push(w:Vw)(a:Uh)(o:HO):Vw:=⟨w.K,upd w.H a o,fun i=>if i=w.n then a else w.μ i,w.n+1⟩
def Vw.alloc(w:Vw)(a:Uh)(o:HO):Vw:={w with H:=upd w.H a o}
def Xi{w:Vw}{a:Uh}{o:HO}(h:w.H a=none):Ext w (w.alloc a o):=
 ⟨rfl,na _,fun _ _=>rfl,fun b u q _=>by
  change upd w.H a o b=some u
  rw[Z7 (by rintro rfl;rw[h] at q;cases q)];show q⟩
def V8{w:Vw}{a:Uh}{o:HO}(h:w.H a=none):Ext w (w.push a o):=
 ⟨rfl,mm _,fun i c=>by show(if i=w.n then a else w.μ i)=_;rw[nc 'o'],fun b u q _=>by
  change upd w.H a o b=some u
  rw[Z7 (by rintro rfl;rw[h] at q;cases q)];show q⟩
def SqF.stay{w b:Vw}{a:Uh}(x:Ext w b)(h:SqF w.K w.H a vs):SqF b.K b.H a vs:=by
 rcases h with⟨o,h⟩ | h
 .exact .inl ⟨o,x.imm _ _ h rfl⟩
 .rw[x.K];show .inr h
def SqF.sq{K:Ac}{H:Hp}{a:Uh}(h:SqF K H a vs):SqL K H a vs:=by
 rcases h with⟨o,h⟩ | (h | ⟨o,h⟩) | h
 .exact .inl (.inr ⟨o,h⟩)
 .cases h
 .cases h
 .exact .inr h
def Qv.some{w:Vw}{c:Cell}{a:Uh}(e:c.mut=true)(h:Qv w c a):∃o,w.H a=some o:=by
 cases c with
 | lst b=>let⟨d,q,_⟩:=h;show⟨_,q⟩
 | frz b=>cases e
 | dct b=>let⟨d,q,_⟩:=h;show⟨_,q⟩
 | fdc b=>let⟨o,d,q,_⟩:=h;show⟨_,q⟩
def Qv.stay{w d:Vw}{c:Cell}{a:Uh}(x:Ext w d)(h:Qv w c a)(k:c.mut=true->d.H a=w.H a):Qv d c a:=by
 cases c with
 | lst e=>let⟨b,q,r⟩:=h;show⟨b,(k rfl).trans q,r.ext x⟩
 | frz e=>let⟨b,q,r⟩:=h;show⟨b,q.stay x,r.ext x⟩
 | dct e=>let⟨b,q,r⟩:=h;show⟨b,(k rfl).trans q,r.ext x⟩
 | fdc e=>let⟨o,b,q,r⟩:=h;show⟨o,b,(k rfl).trans q,r.ext x⟩
def RS.alloc{w:Vw}{a:Uh}{o:HO}(R:RS w M)(h:w.H a=none):RS (w.alloc a o) M:=
 ⟨R.len,R.inj,fun i c e=>by
  have q:=R.cell i c e
  refine q.stay (Xi h) fun f=>?_
  let⟨u,d⟩:=q.some f
  show Z7 (fun z=>by have z:w.μ i=a:=z;rw[z,h] at d;cases d),R9 R.tab fun b o e _=>(Z7 (Zj e h)).trans e⟩
def Pe{w:Vw}{c:Cell}{a:Uh}{o:HO}(h:Qv w c a)(f:c.mut=true)(e:w.H a=some o):Tb o=false:=by
 cases c with
 | lst b=>let⟨d,q,_⟩:=h;rw[e] at q;cases q;rfl
 | frz b=>cases f
 | dct b=>let⟨d,q,_⟩:=h;rw[e] at q;cases q;rfl
 | fdc b=>let⟨_,d,q,_⟩:=h;rw[e] at q;cases q;rfl
def RS.push{w:Vw}{a:Uh}{o:HO}{c:Cell}(R:RS w M)(h:w.H a=none)(t:Qv (w.push a o) c a):RS (w.push a o) (M++[c]):=by
 have g:∀(i:Nat) (d:Cell),(M++[c])[i]?=some d->(i=w.n/\d=c)\/(i<w.n/\M[i]?=some d):=fun i d e=>by
  by_cases B:i<M.length
  .rw[Az B] at e
   show .inr ⟨by rw[R.len];show B,e⟩
  .rw[Di 'o'] at e
   have D:i - M.length=0:=by
    have:=(Ab.mp e).1
    simp at this
    lia
   rw[D] at e
   simp at e
   show .inl ⟨by rw[R.len];lia,e.symm⟩
 have s:∀(i:Nat) (d:Cell),M[i]?=some d->d.mut=true->w.μ i≠a:=fun i d e v z=>by
  let⟨u,A⟩:=(R.cell i d e).some v
  rw[z,h] at A;cases A
 refine⟨by change w.n+1=_;rw[R.len];simp,fun i j d p E C y x e=>?_,fun i r e=>?_,R9 R.tab fun b o e _=>(Z7 (Zj e h)).trans e⟩
 .change (if i=w.n then a else w.μ i)=(if j=w.n then a else w.μ j) at e
  rcases g i d E with⟨l,_⟩ | ⟨l,f⟩
  .rcases g j p C with⟨m,_⟩ | ⟨m,k⟩
   .lia
   .rw[ng l,nc 'o'] at e
    show absurd e.symm (s j p k x)
  .rcases g j p C with⟨m,_⟩ | ⟨m,k⟩
   .rw[nc 'o',ng m] at e
    show absurd e (s i d f y)
   .rw[nc 'o',nc 'o'] at e
    show R.inj i j d p f k y x e
 .change Qv _ r (if i=w.n then a else w.μ i)
  rcases g i r e with⟨l,rfl⟩ | ⟨l,f⟩
  .rw[ng l];show t
  .rw[nc 'o']
   have q:=R.cell i r f
   show q.stay (V8 h) fun v=>Z7 (s i r f v)
def Yy{w:Vw}{a:Uh}{u o:HO}(h:w.H a=some u)(c:Imm u=false):Ext w (w.alloc a o):=
 ⟨rfl,na _,fun _ _=>rfl,fun b v q z=>by
  change upd w.H a o b=some v
  rw[Z7 (by rintro rfl;rw[h] at q;cases q;rw[c] at z;cases z)];show q⟩
def RS.write{w:Vw}{i:Nat}{u o:HO}{c0 c:Cell}(R:RS w M)(h0:M[i]?=some c0)(s:c0.mut=true)(L:c.mut=true)(h:w.H (w.μ i)=some u)(E:Imm u=false)(l:Qv (w.alloc (w.μ i) o) c (w.μ i)):RS (w.alloc (w.μ i) o) (M.set i c):=by
 have F:i<M.length:=(Ab.mp h0).1
 have f:∀(j:Nat) (k:Cell),(M.set i c)[j]?=some k->k.mut=true->∃g,M[j]?=some g/\g.mut=true:=fun j k e m=>by
  by_cases d:j=i
  .subst d;show⟨c0,h0,s⟩
  .rw[Dh (Ia d)] at e
   show⟨k,e,m⟩
 refine⟨by change w.n=_;rw[R.len];simp,fun a b K J I G D C e=>?_,fun j B e=>?_,R9 R.tab fun b o e t=>(Z7 fun z=>?_).trans e⟩
 .let⟨A,x,r⟩:=f a K I D
  let⟨y,v,p⟩:=f b J G C
  show R.inj a b A y x v r p e
 .by_cases d:j=i
  .subst d
   rw[Dm F] at e
   cases e
   show l
  .rw[Dh (Ia d)] at e
   have q:=R.cell j B e
   show q.stay (Yy h E) fun m=>Z7 (fun z=>d (R.inj j i B c0 e h0 m s z))
 .have z:b=w.μ i:=z
  subst z
  rw[Pe (R.cell i c0 h0) s e] at t
  cases t
def G2{w:Vw}{a:Uh}{o:Obj}(h:w.H a=some (.frz o (.dK vs))):Ext0 w (w.alloc a u):=
 ⟨rfl,na _,fun _ _=>rfl,fun b v q _ n=>by
  change upd w.H a u b=some v
  rw[Z7 (by rintro rfl;rw[h] at q;cases q;show n _ _ rfl)];show q⟩
def RS.thaw{w:Vw}{i:Nat}{o:Obj}(R:RS w M)(h0:M[i]?=some (.fdc kvs))(h:w.H (w.μ i)=some (.frz o (.dK vs)))(r:RKV w kvs vs):RS (w.alloc (w.μ i) (.dK vs)) (M.set i (.dct kvs)):=by
 have I:i<M.length:=(Ab.mp h0).1
 have x:=G2 (u:= .dK vs) h
 have f:∀(j:Nat) (k:Cell),(M.set i (.dct kvs))[j]?=some k->k.mut=true->∃g,M[j]?=some g/\g.mut=true:=fun j k e p=>by
  by_cases d:j=i
  .subst d;show⟨_,h0,rfl⟩
  .rw[Dh (Ia d)] at e
   show⟨k,e,p⟩
 refine⟨by change w.n=_;rw[R.len];simp,fun a b N L K J G F e=>?_,fun j l e=>?_,R9 R.tab fun b o e t=>(Z7 fun z=>?_).trans e⟩
 .let⟨E,A,v⟩:=f a N K G
  let⟨C,y,s⟩:=f b L J F
  show R.inj a b E C A y v s e
 .by_cases d:j=i
  .subst d
   rw[Dm I] at e
   cases e
   show⟨vs,Zd,r.ext0 x⟩
  .rw[Dh (Ia d)] at e
   have q:=R.cell j l e
   have m:l.mut=true->w.μ j≠w.μ i:=fun p z=>d (R.inj j i l _ e h0 p rfl z)
   cases l with
   | lst B=>let⟨c,q,r⟩:=q;show⟨c,(Z7 (m rfl)).trans q,r.ext0 x⟩
   | dct B=>let⟨c,q,r⟩:=q;show⟨c,(Z7 (m rfl)).trans q,r.ext0 x⟩
   | fdc B=>let⟨o,c,q,r⟩:=q;show⟨o,c,(Z7 (m rfl)).trans q,r.ext0 x⟩
   | frz B=>
    let⟨c,q,r⟩:=q
    refine⟨c,?_,r.ext0 x⟩
    rcases q with⟨o,q⟩ | q
    .exact .inl ⟨o,x.imm _ _ q rfl (fun _ _ z=>by cases z)⟩
    .exact .inr q
 .have z:b=w.μ i:=z
  subst z
  rw[h] at e
  cases e
  cases t
def Zm2{w1 c:Vw}{a:Uh}{u f o:HO}(h:w1.H a=some u)(e:Imm u=false)(x:Ext (w1.alloc a f) c):Ext w1 (c.alloc a o):=
 ⟨x.K,x.n,x.μ,fun b v q z=>by
  have d:b≠a:=by rintro rfl;rw[h] at q;cases q;rw[e] at z;cases z
  change upd c.H a o b=some v
  rw[Z7 d]
  show x.imm b v ((Z7 d).trans q) z⟩
inductive Op where
 | add | sub | mul | fdiv | mod | pow
 deriving DecidableEq
inductive Cm where
 | lt | le | gt | eq | ne | is | isnot | isin | notin
 deriving DecidableEq
inductive Bf where
 | len | isinst | list1 | tuple1 | dict1 | sortedL
 deriving DecidableEq
inductive Mt where
 | append | get2 | pop0 | reverse | index1 | extend | upd
 deriving DecidableEq
inductive Ty where
 | int | str | bool | list | tuple | dict | valueError
 deriving DecidableEq
def Yj:Ty->String
 | .int=>"int" | .str=>"str" | .bool=>"bool" | .list=>"list" | .tuple=>"tuple" | .dict=>"dict" | .valueError=>"ValueError"
set_option genInjectivity false in
mutual
inductive E where
 | var (i:Nat) | int (i:Int) | bl (b:Bool) | non | str (x:Str) | ty (x:Ty) | glb (k:Nat)
 | bin (op:Op) (a b:E) | neg (a:E) | not (a:E) | cmp (op:Cm) (a b:E) | cmp2 (op op2:Cm) (a b d:E) | bop (isAnd:Bool) (es:Es) | ife (c a b:E)
 | lst (es:Es) | tup (es:Es) | dict0 | lkeys (a:E) | lrng (a:E) | dct (a b:E) | ix (a b:E) | sl (a:E) (lo hi:Eo)
 | callH (f:Nat) (es:Es) | call (f:Nat) (es:Es) | bf (b:Bf) (es:Es) | mt (m:Mt) (o:E) (es:Es) | fld (o:E) (f:Str)
 | comp (N':LS) (js:List (Option Nat)) (tg:LQ) (it:It) (cd:Eo) (e:E)
 | compK (N':LS) (js:List (Option Nat)) (tg:LQ) (d e:E)
 | rev (a:E) | fstr (es:Es)
inductive Es where
 | nil | cons (e:E) (r:Es)
inductive Eo where
 | no | yes (e:E)
inductive It where
 | seq (e:E) | rng1 (a:E) | enm (e:E)
end
inductive Tk where
 | drop | ret | set (j:Nat)
set_option genInjectivity false in
mutual
inductive S where
 | ret (e:E) | expr (e:E)
 | set (tg:LQ) (e:E)
 | aug (op:Op) (j:Nat) (e:E)
 | put (o i v:E)
 | ite (c:E) (a b:Ss) | for_ (tg:LQ) (it:It) (b:Ss) | forK (tg:LQ) (e:E) (b:Ss) | while_ (c:E) (b:Ss)
 | raise (k:Nat) (es:Es)
 | tryI (t:E) (f:Nat) (es:Es) (f2:Nat) (es2:Es) (g i:Nat) (s:Ss)
inductive Ss where
 | nil | cons (s:S) (r:Ss)
end
noncomputable def readL(M:Z1)(n:Nat):Option (LD):=match M[n]? with
 | some (.lst a)=>some a
 | some (.frz a)=>some a
 | _=>none
def Zw(M:Z1)(n:Nat):Option (LD):=match M[n]? with
 | some (.lst a)=>some a
 | _=>none
def Zx(M:Z1)(n:Nat):Option (KQ9):=match M[n]? with
 | some (.dct a)=>some a
 | _=>none
def Z25(M:Z1)(n:Nat):Option (KQ9):=match M[n]? with
 | some (.dct a)=>some a
 | some (.fdc a)=>some a
 | _=>none
def valD(kvs:KQ9)(k:Key):Option D:=(kvs.find? fun a=>decide (a.1=k)).map (·.2)
def putD(kvs:KQ9)(k:Key)(v:D):KQ9:=
 if (kvs.any fun a=>decide (a.1=k))=true then kvs.map (fun a=>if a.1=k then(a.1,v) else a) else kvs++[(k,v)]
def keyD:D->Option Key
 | .int i=>some (.inl i)
 | .str x=>some (.inr x)
 | _=>none
def kD:Key->D
 | .inl i=> .int i
 | .inr x=> .str x
def Yk(ps:KQ9):LD:=ps.map fun p=> .tup [kD p.1,p.2]
def S5(ps:KQ9):KQ9:=ps.foldl (fun m p=>putD m p.1 p.2) []
def qdiv(i j:Int):Int:=if 0<j then i / j else i.fdiv j
def qmod(i j:Int):Int:=if 0<j then i % j else i.fmod j
def Y66(i j:Int):i.fdiv j=qdiv i j:=by
 unfold qdiv
 split
 .exact Int.fdiv_eq_ediv_of_nonneg _ 'o'
 .rfl
def Y03(i j:Int):i.fmod j=qmod i j:=by
 unfold qmod
 split
 .exact Int.fmod_eq_emod_of_nonneg _ 'o'
 .rfl
def Zj8{i j:Int}(h:0<j):qdiv i j=i / j:=ng h
def Zr5{i j:Int}(h:0<j):qmod i j=i % j:=ng h
def N6(x:D)(F:Int->Prop):Prop:=match x with
 | .int i=>F i
 | _=>False
def Qy(x:D)(F:Nat->Prop):Prop:=match x with
 | .ref n=>F n
 | _=>False
def onStr(x:D)(F:Str->Prop):Prop:=match x with
 | .str i=>F i
 | _=>False
def onSR(x:D)(F:Str->Prop)(G:Nat->Prop):Prop:=match x with
 | .str i=>F i
 | .ref n=>G n
 | _=>False
def Be{x:D}(h:onSR x F G):(∃i,x= .str i/\F i)\/∃n,x= .ref n/\G n:=by
 cases x with
 | str i=>show .inl ⟨i,rfl,h⟩
 | ref n=>show .inr ⟨n,rfl,h⟩
 | _=>show Dk h
def Zh3(x:Str):LD:=x.cps.toList.map fun c=> .str ⟨#[c]⟩
def onIS(x:D)(F:Int->Prop)(G:Str->Prop):Prop:=match x with
 | .int i=>F i
 | .str i=>G i
 | _=>False
def Zr6{x:D}(h:onIS x F G):(∃i,x= .int i/\F i)\/∃i,x= .str i/\G i:=by
 cases x with
 | int i=>show .inl ⟨i,rfl,h⟩
 | str i=>show .inr ⟨i,rfl,h⟩
 | _=>show Dk h
def Yf9(x:D)(F:LD->Prop):Prop:=match x with
 | .tup l=>F l
 | _=>False
def Jl(x y:D)(F:Int->Int->Prop):Prop:=N6 x fun i=>N6 y fun j=>F i j
def at0(l:LD)(P:Prop):Prop:=match l with
 | []=>P
 | _::_=>False
def at1(l:LD)(F:D->Prop):Prop:=match l with
 | []=>False
 | a::r=>at0 r (F a)
def at2(l:LD)(F:D->D->Prop):Prop:=match l with
 | []=>False
 | a::r=>at1 r (F a)
def Xg{x:D}(h:N6 x F):∃i,x= .int i/\F i:=by
 cases x with
 | int i=>show⟨i,rfl,h⟩
 | _=>show Dk h
def Yq{x:D}(h:Qy x F):∃n,x= .ref n/\F n:=by
 cases x with
 | ref n=>show⟨n,rfl,h⟩
 | _=>show Dk h
def Zc4{x:D}(h:Yf9 x F):∃l,x= .tup l/\F l:=by
 cases x with
 | tup l=>show⟨l,rfl,h⟩
 | _=>show Dk h
def X2{x y:D}(h:Jl x y F):∃i j,x= .int i/\y= .int j/\F i j:=by
 let⟨i,rfl,b⟩:=Xg h
 let⟨j,rfl,a⟩:=Xg b
 show⟨i,j,rfl,rfl,a⟩
def E1(h:at0 l P):l=[]/\P:=by
 cases l with
 | nil=>show⟨rfl,h⟩
 | cons _ _=>show Dk h
def X9(h:at1 l F):∃a,l=[a]/\F a:=by
 cases l with
 | nil=>show Dk h
 | cons a r=>let⟨rfl,b⟩:=E1 h;show⟨a,rfl,b⟩
def Z55(h:at2 l F):∃a b,l=[a,b]/\F a b:=by
 cases l with
 | nil=>show Dk h
 | cons a r=>let⟨b,rfl,c⟩:=X9 h;show⟨a,b,rfl,c⟩
def addD(x y:D)(M:Z1)(Q:DK):Prop:=match x with
 | .int i=>N6 y fun j=>Q (.int (i+j)) M
 | .str a=>match y with
  | .str b=>a.length+b.length<=sizeLine/\Q (.str (a++b)) M
  | _=>False
 | .tup a=>Yf9 y fun b=>a≠[]/\a.length+b.length<=sizeLine/\Q (.tup (a++b)) M
 | .ref a=>Qy y fun b=>∃d c,Zw M a=some d/\Zw M b=some c/\d.length+c.length<=sizeLine/\Q (.ref M.length) (M++[.lst (d++c)])
 | _=>False
def mulD(x y:D)(M:Z1)(Q:DK):Prop:=match x with
 | .int i=>N6 y fun j=>IntMulOk i j/\Q (.int (i * j)) M
 | .ref a=>N6 y fun k=>∃b,Zw M a=some b/\0<=k/\k<2 ^ 62/\b.length * k.toNat<=sizeLine/\Q (.ref M.length) (M++[.lst (Hf k.toNat b).flatten])
 | _=>False
def opD(op:Op)(x y:D)(M:Z1)(Q:DK):Prop:=match op with
 | .add=>addD x y M Q
 | .mul=>mulD x y M Q
 | .sub=>Jl x y fun i j=>Q (.int (i - j)) M
 | .fdiv=>Jl x y fun i j=>Zc9 i j/\Q (.int (qdiv i j)) M
 | .mod=>Jl x y fun i j=>j≠0/\Q (.int (qmod i j)) M
 | .pow=>Jl x y fun i j=>CPow i j/\Q (.int (i ^ j.toNat)) M
mutual
def PD(M:Z1):PyData->D->Prop
 | .none,d=>d= .non
 | .bool b,d=>d= .bl b
 | .int i,d=>d= .int i
 | .str x,d=>d= .str x
 | .list c,d=>∃n a,d= .ref n/\readL M n=some a/\PDs M c a
 | .tuple c,d=>∃a,d= .tup a/\PDs M c a
 | .dict _,_=>False
def PDs(M:Z1):List PyData->LD->Prop
 | [],a=>a=[]
 | x::b,a=>∃d r,a=d::r/\PD M x d/\PDs M b r
end
noncomputable def Y2:D->Bool
 | .non | .bl _ | .int _ | .str _=>true
 | _=>false
def eqF:D->D->Bool
 | .non,.non=>true
 | .bl a,.bl b=>a==b
 | .bl a,.int b=>(if a then 1 else 0)==b
 | .int a,.bl b=>a==(if b then 1 else 0)
 | .int a,.int b=>a==b
 | .str a,.str b=>a==b
 | _,_=>false
def eqFs(xs ys:LD):Bool:=(Ao (min xs.length ys.length)).all (fun j=>eqF (xs.getD j .non) (ys.getD j .non))&&xs.length==ys.length
def inD(x:D)(xs:LD):Bool:=xs.any fun y=>eqF y x
def eqKV(a b:KQ9):Bool:=a.length==b.length&&a.all fun c=>match valD b c.1 with
 | some y=>eqF c.2 y
 | none=>false
def eqS(x y:D):Option Bool:=match x with
 | .int i=>match y with
  | .int j=>some (decide (i=j))
  | .str _=>some false
  | .non=>some false
  | _=>none
 | .str i=>match y with
  | .str j=>some (decide (i=j))
  | .int _=>some false
  | .non=>some false
  | .bl _=>some false
  | _=>none
 | .bl i=>match y with
  | .bl j=>some (decide (i=j))
  | .non=>some false
  | .str _=>some false
  | _=>none
 | .non=>match y with
  | .non=>some true
  | .int _=>some false
  | .bl _=>some false
  | .str _=>some false
  | _=>none
 | _=>none
def eqD(M:Z1)(x y:D)(Q:Bool->Prop):Prop:=match eqS x y with
 | some b=>Q b
 | none=>(∃f e,PD M f x/\PD M e y/\f.canLay0=true/\e.canLay0=true/\min f.depth e.depth<=60/\Q (PyData.eqv f e))\/
   (∃m n a b,x= .ref m/\y= .ref n/\Zx M m=some a/\Zx M n=some b/\(a.all fun g=>Y2 g.2)=true/\(b.all fun g=>Y2 g.2)=true/\Q (eqKV a b))\/(∃m n c,x= .ref m/\y= .ref n/\readL M m=some c/\readL M n=some []/\Q c.isEmpty)\/(∃c d,(x= .tup c\/x= .gtup c)/\(y= .tup d\/y= .gtup d)/\c.all Y2=true/\d.all Y2=true/\Q (eqFs c d))
def B0(M:Z1):D->Option (LD)
 | .ref n=>readL M n
 | .tup a=>some a
 | .gtup a=>some a
 | _=>none
def inQ(M:Z1):D->D->(Bool->Prop)->Prop
 | .str a,.str b,Q=>Q (!(Mf b a 0 b.length 1).isEmpty)
 | x,.ref n,Q=>(∃c,readL M n=some c/\Y2 x=true/\c.all Y2=true/\Q (inD x c))\/(∃d k,Zx M n=some d/\keyD x=some k/\Q (valD d k).isSome)\/(∃(f:LD) (c:List (LD)),x= .tup f/\readL M n=some (c.map .tup)/\f.all Y2=true/\(c.all fun e=>e.all Y2)=true/\Q (c.any fun e=>eqFs e f))
 | x,.tup c,Q=>Y2 x=true/\c.all Y2=true/\Q (inD x c)
 | x,.gtup c,Q=>Y2 x=true/\c.all Y2=true/\Q (inD x c)
 | _,_,_=>False
def nonD(x y:D)(Q:Bool->Prop):Prop:=match y with
 | .non=>match x with
  | .non=>Q true
  | .bl _=>Q false
  | .int _=>Q false
  | .str _=>Q false
  | .tup _=>Q false
  | .ref _=>Q false
  | .exn _ _ _ _=>Q false
  | _=>False
 | _=>False
def cmD(M:Z1)(op:Cm)(x y:D)(Q:Bool->Prop):Prop:=match op with
 | .lt=>Jl x y fun i j=>Q (decide (i<j))
 | .le=>Jl x y fun i j=>Q (decide (i<=j))
 | .gt=>Jl x y fun i j=>Q (decide (j<i))
 | .eq=>eqD M x y Q
 | .ne=>eqD M x y fun b=>Q (!b)
 | .is=>nonD x y Q
 | .isnot=>nonD x y fun b=>Q (!b)
 | .isin=>inQ M x y Q
 | .notin=>inQ M x y fun b=>Q (!b)
def truD(M:Z1):D->(Bool->Prop)->Prop
 | .non,Q=>Q false
 | .bl b,Q=>Q b
 | .int i,Q=>Q (i !=0)
 | .str x,Q=>x.length<=sizeLine/\Q ((x.length:Int) !=0)
 | .tup a,Q=>Q (!a.isEmpty)
 | .ref n,Q=>(∃a,readL M n=some a/\Q (!a.isEmpty))\/(∃a,Zx M n=some a/\Q (!a.isEmpty))
 | _,_=>False
def ixD(M:Z1):D->D->(D->Prop)->Prop
 | .ref n,k,Q=>(∃a i d,k= .int i/\readL M n=some a/\atI a i=some d/\Q d)\/(∃b y d,Z25 M n=some b/\keyD k=some y/\valD b y=some d/\Q d)
 | .tup a,.int i,Q=>∃d,atI a i=some d/\Q d
 | .gtup a,.int i,Q=>∃d,atI a i=some d/\Q d
 | .str z,.int i,Q=>z.length<=sizeLine/\∃c,atI z.cps.toList i=some c/\Q (.str ⟨#[c]⟩)
 | _,_,_=>False
def cutD{a:Type}(xs:List a)(lo hi:Option Int):List a:=(xs.drop (HT.sIx xs.length 0 lo)).take (HT.sIx xs.length xs.length hi - HT.sIx xs.length 0 lo)
def slD:D->Option Int->Option Int->Z1->DK->Prop
 | .str z,b,c,M,Q=>z.length<=sizeLine/\Q (.str (Txt.slice z b c)) M
 | .ref n,b,c,M,Q=>∃a,readL M n=some a/\Q (.ref M.length) (M++[.lst (cutD a b c)])
 | .tup a,b,c,M,Q=>¬(HT.sIx a.length 0 b=0/\HT.sIx a.length a.length c=a.length)/\Q (.tup (cutD a b c)) M
 | _,_,_,_,_=>False
def tyD(M:Z1):D->Option String
 | .non=>some "NoneType"
 | .bl _=>some "bool"
 | .int _=>some "int"
 | .str _=>some "str"
 | .tup _=>some "tuple"
 | .ref n=>match M[n]? with
  | some (.lst _)=>some "list"
  | some (.frz _)=>none
  | some (.dct _)=>some "dict"
  | some (.fdc _)=>none
  | none=>none
 | _=>none
def isD(K:Ac)(M:Z1):D->D->(Bool->Prop)->Prop
 | .exn _ C _ _,.cls c,Q=>∃b,ExcIs K C/\Df K (.ref C) (.ref c)=some b/\Q b
 | .exn _ C _ _,.ty c,Q=>∃b,ExcIs K C/\Df K (.ref C) (.type c)=some b/\Q b
 | .exn _ C _ _,.tup e,Q=>∃(a:List Uh) (b:Bool),e=a.map D.cls/\ExcIs K C/\PySem.W.kitAny K (.ref C) (a.map Value.ref)=some b/\Q b
 | d,.ty c,Q=>∃t b,tyD M d=some t/\Df K (.type t) (.type c)=some b/\Q b
 | _,_,_=>False
def lenD(x:D)(M:Z1)(Q:DK):Prop:=match x with
 | .ref n=>(∃a,readL M n=some a/\Q (.int a.length) M)\/(∃a,Zx M n=some a/\Q (.int a.length) M)
 | .tup a=>Q (.int a.length) M
 | .str x=>x.length<=sizeLine/\Q (.int x.length) M
 | _=>False
def bfD(K:Ac)(b:Bf)(l:LD)(M:Z1)(Q:DK):Prop:=match b with
 | .len=>at1 l fun x=>lenD x M Q
 | .isinst=>at2 l fun d c=>isD K M d c fun b=>Q (.bl b) M
 | .list1=>at1 l fun d=>∃a,B0 M d=some a/\Q (.ref M.length) (M++[.lst a])
 | .tuple1=>at1 l fun x=>match x with
  | .tup a=>Q (.tup a) M
  | x=>Qy x fun n=>∃a,readL M n=some a/\Q (.tup a) M
 | .dict1=>at1 l fun x=>Qy x fun n=>(∃a,Zx M n=some a/\Q (.ref M.length) (M++[.dct a]))\/(∃e:KQ9,readL M n=some (Yk e)/\e.length<sizeLine/\Q (.ref M.length) (M++[.dct (S5 e)]))
 | .sortedL=>at1 l fun x=>Qy x fun n=>∃f:List Int,readL M n=some (f.map .int)/\f.length<64/\∀g:List Int,g.Perm f->g.Pairwise (·<=·)->Q (.ref M.length) (M++[.lst (g.map .int)])
def mtS(m:Mt)(x:Str)(l:LD)(M:Z1)(Q:DK):Prop:=match m with
 | _=>False
def mtD(m:Mt)(o:D)(l:LD)(M:Z1)(Q:DK):Prop:=onSR o (fun x=>mtS m x l M Q) fun n=>match m with
 | .append=>at1 l fun d=>∃a,Zw M n=some a/\a.length<sizeLine/\Q .non (M.set n (.lst (a++[d])))
 | .upd=>at1 l fun x=>Qy x fun m=>∃b c,Zx M n=some b/\Zx M m=some c/\n≠m/\b.length+c.length<=sizeLine/\Q .non (M.set n (.dct (c.foldl (fun m p=>putD m p.1 p.2) b)))
 | .get2=>at2 l fun k z=>∃b y,Zx M n=some b/\keyD k=some y/\Q ((valD b y).getD z) M
 | .pop0=>at0 l (∃a d,Zw M n=some a/\a[a.length - 1]?=some d/\Q d (M.set n (.lst a.dropLast)))
 | .reverse=>at0 l (∃a,Zw M n=some a/\Q .non (M.set n (.lst a.reverse)))
 | .index1=>at1 l fun d=>∃a k z,readL M n=some a/\Y2 d=true/\a.all Y2=true/\a[k]?=some z/\eqF z d=true/\(∀(j:Nat) u,j<k->a[j]?=some u->eqF u d=false)/\Q (.int k) M
 | .extend=>at1 l fun t=>Qy t fun m=>∃a e,Zw M n=some a/\Zw M m=some e/\a.length+e.length<=sizeLine/\Q .non (M.set n (.lst (a++e)))
def isTx(m:Mt):Bool:=match m with
 | _=>false
def mtK(m:Mt)(o:D)(M:Z1):Prop:=onSR o (fun _=>isTx m=true) fun n=>match m with
 | .upd=>(Zx M n).isSome=true
 | .get2=>(Zx M n).isSome=true
 | _=>(readL M n).isSome=true
def fldD(K:Ac):D->Str->(D->Prop)->Prop
 | .exn _ C _ a,f,Q=>f="row"/\ExcGet K C f/\Q a
 | _,_,_=>False
def tgD:LQ->D->DEnv->(DEnv->Prop)->Prop
 | [i],d,a,Q=>Q (a.set i (some d))
 | b,.tup c,a,Q=>c.length=b.length/\Q ((b.zip c).foldl (fun a p=>a.set p.1 (some p.2)) a)
 | _,_,_,_=>False
inductive Own where
 | no | lst (n:Nat) | enm (n:Nat) | dct (n:Nat) | two (n m:Nat)
def Xz(kvs:KQ9):LD:=kvs.map fun p=>kD p.1
def Zm9(n:Nat)(M:Z1)(Q:Z1->Prop):Prop:=∃a,M[n]?=some (.fdc a)/\Q (M.set n (.dct a))
def Yi6(n:Nat)(R:DEnds):DEnds:={nx:=fun a M=>Zm9 n M (R.nx a),rt:=fun d M=>Zm9 n M (R.rt d),bk:=fun _ _=>False,ct:=fun _ _=>False}
def F5(xs:LD):LD:=xs.mapIdx fun i d=> .tup [.int i,d]
def zipT(ys a:LD):LD:=(ys.zip a).map fun p=>D.tup [p.1,p.2]
def itD(M:Z1):D->(Own->LD->Prop)->Prop
 | .ref n,R=>∃a,readL M n=some a/\R (.lst n) a
 | .tup a,R=>R .no a
 | .gtup a,R=>R .no a
 | .str x,R=>R .no (Zh3 x)
 | _,_=>False
def Su(lo:Int)(n:Nat):LD:=(Ao n).map fun(k:Nat)=>D.int (lo+(k:Int))
def Ou(own:Own)(xs:LD)(M:Z1):Prop:=match own with
 | .lst n=>readL M n=some xs
 | .enm n=>∃a,readL M n=some a/\xs=F5 a
 | .dct n=>∃b,M[n]?=some (.fdc b)/\xs=Xz b
 | .two n m=>∃a c,readL M n=some a/\readL M m=some c/\xs=zipT a c
 | .no=>True
def forD(own:Own)(xs:LD)(e:LQ)(body:DS):LD->DEnds->DEnv->Z1->Prop
 | [],R,c,M=>Ou own xs M/\R.nx c M
 | d::r,R,c,M=>Ou own xs M/\tgD e d c fun b=>body {nx:=fun a f=>forD own xs e body r R a f,rt:=R.rt,bk:=R.nx,ct:=fun a f=>forD own xs e body r R a f} b M
def Ri(own:Own)(xs:LD)(e:LQ)(cd:DT)(f:DE)(z:Nat):LD->DEnv->Z1->(Z1->Prop)->Prop
 | [],_,M,Q=>Ou own xs M/\Q M
 | d::r,i,M,Q=>Ou own xs M/\tgD e d i fun a=>cd a M fun b h=>if b=true then
   f a h fun y g=>∃c,Zw g z=some c/\c.length<sizeLine/\Ri own xs e cd f z r a (g.set z (.lst (c++[y]))) Q
   else Ri own xs e cd f z r a h Q
def capD(js:List (Option Nat))(a:DEnv):DEnv:=js.map fun o=>o.bind fun j=>(a[j]?).join
abbrev noX:DX:=fun _ _ _=>False
structure Cfg where
 K:Ac
 Γ:List DSp
 G:LD
mutual
def te(c:Cfg)(X:DX):E->DE
 | .var i,g,M,Q=>match g[i]? with
  | some (some d)=>Q d M
  | _=>False
 | .int i,_,M,Q=>Q (.int i) M
 | .bl b,_,M,Q=>Q (.bl b) M
 | .non,_,M,Q=>Q .non M
 | .str x,_,M,Q=>Q (.str x) M
 | .ty n,_,M,Q=>Q (.ty (Yj n)) M
 | .glb k,_,M,Q=>match c.G[k]? with
  | some d=>Q d M
  | none=>False
 | .bin B a b,g,M,Q=>te c X a g M fun x p=>te c X b g p fun y q=>opD B x y q Q
 | .neg a,g,M,Q=>te c X a g M fun x p=>match x with
  | .int i=>Q (.int (-i)) p
  | _=>False
 | .not a,g,M,Q=>te c X a g M fun x p=>truD p x fun b=>Q (.bl (!b)) p
 | .cmp B a b,g,M,Q=>te c X a g M fun x p=>te c X b g p fun y q=>cmD q B x y fun r=>Q (.bl r) q
 | .cmp2 B H a b d,g,M,Q=>te c X a g M fun x p=>te c X b g p fun y q=>cmD q B x y fun r=>if r=true then te c X d g q fun z w=>cmD w H y z fun r=>Q (.bl r) w else Q (.bl false) q
 | .bop k u,g,M,Q=>tbop c X k u g M Q
 | .ife t a b,g,M,Q=>te c X t g M fun x p=>truD p x fun r=>if r=true then te c X a g p Q else te c X b g p Q
 | .lst u,g,M,Q=>tes c X u g M fun v p=>v.length<=sizeLine/\Q (.ref p.length) (p++[.lst v])
 | .tup u,g,M,Q=>tes c X u g M fun v p=>v.length<=sizeLine/\Q (.tup v) p
 | .dict0,_,M,Q=>Q (.ref M.length) (M++[.dct []])
 | .lkeys a,g,M,Q=>te c X a g M fun x p=>Qy x fun n=>∃s,Zx p n=some s/\Q (.ref p.length) (p++[.lst (Xz s)])
 | .lrng a,g,M,Q=>te c X a g M fun x p=>N6 x fun j=>0<=j/\j<=1000000/\Q (.ref p.length) (p++[.lst (Su 0 j.toNat)])
 | .dct a b,g,M,Q=>te c X a g (M++[.dct []]) fun x p=>te c X b g p fun y q=>∃k,keyD x=some k/\Zx q M.length=some []/\Q (.ref M.length) (q.set M.length (.dct [(k,y)]))
 | .ix a b,g,M,Q=>te c X a g M fun x p=>te c X b g p fun y q=>ixD q x y fun d=>Q d q
 | .sl a J N,g,M,Q=>te c X a g M fun x p=>teo c X J g p fun l q=>teo c X N g q fun h w=>slD x l h w Q
 | .callH f u,g,M,Q=>tes c X u g M fun v p=>match c.Γ[f]? with
  | some D=>D v p Q noX
  | none=>False
 | .call f u,g,M,Q=>tes c X u g M fun v p=>match c.Γ[f]? with
  | some D=>D v p Q X
  | none=>False
 | .bf b u,g,M,Q=>tes c X u g M fun v p=>bfD c.K b v p Q
 | .fstr u,g,M,Q=>tfs c X u Str.empty g M fun x p=>Q (.str x) p
 | .rev a,g,M,Q=>te c X a g M fun x p=>match x with
  | .ref n=>∃A,readL p n=some A/\Q (.ref p.length) (p++[.lst A.reverse])
  | _=>False
 | .mt m o u,g,M,Q=>te c X o g M fun x p=>mtK m x p/\tes c X u g p fun v q=>mtD m x v q Q
 | .fld o f,g,M,Q=>te c X o g M fun x p=>fldD c.K x f fun d=>Q d p
 | .compK _ I C d e,g,M,Q=>te c X d g M fun x p=>Qy x fun n=>∃s,Zx p n=some s/\Ri (.dct n) (Xz s) C (fun _ M P=>P true M) (te c noX e) p.length (Xz s) (capD I g) (p.set n (.fdc s)++[.lst []]) fun q=>Zm9 n q fun w=>Q (.ref p.length) w
 | .comp _ I C L O e,g,M,Q=>tit c X L g M fun F A p=>Ri F A C (tcd c noX O) (te c noX e) p.length A (capD I g) (p++[.lst []]) fun q=>Q (.ref p.length) q
def tbop(c:Cfg)(X:DX)(k:Bool):Es->DE
 | .nil,_,_,_=>False
 | .cons e .nil,a,M,Q=>te c X e a M Q
 | .cons e (.cons f r),a,M,Q=>te c X e a M fun x d=>truD d x fun b=>if b=k then tbop c X k (.cons f r) a d Q else Q x d
def tfs(c:Cfg)(X:DX):Es->Str->DEnv->Z1->(Str->Z1->Prop)->Prop
 | .nil,o,_,M,Q=>o.length<=sizeLine/\Q o M
 | .cons e r,o,σ,M,Q=>te c X e σ M fun d M1=>onIS d (fun i=>i.natAbs.log2<1920/\(o++(toString i:String):Str).length<=sizeLine/\tfs c X r (o++(toString i:String)) σ M1 Q) fun y=>y.length<=sizeLine/\(o++y).length<=sizeLine/\tfs c X r (o++y) σ M1 Q
def tes(c:Cfg)(X:DX):Es->DA
 | .nil,_,M,Q=>Q [] M
 | .cons e r,a,M,Q=>te c X e a M fun d g=>tes c X r a g fun b f=>Q (d::b) f
def teo(c:Cfg)(X:DX):Eo->DEnv->Z1->(Option Int->Z1->Prop)->Prop
 | .no,_,M,Q=>Q none M
 | .yes e,a,M,Q=>te c X e a M fun d b=>match d with
  | .int i=>Q (some i) b
  | _=>False
def tcd(c:Cfg)(X:DX):Eo->DT
 | .no,_,M,Q=>Q true M
 | .yes e,d,M,Q=>te c X e d M fun x a=>truD a x fun b=>Q b a
def tit(c:Cfg)(X:DX):It->DEnv->Z1->(Own->LD->Z1->Prop)->Prop
 | .seq e,f,M,Q=>te c X e f M fun d b=>itD b d fun h g=>Q h g b
 | .rng1 a,f,M,Q=>te c X a f M fun d b=>match d with
  | .int j=> -(2 ^ 62)<=j/\j<2 ^ 62/\Q .no (Su 0 j.toNat) b
  | _=>False
 | .enm e,f,M,Q=>te c X e f M fun d b=>match d with
  | .ref n=>∃g,readL b n=some g/\Q (.enm n) (F5 g) b
  | _=>False
end
theorem iseq09{c X e f M Q}:tit c X (.seq e) f M Q=(te c X e f M fun d b=>itD b d fun h g=>Q h g b):=rfl
def irng119{c X a f M Q}:tit c X (.rng1 a) f M Q=(te c X a f M fun d b=>match d with|.int j=> -(2 ^ 62)<=j/\j<2 ^ 62/\Q .no (Su 0 j.toNat) b|_=>False):=rfl
def ienm29{c X e f M Q}:tit c X (.enm e) f M Q=(te c X e f M fun d b=>match d with|.ref n=>∃g,readL b n=some g/\Q (.enm n) (F5 g) b|_=>False):=rfl
def dno09{c X u1 M Q}:tcd c X .no u1 M Q=(Q true M):=rfl
def dyes19{c X e d M Q}:tcd c X (.yes e) d M Q=(te c X e d M fun x a=>truD a x fun b=>Q b a):=rfl
def ono09{c X u1 M Q}:teo c X .no u1 M Q=(Q none M):=rfl
def oyes19{c X e a M Q}:teo c X (.yes e) a M Q=(te c X e a M fun d b=>match d with|.int i=>Q (some i) b|_=>False):=rfl
def lnil09{c X u1 M Q}:tes c X .nil u1 M Q=(Q [] M):=rfl
def lcons19{c X e r a M Q}:tes c X (.cons e r) a M Q=(te c X e a M fun d g=>tes c X r a g fun b f=>Q (d::b) f):=rfl
def bnil09{c X k u1 u2 u3}:tbop c X k .nil u1 u2 u3=(False):=rfl
def bcons19{c X k e a M Q}:tbop c X k (.cons e .nil) a M Q=(te c X e a M Q):=rfl
def bcons29{c X k e f r a M Q}:tbop c X k (.cons e (.cons f r)) a M Q=(te c X e a M fun x d=>truD d x fun b=>if b=k then tbop c X k (.cons f r) a d Q else Q x d):=rfl
def evar9{c X i g M Q}:te c X (.var i) g M Q=(match g[i]? with|some (some d)=>Q d M|_=>False):=rfl
def eint9{c X i u1 M Q}:te c X (.int i) u1 M Q=(Q (.int i) M):=rfl
def ebl9{c X b u1 M Q}:te c X (.bl b) u1 M Q=(Q (.bl b) M):=rfl
def enon9{c X u1 M Q}:te c X .non u1 M Q=(Q .non M):=rfl
def estr9{c X x u1 M Q}:te c X (.str x) u1 M Q=(Q (.str x) M):=rfl
def ety9{c X n u1 M Q}:te c X (.ty n) u1 M Q=(Q (.ty (Yj n)) M):=rfl
def eglb9{c X k u1 M Q}:te c X (.glb k) u1 M Q=(match c.G[k]? with|some d=>Q d M|none=>False):=rfl
def ebin9{c X B a b g M Q}:te c X (.bin B a b) g M Q=(te c X a g M fun x p=>te c X b g p fun y q=>opD B x y q Q):=rfl
def eneg9{c X a g M Q}:te c X (.neg a) g M Q=(te c X a g M fun x p=>match x with|.int i=>Q (.int (-i)) p|_=>False):=rfl
def enot9{c X a g M Q}:te c X (.not a) g M Q=(te c X a g M fun x p=>truD p x fun b=>Q (.bl (!b)) p):=rfl
def ecmp9{c X B a b g M Q}:te c X (.cmp B a b) g M Q=(te c X a g M fun x p=>te c X b g p fun y q=>cmD q B x y fun r=>Q (.bl r) q):=rfl
def ecmp29{c X B H a b d g M Q}:te c X (.cmp2 B H a b d) g M Q=(te c X a g M fun x p=>te c X b g p fun y q=>cmD q B x y fun r=>if r=true then te c X d g q fun z w=>cmD w H y z fun r=>Q (.bl r) w else Q (.bl false) q):=rfl
def ebop9{c X k u g M Q}:te c X (.bop k u) g M Q=(tbop c X k u g M Q):=rfl
def eife9{c X t a b g M Q}:te c X (.ife t a b) g M Q=(te c X t g M fun x p=>truD p x fun r=>if r=true then te c X a g p Q else te c X b g p Q):=rfl
def elst9{c X u g M Q}:te c X (.lst u) g M Q=(tes c X u g M fun v p=>v.length<=sizeLine/\Q (.ref p.length) (p++[.lst v])):=rfl
def etup9{c X u g M Q}:te c X (.tup u) g M Q=(tes c X u g M fun v p=>v.length<=sizeLine/\Q (.tup v) p):=rfl
def edict09{c X u1 M Q}:te c X .dict0 u1 M Q=(Q (.ref M.length) (M++[.dct []])):=rfl
def elkeys9{c X a g M Q}:te c X (.lkeys a) g M Q=(te c X a g M fun x p=>Qy x fun n=>∃s,Zx p n=some s/\Q (.ref p.length) (p++[.lst (Xz s)])):=rfl
def elrng9{c X a g M Q}:te c X (.lrng a) g M Q=(te c X a g M fun x p=>N6 x fun j=>0<=j/\j<=1000000/\Q (.ref p.length) (p++[.lst (Su 0 j.toNat)])):=rfl
def edct9{c X a b g M Q}:te c X (.dct a b) g M Q=(te c X a g (M++[.dct []]) fun x p=>te c X b g p fun y q=>∃k,keyD x=some k/\Zx q M.length=some []/\Q (.ref M.length) (q.set M.length (.dct [(k,y)]))):=rfl
def eix9{c X a b g M Q}:te c X (.ix a b) g M Q=(te c X a g M fun x p=>te c X b g p fun y q=>ixD q x y fun d=>Q d q):=rfl
def esl9{c X a J N g M Q}:te c X (.sl a J N) g M Q=(te c X a g M fun x p=>teo c X J g p fun l q=>teo c X N g q fun h w=>slD x l h w Q):=rfl
def ecallH9{c X f u g M Q}:te c X (.callH f u) g M Q=(tes c X u g M fun v p=>match c.Γ[f]? with|some D=>D v p Q noX|none=>False):=rfl
def ecall9{c X f u g M Q}:te c X (.call f u) g M Q=(tes c X u g M fun v p=>match c.Γ[f]? with|some D=>D v p Q X|none=>False):=rfl
def ebf9{c X b u g M Q}:te c X (.bf b u) g M Q=(tes c X u g M fun v p=>bfD c.K b v p Q):=rfl
def efstr9{c X u g M Q}:te c X (.fstr u) g M Q=(tfs c X u Str.empty g M fun x p=>Q (.str x) p):=rfl
def erev9{c X a g M Q}:te c X (.rev a) g M Q=(te c X a g M fun x p=>match x with|.ref n=>∃A,readL p n=some A/\Q (.ref p.length) (p++[.lst A.reverse])|_=>False):=rfl
def emt9{c X m o u g M Q}:te c X (.mt m o u) g M Q=(te c X o g M fun x p=>mtK m x p/\tes c X u g p fun v q=>mtD m x v q Q):=rfl
def efld9{c X o f g M Q}:te c X (.fld o f) g M Q=(te c X o g M fun x p=>fldD c.K x f fun d=>Q d p):=rfl
def ecompK9{c X u1 I C d e g M Q}:te c X (.compK u1 I C d e) g M Q=(te c X d g M fun x p=>Qy x fun n=>∃s,Zx p n=some s/\Ri (.dct n) (Xz s) C (fun _ M P=>P true M) (te c noX e) p.length (Xz s) (capD I g) (p.set n (.fdc s)++[.lst []]) fun q=>Zm9 n q fun w=>Q (.ref p.length) w):=rfl
def ecomp9{c X u1 I C L O e g M Q}:te c X (.comp u1 I C L O e) g M Q=(tit c X L g M fun F A p=>Ri F A C (tcd c noX O) (te c noX e) p.length A (capD I g) (p++[.lst []]) fun q=>Q (.ref p.length) q):=rfl
def augD:Op->D->D->(D->Prop)->Prop
 | .add,.int i,.int j,Q=>Q (.int (i+j))
 | .sub,.int i,.int j,Q=>Q (.int (i - j))
 | _,_,_,_=>False
def tt(c:Cfg)(X:DX)(e:E):DT:=fun d M Q=>te c X e d M fun x a=>truD a x fun b=>Q b a
def excD:LD->Option D
 | []=>some .non
 | [d]=>some d
 | _=>none
mutual
def ts(c:Cfg)(X:DX):S->DS
 | .ret e,R,h,M=>te c X e h M R.rt
 | .expr e,R,h,M=>te c X e h M fun _ l=>R.nx h l
 | .set B e,R,h,M=>te c X e h M fun d l=>tgD B d h fun q=>R.nx q l
 | .aug Q j e,R,h,M=>match h[j]? with
  | some (some x)=>te c X e h M fun y l=>augD Q x y fun z=>R.nx (h.set j (some z)) l
  | _=>False
 | .put o i v,R,h,M=>te c X v h M fun d l=>te c X o h l fun x u=>te c X i h u fun y H=>match x with
  | .ref n=>(∃A k j,y= .int k/\Zw H n=some A/\ixN A.length k=some j/\R.nx h (H.set n (.lst (A.set j d))))\/
    (∃p k,Zx H n=some p/\keyD y=some k/\p.length<sizeLine/\R.nx h (H.set n (.dct (putD p k d))))
  | _=>False
 | .ite t a b,R,h,M=>tt c X t h M fun r l=>if r=true then tss c X a R h l else tss c X b R h l
 | .for_ B T b,R,h,M=>tit c X T h M fun J A l=>forD J A B (tss c X b) A R h l
 | .forK B e b,R,h,M=>te c X e h M fun d l=>match d with
  | .ref n=>∃p,Zx l n=some p/\forD (.dct n) (Xz p) B (tss c X b) (Xz p) (Yi6 n R) h (l.set n (.fdc p))
  | _=>False
 | .while_ t b,R,h,M=>∃W:Nat->DEnv->Z1->Prop,(∃m,W m h M)/\∀m h M,W m h M->tt c X t h M fun r l=>if r=true then
   tss c X b {nx:=fun w u=>∃E,E<m/\W E w u,rt:=R.rt,bk:=R.nx,ct:=fun w u=>∃E,E<m/\W E w u} h l else R.nx h l
 | .raise k N,_,h,M=>match c.G[k]? with
  | some (.cls C)=>tes c X N h M fun O l=>match excD O with
   | some r=>X C r l
   | none=>False
  | _=>False
 | .tryI t f N U L g i s,R,h,M=>match c.G[g]? with
  | some (.cls D)=>tt c noX t h M fun r Y=>tes c noX (if r=true then N else L) h Y fun O l=>match c.Γ[if r=true then f else U]? with
   | some P=>P O l (fun _ u=>R.nx h u) fun C I u=>Catch c.K C D true/\∀e V,
     tss c noX s {nx:=fun q F=>R.nx (q.set i none) F,rt:=R.rt,bk:=fun q F=>R.bk (q.set i none) F,ct:=fun q F=>R.ct (q.set i none) F} (h.set i (some (.exn e C V I))) u
   | none=>False
  | _=>False
def tss(c:Cfg)(X:DX):Ss->DS
 | .nil,R,b,M=>R.nx b M
 | .cons s r,R,b,M=>ts c X s {R with nx:=fun a d=>tss c X r R a d} b M
end
theorem sret9{c X e R h M}:ts c X (.ret e) R h M=(te c X e h M R.rt):=rfl
def sexpr9{c X e R h M}:ts c X (.expr e) R h M=(te c X e h M fun _ l=>R.nx h l):=rfl
def sset9{c X B e R h M}:ts c X (.set B e) R h M=(te c X e h M fun d l=>tgD B d h fun q=>R.nx q l):=rfl
def saug9{c X Q j e R h M}:ts c X (.aug Q j e) R h M=(match h[j]? with
  | some (some x)=>te c X e h M fun y l=>augD Q x y fun z=>R.nx (h.set j (some z)) l
  | _=>False):=rfl
def sput9{c X o i v R h M}:ts c X (.put o i v) R h M=(te c X v h M fun d l=>te c X o h l fun x u=>te c X i h u fun y H=>match x with
  | .ref n=>(∃A k j,y= .int k/\Zw H n=some A/\ixN A.length k=some j/\R.nx h (H.set n (.lst (A.set j d))))\/
    (∃p k,Zx H n=some p/\keyD y=some k/\p.length<sizeLine/\R.nx h (H.set n (.dct (putD p k d))))
  | _=>False):=rfl
def site9{c X t a b R h M}:ts c X (.ite t a b) R h M=(tt c X t h M fun r l=>if r=true then tss c X a R h l else tss c X b R h l):=rfl
def sfor_9{c X B T b R h M}:ts c X (.for_ B T b) R h M=(tit c X T h M fun J A l=>forD J A B (tss c X b) A R h l):=rfl
def sforK9{c X B e b R h M}:ts c X (.forK B e b) R h M=(te c X e h M fun d l=>match d with
  | .ref n=>∃p,Zx l n=some p/\forD (.dct n) (Xz p) B (tss c X b) (Xz p) (Yi6 n R) h (l.set n (.fdc p))
  | _=>False):=rfl
def swhile_9{c X t b R h M}:ts c X (.while_ t b) R h M=(∃W:Nat->DEnv->Z1->Prop,(∃m,W m h M)/\∀m h M,W m h M->tt c X t h M fun r l=>if r=true then
   tss c X b {nx:=fun w u=>∃E,E<m/\W E w u,rt:=R.rt,bk:=R.nx,ct:=fun w u=>∃E,E<m/\W E w u} h l else R.nx h l):=rfl
def sraise9{c X k N u1 h M}:ts c X (.raise k N) u1 h M=(match c.G[k]? with
  | some (.cls C)=>tes c X N h M fun O l=>match excD O with
   | some r=>X C r l
   | none=>False
  | _=>False):=rfl
def stryI9{c X t f N U L g i s R h M}:ts c X (.tryI t f N U L g i s) R h M=(match c.G[g]? with
  | some (.cls D)=>tt c noX t h M fun r Y=>tes c noX (if r=true then N else L) h Y fun O l=>match c.Γ[if r=true then f else U]? with
   | some P=>P O l (fun _ u=>R.nx h u) fun C I u=>Catch c.K C D true/\∀e V,
     tss c noX s {nx:=fun q F=>R.nx (q.set i none) F,rt:=R.rt,bk:=fun q F=>R.bk (q.set i none) F,ct:=fun q F=>R.ct (q.set i none) F} (h.set i (some (.exn e C V I))) u
   | none=>False
  | _=>False):=rfl
def REnv(w:Vw)(a:DEnv)(b:L2.St):Prop:=a.length=b.length/\∀(i:Nat) d,a[i]?=some (some d)->∃v,b[i]?=some (some v)/\RD w d v
def REnv.ext{w c:Vw}{a:DEnv}{b:L2.St}(h:REnv w a b)(x:Ext w c):REnv c a b:=
 ⟨h.1,fun i d e=>by let⟨v,q,r⟩:=h.2 i d e;show⟨v,q,r.ext x⟩⟩
def REnv.set{w:Vw}{a:DEnv}{c:L2.St}{d:D}{v:V}(h:REnv w a c)(i:Nat)(r:RD w d v):REnv w (a.set i (some d)) (c.set i (some v)):=by
 refine⟨by simp[h.1],fun j g e=>?_⟩
 by_cases b:i=j
 .subst b
  by_cases f:i<a.length
  .rw[Dm f] at e
   cases e
   show⟨v,by rw[Dm (by rw[<-h.1];show f)],r⟩
  .rw[Iq (by simp;lia)] at e
   cases e
 .rw[Dh b] at e
  rw[Dh b]
  show h.2 j g e
def REnv.drop{w:Vw}{a:DEnv}{c:L2.St}(h:REnv w a c)(i:Nat):REnv w (a.set i none) (c.set i none):=by
 refine⟨by simp[h.1],fun j f e=>?_⟩
 by_cases b:i=j
 .subst b
  by_cases d:i<a.length
  .rw[Dm d] at e
   cases e
  .rw[Iq (by simp;lia)] at e
   cases e
 .rw[Dh b] at e
  rw[Dh b]
  show h.2 j f e
structure StOk(w0 w:Vw)(σD:DEnv)(M:Z1)(σ:L2.St)(H:Hp):Prop where
 heap:w.H=H
 ext:Ext w0 w
 rs:RS w M
 env:REnv w σD σ
def StOk.next{w0 w b:Vw}{a:DEnv}{M d:Z1}{c:L2.St}{H:Hp}(s:StOk w0 w a M c H)(x:Ext w b)(r:RS b d):StOk w0 b a d c b.H:=
 ⟨rfl,s.ext.trans x,r,s.env.ext x⟩
def Aft(w:Vw)(QD:DK)(Q:VK):Prop:=∀v a d b,Ext w a->RS a b->RD a d v->QD d b->Q v a.H
def tF(w0:Vw)(f:DE):TE:=fun c H Q=>∃w a M b,StOk w0 w a M c H/\f a M b/\Aft w b Q
def tFA(w0:Vw)(f:DA):TA:=fun h H Q=>∃w a M e,StOk w0 w a M h H/\f a M e/\∀c b d g,Ext w b->RS b g->RDs b d c->e d g->Q c b.H
def tFT(w0:Vw)(f:DT):TT:=fun g H Q=>∃w a M d,StOk w0 w a M g H/\f a M d/\∀b c e,Ext w c->RS c e->d b e->Q b c.H
def tFO(w0:Vw)(f:DEnv->Z1->(Option Int->Z1->Prop)->Prop):TO:=fun g H Q=>∃w a M d,StOk w0 w a M g H/\f a M d/\∀b c e,Ext w c->RS c e->d b e->Q b c.H
def tFS(w0:Vw)(f:DS):TS:=fun R h H=>∃w g M d,StOk w0 w g M h H/\f d g M/\
 (∀b c a e,Ext w c->RS c e->REnv c a b->d.nx a e->R.nx b c.H)/\Aft w d.rt R.rt/\
 (∀b c a e,Ext w c->RS c e->REnv c a b->d.bk a e->R.bk b c.H)/\
 (∀b c a e,Ext w c->RS c e->REnv c a b->d.ct a e->R.ct b c.H)
def xkOf(w:Vw)(Z:DX):XK:=fun c g f=>∃C d r b a e,c= .ref C/\g=some d/\b.H=f/\Ext w b/\RS b e/\f d=some (.xd [("row",r)])/\RD b a r/\Z C a e
def spF(K:Ac)(sp:DSp):Sp:=fun f H Q E=>∃w b M d Z,w.K=K/\w.H=H/\RS w M/\RDs w b f/\sp b M d Z/\Aft w d Q/\∀a c e,xkOf w Z a c e->E a c e
def Aft.ext{w a:Vw}(h:Aft w QD Q)(x:Ext w a):Aft a QD Q:=fun v b d M y r q p=>h v b d M (x.trans y) r q p
section
variable{X:Cx}{e:Expr}{w0:Vw}
def PE.imp{t t':TE}(h:PE X e t)(k:∀a H Q,t' a H Q->t a H Q):PE X e t':=fun b s a H Q I q=>h b s a H Q I (k a H Q q)
def PT.imp{t t':TT}(h:PT X e t)(k:∀a H Q,t' a H Q->t a H Q):PT X e t':=fun b s a H Q I q=>h b s a H Q I (k a H Q q)
def PA.imp{t t':TA}(h:PA X es t)(k:∀a H Q,t' a H Q->t a H Q):PA X es t':=fun c b s a H Q I q=>h c b s a H Q I (k a H Q q)
def PS.imp{st:Stmt}{t t':TS}(h:PS X st t)(k:∀R a H,t' R a H->t R a H):PS X st t':=fun b s a H R I q=>h b s a H R I (k R a H q)
def PSs.imp{st:List Stmt}{t t':TS}(h:PSs X st t)(k:∀R a H,t' R a H->t R a H):PSs X st t':=fun b s a H R I q=>h b s a H R I (k R a H q)
end
def rF(w0:Vw)(g:D->D->Z1->DK->Prop):R2:=fun x y H Q=>∃w M b a c,w.H=H/\Ext w0 w/\RS w M/\RD w b x/\RD w a y/\g b a M c/\Aft w c Q
def Za{w:Vw}{i:Int}{v:V}:RD w (.int i) v↔v= .int i:=Ud
def Zk{w:Vw}{i:Str}{v:V}:RD w (.str i) v↔v= .str i:=Ud
def X4{w:Vw}{i:Bool}{v:V}:RD w (.bl i) v↔v= .bl i:=Ud
def Zg{w:Vw}{v:V}:RD w .non v↔v= .non:=Ud
def Y42{w:Vw}{n:String}{v:V}:RD w (.ty n) v↔v= .ty n:=Ud
def Xf{w:Vw}{n:Uh}{v:V}:RD w (.cls n) v↔v= .ref n:=Ud
def Ze{w:Vw}{i:Nat}{v:V}:RD w (.ref i) v↔i<w.n/\v= .ref (w.μ i):=Ud
def Yb{w:Vw}{b:LD}{v:V}:RD w (.tup b) v↔∃a vs,v= .ref a/\w.H a=some (.tup vs)/\RDs w b vs:=Ud
def Rx{w:Vw}{b:LD}{v:V}:RD w (.gtup b) v↔∃a vs,v= .ref a/\SqT w.K w.H a vs/\RDs w b vs:=Ud
def Q5{w:Vw}{e C b:Uh}{a:D}{v:V}:RD w (.exn e C b a) v↔v= .ref e/\w.H e=some (XO e (.ref C) (some b))/\∃r,w.H b=some (.xd [("row",r)])/\RD w a r:=Iff.of_eq (by rw[RD])
def RDs.empty{w:Vw}{a:LD}(h:RDs w a []):a=[]:=by
 have:=h.length
 show Hz.mp this.symm
def Zz8{n:Nat}{xs:LD}(h:Zw M n=some xs):readL M n=some xs:=by
 unfold Zw at h
 unfold readL
 split at h
 .rename_i e;rw[e];show h
 .cases h
def Np{n:Nat}{xs:LD}(h:Zw M n=some xs):M[n]?=some (.lst xs):=by
 unfold Zw at h
 split at h
 .rename_i e;rw[e];cases h;rfl
 .cases h
def N9{n:Nat}{xs:KQ9}(h:Zx M n=some xs):M[n]?=some (.dct xs):=by
 unfold Zx at h
 split at h
 .rename_i e;rw[e];cases h;rfl
 .cases h
def RS.list{w:Vw}{n:Nat}{xs:LD}(R:RS w M)(h:Zw M n=some xs):M[n]?=some (.lst xs)/\∃vs,w.H (w.μ n)=some (.lst vs)/\RDs w xs vs:=
 ⟨Np h,R.cell n _ (Np h)⟩
set_option tactic.hygienic true in
def RS.listL{w:Vw}{n:Nat}{xs:LD}(R:RS w M)(h:readL M n=some xs):n<w.n/\∃vs,SqL w.K w.H (w.μ n) vs/\RDs w xs vs/\True:=by
 unfold readL at h
 split at h
 .rename_i a e
  cases h
  let⟨vs,q,r⟩:=R.cell n _ e
  show⟨by rw[R.len];show(Ab.mp e).1,vs,.inl (.inl q),r,trivial⟩
 .rename_i a e
  cases h
  let⟨vs,q,r⟩:=R.cell n _ e
  show⟨by rw[R.len];show(Ab.mp e).1,vs,q.sq,r,trivial⟩
 .cases h
def Y16{n:Nat}{xs:KQ9}(h:Zx M n=some xs):Z25 M n=some xs:=by
 unfold Z25;rw[N9 h]
set_option tactic.hygienic true in
def RS.dictF{w:Vw}{n:Nat}{xs:KQ9}(R:RS w M)(h:Z25 M n=some xs):∃vs,Rd w.H (w.μ n) (.dK vs)/\RKV w xs vs:=by
 unfold Z25 at h
 split at h
 .rename_i c e
  cases h
  let⟨vs,b,a⟩:=R.cell n _ e
  show⟨vs,.inl b,a⟩
 .rename_i c e
  cases h
  let⟨o,vs,b,a⟩:=R.cell n _ e
  show⟨vs,.inr ⟨o,b⟩,a⟩
 .cases h
def RS.dict{w:Vw}{n:Nat}{xs:KQ9}(R:RS w M)(h:Zx M n=some xs):M[n]?=some (.dct xs)/\∃vs,w.H (w.μ n)=some (.dK vs)/\RKV w xs vs:=
 ⟨N9 h,R.cell n _ (N9 h)⟩
def Ym{w:Vw}{p:Uh}{xs:LD}(R:RS w M)(a:w.H p=none)(r:RDs w xs vs):Ext w (w.push p (.lst vs))/\RS (w.push p (.lst vs)) (M++[.lst xs])/\RD (w.push p (.lst vs)) (.ref M.length) (.ref p):=by
 refine⟨V8 a,R.push a ⟨vs,Zd,r.ext (V8 a)⟩,Ze.mpr ⟨?_,?_⟩⟩
 .change M.length<w.n+1
  rw[R.len];lia
 .change V.ref p=V.ref (if M.length=w.n then p else w.μ M.length)
  rw[ng R.len.symm]
def Sw{w:Vw}{p:Uh}{xs:KQ9}(R:RS w M)(a:w.H p=none)(r:RKV w xs vs):Ext w (w.push p (.dK vs))/\RS (w.push p (.dK vs)) (M++[.dct xs])/\RD (w.push p (.dK vs)) (.ref M.length) (.ref p):=by
 refine⟨V8 a,R.push a ⟨vs,Zd,r.ext (V8 a)⟩,Ze.mpr ⟨?_,?_⟩⟩
 .change M.length<w.n+1
  rw[R.len];lia
 .change V.ref p=V.ref (if M.length=w.n then p else w.μ M.length)
  rw[ng R.len.symm]
def Qj{w:Vw}{p:Uh}{xs:LD}(R:RS w M)(a:w.H p=none)(r:RDs w xs vs):Ext w (w.alloc p (.tup vs))/\RS (w.alloc p (.tup vs)) M/\RD (w.alloc p (.tup vs)) (.tup xs) (.ref p):=
 ⟨Xi a,R.alloc a,Yb.mpr ⟨p,vs,rfl,Zd,r.ext (Xi a)⟩⟩
def Yw{w:Vw}{n:Nat}{ys xs:LD}(R:RS w M)(a:M[n]?=some (.lst ys))(h:w.H (w.μ n)=some (.lst us))(r:RDs w xs vs):Ext w (w.alloc (w.μ n) (.lst vs))/\RS (w.alloc (w.μ n) (.lst vs)) (M.set n (.lst xs)):=
 ⟨Yy h rfl,R.write a rfl rfl h rfl ⟨vs,Zd,r.ext (Yy h rfl)⟩⟩
def Tl{w:Vw}{n:Nat}{ys xs:KQ9}(R:RS w M)(a:M[n]?=some (.dct ys))(h:w.H (w.μ n)=some (.dK us))(r:RKV w xs vs):Ext w (w.alloc (w.μ n) (.dK vs))/\RS (w.alloc (w.μ n) (.dK vs)) (M.set n (.dct xs)):=
 ⟨Yy h rfl,R.write a rfl rfl h rfl ⟨vs,Zd,r.ext (Yy h rfl)⟩⟩
section
variable{X:Cx}{w0:Vw}
def Th{o:D->D->Z1->DK->Prop}{k:Int->Int->D}(h:OpR X f (rI C g))(m:∀w i j,RD w (k i j) (g i j))
  {b:L2.St} {x y:V} {v u:Uf} {w:Vw} {i j:Int} (I:Inv X pins b w.H s) (d:RelV x v) (c:RelV y u) (R:RS w M) (l:RD w (.int i) x) (e:RD w (.int j) y)
  (n:C i j) (q:QD (k i j) M) (a:Aft w QD Q):⇑X (f v u) (EP X pins b Q) X.xe s:=by
 cases Za.mp l
 cases Za.mp e
 show h pins s b w.H _ _ v u Q I d c ⟨i,j,rfl,rfl,n,a _ w _ M (Ext.refl w) R (m w i j) q⟩
def opOf:Op->Operator
 | .add=> .Add | .sub=> .Sub | .mul=> .Mult | .fdiv=> .FloorDiv | .mod=> .Mod | .pow=> .Pow
def Yd4(h:OpR X f (rI0 g)):OpR X f (rI (fun _ _=>True) g):=fun a s b H x y v u Q I d c zz75=>by let⟨i,j,k,e,_,q⟩:=zz75;show h a s b H x y v u Q I d c ⟨i,j,k,e,q⟩
def RDs.rep{w:Vw}{xs:LD}(h:RDs w xs vs):∀n:Nat,RDs w (Hf n xs).flatten (Hf n vs).flatten
 | 0=>RDs.nil w
 | n+1=>by
  rw[Km,Km,Lp,Lp]
  show h.append (RDs.rep h n)
def Zo9(op:Op):OpR X (binaryOp (opOf op)) (rF w0 (opD op)):=by
 intro b s G H x y v u Q I f e h
 let⟨w,M,N,S,QD,rfl,e0,R,d,m,g,a⟩:=h
 have t:∀w (i:Int),RD w (.int i) (.int i):=fun w i=>Za.mpr rfl
 cases op with
 | add=>
  cases N with
  | int i=>
   let⟨j,rfl,g2⟩:=Xg g;clear g;have g:=g2
   show Th (o:=opD .add) (C:=fun _ _=>True) (k:=fun i j=> .int (i+j)) (Yd4 Yc7) (fun w i j=>t w _) I f e R d m trivial g a
  | str z=>
   cases S with
   | str V=>
    cases Zk.mp d;cases Zk.mp m
    show Z16 b s G w.H _ _ v u Q I f e ⟨_,_,rfl,rfl,g.1,a _ w _ M (Ext.refl w) R (Zk.mpr rfl) g.2⟩
   | _=>show Dk g
  | tup l=>
   let⟨Z,rfl,g2⟩:=Zc4 g;clear g;have g:=g2
   let⟨U,c,rfl,K,q⟩:=Yb.mp d
   let⟨T,r,rfl,L,A⟩:=Yb.mp m
   let⟨g1,g2,g3⟩:=g
   refine Zz9 b s G w.H _ _ v u Q I f e ⟨U,T,c,r,rfl,rfl,.of K,.of L,?_,by rw[q.length,A.length];show g2,fun z=>?_,fun _ p F=>?_⟩
   .intro z;subst z;have:=q.length;simp at this;show g1 (Hz.mp this.symm)
   .subst z
    cases A.empty
    rw[Hd] at g3
    show a _ w _ M (Ext.refl w) R d g3
   .let⟨E,D,B⟩:=Qj R F (q.append A)
    show a _ _ _ M E D B g3
  | ref n=>
   let⟨Y,rfl,g2⟩:=Yq g;clear g;have g:=g2
   let⟨K,rfl⟩:=Ze.mp d
   let⟨L,rfl⟩:=Ze.mp m
   let⟨O,W,g1,g2,g3,g4⟩:=g
   let⟨_,c,J,q⟩:=R.list g1
   let⟨_,r,P,A⟩:=R.list g2
   refine Yg7 b s G w.H _ _ v u Q I f e ⟨_,_,c,r,rfl,rfl,J,P,by rw[q.length,A.length];show g3,fun p F=>?_⟩
   let⟨E,D,B⟩:=Ym R F (q.append A)
   show a _ _ _ _ E D B g4
  | _=>show Dk g
 | mul=>
  cases N with
  | int i=>
   let⟨j,rfl,g2⟩:=Xg g;clear g;have g:=g2
   show Th (o:=opD .add) (C:=IntMulOk) (k:=fun i j=> .int (i * j)) Y01 (fun w i j=>t w _) I f e R d m g.1 g.2 a
  | ref n=>
   let⟨k,rfl,g2⟩:=Xg g;clear g;have g:=g2
   let⟨K,rfl⟩:=Ze.mp d
   cases Za.mp m
   let⟨O,g1,g2,g3,g4,g5⟩:=g
   let⟨_,c,J,q⟩:=R.list g1
   refine Yd7 b s G w.H _ _ v u Q I f e ⟨_,_,c,rfl,rfl,J,'o','o',by rw[q.length];show g4,fun p F=>?_⟩
   let⟨E,D,B⟩:=Ym R F (q.rep _)
   show a _ _ _ _ E D B g5
  | _=>show Dk g
 | sub=>
  let⟨i,j,rfl,rfl,g2⟩:=X2 g;clear g;have g:=g2
  show Th (o:=opD .add) (C:=fun _ _=>True) (k:=fun i j=> .int (i - j)) (Yd4 Y82) (fun w i j=>t w _) I f e R d m trivial g a
 | fdiv=>
  let⟨i,j,rfl,rfl,g2⟩:=X2 g;clear g;have g:=g2
  show Th (o:=opD .add) (C:=Zc9) (k:=fun i j=> .int (qdiv i j)) Zi8 (fun w i j=>by rw[Y66];show t w _) I f e R d m g.1 g.2 a
 | mod=>
  let⟨i,j,rfl,rfl,g2⟩:=X2 g;clear g;have g:=g2
  show Th (o:=opD .add) (C:=fun _ j=>j≠0) (k:=fun i j=> .int (qmod i j)) Y60 (fun w i j=>by rw[Y03];show t w _) I f e R d m g.1 g.2 a
 | pow=>
  let⟨i,j,rfl,rfl,g2⟩:=X2 g;clear g;have g:=g2
  show Th (o:=opD .add) (C:=CPow) (k:=fun i j=> .int (i ^ j.toNat)) Y97 (fun w i j=>t w _) I f e R d m g.1 g.2 a
end
def rB(w0:Vw)(g:Z1->D->D->(Bool->Prop)->Prop):R2:=fun x y H Q=>∃w M c a d,w.H=H/\w.K=w0.K/\RS w M/\RD w c x/\RD w a y/\g M c a d/\∀b,d b->Q (.bl b) H
mutual
theorem Z91{w:Vw}(R:RS w M):∀(j:PyData) {d:D} {v:V},PD M j d->RD w d v->Rep w.K w.H j v
 | .none,d,v,h,r=>by unfold PD at h;subst h;unfold Rep;show Zg.mp r
 | .bool b,d,v,h,r=>by unfold PD at h;subst h;unfold Rep;show X4.mp r
 | .int b,d,v,h,r=>by unfold PD at h;subst h;unfold Rep;show Za.mp r
 | .str b,d,v,h,r=>by unfold PD at h;subst h;unfold Rep;show Zk.mp r
 | .list c,d,v,h,r=>by
  unfold PD at h
  let⟨n,l,rfl,k,i⟩:=h
  let⟨_,rfl⟩:=Ze.mp r
  let⟨_,e,g,f,_⟩:=R.listL k
  unfold Rep
  show⟨_,e,rfl,g,Qo R c i f⟩
 | .tuple c,d,v,h,r=>by
  unfold PD at h
  let⟨l,rfl,i⟩:=h
  let⟨a,e,rfl,g,f⟩:=Yb.mp r
  unfold Rep
  show⟨_,e,rfl,.of g,Qo R c i f⟩
 | .dict _,d,v,h,r=>by unfold PD at h;show h.elim
theorem Qo{w:Vw}(R:RS w M):∀(xs:List PyData) {a:LD} {vs:LV},PDs M xs a->RDs w a vs->Xe w.K w.H xs vs
 | [],a,vs,h,r=>by unfold PDs at h;subst h;unfold RDs at r;unfold Xe;show r
 | x::xs,a,vs,h,r=>by
  unfold PDs at h
  let⟨d,i,rfl,g,f⟩:=h
  unfold RDs at r
  let⟨v,b,rfl,e,c⟩:=r
  unfold Xe
  show⟨v,b,rfl,Z91 R x g e,Qo R xs f c⟩
end
theorem Xs{w:Vw}{d:D}{v:V}(f:Y2 d=true)(r:RD w d v):Yv v=true:=by
 cases d<;>simp[Y2] at f
 .cases Zg.mp r;rfl
 .cases X4.mp r;rfl
 .cases Za.mp r;rfl
 .cases Zk.mp r;rfl
def Rt{w:Vw}{d e:D}{v u:V}(f:Y2 d=true)(g:Y2 e=true)(r:RD w d v)(q:RD w e u):eqV v u=eqF d e:=by
 cases d<;>simp[Y2] at f
 all_goals (cases e<;>simp[Y2] at g)
 all_goals first
  |(first | cases Zg.mp r | cases X4.mp r | cases Za.mp r | cases Zk.mp r)
 all_goals first
  |(first | cases Zg.mp q | cases X4.mp q | cases Za.mp q | cases Zk.mp q)
 all_goals rfl
def Z59{w:Vw}{x:D}{v:V}(f:Y2 x=true)(r:RD w x v):∀{a:LD} {vs:LV},a.all Y2=true->RDs w a vs->inV v vs=inD x a/\vs.all Yv=true
 | [],vs,_,h=>by unfold RDs at h;subst h;show⟨rfl,rfl⟩
 | d::a,vs,g,h=>by
  unfold RDs at h
  let⟨j,k,rfl,b,i⟩:=h
  simp only[Iw,Bz9] at g
  let⟨e,c⟩:=Z59 f r g.2 i
  refine⟨?_,by simp only[Iw,Bz9];show⟨Xs g.1 b,c⟩⟩
  unfold inV inD at *
  rw[Ks,Ks,Rt g.1 f b r,e]
def RKV.val{w:Vw}:∀{a:KQ9} {vs:List (Key×V)} (k:Key),RKV w a vs->(valD a k=none/\valV vs k=none)\/∃d v,valD a k=some d/\valV vs k=some v/\RD w d v
 | [],vs,k,h=>by unfold RKV at h;subst h;show .inl ⟨rfl,rfl⟩
 |(b,d)::a,vs,k,h=>by
  unfold RKV at h
  let⟨v,r,rfl,f,c⟩:=h
  by_cases e:b=k
  .exact .inr ⟨d,v,by simp[valD,Ie,e],by simp[valV,Ie,e],f⟩
  .have:=RKV.val k c
   simpa[valD,valV,Ie,e] using this
def RKV.length{w:Vw}:∀{a:KQ9} {vs:List (Key×V)},RKV w a vs->vs.length=a.length
 | [],vs,h=>by unfold RKV at h;subst h;rfl
 |(c,d)::a,vs,h=>by
  unfold RKV at h
  let⟨v,r,rfl,e,b⟩:=h
  simp[RKV.length b]
def RKV.any{w:Vw}(k:Key):∀{b:KQ9} {vs:List (Key×V)},RKV w b vs->(vs.any fun a=>decide (a.1=k))=(b.any fun a=>decide (a.1=k))
 | [],vs,h=>by unfold RKV at h;subst h;rfl
 |(e,d)::b,vs,h=>by
  unfold RKV at h
  let⟨v,r,rfl,f,c⟩:=h
  simp[RKV.any k c]
def RKV.repl{w:Vw}{k:Key}{d:D}{v:V}(q:RD w d v):∀{b:KQ9} {vs:List (Key×V)},RKV w b vs->RKV w (b.map fun a=>if a.1=k then(a.1,d) else a) (vs.map fun a=>if a.1=k then(a.1,v) else a)
 | [],vs,h=>by unfold RKV at h;subst h;unfold RKV;rfl
 |(g,j)::b,vs,h=>by
  unfold RKV at h
  let⟨f,r,rfl,i,c⟩:=h
  simp only[Ch]
  by_cases e:g=k
  .rw[ng e,ng e]
   unfold RKV
   show⟨v,_,rfl,q,RKV.repl q c⟩
  .rw[nc e,nc e]
   unfold RKV
   show⟨f,_,rfl,i,RKV.repl q c⟩
def RKV.snoc{w:Vw}{k:Key}{d:D}{v:V}(q:RD w d v):∀{a:KQ9} {vs:List (Key×V)},RKV w a vs->RKV w (a++[(k,d)]) (vs++[(k,v)])
 | [],vs,h=>by unfold RKV at h;subst h;unfold RKV;show⟨v,[],rfl,q,by unfold RKV;rfl⟩
 |(c,g)::a,vs,h=>by
  unfold RKV at h
  let⟨b,r,rfl,f,e⟩:=h
  change RKV w ((c,g)::(a++[(k,d)])) _
  unfold RKV
  show⟨b,_,rfl,f,RKV.snoc q e⟩
def RKV.put{w:Vw}{k:Key}{d:D}{v:V}(q:RD w d v){a:KQ9}(h:RKV w a vs):RKV w (putD a k d) (putK vs k v):=by
 unfold putD putK
 rw[h.any k]
 split
 .exact h.repl q
 .exact h.snoc q
def Rk{w:Vw}{d:D}{k:Key}{v:V}(h:keyD d=some k)(r:RD w d v):v=kV k:=by
 cases d<;>simp[keyD] at h
 .subst h;show Za.mp r
 .subst h;show Zk.mp r
section
variable{X:Cx}{w0:Vw}
def cmOf:Cm->CmpOp
 | .lt=> .Lt | .le=> .LtE | .gt=> .Gt | .eq=> .Eq | .ne=> .NotEq | .is=> .Is | .isnot=> .IsNot | .isin=> .In | .notin=> .NotIn
def Yg0(n:X.A.units+64<cLine):OpR X (compareOp .NotEq) (rEqD X.K true):=by
 intro a s m H x y v u Q I c b h
 let⟨l,k,j,i,g,f,o,q⟩:=h
 let⟨r,e⟩:=Rep.reads I l x v j c
 let⟨p,d⟩:=Rep.reads I k y u i b
 show PySem.SeqAt.compareNe_reads e d g f 'o' ⟨.bl _,H,I,rfl,q⟩
def Gq{w:Vw}{pins:PLO}{σ:L2.St}{s:Ug}{A:Around}{b:KQ9}{vb:List (Key×V)}{ub:List (Key×Uf)}(rb:RKV w b vb)(kb:KV vb ub)(fb:(b.all fun kv=>Y2 kv.2)=true):
  ∀{a:KQ9} {va:List (Key×V)} {ua:List (Key×Uf)},(a.all fun kv=>Y2 kv.2)=true->RKV w a va->KV va ua->PySem.W.KeqHits A s ub ua (a.all fun kv=>match valD b kv.1 with
   | some y=>eqF kv.2 y
   | none=>false)
 | [],va,ua,_,h,k=>by
  unfold RKV at h;subst h
  cases k
  show .nil
 |(k0,d)::a,va,ua,f,h,k=>by
  unfold RKV at h
  let⟨v,r,rfl,h1,h2⟩:=h
  simp only[Iw,Bz9] at f
  cases k with
  | @cons _ q _ ur hk kr=>
   let⟨k1,u⟩:=q
   let⟨e1,e2⟩:=hk
   dsimp only at e1 e2
   subst e1
   have ih:=Gq (A:=A) (s:=s) (pins:=pins) (σ:=σ) rb kb fb f.2 h2 kr
   rw[Iw]
   rcases rb.val k0 with⟨n1,n2⟩ | ⟨y,vy,n1,n2,n3⟩
   .have hz:=kb.val k0
    rw[n2] at hz
    have hz':valueAt ub k0=none:=RelO.none_of hz
    simp only[n1,Bool.false_and]
    show .miss hz'
   .have hz:=kb.val k0
    rw[n2] at hz
    let⟨uy,ey,ry⟩:=hz.some_of
    have fy:Y2 y=true:=by
     have hm:(k0,y)∈b:=by
      unfold valD at n1
      let⟨p,hp,e⟩:=Ho.mp n1
      have:=List.find?_some hp
      have hk:p.1=k0:=of_decide_eq_true this
      have:=List.mem_of_find?_eq_some hp
      rw[<-e,<-hk];show this
     show(Hw.mp fb) _ hm
    simp only[n1]
    refine .hit ey ?_ ih
    rw[<-Rt f.1 fy h1 n3]
    show Cw e2 ry (Xs f.1 h1) (Xs fy n3)
def W0{w:Vw}:∀{a:LD} {vs:LV},a.all Y2=true->RDs w a vs->vs.all Yv=true
 | [],vs,_,r=>by unfold RDs at r;subst r;rfl
 | d::a,vs,f,r=>by
  unfold RDs at r
  let⟨v,e,rfl,c,b⟩:=r
  rw[Iw,Bz9] at f
  rw[Iw,Xs f.1 c,W0 f.2 b]
  rfl
def Cn{w:Vw}{xs ys:LD}(f:xs.all Y2=true)(g:ys.all Y2=true)(r:RDs w xs vs)(q:RDs w ys us):eqVs vs us=eqFs xs ys:=by
 unfold eqVs eqFs
 rw[r.length,q.length]
 congr 1
 have:∀j∈Ao (min xs.length ys.length),eqV (vs.getD j .non) (us.getD j .non)=eqF (xs.getD j .non) (ys.getD j .non):=by
  intro j a
  rw[He] at a
  have c:j<xs.length:='o'
  have b:j<ys.length:='o'
  let⟨v,k,e⟩:=r.get (Aa c)
  let⟨u,i,d⟩:=q.get (Aa b)
  rw[Hw] at f g
  simp only[Af,k,i,Aa c,Aa b,Ms]
  show Rt (f _ (Hx c)) (g _ (Hx b)) e d
 rw[Bool.eq_iff_iff,Hw,Hw]
 constructor
 .intro h j a;rw[<-this j a];show h j a
 .intro h j a;rw[this j a];show h j a
def Eu(hK:X.K=w0.K)(hu:X.A.units+64<cLine)(neg:Bool):OpR X (compareOp (if neg then .NotEq else .Eq)) (rB w0 fun M x y Q=>eqD M x y fun b=>Q (if neg then !b else b)):=by
 intro pins s σ H x y v u Q I rx ry h
 let⟨w,M,dx,dy,QD,rfl,e0,R,hx,hy,g,a⟩:=h
 have key:∀b:Bool,(scal x y=true/\decide (x=y)=b)->QD (if neg then !b else b)->⇑X (compareOp (if neg then .NotEq else .Eq) v u) (EP X pins σ Q) X.xe s:=by
  rintro b ⟨h1,h2⟩ hq
  cases neg with
  | true=>show Yj3 pins s σ w.H x y v u Q I rx ry ⟨h1,by rw[h2];show a _ hq⟩
  | false=>show Yj1 pins s σ w.H x y v u Q I rx ry ⟨h1,by rw[h2];show a _ hq⟩
 have hs:∀b,eqS dx dy=some b->scal x y=true/\decide (x=y)=b:=by
  intro b h
  cases dx with
  | int i=>
   cases Za.mp hx
   cases dy with
   | int j=>cases Za.mp hy;cases h;show⟨rfl,by simp⟩
   | str j=>cases Zk.mp hy;cases h;show⟨rfl,by simp⟩
   | non=>cases Zg.mp hy;cases h;show⟨rfl,by simp⟩
   | _=>cases h
  | str i=>
   cases Zk.mp hx
   cases dy with
   | str j=>cases Zk.mp hy;cases h;show⟨rfl,by simp⟩
   | int j=>cases Za.mp hy;cases h;show⟨rfl,by simp⟩
   | non=>cases Zg.mp hy;cases h;show⟨rfl,by simp⟩
   | bl j=>cases X4.mp hy;cases h;show⟨rfl,by simp⟩
   | _=>cases h
  | bl i=>
   cases X4.mp hx
   cases dy with
   | bl j=>cases X4.mp hy;cases h;show⟨rfl,by simp⟩
   | non=>cases Zg.mp hy;cases h;show⟨rfl,by simp⟩
   | str j=>cases Zk.mp hy;cases h;show⟨rfl,by simp⟩
   | _=>cases h
  | non=>
   cases Zg.mp hx
   cases dy with
   | non=>cases Zg.mp hy;cases h;show⟨rfl,by simp⟩
   | int j=>cases Za.mp hy;cases h;show⟨rfl,by simp⟩
   | bl j=>cases X4.mp hy;cases h;show⟨rfl,by simp⟩
   | str j=>cases Zk.mp hy;cases h;show⟨rfl,by simp⟩
   | _=>cases h
  | _=>cases h
 unfold eqD at g
 cases hb:eqS dx dy with
 | some b=>
  rw[hb] at g
  show key b (hs b hb) g
 | none=>
  rw[hb] at g
  rcases g with⟨da,db,p1,p2,p3,p4,p5,g⟩ | ⟨m,n,ka,kb,rfl,rfl,p1,p2,f1,f2,g⟩ | ⟨m,n,xs,rfl,rfl,p1,p2,g⟩ | ⟨xs,ys,ex,ey,f1,f2,g⟩
  .have q1:=Z91 R da p1 hx
   have q2:=Z91 R db p2 hy
   rw[e0,<-hK] at q1 q2
   cases neg with
   | true=>show Yg0 hu pins s σ w.H x y v u Q I rx ry ⟨da,db,q1,q2,p3,p4,p5,a _ g⟩
   | false=>show Yf8 hu pins s σ w.H x y v u Q I rx ry ⟨da,db,q1,q2,p3,p4,p5,a _ g⟩
  .let⟨_,rfl⟩:=Ze.mp hx
   let⟨_,rfl⟩:=Ze.mp hy
   let⟨_,va,ha,ra⟩:=R.dict p1
   let⟨_,vb,hb,rb⟩:=R.dict p2
   cases (show v=Value.ref (w.μ m) from rx)
   cases (show u=Value.ref (w.μ n) from ry)
   let⟨_,s1,ua,k1,d1⟩:=Gs I.hok ha
   let⟨_,s2,ub,k2,d2⟩:=Gs I.hok hb
   have hits:=Gq (A:=X.A.in1) (s:=s) (pins:=pins) (σ:=σ) rb k2 f2 f1 ra k1
   have hl:(ua.length==ub.length&&(ka.all fun kv=>match valD kb kv.1 with
    | some y=>eqF kv.2 y
    | none=>false))=eqKV ka kb:=by
    unfold eqKV
    rw[<-k1.length,<-k2.length,ra.length,rb.length]
    all_goals rfl
   cases neg with
   | true=>show PySem.W.keq_ne s1 s2 d1 d2 'o' (fun _=>hits) ⟨.bl _,w.H,I,rfl,by rw[hl];show a _ g⟩
   | false=>show PySem.W.keq_eq s1 s2 d1 d2 'o' (fun _=>hits) ⟨.bl _,w.H,I,rfl,by rw[hl];show a _ g⟩
  .let⟨_,rfl⟩:=Ze.mp hx
   let⟨_,rfl⟩:=Ze.mp hy
   let⟨_,va,ha,ra,_⟩:=R.listL p1
   let⟨_,vb,hb,rb,_⟩:=R.listL p2
   rw[e0,<-hK] at ha hb
   unfold RDs at rb
   subst rb
   cases (show v=Value.ref (w.μ m) from rx)
   cases (show u=Value.ref (w.μ n) from ry)
   have he:va.isEmpty=xs.isEmpty:=by have:=ra.length;cases va<;>cases xs<;>simp_all
   show Zq2 I hu neg ha hb (by rw[he];show a _ g)
  .have tp:∀{d:D} {zs:LD} {x:V},(d= .tup zs\/d= .gtup zs)->RD w d x->∃p vs,x= .ref p/\SqT X.K w.H p vs/\RDs w zs vs:=by
    rintro d zs x (rfl | rfl) r
    .let⟨p,vs,e,q1,q2⟩:=Yb.mp r
     show⟨p,vs,e,.of q1,q2⟩
    .let⟨p,vs,e,q1,q2⟩:=Rx.mp r
     rw[e0,<-hK] at q1
     show⟨p,vs,e,q1,q2⟩
   let⟨p,va,rfl,ha,ra⟩:=tp ex hx
   let⟨p2,vb,rfl,hb,rb⟩:=tp ey hy
   cases (show v=Value.ref p from rx)
   cases (show u=Value.ref p2 from ry)
   show Zz7 I hu neg ha hb (W0 f1 ra) (W0 f2 rb) (by rw[Cn f1 f2 ra rb];show a _ g)
def Gc{w:Vw}:∀{xs:List (LD)} {vs:LV},RDs w (xs.map .tup) vs->(xs.all fun c=>c.all Y2)=true->∃b:List (LV),b.length=vs.length/\(∀(j:Nat) u,vs[j]?=some u->∃a us,u= .ref a/\w.H a=some (.tup us)/\b[j]?=some us/\us.all Yv=true)/\∀(ys:LD) (t:LV),ys.all Y2=true->RDs w ys t->(b.any fun us=>eqVs us t)=xs.any fun c=>eqFs c ys
 | [],vs,h,_=>by
  rw[Dp] at h
  unfold RDs at h
  subst h
  show⟨[],rfl,fun j u e=>by simp at e,fun _ _ _ _=>rfl⟩
 | z::c,vs,h,f=>by
  rw[Ch] at h
  unfold RDs at h
  let⟨v,r,rfl,q,p⟩:=h
  rw[Iw,Bz9] at f
  let⟨a,us,rfl,o,i⟩:=Yb.mp q
  let⟨b,n,m,l⟩:=Gc p f.2
  refine⟨us::b,by rw[Ex,Ex,n],fun j u e=>?_,fun ys t k g=>by rw[Ks,Ks,l ys t k g,Cn f.1 k i g]⟩
  cases j with
  | zero=>cases e;show⟨a,us,rfl,o,rfl,W0 f.1 i⟩
  | succ j=>
   let⟨B,d,A,y,x,s⟩:=m j u ↥e
   show⟨B,d,A,y,↥x,s⟩
def Yk6{v:L2.St}{H:Hp}(I:Inv X pins v H s)(O:X.A.units+64<cLine)(g:Bool){p b:Uh}{xs:LV}{d:List (LV)}{t:LV}(E:SqL X.K H p xs)(G:xs.length=d.length)(F:∀(j:Nat) u,xs[j]?=some u->∃a us,u= .ref a/\H a=some (.tup us)/\d[j]?=some us/\us.all Yv=true)(J:H b=some (.tup t))(L:t.all Yv=true)
  (q:Q (.bl (if g then !(d.any fun us=>eqVs us t) else d.any fun us=>eqVs us t)) H):
  ⇑X (compareOp (if g then .NotIn else .In) (.ref b) (.ref p)) (EP X pins v Q) X.xe s:=by
 let⟨c,r,z,N⟩:=I.list E
 have i:∀(j:Nat) w,c[j]?=some w->∃a us,w= .ref a/\H a=some (.tup us)/\d[j]?=some us/\us.all Yv=true:=by
  intro j w h
  have l:j<xs.length:=by rw[r.length];show(Ab.mp h).1
  let⟨a,us,o,f,n,m⟩:=F j xs[j] (Aa l)
  let⟨M,y,x⟩:=r.get (Aa l)
  rw[h] at y
  cases y
  rw[o] at x
  cases x
  show⟨a,us,rfl,f,n,m⟩
 have C:∀(a:Uh) (us:LV),H a=some (.tup us)->eqUT H t (.ref a)=eqVs us t:=by
  intro a us e
  show(match H a with | some (.tup D)=>eqVs D t | _=>false)=_
  rw[e]
 have B:∀w∈c.toArray,Hh X.A.in1 s w (.ref b) (eqUT H t w):=by
  intro w h
  let⟨j,l⟩:=Iu (show w∈c by simpa using h)
  let⟨a,us,rfl,f,n,m⟩:=i j w l
  rw[C a _ f]
  show Y80 I (by change X.A.units+1+2<cLine;lia) f J m L
 have k:c.toArray.any (eqUT H t)=d.any fun us=>eqVs us t:=by
  rw[show c.toArray.any (eqUT H t)=c.any (eqUT H t) by simp]
  have:c.map (eqUT H t)=d.map fun us=>eqVs us t:=by
   refine Hm fun j=>?_
   rw[Aw,Aw]
   cases h:c[j]? with
   | none=>
    rw[Iq (by rw[<-G,r.length];show Lu.mp h)]
    rfl
   | some w=>
    let⟨a,us,rfl,f,n,m⟩:=i j w h
    rw[n]
    change some _=some _
    rw[C a _ f]
  have o:c.any (eqUT H t)=(c.map (eqUT H t)).any id:=by rw[List.any_map];rfl
  have f:(d.any fun us=>eqVs us t)=(d.map fun us=>eqVs us t).any id:=by rw[List.any_map];rfl
  rw[o,f,this]
 cases g with
 | true=>show SeqAt.notIn_listAt (eqUT H t) z.isList B ⟨.bl _,H,I,rfl,by rw[k];show q⟩
 | false=>show SeqAt.in_listAt (eqUT H t) z.isList B ⟨.bl _,H,I,rfl,by rw[k];show q⟩
def C8(L:X.K=w0.K)(hu:X.A.units+64<cLine)(f:Bool):OpR X (compareOp (if f then .NotIn else .In)) (rB w0 fun M x y Q=>inQ M x y fun b=>Q (if f then !b else b)):=by
 intro c s C H x y v u Q I o z h
 let⟨w,M,O,dy,QD,rfl,N,R,B,G,g,a⟩:=h
 have n:∀{p:Uh} {i:LV} {m:LD},y= .ref p->(SqL X.K w.H p i\/SqT X.K w.H p i)->RDs w m i->Y2 O=true->m.all Y2=true->QD (if f then !inD O m else inD O m)->
   ⇑X (compareOp (if f then .NotIn else .In) v u) (EP X c C Q) X.xe s:=by
  intro p i m W j l g2 g3 g4
  let⟨U,T⟩:=Z59 g2 B g3 l
  cases f with
  | true=>show G7 c s C w.H _ _ v u Q I o z ⟨p,i,W,j,Xs g2 B,T,by rw[U];show a _ g4⟩
  | false=>show Z71 c s C w.H _ _ v u Q I o z ⟨p,i,W,j,Xs g2 B,T,by rw[U];show a _ g4⟩
 unfold inQ at g
 split at g
 .cases Zk.mp B;cases Zk.mp G
  cases f with
  | true=>show Jp c s C w.H _ _ v u Q I o z ⟨_,_,rfl,rfl,a _ g⟩
  | false=>show Zf0 c s C w.H _ _ v u Q I o z ⟨_,_,rfl,rfl,a _ g⟩
 .let⟨_,rfl⟩:=Ze.mp G
  rcases g with⟨m,g1,g2,g3,g4⟩ | ⟨t,k,g1,g2,g3⟩ | ⟨ys,m,rfl,g1,g2,g3,g4⟩
  .let⟨_,i,j,l,_⟩:=R.listL g1
   rw[N,<-L] at j
   show n rfl (.inl j) l g2 g3 g4
  .let⟨_,i,j,l⟩:=R.dict g1
   cases Rk g2 B
   cases (show u=Value.ref _ from z)
   have Z:valV i k=none/\valD t k=none\/∃d F,valD t k=some d/\valV i k=some F:=by
    rcases l.val k with⟨r,q⟩ | ⟨d,F,r,q,_⟩
    .exact .inl ⟨q,r⟩
    .exact .inr ⟨d,F,r,q⟩
   have J:(valV i k).isSome=(valD t k).isSome:=by
    rcases Z with⟨r,q⟩ | ⟨d,F,r,q⟩
    .rw[r,q];rfl
    .rw[r,q];rfl
   have E:X.A.units+1<cLine:='o'
   cases f with
   | true=>show Y59 E I (DGet.k (k:=k) j) o fun Y P=>⟨.bl (!(valV i k).isSome),w.H,P,rfl,by rw[J];show a _ g3⟩
   | false=>show d_in E I (DGet.k (k:=k) j) o fun Y P=>⟨.bl (valV i k).isSome,w.H,P,rfl,by rw[J];show a _ g3⟩
  .let⟨_,i,j,l,_⟩:=R.listL g1
   rw[N,<-L] at j
   let⟨b,us,rfl,J,S⟩:=Yb.mp B
   cases (show v=Value.ref b from o)
   cases (show u=Value.ref _ from z)
   let⟨ts,h1,h2,h3⟩:=Gc l g3
   refine Yk6 I hu f j h1.symm h2 J (W0 g2 S) ?_
   rw[h3 _ _ g2 S]
   show a _ g4
 .let⟨p,i,e,j,l⟩:=Yb.mp G
  show n e (.inr (.of j)) l g.1 g.2.1 g.2.2
 .let⟨p,i,e,j,l⟩:=Rx.mp G
  rw[N,<-L] at j
  show n e (.inr j) l g.1 g.2.1 g.2.2
 .exact g.elim
def Wo(t:X.K=w0.K)(r:X.A.units+64<cLine)(op:Cm):OpR X (compareOp (cmOf op)) (rB w0 fun M=>cmD M op):=by
 intro c s f H x y v u Q I m k h
 let⟨w,M,F,E,D,rfl,B,R,p,o,g,a⟩:=h
 cases op with
 | lt=>
  let⟨i,j,rfl,rfl,g2⟩:=X2 g;clear g;have g:=g2
  cases Za.mp p;cases Za.mp o
  show Yk7 c s f w.H _ _ v u Q I m k ⟨_,_,rfl,rfl,a _ g⟩
 | le=>
  let⟨i,j,rfl,rfl,g2⟩:=X2 g;clear g;have g:=g2
  cases Za.mp p;cases Za.mp o
  show Yh9 c s f w.H _ _ v u Q I m k ⟨_,_,rfl,rfl,a _ g⟩
 | gt=>
  let⟨i,j,rfl,rfl,g2⟩:=X2 g;clear g;have g:=g2
  cases Za.mp p;cases Za.mp o
  show Yi5 c s f w.H _ _ v u Q I m k ⟨_,_,rfl,rfl,a _ g⟩
 | eq=>
  show Eu t r false c s f w.H x y v u Q I m k ⟨w,M,_,_,D,rfl,B,R,p,o,g,a⟩
 | ne=>
  show Eu t r true c s f w.H x y v u Q I m k ⟨w,M,_,_,D,rfl,B,R,p,o,g,a⟩
 | is=>
  cases E with
  | non=>
   cases F with
   | non=>
    cases Zg.mp p;cases Zg.mp o
    show Q9 c s f w.H _ _ v u Q I m k ⟨rfl,a _ g⟩
   | bl b=>
    cases X4.mp p;cases Zg.mp o
    show Q9 c s f w.H _ _ v u Q I m k ⟨rfl,a _ g⟩
   | int i=>
    cases Za.mp p;cases Zg.mp o
    show Q9 c s f w.H _ _ v u Q I m k ⟨rfl,a _ g⟩
   | str z=>
    cases Zk.mp p;cases Zg.mp o
    show Q9 c s f w.H _ _ v u Q I m k ⟨rfl,a _ g⟩
   | tup l=>
    let⟨_,_,rfl,_⟩:=Yb.mp p;cases Zg.mp o
    show Q9 c s f w.H _ _ v u Q I m k ⟨rfl,a _ g⟩
   | ref n=>
    let⟨_,rfl⟩:=Ze.mp p;cases Zg.mp o
    show Q9 c s f w.H _ _ v u Q I m k ⟨rfl,a _ g⟩
   | exn e C d q=>
    let⟨rfl,_⟩:=Q5.mp p;cases Zg.mp o
    show Q9 c s f w.H _ _ v u Q I m k ⟨rfl,a _ g⟩
   | _=>show Dk g
  | _=>show Dk g
 | isnot=>
  cases E with
  | non=>
   cases F with
   | non=>
    cases Zg.mp p;cases Zg.mp o
    show V0 c s f w.H _ _ v u Q I m k ⟨rfl,a _ g⟩
   | bl b=>
    cases X4.mp p;cases Zg.mp o
    show V0 c s f w.H _ _ v u Q I m k ⟨rfl,a _ g⟩
   | int i=>
    cases Za.mp p;cases Zg.mp o
    show V0 c s f w.H _ _ v u Q I m k ⟨rfl,a _ g⟩
   | str z=>
    cases Zk.mp p;cases Zg.mp o
    show V0 c s f w.H _ _ v u Q I m k ⟨rfl,a _ g⟩
   | tup l=>
    let⟨_,_,rfl,_⟩:=Yb.mp p;cases Zg.mp o
    show V0 c s f w.H _ _ v u Q I m k ⟨rfl,a _ g⟩
   | ref n=>
    let⟨_,rfl⟩:=Ze.mp p;cases Zg.mp o
    show V0 c s f w.H _ _ v u Q I m k ⟨rfl,a _ g⟩
   | exn e C d q=>
    let⟨rfl,_⟩:=Q5.mp p;cases Zg.mp o
    show V0 c s f w.H _ _ v u Q I m k ⟨rfl,a _ g⟩
   | _=>show Dk g
  | _=>show Dk g
 | isin=>
  show C8 t r false c s f w.H x y v u Q I m k ⟨w,M,_,_,D,rfl,B,R,p,o,g,a⟩
 | notin=>
  show C8 t r true c s f w.H x y v u Q I m k ⟨w,M,_,_,D,rfl,B,R,p,o,g,a⟩
end
def RKV.isEmpty{w:Vw}{a:KQ9}(h:RKV w a vs):vs.isEmpty=a.isEmpty:=by
 cases a with
 | nil=>unfold RKV at h;subst h;rfl
 | cons p a=>let⟨k,d⟩:=p;unfold RKV at h;let⟨v,r,rfl,_⟩:=h;rfl
def RDs.isEmpty{w:Vw}{a:LD}(h:RDs w a vs):vs.isEmpty=a.isEmpty:=by
 cases a with
 | nil=>unfold RDs at h;subst h;rfl
 | cons d a=>unfold RDs at h;let⟨v,r,rfl,_⟩:=h;rfl
def Vl{K:Ac}{w:Vw}{d:D}{x:V}(h:w.K=K)(R:RS w M)(r:RD w d x)(g:truD M d QD):∃k,TruV K x w.H k/\QD k:=by
 unfold truD at g
 split at g
 .cases Zg.mp r;show⟨_,rfl,g⟩
 .cases X4.mp r;show⟨_,rfl,g⟩
 .cases Za.mp r;show⟨_,rfl,g⟩
 .cases Zk.mp r;show⟨_,⟨g.1,rfl⟩,g.2⟩
 .let⟨a,c,rfl,b,e⟩:=Yb.mp r
  show⟨_,.inr (.inl ⟨c,.of b,rfl⟩),by rw[e.isEmpty];show g⟩
 .let⟨_,rfl⟩:=Ze.mp r
  rcases g with⟨f,g1,g2⟩ | ⟨f,g1,g2⟩
  .let⟨_,c,b,e,_⟩:=R.listL g1
   rw[h] at b
   show⟨_,.inl ⟨c,b,rfl⟩,by rw[e.isEmpty];show g2⟩
  .let⟨_,c,b,e⟩:=R.dict g1
   show⟨_,.inr (.inr ⟨c,b,rfl⟩),by rw[e.isEmpty];show g2⟩
 .exact g.elim
def Fk{w:Vw}{xs:LD}{i:Int}{d:D}(r:RDs w xs vs)(h:atI xs i=some d):∃v,atI vs i=some v/\RD w d v:=by
 unfold atI at *
 rw[r.length]
 let⟨j,e,c⟩:=Option.bind_eq_some_iff.mp h
 let⟨v,b,a⟩:=r.get c
 show⟨v,by rw[e];show b,a⟩
def Z66{w:Vw}{xs:LD}{vs:LV}{lo hi:Option Int}(r:RDs w xs vs):RDs w (cutD xs lo hi) (cutV vs lo hi):=by
 unfold cutD cutV
 rw[r.length]
 show(r.drop _).take _
section
variable{X:Cx}{w0:Vw}
def Zz1(t:X.A.units+1<cLine):IxR X (fun x y H Q=>∃a v,x= .ref a/\DGet H a y (some v)/\Q v H):=by
 intro d e c s l H x y v u Q I p o h z
 let⟨a,n,rfl,g,q⟩:=h
 cases p
 have m:=Ea I g
 have j:⇑X (getItem (.ref a) u) (EP X c l Q) X.xe s:=Zd7 t I g o fun C D B k=>⟨n,H,B,k,q⟩
 unfold subscriptTail
 refine Ad ?_
 rw[getitemInPython_of_ne m.not_modules]
 refine Ad (wpAny_specialOf m PySem.F.slot_dict_getitem.lookup ?_)
 have f:⇑X (subscripted e false (.ref a) u) (fun r b=>⇑X (letTemporaryGo d (.ref a) r >>=fun _=>pure r) (EP X c l Q) X.xe b) X.xe s:=by
  rw[z]
  show wpAny_operating (Dx j (fun r b i=>Ad (wpAny_letTemporaryGo (Am i))) fun _ _ x=>x)
 first
  | show Am (Ad f)
  | show Ad (Am (Ad f))
  | show Ad f
def rX(w0:Vw):R2:=fun x y H Q=>∃w M b a c,w.H=H/\w.K=w0.K/\RS w M/\RD w b x/\RD w a y/\ixD M b a c/\∀d v,c d->RD w d v->Q v H
def Zk7(G:X.K=w0.K)(S:X.A.units+64<cLine):IxR X (rX w0):=by
 intro b e f s n H x y v u Q I z t h C
 let⟨w,M,U,T,W,rfl,J,R,D,B,g,a⟩:=h
 unfold ixD at g
 split at g
 .let⟨_,rfl⟩:=Ze.mp D
  rcases g with⟨P,i,d,rfl,g1,g2,g3⟩ | ⟨O,k,d,g1,g2,g3,g4⟩
  .cases Za.mp B
   let⟨_,l,j,m,_⟩:=R.listL g1
   rw[J,<-G] at j
   let⟨r,q,o⟩:=Fk m g2
   show Y24 b e f s n w.H _ _ v u Q I z t ⟨_,l,i,r,rfl,rfl,j,q,a _ _ g3 o⟩ C
  .let⟨l,j,m⟩:=R.dictF g1
   cases Rk g2 B
   rcases m.val k with⟨E,F⟩ | ⟨V,L,E,F,N⟩
   .rw[E] at g3;cases g3
   .rw[E] at g3;cases g3
    refine Zz1 'o' b e f s n w.H _ _ v u Q I z t ⟨_,L,rfl,?_,a _ _ g4 N⟩ C
    have:DGet w.H (w.μ _) (kV k) (valV l k):= .inl ⟨l,k,j,rfl,rfl⟩
    rw[F] at this
    show this
 .cases Za.mp B
  let⟨p,l,rfl,j,m⟩:=Yb.mp D
  let⟨d,g1,g2⟩:=g
  let⟨r,q,o⟩:=Fk m g1
  show Zs7 b e f s n w.H _ _ v u Q I z t ⟨_,l,_,r,rfl,rfl,.of j,q,a _ _ g2 o⟩ C
 .cases Za.mp B
  let⟨p,l,rfl,j,m⟩:=Rx.mp D
  rw[J,<-G] at j
  let⟨d,g1,g2⟩:=g
  let⟨r,q,o⟩:=Fk m g1
  show Zs7 b e f s n w.H _ _ v u Q I z t ⟨_,l,_,r,rfl,rfl,j,q,a _ _ g2 o⟩ C
 .cases Za.mp B;cases Zk.mp D
  let⟨g0,c,g1,g2⟩:=g
  show Yf7 b e f s n w.H _ _ v u Q I z t ⟨_,_,c,rfl,rfl,g0,g1,a _ _ g2 (Zk.mpr rfl)⟩ C
 .exact g.elim
def Yb3:SlR X (fun x lo hi H Q=>∃z,x= .str z/\z.length<=sizeLine/\Q (.str (Txt.slice z lo hi)) H):=by
 intro b s f H x v m g lo hi n Q I o y p e h
 let⟨z,rfl,r,q⟩:=h
 let⟨t,rfl⟩:=o
 have a:∀l u:Option (Int×Tok),l.map (·.1)=lo->u.map (·.1)=hi->m=partValue l->g=partValue u->⇑X (getItem (.str z t) (.ref n)) (EP X b f Q) X.xe s:=by
  intro l u E D C B
  subst E D C B
  refine wpAny_getItem_str_slice (l:=l) (u:=u) (st:=none) y rfl ?_
  show post_val_or_str ⟨ni (Txt.slice_le z _ _) r,fun G k=>⟨.str (Txt.slice z _ _),H,I.tok _,⟨_,rfl⟩,q⟩⟩
 refine⟨"str",_,PySem.F.slot_str_getitem.lookup,typeIs_str _ _ _,?_⟩
 cases p with
 | none=>
  cases e with
  | none=>show a none none rfl rfl rfl rfl
  | int j c=>show a none (some (j,c)) rfl rfl rfl rfl
 | int i d=>
  cases e with
  | none=>show a (some (i,d)) none rfl rfl rfl rfl
  | int j c=>show a (some (i,d)) (some (j,c)) rfl rfl rfl rfl
def rSl(w0:Vw):V->Option Int->Option Int->Hp->VK->Prop:=fun x c d H Q=>∃w M a b,w.H=H/\w.K=w0.K/\RS w M/\RD w a x/\slD a c d M b/\Aft w b Q
def Zn2(B:X.K=w0.K):SlR X (rSl w0):=by
 intro b s e H x v m k z A n Q I o u r q h
 let⟨w,M,E,F,rfl,C,R,t,g,a⟩:=h
 unfold slD at g
 split at g
 .cases Zk.mp t
  show Yb3 b s e w.H _ v m k _ _ n Q I o u r q ⟨_,rfl,g.1,a _ w _ M (Ext.refl w) R (Zk.mpr rfl) g.2⟩
 .let⟨_,rfl⟩:=Ze.mp t
  let⟨D,g1,g2⟩:=g
  let⟨_,l,d,c,_⟩:=R.listL g1
  rw[C,<-B] at d
  refine Y47 b s e w.H _ v m k _ _ n Q I o u r q ⟨_,l,rfl,d,fun p y=>?_⟩
  let⟨j,i,f⟩:=Ym R y (Z66 (lo:=z) (hi:=A) c)
  show a _ _ _ _ j i f g2
 .let⟨p,l,rfl,d,c⟩:=Yb.mp t
  refine Ye7 b s e w.H _ v m k _ _ n Q I o u r q ⟨_,l,rfl,.of d,by rw[c.length];show g.1,fun p y=>?_⟩
  let⟨j,i,f⟩:=Qj R y (Z66 (lo:=z) (hi:=A) c)
  show a _ _ _ _ j i f g.2
 .exact g.elim
def rC(w0:Vw)(g:LD->Z1->DK->Prop):LV->Hp->VK->Prop:=fun c H Q=>∃w M a b,w.H=H/\w.K=w0.K/\RS w M/\RDs w a c/\g a M b/\Aft w b Q
def bfOf:Bf->Str×Uf
 | .len=>("len",.builtin "len") | .isinst=>("isinstance",.builtin "isinstance")
 | .list1=>("list",.type "list") | .tuple1=>("tuple",.type "tuple") | .dict1=>("dict",.type "dict") | .sortedL=>("sorted",.builtin "sorted")
def rds1{w:Vw}{d:D}{xs:LV}(h:RDs w [d] xs):∃v,xs=[v]/\RD w d v:=by
 unfold RDs at h
 let⟨v,r,rfl,b,a⟩:=h
 unfold RDs at a
 subst a
 show⟨v,rfl,b⟩
def rds2{w:Vw}{d e:D}{xs:LV}(h:RDs w [d,e] xs):∃v u,xs=[v,u]/\RD w d v/\RD w e u:=by
 unfold RDs at h
 let⟨v,r,rfl,c,b⟩:=h
 let⟨u,rfl,a⟩:=rds1 b
 show⟨v,u,rfl,c,a⟩
def rds0{w:Vw}{xs:LV}(h:RDs w [] xs):xs=[]:=by unfold RDs at h;show h
def Ze7{w:Vw}:∀{b:List Uh} {vs:LV},RDs w (b.map D.cls) vs->vs=b.map V.ref
 | [],vs,h=>rds0 h
 | a::r,vs,h=>by
  rw[Ch] at h
  unfold RDs at h
  let⟨v,c,rfl,e,d⟩:=h
  rw[Xf.mp e,Ze7 d]
  rfl
def Yk1(K:Ac):LV->Hp->VK->Prop:=fun d H Q=>∃(e C a:Uh) (f:List (Str×V)) (p:Uh) (c:List Uh) (b:Bool),d=[.ref e,.ref p]/\H e=some (XO e (.ref C) (some a))/\H a=some (.xd f)/\ExcIs K C/\H p=some (.tup (c.map V.ref))/\PySem.W.kitAny K (.ref C) (c.map Value.ref)=some b/\Q (.bl b) H
def Vq:∀{b:List Uh} {us:LW},Vals (b.map V.ref) us->us=b.map Value.ref
 | [],us,h=>by cases h;rfl
 | a::r,us,h=>by
  cases h with
  | cons d c=>
   obtain rfl:_=Value.ref a:=d
   rw[Vq c]
   rfl
def Zf8:W2 X (.builtin "isinstance") (Yk1 X.K):=by
 intro a s w H x y Q I r h
 let⟨e,C,M,L,p,N,b,rfl,m,o,S,l,k,q⟩:=h
 let⟨u,v,rfl,f,d⟩:=Z48 r
 obtain rfl:u=Value.ref e:=f
 obtain rfl:v=Value.ref p:=d
 let⟨B,D,F,J,_⟩:=N5 I m o
 let⟨j,g,⟨⟨E,i,t,A⟩,g1,g2,n,g3⟩,G⟩:=I.tuple (.of l)
 cases Vq g
 dsimp only at g2 g3
 subst g2 g3
 show PySem.W.kia_tup (Ee S) I.kIn J g1 k (fun z=>nomatch z) fun c=>⟨.bl b,H,I.tok c,rfl,q⟩
def Qq{w:Vw}:∀{ns:List Int} {vs:LV},RDs w (ns.map .int) vs->vs=ns.map V.int
 | [],vs,h=>rds0 h
 | n::ns,vs,h=>by
  rw[Ch] at h
  unfold RDs at h
  let⟨v,r,rfl,b,a⟩:=h
  cases Za.mp b
  rw[Qq a];rfl
def Ya1{K:Ac}{w:Vw}{d:D}{x:V}{t:String}(R:RS w M)(r:RD w d x)(h:tyD M d=some t):TyOf K w.H x (.type t):=by
 unfold tyD at h
 split at h
 .cases h;cases Zg.mp r;show .non
 .cases h;cases X4.mp r;show .bl _
 .cases h;cases Za.mp r;show .int _
 .cases h;cases Zk.mp r;show .str _
 .cases h;let⟨a,b,rfl,q,_⟩:=Yb.mp r;show .tup q
 .let⟨_,rfl⟩:=Ze.mp r
  split at h
  .rename_i e;cases h;let⟨b,q,_⟩:=R.cell _ _ e;show .lst q
  .cases h
  .rename_i e;cases h;let⟨b,q,_⟩:=R.cell _ _ e;show .dK q
  .cases h
  .cases h
 .cases h
def Bt:W2 X (.type "dict") (fun xs H Q=>∃a kvs,xs=[V.ref a]/\H a=some (.dK kvs)/\∀p,H p=none->Q (.ref p) (upd H p (.dK kvs))):=by
 intro b s g H xs i Q I r h
 let⟨a,kvs,rfl,e,q⟩:=h
 let⟨u,rfl,c⟩:=Vs r
 cases c
 show Zo0 I (.inl e) fun p j d f=>⟨.ref p,_,f,rfl,q p d⟩
def Cz{w:Vw}:∀{ps:KQ9} {vs:LV},RDs w (Yk ps) vs->∃qs,Jy w.K w.H vs qs/\RKV w ps qs
 | [],vs,h=>by
  cases vs with
  | nil=>show⟨[],trivial,by unfold RKV;rfl⟩
  | cons _ _=>have:=h.length;simp[Yk] at this
 | p::ps,vs,h=>by
  change RDs w (D.tup [kD p.1,p.2]::Yk ps) vs at h
  unfold RDs at h
  let⟨v,o,rfl,j,g⟩:=h
  let⟨t,q,rfl,l,k⟩:=Yb.mp j
  let⟨d,b,rfl,a,f⟩:=rds2 k
  let⟨qs,n,m⟩:=Cz g
  have e:d=kV p.1:=by
   cases c:p.1 with
   | inl i=>rw[c] at a;show Za.mp a
   | inr x=>rw[c] at a;show Zk.mp a
  subst e
  show⟨(p.1,b)::qs,⟨⟨t,rfl,.of l⟩,n⟩,by unfold RKV;show⟨b,qs,rfl,f,m⟩⟩
def N8{w:Vw}:∀{ps:KQ9} {qs:List (Key×V)} {a:KQ9} {vs:List (Key×V)},RKV w ps qs->RKV w a vs->RKV w (ps.foldl (fun m p=>putD m p.1 p.2) a) (qs.foldl (fun m p=>putK m p.1 p.2) vs)
 | [],qs,a,vs,h,g=>by unfold RKV at h;subst h;show g
 | p::ps,qs,a,vs,h,g=>by
  unfold RKV at h
  let⟨v,r,rfl,c,b⟩:=h
  rw[Li,Li]
  show N8 (ps:=ps) (qs:=r) b (RKV.put (k:=p.1) c g)
def Ot:Bf->Bool
 | .dict1=>false
 | _=>true
def Ep{w:Vw}:∀ns:List Int,RDs w (ns.map .int) (ns.map V.int)
 | []=>RDs.nil w
 | n::ns=>RDs.cons (Za.mpr rfl) (Ep ns)
def Zi6(B:X.K=w0.K)(b:Bf)(Y:X.calm=true\/Ot b=true):W2 X (bfOf b).2 (rC w0 (bfD w0.K b)):=by
 intro c s j H D k Q I r h
 let⟨w,M,ds,QD,rfl,G,R,C,g,a⟩:=h
 cases b with
 | len=>
  let⟨x,rfl,g2⟩:=X9 g;clear g;have g:=g2
  cases x with
  | ref n=>
   let⟨v,rfl,i⟩:=rds1 C
   let⟨_,rfl⟩:=Ze.mp i
   rcases g with⟨D,g1,g2⟩ | ⟨D,g1,g2⟩
   .let⟨_,f,d,e,_⟩:=R.listL g1
    rw[G,<-B] at d
    show Sm c s j w.H _ k Q I r ⟨_,f,rfl,.inl d,a _ w _ M (Ext.refl w) R (Za.mpr (by rw[e.length])) g2⟩
   .let⟨_,f,d,e⟩:=R.dict g1
    show Zg6 c s j w.H _ k Q I r ⟨_,f,rfl,d,a _ w _ M (Ext.refl w) R (Za.mpr (by rw[e.length])) g2⟩
  | tup l=>
   let⟨v,rfl,i⟩:=rds1 C
   let⟨p,f,rfl,d,e⟩:=Yb.mp i
   show Sm c s j w.H _ k Q I r ⟨_,f,rfl,.inr (.of d),a _ w _ M (Ext.refl w) R (Za.mpr (by rw[e.length])) g⟩
  | str z=>
   let⟨v,rfl,i⟩:=rds1 C
   cases Zk.mp i
   show Gy c s j w.H _ k Q I r ⟨_,rfl,g.1,a _ w _ M (Ext.refl w) R (Za.mpr rfl) g.2⟩
  | _=>show Dk g
 | isinst=>
  let⟨x,y,rfl,g2⟩:=Z55 g;clear g;have g:=g2
  let⟨v,u,rfl,i,J⟩:=rds2 C
  unfold isD at g
  split at g
  .let⟨b,g1,g2,g3⟩:=g
   let⟨rfl,d,E,e,O⟩:=Q5.mp i
   cases Xf.mp J
   rw[<-B] at g1 g2
   show B5 c s j w.H _ k Q I r ⟨_,_,_,_,_,_,b,rfl,d,e,g1,fun u L=>L,g2,a _ w _ M (Ext.refl w) R (X4.mpr rfl) g3⟩
  .let⟨b,g1,g2,g3⟩:=g
   let⟨rfl,d,E,e,O⟩:=Q5.mp i
   cases Y42.mp J
   rw[<-B] at g1 g2
   show B5 c s j w.H _ k Q I r ⟨_,_,_,_,_,_,b,rfl,d,e,g1,fun u L=>L,g2,a _ w _ M (Ext.refl w) R (X4.mpr rfl) g3⟩
  .let⟨as,b,rfl,g1,g2,g3⟩:=g
   let⟨rfl,d,E,e,O⟩:=Q5.mp i
   let⟨p,f,rfl,V,U⟩:=Yb.mp J
   cases Ze7 U
   rw[<-B] at g1 g2
   show Zf8 c s j w.H _ k Q I r ⟨_,_,_,_,_,_,b,rfl,d,e,g1,V,g2,a _ w _ M (Ext.refl w) R (X4.mpr rfl) g3⟩
  .let⟨t,b,g1,g2,g3⟩:=g
   cases Y42.mp J
   rw[<-B] at g2
   show Zp2 c s j w.H _ k Q I r ⟨_,_,_,b,rfl,Ya1 R i g1,g2,a _ w _ M (Ext.refl w) R (X4.mpr rfl) g3⟩
  .exact g.elim
 | list1=>
  let⟨x,rfl,g2⟩:=X9 g;clear g;have g:=g2
  let⟨v,rfl,i⟩:=rds1 C
  let⟨D,g1,g2⟩:=g
  have:∃p f,v= .ref p/\(SqL X.K w.H p f\/SqT X.K w.H p f)/\RDs w D f:=by
   rw[B,<-G]
   unfold B0 at g1
   split at g1
   .let⟨_,rfl⟩:=Ze.mp i
    let⟨_,f,d,e,_⟩:=R.listL g1
    show⟨_,f,rfl,.inl d,e⟩
   .cases g1
    let⟨p,f,rfl,d,e⟩:=Yb.mp i
    show⟨_,f,rfl,.inr (.of d),e⟩
   .cases g1
    let⟨p,f,rfl,d,e⟩:=Rx.mp i
    show⟨_,f,rfl,.inr d,e⟩
   .cases g1
  let⟨p,f,rfl,d,e⟩:=this
  refine G3 c s j w.H _ k Q I r ⟨p,f,rfl,d,fun l A=>?_⟩
  let⟨q,o,m⟩:=Ym R A e
  show a _ _ _ _ q o m g2
 | tuple1=>
  let⟨x,rfl,g2⟩:=X9 g;clear g;have g:=g2
  let⟨v,rfl,i⟩:=rds1 C
  split at g
  .let⟨p,f,rfl,d,e⟩:=Yb.mp i
   show V9 c s j w.H _ k Q I r ⟨_,f,rfl,.inr ⟨.of d,a _ _ _ _ (Ext.refl _) R i g⟩⟩
  let⟨n,rfl,g2⟩:=Yq g;clear g;have g:=g2
  let⟨_,rfl⟩:=Ze.mp i
  let⟨D,g1,g2⟩:=g
  let⟨_,f,d,e,_⟩:=R.listL g1
  rw[G,<-B] at d
  refine V9 c s j w.H _ k Q I r ⟨_,f,rfl,.inl ⟨d,fun l A=>?_⟩⟩
  let⟨q,o,m⟩:=Qj R A e
  show a _ _ _ _ q o m g2
 | dict1=>
  let⟨x,rfl,g2⟩:=X9 g;clear g;have g:=g2
  let⟨n,rfl,g2⟩:=Yq g;clear g;have g:=g2
  let⟨v,rfl,i⟩:=rds1 C
  let⟨_,rfl⟩:=Ze.mp i
  rcases g with⟨D,g1,g2⟩ | ⟨ps,g1,g2,g3⟩
  .let⟨_,f,d,e⟩:=R.dict g1
   refine Bt c s j w.H _ k Q I r ⟨_,f,rfl,d,fun l A=>?_⟩
   let⟨q,o,m⟩:=Sw R A e
   show a _ _ _ _ q o m g2
  .let⟨_,f,d,e,_⟩:=R.listL g1
   let⟨T,N,S⟩:=Cz e
   have F:=e.length
   unfold Yk at F
   rw[Ag] at F
   rw[G,<-B] at d N
   refine Z35 (Y.resolve_right (by simp[Ot])) c s j w.H _ k Q I r ⟨_,f,T,rfl,d,N,'o',fun l A=>?_⟩
   let⟨q,o,m⟩:=Sw R A (N8 S (show RKV w [] [] by unfold RKV;rfl))
   show a _ _ _ _ q o m g3
 | sortedL=>
  let⟨x,rfl,g2⟩:=X9 g;clear g;have g:=g2
  let⟨n,rfl,g2⟩:=Yq g;clear g;have g:=g2
  let⟨v,rfl,i⟩:=rds1 C
  let⟨_,rfl⟩:=Ze.mp i
  let⟨W,g1,g2,g3⟩:=g
  let⟨_,f,d,e,_⟩:=R.listL g1
  cases Qq e
  rw[G,<-B] at d
  refine Je c s j w.H _ k Q I r ⟨_,W,rfl,d,g2,fun l P A h1 Z=>?_⟩
  let⟨q,o,m⟩:=Ym R A (Ep P)
  show a _ _ _ _ q o m (g3 P h1 Z)
end
def mtT:Mt->String
 | .upd=>"dict"
 | .append | .pop0 | .reverse | .index1 | .extend=>"list"
 | .get2=>"dict"
def mtN:Mt->Str
 | .upd=>"update"
 | .append=>"append" | .pop0=>"pop" | .reverse=>"reverse" | .index1=>"index" | .extend=>"extend" | .get2=>"get"
def mtI:Mt->String
 | .upd=>"dict.update"
 | .append=>"list.append" | .pop0=>"list.pop" | .reverse=>"list.reverse" | .index1=>"list.index" | .extend=>"list.extend" | .get2=>"dict.get"
def Ya7:∀m:Mt,PlainAttrs (mtT m)
 | .upd=>PySem.F.plainAttrs_dict
 | .append | .pop0 | .reverse | .index1 | .extend=>PySem.F.plainAttrs_list
 | .get2=>PySem.F.plainAttrs_dict
def Z94:∀m:Mt,Slot (mtT m) (mtN m) (mtI m)
 | .upd=>PySem.F.slot_dict_update
 | .append=>PySem.F.slot_list_append | .pop0=>PySem.F.slot_list_pop | .reverse=>PySem.F.slot_list_reverse | .index1=>PySem.F.slot_list_index | .extend=>PySem.F.slot_list_extend
 | .get2=>PySem.F.slot_dict_get
def Yb5:∀m:Mt,typeOf (.builtin (mtI m))=pure (.type "method_descriptor")
 | .upd=>PySem.F.type_dict_update
 | .append=>PySem.F.type_list_append | .pop0=>PySem.F.type_list_pop | .reverse=>PySem.F.type_list_reverse | .index1=>PySem.F.type_list_index | .extend=>PySem.F.type_list_extend
 | .get2=>PySem.F.type_dict_get
def rM(w0:Vw)(m:Mt):V->LV->Hp->VK->Prop:=fun x d H Q=>∃w M a b c,w.H=H/\w.K=w0.K/\RS w M/\RD w a x/\RDs w b d/\mtD m a b M c/\Aft w c Q
def Zv5{w:Vw}{d:D}{x:V}(R:RS w M)(r:RD w d x)(h:mtK m d M):tyV w.K (mtT m) x w.H:=by
 have L:∀{n:Nat},RD w (.ref n) x->(readL M n).isSome=true->tyV w.K "list" x w.H:=by
  intro n r h
  let⟨_,rfl⟩:=Ze.mp r
  let⟨c,e⟩:=Option.isSome_iff_exists.mp h
  let⟨_,a,b,_⟩:=R.listL e
  show .inl ⟨rfl,a,b⟩
 have K:∀{n:Nat},RD w (.ref n) x->(Zx M n).isSome=true->tyV w.K "dict" x w.H:=by
  intro n r h
  let⟨_,rfl⟩:=Ze.mp r
  let⟨c,e⟩:=Option.isSome_iff_exists.mp h
  let⟨_,a,b,_⟩:=R.dict e
  show .inr (.inr (.inl ⟨rfl,.inl ⟨a,b⟩⟩))
 rcases Be h with⟨z,rfl,h⟩ | ⟨n,rfl,h⟩
 .cases Zk.mp r
  cases m with
  | _=>left
 cases m with
 | upd=>show K r h
 | get2=>show K r h
 | _=>show L r h
def RDs.dropLast{w:Vw}{xs:LD}(r:RDs w xs vs):RDs w xs.dropLast vs.dropLast:=by
 rw[List.dropLast_eq_take,List.dropLast_eq_take,r.length]
 show r.take _
section
variable{X:Cx}{w0:Vw}
def Z69(h:X.K=w0.K)(m:Mt)(pins:PLO)(s:Ug)(b:L2.St)(H:Hp)(x:V)(xs:LV)(v:Uf)(us:LW)(Q:VK){w:Vw}{c:LD}{z:Str}(I:Inv X pins b w.H s)(e:RelV x v)(r:Vals xs us)(i:w.K=w0.K)(R:RS w M)(d:RD w (.str z) x)(f:RDs w c xs)(g:mtS m z c M QD)(a:Aft w QD Q):⇑X (call (.builtin (mtI m)) (v::us)) (EP X pins b Q) X.xe s:=by
 cases Zk.mp d
 cases m with
 | _=>show g.elim
def Zo4(hK:X.K=w0.K)(hu:X.A.units+64<cLine)(m:Mt):MtR X (mtI m) (rM w0 m):=by
 intro c s F H x xs v G Q I q r h
 let⟨w,M,dx,E,QD,rfl,e0,R,t,B,g,a⟩:=h
 rcases Be g with⟨z,rfl,g2⟩ | ⟨n,rfl,g2⟩
 .clear g;have g:=g2
  show Z69 hK m c s F w.H x xs v G Q I q r e0 R t B g a
 clear g;have g:=g2
 cases m with
 | append=>
  let⟨x,rfl,g2⟩:=X9 g;clear g;have g:=g2
  let⟨_,rfl⟩:=Ze.mp t
  let⟨y,rfl,f⟩:=rds1 B
  let⟨E,g1,g2,g3⟩:=g
  let⟨i,l,e,b⟩:=R.list g1
  let⟨o,p⟩:=Yw R i e (b.append (RDs.cons f (RDs.nil w)))
  show Q8 c s F w.H _ _ v G Q I q r ⟨_,l,y,rfl,rfl,e,by rw[b.length];show g2,a _ _ _ _ o p (Zg.mpr rfl) g3⟩
 | index1=>
  let⟨x,rfl,g2⟩:=X9 g;clear g;have g:=g2
  let⟨_,rfl⟩:=Ze.mp t
  let⟨y,rfl,f⟩:=rds1 B
  let⟨E,k,z,g1,L,fs,g2,g4,g5,g3⟩:=g
  let⟨i,l,e,b,_⟩:=R.listL g1
  rw[e0,<-hK] at e
  let⟨zv,O,N⟩:=b.get g2
  have fl:=(Z59 L f fs b).2
  have fz:∀{u:D} {j:Nat},E[j]?=some u->Y2 u=true:=fun{u j} h=>by
   rw[Hw] at fs
   show fs _ (As h)
  refine Zj9 c s F w.H _ _ v G Q I q r ⟨_,l,y,k,zv,rfl,rfl,e,Xs L f,fl,O,?_,?_,a _ w _ M (Ext.refl w) R (Za.mpr rfl) g3⟩
  .rw[Rt (fz g2) L N f];show g4
  .intro j u hj hu
   have C:j<E.length:=by rw[<-b.length];show(Ab.mp hu).1
   let⟨u',w1,w2⟩:=b.get (Aa C)
   rw[hu] at w1
   cases w1
   rw[Rt (fz (Aa C)) L w2 f]
   show g5 j _ hj (Aa C)
 | upd=>
  let⟨x,rfl,g2⟩:=X9 g;clear g;have g:=g2
  let⟨m,rfl,g2⟩:=Yq g;clear g;have g:=g2
  let⟨_,rfl⟩:=Ze.mp t
  let⟨y,rfl,f⟩:=rds1 B
  let⟨_,rfl⟩:=Ze.mp f
  let⟨Z,z0,g1,g2,g3,g4,g5⟩:=g
  let⟨i,l,e,b⟩:=R.dict g1
  let⟨hm,ws,q3,q4⟩:=R.dict g2
  let⟨o,p⟩:=Tl R i e (N8 q4 b)
  cases (show v=Value.ref _ from q)
  let⟨u,rfl,U⟩:=Vs r
  cases (show u=Value.ref _ from U)
  refine Zi7 I e q3 (fun z=>g3 (R.inj _ _ _ _ i hm rfl rfl z)) (by rw[b.length,q4.length];show g4) fun s' I'=>⟨.non,_,I',rfl,?_⟩
  show a _ _ _ _ o p (Zg.mpr rfl) g5
 | get2=>
  let⟨x,y,rfl,g2⟩:=Z55 g;clear g;have g:=g2
  let⟨_,rfl⟩:=Ze.mp t
  let⟨y,z,rfl,f,rz⟩:=rds2 B
  let⟨Z,k,g1,g2,g3⟩:=g
  let⟨i,l,e,b⟩:=R.dict g1
  let⟨u,u2,rfl,U,T⟩:=Z48 r
  cases (show v=Value.ref _ from q)
  cases Rk g2 f
  refine Ye5 'o' I (DGet.k (k:=k) e) U T fun w' s' I' S=>⟨_,w.H,I',S,?_⟩
  rcases b.val k with⟨Y,W⟩ | ⟨d',v',Y,W,n3⟩
  .rw[Y] at g3
   rw[W]
   show a _ w _ M (Ext.refl w) R rz g3
  .rw[Y] at g3
   rw[W]
   show a _ w _ M (Ext.refl w) R n3 g3
 | pop0=>
  let⟨rfl,g2⟩:=E1 g;clear g;have g:=g2
  let⟨_,rfl⟩:=Ze.mp t
  cases rds0 B
  let⟨E,d,g1,g2,g3⟩:=g
  let⟨i,l,e,b⟩:=R.list g1
  let⟨y,O,N⟩:=b.get g2
  let⟨o,p⟩:=Yw R i e b.dropLast
  show Yd2 c s F w.H _ _ v G Q I q r ⟨_,l,y,rfl,rfl,e,by rw[b.length];show O,a _ _ _ _ o p (N.ext o) g3⟩
 | reverse=>
  let⟨rfl,g2⟩:=E1 g;clear g;have g:=g2
  let⟨_,rfl⟩:=Ze.mp t
  cases rds0 B
  let⟨E,g1,g3⟩:=g
  let⟨i,l,e,b⟩:=R.list g1
  let⟨o,p⟩:=Yw R i e b.reverse
  show Z12 c s F w.H _ _ v G Q I q r ⟨_,l,rfl,rfl,e,a _ _ _ _ o p (Zg.mpr rfl) g3⟩
 | extend=>
  let⟨x,rfl,g2⟩:=X9 g;clear g;have g:=g2
  let⟨m2,rfl,g2⟩:=Yq g;clear g;have g:=g2
  let⟨_,rfl⟩:=Ze.mp t
  let⟨y,rfl,f⟩:=rds1 B
  let⟨_,rfl⟩:=Ze.mp f
  let⟨E,es,g1,g2,g4,g3⟩:=g
  let⟨i,l,e,b⟩:=R.list g1
  let⟨y0,P,V,J⟩:=R.list g2
  let⟨o,p⟩:=Yw R i e (b.append J)
  show Zg3 c s F w.H _ _ v G Q I q r ⟨_,_,l,P,rfl,rfl,e,V,by rw[b.length,J.length];show g4,a _ _ _ _ o p (Zg.mpr rfl) g3⟩
end
def gF(w0:Vw)(g:LQ):TG:=fun v f H Q=>∃w b M d e,StOk w0 w b M f H/\RD w d v/\tgD g d b e/\∀c a,REnv w a c->e a->Q c H
def gAll:LQ->TGs
 | []=>gNil
 | i::a=>Yf6 (Zb9 i) (gAll a)
def C1{w:Vw}{H:Hp}{Q:L2.St->Hp->Prop}{QD:DEnv->Prop}(k:∀h b,REnv w b h->QD b->Q h H):∀(g:LQ) {f:LD} {vs:LV} {c:L2.St} {a:DEnv},RDs w f vs->f.length=g.length->REnv w a c->
  QD ((g.zip f).foldl (fun c p=>c.set p.1 (some p.2)) a)->gAll g vs c H Q
 | [],f,vs,c,a,r,j,e,q=>by
  cases Hz.mp j
  cases rds0 r
  show⟨rfl,k _ _ e q⟩
 | i::g,f,vs,c,a,r,j,e,q=>by
  cases f with
  | nil=>simp at j
  | cons d f=>
   unfold RDs at r
   let⟨v,l,rfl,n,m⟩:=r
   refine⟨v,l,rfl,?_⟩
   change gAll g l (c.set i (some v)) H Q
   show C1 k g m ↥j (e.set i n) q
section
variable{X:Cx}{w0:Vw}
def PG.imp{t t':TG}(h:PG X e t)(k:∀v a H Q,t' v a H Q->t v a H Q):PG X e t':=fun b s a H v u Q I r q=>h b s a H v u Q I r (k v a H Q q)
def Yd6{i:Nat}(h:PG X e (Zb9 i)):PG X e (gF w0 [i]):=PG.imp h fun v b H Q zz76=>by let⟨w,a,M,d,c,S,r,g,k⟩:=zz76;show k _ _ (S.env.set i r) g
def Zx2{b:LQ}(l:2<=b.length)(h:PG X e (gTup X.K b.length (gAll b))):PG X e (gF w0 b):=PG.imp h fun v m H Q zy6=>by
 let⟨w,i,M,d,n,S,r,g,k⟩:=zy6
 unfold tgD at g
 split at g
 .simp at l
 .let⟨a,j,rfl,f,c⟩:=Yb.mp r
  let⟨g1,g2⟩:=g
  rw[S.heap] at f
  show⟨a,j,rfl,.of f,by rw[c.length];show g1,C1 k b c g1 S.env g2⟩
 .exact g.elim
end
structure Ck where
 N:LS
 sc:Scope
 FN:LS
 GN:LS
 BN:LS
 loops:Bool
 calm:Bool
 tries:Bool
 raises:LQ
 cells:Bool
 own:LS
 hs:LQ
def ownOf(scope:Scope):LS:=(scope.names.filter fun y=>y.2== .cell).map (·.1)
def Ck.vis(k:Ck)(x:Str):Bool:=(k.sc.names.lookup x==some .local || k.sc.names.lookup x==some .cell || k.sc.names.lookup x==some .free)&&!(x==("__debug__":Str))&&!(x==("__classdict__":Str))
def Ck.glob(k:Ck)(x:Str):Bool:=k.sc.names.lookup x==some .globalImplicit&&!(x==("__debug__":Str))&&!(x==("__name__":Str))
def Ck.loc(k:Ck)(x:Str):Bool:=k.sc.names.lookup x==some .local
def Ck.locC(k:Ck)(x:Str):Bool:=k.loc x || ((k.cells || k.own.contains x)&&k.sc.names.lookup x==some .cell)
def Jz:Expr->Bool
 | .Call (.Name x _) [] [] _=>x !=("super":Str)
 | _=>true
def Fb:Expr->Bool
 | .Slice ..=>false
 | _=>true
def Pa:Expr->Bool
 | .Set ..=>false
 | _=>true
def noStar:Expr->Bool
 | .Starred ..=>false
 | _=>true
def isIn:Cm->Bool
 | .isin | .notin=>true
 | _=>false
def Y38(k:Ck):LQ->List Expr->Bool
 | [],[]=>true
 | i::a,.Name x _::b=>k.N[i]?==some x&&k.locC x&&Y38 k a b
 | _,_=>false
def So(k:Ck)(a:LQ):Expr->Bool
 | .Name x _=>match a with
  | [i]=>k.N[i]?==some x&&k.locC x
  | _=>false
 | .Tuple b _ _=>k.calm&&decide (2<=a.length)&&Y38 k a b
 | _=>false
def isM1:Expr->Bool
 | .UnaryOp .USub (.Constant (.int j) _ _) _=>j==1
 | _=>false
def chkP:List (Str×Str)->List (Option Expr)->List Expr->Bool
 | [],[],[]=>true
 | p::d,some (.Constant (.str a) _ _)::e,.Constant (.str b) _ _::c=>p.1==a&&p.2==b&&chkP d e c
 | _,_,_=>false
def itTg:It->Expr->Bool
 | .enm _,.Tuple ..=>true
 | .enm _,_=>false
 | _,_=>true
def isS:E->Str->Bool
 | .str y,z=>y==z
 | _,_=>false
def Zt{c:Prop}[Decidable c]{F:c->Bool}(h:(if q:c then F q else false)=true):∃q:c,F q=true:=by
 by_cases q:c
 .rw[dif_pos q] at h;show⟨q,h⟩
 .rw[dif_neg q] at h;left
def Yz(a:Expr)(F:Str->Bool):Bool:=if q:a.ctorIdx=23 then Expr.Name.elim (motive_1:=fun _=>Bool) a q (fun x _=>F x) else false
def Zl{a:Expr}{F:Str->Bool}(h:Yz a F=true):∃x p,a= .Name x p/\F x=true:=by
 let⟨q,h⟩:=Zt h
 show Expr.Name.elim (motive_1:=fun a=>∀q:a.ctorIdx=23,Expr.Name.elim (motive_1:=fun _=>Bool) a q (fun x _=>F x)=true->∃x p,a= .Name x p/\F x=true) a q (fun x p _ h=>⟨x,p,rfl,h⟩) q h
def Qn(a:Expr)(F:Const->Bool):Bool:=if q:a.ctorIdx=19 then Expr.Constant.elim (motive_1:=fun _=>Bool) a q (fun v _ _=>F v) else false
def Xu{a:Expr}{F:Const->Bool}(h:Qn a F=true):∃v j p,a= .Constant v j p/\F v=true:=by
 let⟨q,h⟩:=Zt h
 show Expr.Constant.elim (motive_1:=fun a=>∀q:a.ctorIdx=19,Expr.Constant.elim (motive_1:=fun _=>Bool) a q (fun v _ _=>F v)=true->∃v j p,a= .Constant v j p/\F v=true) a q (fun v j p _ h=>⟨v,j,p,rfl,h⟩) q h
def Ye0(a:Expr)(F:Expr->Operator->Expr->Bool):Bool:=if q:a.ctorIdx=2 then Expr.BinOp.elim (motive_1:=fun _=>Bool) a q (fun l o r _=>F l o r) else false
def Zd8{a:Expr}{F:Expr->Operator->Expr->Bool}(h:Ye0 a F=true):∃l o r p,a= .BinOp l o r p/\F l o r=true:=by
 let⟨q,h⟩:=Zt h
 show Expr.BinOp.elim (motive_1:=fun a=>∀q:a.ctorIdx=2,Expr.BinOp.elim (motive_1:=fun _=>Bool) a q (fun l o r _=>F l o r)=true->∃l o r p,a= .BinOp l o r p/\F l o r=true) a q (fun l o r p _ h=>⟨l,o,r,p,rfl,h⟩) q h
def onUn(a:Expr)(F:UnaryOp->Expr->Bool):Bool:=if q:a.ctorIdx=3 then Expr.UnaryOp.elim (motive_1:=fun _=>Bool) a q (fun o l _=>F o l) else false
def B4{a:Expr}{F:UnaryOp->Expr->Bool}(h:onUn a F=true):∃o l p,a= .UnaryOp o l p/\F o l=true:=by
 let⟨q,h⟩:=Zt h
 show Expr.UnaryOp.elim (motive_1:=fun a=>∀q:a.ctorIdx=3,Expr.UnaryOp.elim (motive_1:=fun _=>Bool) a q (fun o l _=>F o l)=true->∃o l p,a= .UnaryOp o l p/\F o l=true) a q (fun o l p _ h=>⟨o,l,p,rfl,h⟩) q h
def Y58(a:Expr)(F:Expr->(List CmpOp)->(List Expr)->Bool):Bool:=if q:a.ctorIdx=15 then Expr.Compare.elim (motive_1:=fun _=>Bool) a q (fun l c b _=>F l c b) else false
def Gu{b:Expr}{F:Expr->(List CmpOp)->(List Expr)->Bool}(h:Y58 b F=true):∃l os a p,b= .Compare l os a p/\F l os a=true:=by
 let⟨q,h⟩:=Zt h
 show Expr.Compare.elim (motive_1:=fun b=>∀q:b.ctorIdx=15,Expr.Compare.elim (motive_1:=fun _=>Bool) b q (fun l os a _=>F l os a)=true->∃l os a p,b= .Compare l os a p/\F l os a=true) b q (fun l os a p _ h=>⟨l,os,a,p,rfl,h⟩) q h
def Zv1(a:Expr)(F:BoolOp->(List Expr)->Bool):Bool:=if q:a.ctorIdx=0 then Expr.BoolOp.elim (motive_1:=fun _=>Bool) a q (fun o b _=>F o b) else false
def Z34{b:Expr}{F:BoolOp->(List Expr)->Bool}(h:Zv1 b F=true):∃o a p,b= .BoolOp o a p/\F o a=true:=by
 let⟨q,h⟩:=Zt h
 show Expr.BoolOp.elim (motive_1:=fun b=>∀q:b.ctorIdx=0,Expr.BoolOp.elim (motive_1:=fun _=>Bool) b q (fun o a _=>F o a)=true->∃o a p,b= .BoolOp o a p/\F o a=true) b q (fun o a p _ h=>⟨o,a,p,rfl,h⟩) q h
def onIf(a:Expr)(F:Expr->Expr->Expr->Bool):Bool:=if q:a.ctorIdx=5 then Expr.IfExp.elim (motive_1:=fun _=>Bool) a q (fun x l r _=>F x l r) else false
def Zq6{a:Expr}{F:Expr->Expr->Expr->Bool}(h:onIf a F=true):∃x l r p,a= .IfExp x l r p/\F x l r=true:=by
 let⟨q,h⟩:=Zt h
 show Expr.IfExp.elim (motive_1:=fun a=>∀q:a.ctorIdx=5,Expr.IfExp.elim (motive_1:=fun _=>Bool) a q (fun x l r _=>F x l r)=true->∃x l r p,a= .IfExp x l r p/\F x l r=true) a q (fun x l r p _ h=>⟨x,l,r,p,rfl,h⟩) q h
def Yh0(a:Expr)(F:(List Expr)->Bool):Bool:=if q:a.ctorIdx=24 then Expr.List.elim (motive_1:=fun _=>Bool) a q (fun b _=>F b) else false
def Z43{b:Expr}{F:(List Expr)->Bool}(h:Yh0 b F=true):∃a p,b= .List a p/\F a=true:=by
 let⟨q,h⟩:=Zt h
 show Expr.List.elim (motive_1:=fun b=>∀q:b.ctorIdx=24,Expr.List.elim (motive_1:=fun _=>Bool) b q (fun a _=>F a)=true->∃a p,b= .List a p/\F a=true) b q (fun a p _ h=>⟨a,p,rfl,h⟩) q h
def Zx1(a:Expr)(F:(List Expr)->Bool):Bool:=if q:a.ctorIdx=25 then Expr.Tuple.elim (motive_1:=fun _=>Bool) a q (fun b _ _=>F b) else false
def Gp{b:Expr}{F:(List Expr)->Bool}(h:Zx1 b F=true):∃a j p,b= .Tuple a j p/\F a=true:=by
 let⟨q,h⟩:=Zt h
 show Expr.Tuple.elim (motive_1:=fun b=>∀q:b.ctorIdx=25,Expr.Tuple.elim (motive_1:=fun _=>Bool) b q (fun a _ _=>F a)=true->∃a j p,b= .Tuple a j p/\F a=true) b q (fun a j p _ h=>⟨a,j,p,rfl,h⟩) q h
def Y50(a:Expr)(F:(List (Option Expr))->(List Expr)->Bool):Bool:=if q:a.ctorIdx=6 then Expr.Dict.elim (motive_1:=fun _=>Bool) a q (fun c b _=>F c b) else false
def Gx{a:Expr}{F:(List (Option Expr))->(List Expr)->Bool}(h:Y50 a F=true):∃ks vs p,a= .Dict ks vs p/\F ks vs=true:=by
 let⟨q,h⟩:=Zt h
 show Expr.Dict.elim (motive_1:=fun a=>∀q:a.ctorIdx=6,Expr.Dict.elim (motive_1:=fun _=>Bool) a q (fun ks vs _=>F ks vs)=true->∃ks vs p,a= .Dict ks vs p/\F ks vs=true) a q (fun ks vs p _ h=>⟨ks,vs,p,rfl,h⟩) q h
def Zm5(a:Expr)(F:Expr->Expr->Bool):Bool:=if q:a.ctorIdx=21 then Expr.Subscript.elim (motive_1:=fun _=>Bool) a q (fun l r _=>F l r) else false
def Rv{a:Expr}{F:Expr->Expr->Bool}(h:Zm5 a F=true):∃l r p,a= .Subscript l r p/\F l r=true:=by
 let⟨q,h⟩:=Zt h
 show Expr.Subscript.elim (motive_1:=fun a=>∀q:a.ctorIdx=21,Expr.Subscript.elim (motive_1:=fun _=>Bool) a q (fun l r _=>F l r)=true->∃l r p,a= .Subscript l r p/\F l r=true) a q (fun l r p _ h=>⟨l,r,p,rfl,h⟩) q h
def Zx6(a:Expr)(F:(Option Expr)->(Option Expr)->(Option Expr)->Bool):Bool:=if q:a.ctorIdx=26 then Expr.Slice.elim (motive_1:=fun _=>Bool) a q (fun x y z _=>F x y z) else false
def Jd{a:Expr}{F:(Option Expr)->(Option Expr)->(Option Expr)->Bool}(h:Zx6 a F=true):∃x y z p,a= .Slice x y z p/\F x y z=true:=by
 let⟨q,h⟩:=Zt h
 show Expr.Slice.elim (motive_1:=fun a=>∀q:a.ctorIdx=26,Expr.Slice.elim (motive_1:=fun _=>Bool) a q (fun x y z _=>F x y z)=true->∃x y z p,a= .Slice x y z p/\F x y z=true) a q (fun x y z p _ h=>⟨x,y,z,p,rfl,h⟩) q h
def Xx(b:Expr)(F:Expr->(List Expr)->(List Keyword)->Pos->Bool):Bool:=if q:b.ctorIdx=16 then Expr.Call.elim (motive_1:=fun _=>Bool) b q (fun d c a p=>F d c a p) else false
def Zz{d:Expr}{F:Expr->(List Expr)->(List Keyword)->Pos->Bool}(h:Xx d F=true):∃c b a p,d= .Call c b a p/\F c b a p=true:=by
 let⟨q,h⟩:=Zt h
 show Expr.Call.elim (motive_1:=fun d=>∀q:d.ctorIdx=16,Expr.Call.elim (motive_1:=fun _=>Bool) d q (fun c b a p=>F c b a p)=true->∃c b a p,d= .Call c b a p/\F c b a p=true) d q (fun c b a p _ h=>⟨c,b,a,p,rfl,h⟩) q h
def Zf9(a:Expr)(F:Expr->Str->Pos->Bool):Bool:=if q:a.ctorIdx=20 then Expr.Attribute.elim (motive_1:=fun _=>Bool) a q (fun l g p=>F l g p) else false
def O4{a:Expr}{F:Expr->Str->Pos->Bool}(h:Zf9 a F=true):∃l g p,a= .Attribute l g p/\F l g p=true:=by
 let⟨q,h⟩:=Zt h
 show Expr.Attribute.elim (motive_1:=fun a=>∀q:a.ctorIdx=20,Expr.Attribute.elim (motive_1:=fun _=>Bool) a q (fun l g p=>F l g p)=true->∃l g p,a= .Attribute l g p/\F l g p=true) a q (fun l g p _ h=>⟨l,g,p,rfl,h⟩) q h
def onJS(a:Expr)(F:(List Expr)->Bool):Bool:=if q:a.ctorIdx=18 then Expr.JoinedStr.elim (motive_1:=fun _=>Bool) a q (fun b _=>F b) else false
def Zl8{a:Expr}{F:(List Expr)->Bool}(h:onJS a F=true):∃vs p,a= .JoinedStr vs p/\F vs=true:=by
 let⟨q,h⟩:=Zt h
 show Expr.JoinedStr.elim (motive_1:=fun a=>∀q:a.ctorIdx=18,Expr.JoinedStr.elim (motive_1:=fun _=>Bool) a q (fun vs _=>F vs)=true->∃vs p,a= .JoinedStr vs p/\F vs=true) a q (fun vs p _ h=>⟨vs,p,rfl,h⟩) q h
def onLC(c:Expr)(F:Expr->(List Comprehension)->Scope->Bool):Bool:=if q:c.ctorIdx=8 then Expr.ListComp.elim (motive_1:=fun _=>Bool) c q (fun d b a _=>F d b a) else false
def Os{c:Expr}{F:Expr->(List Comprehension)->Scope->Bool}(h:onLC c F=true):∃b a scope p,c= .ListComp b a scope p/\F b a scope=true:=by
 let⟨q,h⟩:=Zt h
 show Expr.ListComp.elim (motive_1:=fun c=>∀q:c.ctorIdx=8,Expr.ListComp.elim (motive_1:=fun _=>Bool) c q (fun b a scope _=>F b a scope)=true->∃b a scope p,c= .ListComp b a scope p/\F b a scope=true) c q (fun b a scope p _ h=>⟨b,a,scope,p,rfl,h⟩) q h
def on0{a:Type}(l:List a)(b:Bool):Bool:=match l with
 | []=>b
 | _::_=>false
def on1{a:Type}(l:List a)(F:a->Bool):Bool:=match l with
 | []=>false
 | x::r=>on0 r (F x)
def onC{a:Type}(l:List a)(F:a->List a->Bool):Bool:=match l with
 | []=>false
 | x::r=>F x r
def Y7{a:Type}{l:List a}{b:Bool}(h:on0 l b=true):l=[]/\b=true:=by
 cases l with
 | nil=>show⟨rfl,h⟩
 | cons _ _=>left
def Y4{a:Type}{l:List a}{F:a->Bool}(h:on1 l F=true):∃x,l=[x]/\F x=true:=by
 cases l with
 | nil=>left
 | cons x r=>let⟨rfl,h⟩:=Y7 h;show⟨x,rfl,h⟩
def Qd{a:Type}{l:List a}{F:a->List a->Bool}(h:onC l F=true):∃x r,l=x::r/\F x r=true:=by
 cases l with
 | nil=>left
 | cons x r=>show⟨x,r,rfl,h⟩
def noO{a:Type}(o:Option a)(b:Bool):Bool:=match o with
 | none=>b
 | some _=>false
def Nl{a:Type}{o:Option a}{b:Bool}(h:noO o b=true):o=none/\b=true:=by
 cases o with
 | none=>show⟨rfl,h⟩
 | some _=>left
def onZ(i:Int)(b:Bool):Bool:=match i with
 | .ofNat 0=>b
 | _=>false
def Ft{i:Int}{b:Bool}(h:onZ i b=true):i=0/\b=true:=by
 rcases i with(_ | n) | n
 .exact⟨rfl,h⟩
 .left
 .left
def soO{a:Type}(o:Option a)(F:a->Bool):Bool:=match o with
 | none=>false
 | some x=>F x
def Qm{a:Type}{o:Option a}{F:a->Bool}(h:soO o F=true):∃x,o=some x/\F x=true:=by
 cases o with
 | none=>left
 | some x=>show⟨x,rfl,h⟩
mutual
noncomputable def chkE(k:Ck):E->Expr->Bool
 | .var i,h=>Yz h fun x=>k.N[i]?==some x&&k.vis x
 | .int i,h=>Qn h fun v=>match v with
  | .int j=>i==j
  | _=>false
 | .bl b,h=>Qn h fun v=>match v with
  | .bool c=>b==c
  | _=>false
 | .non,h=>Qn h fun v=>match v with
  | .none=>true
  | _=>false
 | .str x,h=>Qn h fun v=>match v with
  | .str y=>x==y
  | _=>false
 | .ty t,h=>Yz h fun x=>x==Str.ofString (Yj t)&&k.glob x&&k.BN.contains x
 | .glb g,h=>Yz h fun x=>k.GN[g]?==some x&&k.glob x
 | .bin G a b,h=>Ye0 h fun l o r=>o==opOf G&&chkE k a l&&chkE k b r
 | .neg a,h=>onUn h fun o l=>o== .USub&&chkE k a l
 | .not a,h=>onUn h fun o l=>o== .Not&&chkE k a l
 | .cmp2 G J a b d,h=>Y58 h fun l I H=>onC I fun o I=>on1 I fun V=>onC H fun r H=>on1 H fun T=>o==cmOf G&&V==cmOf J&&(!isIn J || Pa T)&&chkE k a l&&chkE k b r&&chkE k d T
 | .cmp G a b,h=>Y58 h fun l I H=>on1 I fun o=>on1 H fun r=>o==cmOf G&&(!isIn G || Pa r)&&chkE k a l&&chkE k b r
 | .bop b w,h=>Zv1 h fun o s=>o==(if b then .And else .Or)&&W1 k w s
 | .ife t a b,h=>onIf h fun x l r=>chkE k t x&&chkE k a l&&chkE k b r&&noIf t
 | .lst w,h=>Yh0 h fun s=>W1 k w s
 | .tup w,h=>Zx1 h fun s=>W1 k w s
 | .dict0,h=>Y50 h fun O F=>on0 O (on0 F true)
 | .lkeys a,h=>Xx h fun B s p _=>Yz B fun x=>on0 p (on1 s fun l=>k.calm&&x==("list":Str)&&k.glob x&&k.BN.contains x&&noStar l&&chkE k a l)
 | .lrng a,h=>Xx h fun B s p _=>Yz B fun x=>on0 p (on1 s fun cc=>Xx cc fun Q M K _=>Yz Q fun y=>on0 K (on1 M fun l=>k.calm&&x==("list":Str)&&y==("range":Str)&&k.glob x&&k.glob y&&k.BN.contains x&&k.BN.contains y&&noStar l&&chkE k a l))
 | .dct a b,h=>Y50 h fun O F=>on1 O fun q=>soO q fun l=>on1 F fun r=>chkE k a l&&chkE k b r
 | .ix a b,h=>Zm5 h fun l r=>Fb r&&chkE k a l&&chkE k b r
 | .sl a X Y,h=>Zm5 h fun l r=>Zx6 r fun x y z=>noO z (chkE k a l&&chkO k X x&&chkO k Y y)
 | .fstr w,h=>onJS h fun F=>decide (2<=F.length)&&Jw k w F
 | .rev a,h=>Zm5 h fun l r=>Zx6 r fun x y z=>noO x (noO y (soO z fun z=>chkE k a l&&isM1 z))
 | .callH f w,h=>Xx h fun B s p _=>Yz B fun x=>on0 p (onC s fun l s=>k.hs.contains f&&k.FN[f]?==some x&&k.glob x&&W1 k w (l::s))
 | .call f w,h=>Xx h fun B s p _=>Yz B fun x=>on0 p (k.calm&&k.FN[f]?==some x&&k.glob x&&W1 k w s)
 | .bf b w,h=>Xx h fun B s p _=>Yz B fun x=>on0 p (onC s fun l s=>(k.calm || Ot b)&&x==(bfOf b).1&&k.glob x&&k.BN.contains x&&W1 k w (l::s))
 | .mt m o w,h=>Xx h fun B s p Z=>Zf9 B fun l W ap=>on0 p (W==mtN m&&Jz l&&ap.endLine==Z.line&&decide (s.length<30)&&chkE k o l&&W1 k w s)
 | .fld o f,h=>Zf9 h fun l g _=>f==g&&Jz l&&chkE k o l
 | .compK C P L d e,h=>onLC h fun R A n=>on1 A fun g=>match g with
  | ⟨t,u,D,S⟩=>on0 D (onZ S (k.calm&&Xw k.sc k.N C P n&&Pa u&&chkE k d u&&decide C.Nodup&&So {k with N:=C,sc:=Yr n k.sc,cells:=false,own:=ownOf n,tries:=false,raises:=[],hs:=[]} L t&&chkE {k with N:=C,sc:=Yr n k.sc,cells:=false,own:=ownOf n,tries:=false,raises:=[],hs:=[]} e R))
 | .comp C P L U cd e,h=>onLC h fun R A n=>on1 A fun g=>match g with
  | ⟨t,u,D,S⟩=>onZ S (k.calm&&Xw k.sc k.N C P n&&Pa u&&Y10 k U u&&decide C.Nodup&&
   So {k with N:=C,sc:=Yr n k.sc,cells:=false,own:=ownOf n,tries:=false,raises:=[],hs:=[]} L t&&chkC {k with N:=C,sc:=Yr n k.sc,cells:=false,own:=ownOf n,tries:=false,raises:=[],hs:=[]} cd D&&chkE {k with N:=C,sc:=Yr n k.sc,cells:=false,own:=ownOf n,tries:=false,raises:=[],hs:=[]} e R&&itTg U t)
noncomputable def Jw(k:Ck):Es->List Expr->Bool
 | .nil,a=>a.isEmpty
 | .cons e r,a=>match a with
  | []=>false
  | x::b=>(match x with
   | .FormattedValue v c none _=>c==(-1)&&chkE k e v
   | .Constant (.str z) _ _=>isS e z
   | _=>false)&&Jw k r b
noncomputable def W1(k:Ck):Es->List Expr->Bool
 | .nil,[]=>true
 | .cons e r,x::a=>chkE k e x&&noStar x&&W1 k r a
 | _,_=>false
noncomputable def chkO(k:Ck):Eo->Option Expr->Bool
 | .no,none=>true
 | .yes e,some x=>chkE k e x
 | _,_=>false
noncomputable def chkC(k:Ck):Eo->List Expr->Bool
 | .no,[]=>true
 | .yes e,[x]=>chkE k e x&&noIf e
 | _,_=>false
noncomputable def Y10(k:Ck):It->Expr->Bool
 | .seq e,x=>chkE k e x
 | .rng1 a,f=>Xx f fun d c b _=>Yz d fun x=>on0 b (on1 c fun l=>x==("range":Str)&&k.glob x&&k.BN.contains x&&noStar l&&chkE k a l)
 | .enm e,f=>Xx f fun d c b _=>Yz d fun x=>on0 b (on1 c fun l=>x==("enumerate":Str)&&k.glob x&&k.BN.contains x&&noStar l&&chkE k e l)
noncomputable def noIf:E->Bool
 | .ife _ _ _=>false
 | .not a=>noIf a
 | .bop _ b=>Bz b
 | _=>true
noncomputable def Bz:Es->Bool
 | .nil=>true
 | .cons e r=>noIf e&&Bz r
end
def Zl6(X:Cx)(x:Str)(sp:DSp):Prop:=
 ∃(d:Nat) (f:Uh) (e:FuncData) (c:LS) (g:LW) (b:LV) (h:LD) (a:DSp),FnOk X.prog X.w X.K X.mg X.base (CX1 X.prog X.w) d f e c (spF X.K a)/\Room d X.A/\X.mg x=↑f/\Dv X.K (.ref f)=true/\
  Y9 X.K e c g/\Vals b g/\(∀w:Vw,w.K=X.K->RDs w h b)/\∀i M Q Z,sp i M Q Z->a (i++h) M Q Z
def Zd1(X:Cx)(x:Str)(sp:DSp):Prop:=∃(b:Nat) (f:Uh) (c:FuncData) (a:LS),FnOkH X.prog X.w X.K X.mg X.base b f c a (spF X.K sp)/\RoomH b X.A/\X.mg x=↑f/\Dv X.K (.ref f)=true/\Y9 X.K c a []
def Ol(K:Ac):Sp:=fun b H Q _=>∃e C y,b=[V.ref e,y]/\H e=some (XN e (.ref C) none)/\ExcSet K C "row"/\∀a,H a=none->Q .non (upd (upd H a (.xd [("row",y)])) e (XN e (.ref C) (some a)))
def Zn8(X:Cx)(C:Uh):Prop:=∃(b:Nat) (f:Uh) (a:FuncData),ExcMk X.K C f/\FnOk X.prog X.w X.K X.mg X.base CX0 b f a ["self","row"] (Ol X.K)/\Room (b+1) X.A/\Y9 X.K a ["self","row"] [.none]/\Y9 X.K a ["self","row"] []/\ExcSet X.K C "row"
structure Good(c:Cfg)(k:Ck)(Z:DX)(w0:Vw)(X:Cx):Prop where
 hK:X.K=c.K
 wK:w0.K=c.K
 N:X.N=k.N
 nd:X.N.Nodup
 sc:X.env.scope=k.sc
 calm:k.calm=true->X.calm=true
 units:X.A.units+64<cLine
 fns:k.calm=true->∀(f:Nat) (x:Str) (sp:DSp),k.FN[f]?=some x->c.Γ[f]?=some sp->Zl6 X x sp
 flen:k.FN.length=c.Γ.length
 glb:∀(g:Nat) (x:Str) (d:D),k.GN[g]?=some x->c.G[g]?=some d->∃v u,X.mg x=some u/\RelV v u/\∀w:Vw,w.K=X.K->RD w d v
 blt:∀x,x∈k.BN->X.mg x=none
 exc:∃E,Jj (CX1 X.prog X.w) X E/\∀cls dd H',xkOf w0 Z cls dd H'->E cls dd H'
 stk:k.tries=true->X.stack=X.env::X.outer/\X.env.frame=some X.env.locals
 rai:∀g:Nat,k.raises.contains g=true->(∃E,Leaves X E/\∀cls dd H',xkOf w0 Z cls dd H'->E cls dd H')/\∀C:Uh,c.G[g]?=some (.cls C)->Zn8 X C
 po:k.loops=true->PassesOwn (model X.prog X.w) X.A X.env X.xe
 fnc:k.cells=true->∀x,X.fn x=true
 fno:∀x,x∈k.own->X.fn x=true
 fnh:∀(f:Nat) (x:Str) (sp:DSp),k.hs.contains f=true->k.FN[f]?=some x->c.Γ[f]?=some sp->Zd1 X x sp
def F2{w c:Vw}{a:Uf}{d:Option Uh}(x:Ext w c)(h:xkOf c Z a d H'):xkOf w Z a d H':=by
 let⟨C,l,r,e,b,M,k,j,i,g,f⟩:=h
 show⟨C,l,r,e,b,M,k,j,i,x.trans g,f⟩
def ttD(f:DE):DT:=fun c M Q=>f c M fun x a=>truD a x fun b=>Q b a
section
variable{c:Cfg}{k:Ck}{Z:DX}{w0:Vw}{X:Cx}
def Good.gl(G:Good c k Z w0 X){x:Str}(h:k.glob x=true):Gl X x/\(x==("__debug__":Str))=false/\x≠"__name__":=by
 unfold Ck.glob at h
 simp only[Bz9,beq_iff_eq,Bool.not_eq_true',beq_eq_false_iff_ne] at h
 refine⟨?_,↥h.1.2,h.2⟩
 unfold Gl Env.kindOf
 rw[G.sc];show h.1.1
def Good.vis(G:Good c k Z w0 X){x:Str}(h:k.vis x=true):Vis X.env.scope x/\(x==("__debug__":Str))=false/\(x==("__classdict__":Str))=false:=by
 unfold Ck.vis at h
 simp only[Bz9,beq_iff_eq,Bool.not_eq_true',Bool.or_eq_true] at h
 refine⟨?_,h.1.2,h.2⟩
 unfold Vis
 rw[G.sc]
 rcases h.1.1 with(q | q) | q
 .exact .inl q
 .exact .inr (.inl q)
 .exact .inr (.inr q)
def Good.locC(G:Good c k Z w0 X){x:Str}(h:k.locC x=true):Loc X.env.scope x/\(X.fn x=true\/X.env.scope.names.lookup x=some .local):=by
 unfold Ck.locC Ck.loc at h
 rw[Bool.or_eq_true,Bz9] at h
 rcases h with h | ⟨h1,h2⟩
 .have a:X.env.scope.names.lookup x=some .local:=by rw[G.sc];show La h
  show⟨.inl a,.inr a⟩
 .refine⟨.inr (by rw[G.sc];show La h2),.inl ?_⟩
  rw[Bool.or_eq_true,Io] at h1
  rcases h1 with z | z
  .exact G.fnc z x
  .exact G.fno x z
def Good.eK(G:Good c k Z w0 X):X.K=w0.K:=G.hK.trans G.wK.symm
def StOk.K{w w0:Vw}{a:DEnv}{M:Z1}{b:L2.St}{H:Hp}(S:StOk w0 w a M b H):w.K=w0.K:=S.ext.K
def Zu{d:L2.St}{w:Vw}{b:DEnv}{H:Hp}(S:StOk w0 w b M d H)(h:f b M QD)(a:Aft w QD Q):tF w0 f d H Q:=⟨w,b,M,QD,S,h,a⟩
def Rj{nm:Str}(h:Jz l=true):attributeBase l nm env (eval l env)=eval l env:=by
 cases l with
 | Call f b c p=>
  cases f with
  | Name id q=>
   cases b with
   | nil=>
    cases c with
    | nil=>show ng (by rw[show(id !=("super":Str))=true from h];rfl)
    | cons _ _=>rfl
   | cons _ _=>rfl
  | _=>rfl
 | _=>rfl
def Zp{x:Expr}{xs:List Expr}(h:noStar x=true):starEach (x::xs) env=(false,eval x env)::starEach xs env:=by
 cases x<;>first | rfl | cases h
def Yx{k:Ck}:∀(es:Es) (xs:List Expr),W1 k es xs=true->(starEach xs env).all (fun p=> !p.1)=true
 | .nil,[],_=>rfl
 | .nil,_::_,h=>absurd h Bf9
 | .cons e r,[],h=>absurd h Bf9
 | .cons e r,x::xs,h=>by
  change (_&&_)=true at h;simp only[Bz9] at h
  rw[Zp h.1.2]
  simp only[Iw,Bool.not_false,Bool.true_and]
  show Yx r xs h.2
def Vx(h:l.all (fun p=> !p.1)=true):(backTo pos l).any (·.1)=false:=by
 induction l with
 | nil=>rfl
 | cons p r a=>
  simp only[Iw,Bz9,Bool.not_eq_true'] at h
  show(p.1 || (backTo pos r).any (·.1))=false
  rw[h.1,a h.2];rfl
def Zp4(h:l.all (fun p=> !p.1)=true):(backTo pos l).all (fun x=> !x.1)=true:=by
 induction l with
 | nil=>rfl
 | cons p r a=>
  simp only[Iw,Bz9] at h
  show((!p.1)&&(backTo pos r).all (fun x=> !x.1))=true
  rw[h.1,a h.2];rfl
def Yk4{i:Expr}(G:Good c k Z w0 X)(h:PE X i (tF w0 f))(p:∀e,isTrue i X.env e=(do let v <-e;standAt i.pos;holding [v] (truthy v))):PT X i (tFT w0 (ttD f)):=by
 refine PT.imp (Zr7 h p) fun t H Q zz77=>?_
 let⟨w,j,M,u,S,g,a⟩:=zz77
 refine Zu S g fun v l d s x r o q=>?_
 let⟨b,n,m⟩:=Vl (K:=X.K) (by rw[x.K,S.K,G.eK]) r o q
 show⟨b,n,a b l s x r m⟩
def Z87(h:PT X j (Y69 (tF w0 f)))(n:∀e M QD,f e M QD->f e M fun d i=>(∃b,d= .bl b)/\QD d i):PT X j (tFT w0 (ttD f)):=by
 refine PT.imp h fun o H Q zz78=>?_
 let⟨w,e,M,QD,S,g,a⟩:=zz78
 refine Zu S (n _ _ _ g) fun v l d i x r m q=>?_
 let⟨⟨b,rfl⟩,q⟩:=q
 cases X4.mp m
 show⟨b,rfl,a b l i x r q⟩
def Z40{i:L2.St}{H:Hp}(h:tF w0 (fun b M QD=>l b M fun x m=>j b m fun y f=>g x y f QD) i H Q):tOp (rF w0 g) (tF w0 l) (tF w0 j) i H Q:=by
 let⟨w,b,M,QD,S,g0,a⟩:=h
 refine Zu S g0 fun x z v m e r p t=>?_
 refine Zu (S.next e r) t fun y n u f d q o s=>?_
 show⟨n,f,v,u,QD,rfl,(S.ext.trans e).trans d,q,p.ext d,o,s,a.ext (e.trans d)⟩
def Gh{o n:DE}{H:Hp}(h:tF w0 (fun d M QD=>o d M fun x p=>n d p fun y e=>g e x y fun b=>QD (.bl b) e) j H Q):tOp (rB w0 g) (tF w0 o) (tF w0 n) j H Q:=by
 let⟨w,d,M,QD,S,g0,a⟩:=h
 refine Zu S g0 fun x B A p i s r u=>?_
 refine Zu (S.next i s) u fun y l z e f m q t=>?_
 show⟨l,e,A,z,_,rfl,((S.ext.trans i).trans f).K,m,r.ext f,q,t,fun b v=>a _ l _ e (i.trans f) m (X4.mpr rfl) v⟩
def Rf{A v u:DE}{o:L2.St}{H:Hp}(h:tF w0 (fun d M QD=>A d M fun x C=>v d C fun y i=>g i x y fun b=>if b=true then u d i fun z j=>g' j y z fun b=>QD (.bl b) j else QD (.bl false) i) o H Q):Zd5 (rB w0 g) (rB w0 g') (tF w0 A) (tF w0 v) (tF w0 u) o H Q:=by
 let⟨w,d,M,QD,S,g0,a⟩:=h
 refine Zu S g0 fun x O N C f t F J=>?_
 refine Zu (S.next f t) J fun y q B i e n r I=>?_
 refine⟨q,i,N,B,_,rfl,((S.ext.trans f).trans e).K,n,F.ext e,r,I,fun b l=>⟨b,rfl,?_⟩⟩
 cases b with
 | false=>show a _ q _ i (f.trans e) n (X4.mpr rfl) l
 | true=>
  refine Zu ((S.next f t).next e n) l fun z p L j m s E G=>?_
  show⟨p,j,B,L,_,rfl,(((S.ext.trans f).trans e).trans m).K,s,r.ext m,E,G,fun b l=>a _ p _ j ((f.trans e).trans m) s (X4.mpr rfl) l⟩
def Y25{a:Expr}{i:TE}(o:PE X a i):PE X (.UnaryOp .Not a pos) (fun e H Q=>i e H fun x f=>∃b,TruV X.K x f b/\Q (.bl (!b)) f):=by
 intro d s e H Q I h
 refine UnaryOp_ (thn (o d s e H _ I h) fun v j zz79=>?_)
 let⟨x,f,q,l,n⟩:=zz79
 refine not_of (thn (Cy d j e f x v (fun b g=>Q (.bl (!b)) g) q l n) fun b r zz80=>by let⟨g,p,m⟩:=zz80;show⟨.bl (!b),g,p,rfl,m⟩)
def Y11(t:Ty):bootBuiltins (Str.ofString (Yj t))=some (.type (Yj t)):=by
 cases t
 .exact boot_int
 .exact boot_str
 .exact boot_bool
 .exact boot_list
 .exact boot_tuple
 .exact boot_dict
 .change bootBuiltins "ValueError"=some (.type "ValueError")
  decide+kernel
def E3:bootBuiltins "sorted"=some (.builtin "sorted"):='k'
def Y53(b:Bf):bootBuiltins (bfOf b).1=some (bfOf b).2:=by
 cases b<;>first | show PySem.boot_len | show boot_isinstance | show PyProof.Rows.boot_min | show PyProof.Rows.boot_max | show boot_list | show boot_tuple | show boot_dict | show boot_str | show E3 | show boot_int
end
def JOk(w1:Vw)(J:L2.It)(own:Own)(xs:LD):Prop:=∀w M,Ext w1 w->RS w M->Ou own xs M->∀i:Nat,
 (∀d,xs[i]?=some d->J.go i w.H/\∀x b,J.yld i w.H x b->∃a,a.H=b/\Ext w a/\RS a M/\RD a d x)/\(xs.length<=i->J.stop i w.H)
def iF(w0:Vw)(f:DEnv->Z1->(Own->LD->Z1->Prop)->Prop):TI:=fun h H R=>∃w a M e,StOk w0 w a M h H/\f a M e/\
 ∀J c b d g,Ext w c->RS c g->JOk c J b d->e b d g->R J c.H
section
variable{c:Cfg}{k:Ck}{Z:DX}{w0:Vw}{X:Cx}
def PI.imp{d it:Expr}{t t':TI}(h:PI X d it t)(q:∀a H R,t' a H R->t a H R):PI X d it t':=fun b s a H R I z=>h b s a H R I (q a H R z)
def Yf2{y l:Expr}(D:PE X l u):PI X y l (fun m H R=>u m H fun x f=>(∃a,x= .ref a/\(∃xs,SqL X.K f a xs)/\R (Itl X.K a) f)\/(∃a,x= .ref a/\(∃xs,SqT X.K f a xs)/\R (Itt X.K a) f)\/∃z,x= .str z/\R (Its z) f):=by
 intro g s m H R I h
 refine thn (D g s m H _ I h) fun v d zz81=>?_
 let⟨x,f,i,n,B⟩:=zz81
 have w:∀b∈[d.heap.objs.size],FpOk X g f b:=fun b E=>by
  have e:b=d.heap.objs.size:=by simpa using E
  subst e
  show i.fpOk (na _) (i.hok.fresh (na _))
 rcases B with⟨a,e,⟨xs,r⟩,q⟩ | ⟨a,e,⟨xs,r⟩,q⟩ | ⟨z,e,q⟩
 rotate_left 2
 .subst e
  let⟨t,rfl⟩:=n
  show Zo7 i q
 .subst e
  cases n
  let⟨j,A,p,C⟩:=i.list r
  refine wpAny_pyIter_list p.isList ?_
  show⟨d.heap.objs.size,[d.heap.objs.size],_,_,f,rfl,i.kept (t':=d.toks) fun b o e=>Ah _ e,Z70 a _,⟨_,Dn _ rfl,rfl,rfl⟩,w,q⟩
 .subst e
  cases n
  let⟨j,A,p,C⟩:=i.tuple r
  refine wpAny_pyIter_tuple (show d.heap.IsTuple a j.toArray from p) ?_
  show⟨d.heap.objs.size,[d.heap.objs.size],_,_,f,rfl,i.kept (t':=d.toks) fun b o e=>Ah _ e,Z27 a _,⟨_,Dn _ rfl,rfl,rfl⟩,w,q⟩
def Z60{y l:Expr}{p:TE}(E:PE X l p):PI X y l (fun n H R=>p n H fun x j=>∃a kvs,x= .ref a/\j a=some (.dK kvs)/\∀o,(∀B u,X.H₀ a≠some (.frz B u))->R (Itd a o) (upd j a (.frz o (.dK kvs)))):=by
 intro d s n H R I h
 refine thn (E d s n H _ I h) fun v g zz82=>?_
 let⟨x,j,w,A,a,kvs,e,r,q⟩:=zz82
 subst e
 cases A
 let⟨o,M,N,t,L,m,C⟩:=Zp8 w r
 let⟨K,z,J,i⟩:=Zb1 (m.hok a _ Zd) t
 let⟨_,D,_⟩:=Gs w.hok r
 refine wpAny_pyIter_dict D J ?_
 have f:upd j a (.frz o (.dK kvs)) g.heap.objs.size=none:=m.hok.fresh (na _)
 have G:∀b∈[g.heap.objs.size],FpOk X d (upd j a (.frz o (.dK kvs))) b:=fun b F=>by
  have e:b=g.heap.objs.size:=by simpa using F
  subst e
  show m.fpOk (na _) f
 rw[i]
 show⟨g.heap.objs.size,[g.heap.objs.size],_,_,_,rfl,m.kept (t':=g.toks) fun b o e=>Ah _ e,Z98 a _ t,⟨_,Dn _ rfl,rfl,rfl⟩,G,q o C⟩
def Zv2{w:Vw}:∀{a:KQ9} {vs:List (Key×V)} {i:Nat} {d:D},RKV w a vs->(Xz a)[i]?=some d->∃p,vs[i]?=some p/\RD w d (kV p.1)
 | [],vs,i,d,h,e=>by simp[Xz] at e
 |(k,x)::a,vs,i,d,h,e=>by
  unfold RKV at h
  let⟨v,r,rfl,f,b⟩:=h
  cases i with
  | zero=>
   cases e
   refine⟨(k,v),rfl,?_⟩
   cases k with
   | inl i=>show Za.mpr rfl
   | inr x=>show Zk.mpr rfl
  | succ i=>show Zv2 (i:=i) b e
def Cg{n:Nat}{xs:LD}{o:Obj}(t:n<w1.n)(h:w1.H (w1.μ n)=some (.frz o (.dK vs))):JOk w1 (Itd (w1.μ n) o) (.dct n) xs:=by
 intro w M x R a i
 let⟨s,a,rfl⟩:=a
 have q:=x.imm _ _ h rfl
 let⟨B,z,l,j⟩:=R.cell n _ a
 rw[x.μ n t,q] at l
 cases l
 refine⟨fun d e=>?_,fun b=>⟨vs,q,by rw[j.length];unfold Xz at b;rw[Ag] at b;show b⟩⟩
 let⟨p,g,r⟩:=Zv2 j e
 refine⟨⟨vs,p,q,g⟩,fun y C ⟨v,u⟩=>⟨w,v.symm,Ext.refl w,R,?_⟩⟩
 let⟨A,f,m⟩:=u vs q
 rw[g] at f
 cases f
 rw[m]
 show r
def Zk4{n:Nat}{xs:LD}(o:X.K=w1.K)(l:n<w1.n):JOk w1 (Itl X.K (w1.μ n)) (.lst n) xs:=by
 intro w M x R j i
 let⟨_,b,a,g,_⟩:=R.listL j
 rw[x.μ n l,x.K,<-o] at a
 refine⟨fun d e=>?_,fun m=>⟨b,a,by rw[g.length];show m⟩⟩
 let⟨v,f,h⟩:=g.get e
 refine⟨⟨b,v,a,f⟩,fun y r ⟨q,p⟩=>⟨w,q.symm,Ext.refl w,R,?_⟩⟩
 have:=p b a
 rw[f] at this
 cases this
 show h
def Zn3{n:Nat}{xs:LD}(q:X.K=w1.K)(o:n<w1.n):JOk w1 (Ite X.K (w1.μ n)) (.enm n) xs:=by
 intro w M x R f i
 let⟨C,f,rfl⟩:=f
 let⟨_,b,a,j,_⟩:=R.listL f
 rw[x.μ n o,x.K,<-q] at a
 refine⟨fun d e=>?_,fun g=>⟨b,a,by rw[j.length];unfold F5 at g;rw[List.length_mapIdx] at g;show g⟩⟩
 unfold F5 at e
 rw[Ds,Ho] at e
 let⟨d,e,rfl⟩:=e
 let⟨v,h,l⟩:=j.get e
 refine⟨⟨b,v,a,h⟩,fun y E zz85=>?_⟩
 let⟨p,u,m,t,s,r⟩:=zz85
 have:=r b a
 rw[h] at this
 cases this
 subst t s
 let⟨B,A,z⟩:=Qj R m (RDs.cons (Za.mpr (rfl:V.int (i:Int)=_)) (RDs.cons l (RDs.nil w)))
 show⟨_,rfl,B,A,z⟩
def Y05{z:Str}:JOk w1 (Its z) .no (Zh3 z):=by
 intro w M x R j i
 have a:(Zh3 z).length=z.length:=by unfold Zh3;rw[Ag];simp[Str.length]
 refine⟨fun d e=>⟨?_,fun y l ⟨g,c,f,b⟩=>?_⟩,fun h=>by rw[a] at h;show h⟩
 .have:=(Ab.mp e).1
  rw[a] at this
  show this
 .unfold Zh3 at e
  rw[Aw,f] at e
  cases e
  show⟨w,g.symm,Ext.refl w,R,by rw[b];show Zk.mpr rfl⟩
def Za2{a:Uh}{xs:LD}(m:X.K=w1.K)(h:SqT w1.K w1.H a vs)(r:RDs w1 xs vs):JOk w1 (Itt X.K a) .no xs:=by
 intro w M x R p i
 have b:=x.sqT h
 rw[x.K,<-m] at b
 have g:=r.ext x
 refine⟨fun d e=>?_,fun l=>⟨vs,b,by rw[g.length];show l⟩⟩
 let⟨v,f,j⟩:=g.get e
 refine⟨⟨vs,v,b,f⟩,fun y q ⟨o,n⟩=>⟨w,o.symm,Ext.refl w,R,?_⟩⟩
 have:=n vs b
 rw[f] at this
 cases this
 show j
def Y35{w1:Vw}{lo:Int}{n:Nat}:JOk w1 (Itr lo n) .no (Su lo n):=by
 intro w M x R p i
 unfold Su
 refine⟨fun d e=>?_,fun a=>?_⟩
 .rw[Aw,Ho] at e
  let⟨j,l,rfl⟩:=e
  let⟨h,g⟩:=Ab.mp l
  have b:j=i:=by simpa using g.symm
  subst b
  have f:j<n:=by simpa using h
  show⟨f,fun y q zz88=>by let⟨o,m⟩:=zz88;show⟨w,o.symm,Ext.refl w,R,by rw[m];show Za.mpr rfl⟩⟩
 .have:n<=i:=by simpa using a
  show this
def Z95{b:LS}{a:List (Str×Uh)}{H:Hp}:(cxC X b scope a C fp pins s H).env.scope=Yr scope X.env.scope:=rfl
def Good.block(G:Good c k Z w0 X)(j:k.calm=true){i:LS}(p:i.Nodup)(v:List (Str×Uh))(C:Uh)(fp:List Uh)(pins:PLO)(s:Ug)(H:Hp):
  Good c {k with N:=i,sc:=Yr scope k.sc,cells:=false,own:=ownOf scope,tries:=false,raises:=[],hs:=[]} noX w0 (cxC X i scope v C fp pins s H) where
 hK:=G.hK
 wK:=G.wK
 N:=rfl
 nd:=p
 sc:=by rw[Z95,G.sc]
 calm:=fun _=>G.calm j
 units:=G.units
 fns:=fun _ f x l e d=>by
  let⟨n,f,q,m,r,g,t,a,h⟩:=G.fns j f x l e d
  show⟨n,f,q,m,r,g,t,a,h⟩
 flen:=G.flen
 glb:=G.glb
 blt:=G.blt
 exc:=⟨E0,fun _ _ _ _ _ _ _ h=>by
  let⟨_,_,_,_,_,_,_,_,_,_,_,_,_,_,_,h⟩:=h
  show h.elim,fun u w z h=>by
  let⟨_,_,_,_,_,_,_,_,_,_,_,_,_,h⟩:=h
  show h.elim⟩
 stk:=fun h=>by cases h
 rai:=fun _ h=>absurd h Bf9
 po:=fun _=>On
 fnc:=fun h=>by cases h
 fnh:=fun _ _ _ h=>absurd h Bf9
 fno:=fun x b=>by
  show(scope.names.any fun y=>y.1==x&&y.2==Ig)=true
  have b:x∈(scope.names.filter fun y=>y.2==Ig).map (·.1):=b
  let⟨y,o,rfl⟩:=De.mp b
  let⟨e,d⟩:=Hr.mp o
  rw[Kt]
  show⟨y,e,by rw[beq_self_eq_true,Bool.true_and];show d⟩
def Good.tgs(G:Good c k Z w0 X):∀(b:LQ) (es:List Expr),Y38 k b es=true->PGs X es (gAll b)/\(assignEach es X.env).length=b.length/\(assignEach es X.env).findIdx? (·.1)=none:=by
 have d:∀(i:Nat) (x:Str) (a:Pos),k.N[i]?=some x->k.locC x=true->PG X (.Name x a) (Zb9 i):=fun i x a g f=>by
  let⟨l,j⟩:=G.locC f
  show Z44 G.nd (by rw[G.N];show g) l j
 intro b
 induction b with
 | nil=>
  intro es h
  cases es with
  | nil=>show⟨Y07,rfl,rfl⟩
  | cons e es=>left
 | cons i b m=>
  intro es h
  cases es with
  | nil=>left
  | cons e es=>
   cases e with
   | Name x a=>
    change (_&&_)=true at h
    simp only[Bz9,beq_iff_eq] at h
    let⟨g,f,n⟩:=m es h.2
    refine⟨Zl5 (d i x a h.1.1 h.1.2) g rfl,?_,?_⟩
    .show(assignEach es X.env).length+1=b.length+1
     rw[f]
    .show((false,_)::assignEach es X.env).findIdx? (·.1)=none
     rw[List.findIdx?_cons,n]
     rfl
   | _=>left
def Good.tgt(G:Good c k Z w0 X):∀(d:LQ) (e:Expr),So k d e=true->PG X e (gF w0 d):=by
 have f:∀(i:Nat) (x:Str) (a:Pos),k.N[i]?=some x->k.locC x=true->PG X (.Name x a) (Zb9 i):=fun i x a j g=>by
  let⟨m,l⟩:=G.locC g
  show Z44 G.nd (by rw[G.N];show j) m l
 have b:=G.tgs
 intro d e h
 cases e with
 | Name x a=>
  match d,h with
  | [i],h=>
   change (_&&_)=true at h
   simp only[Bz9,beq_iff_eq] at h
   show Yd6 (f _ x a h.1 h.2)
  | [],h=>left
  | _::_::_,h=>left
 | Tuple o p a=>
  change (_&&_)=true at h
  simp only[Bz9,decide_eq_true_eq] at h
  let⟨j,g,n⟩:=b d o h.2
  show Zx2 h.1.2 (Yh6 (G.calm h.1.1) j g n)
 | _=>left
def Zc2{w:Vw}{a:DEnv}(h:REnv w a f):REnv w (capD js a) (Tx js f):=by
 refine⟨by unfold capD Tx;simp,fun i d e=>?_⟩
 unfold capD at e
 unfold Tx
 rw[Aw] at e ⊢
 cases g:js[i]? with
 | none=>rw[g] at e;cases e
 | some o=>
  rw[g] at e
  simp only[Option.map_some,Option.some.injEq] at e ⊢
  cases o with
  | none=>cases e
  | some j=>
   simp only[Go] at e ⊢
   cases b:a[j]? with
   | none=>rw[b] at e;cases e
   | some z=>
    rw[b] at e
    have n:z=some d:=e
    subst n
    let⟨v,m,l⟩:=h.2 j d b
    show⟨v,by rw[m];rfl,l⟩
def El{own:Own}{xs:LD}{cd:DT}{t:DEnv}(e0:Ext w0 w1)(hH:w1.H=H1)(R1:RS w1 l)(env:REnv w1 t σ)(jk:JOk w1 J own xs)
  (h:Ri own xs U cd el l.length xs t (l++[.lst []]) QD) (a:Aft w1 (fun d M=>d= .ref l.length/\QD M) Q):∀p,H1 p=none->∃W:Nat->Nat->L2.St->Hp->Prop,(∃m,W 0 m σ (upd H1 p (.lst [])))/\
   ∀i m f s,W i m f s->(J.stop i s/\Q (.ref p) s)\/(J.go i s/\∀x H',J.yld i s x H'->gF w0 U x f H' fun j H2=>tFT w0 cd j H2 fun b H3=>if b=true then tF w0 el j H3 fun y H4=>∃r,H4 p=some (.lst r)/\r.length<sizeLine/\
    ∃I,I<m/\W (i+1) I j (upd H4 p (.lst (r++[y]))) else ∃I,I<m/\W (i+1) I j H3):=by
 intro p hp
 subst hH
 let⟨T,R2,rz⟩:=Ym (xs:=[]) R1 hp (RDs.nil w1)
 have hz:l.length< (w1.push p (.lst [])).n/\p=(w1.push p (.lst [])).μ l.length:=by
  let⟨E,N⟩:=Ze.mp rz
  show⟨E,by injection N⟩
 refine⟨fun i m f s=>∃w o M,StOk w0 w o M f s/\Ext (w1.push p (.lst [])) w/\i<=xs.length/\m=xs.length - i/\Ri own xs U cd el l.length (xs.drop i) o M QD,⟨xs.length,w1.push p (.lst []),t,_,⟨rfl,e0.trans T,R2,env.ext T⟩,Ext.refl _,nq _,rfl,h⟩,?_⟩
 rintro i m f s ⟨w,o,M,S,F,hi,rfl,C⟩
 have G:Ext w1 w:=T.trans F
 have K:w.μ l.length=p:=(F.μ _ hz.1).trans hz.2.symm
 have L:l.length<w.n:=nh hz.1 F.n
 have A:∀B:Ou own xs M,_:=fun B=>jk w M G S.rs B i
 rw[S.heap] at A
 by_cases q:i<xs.length
 .rw[Im q] at C
  let⟨B,C⟩:=C
  let⟨j1,j2⟩:=(A B).1 xs[i] (Aa q)
  refine .inr ⟨j1,fun x H' hy=>?_⟩
  let⟨w3,rfl,z,R3,Y⟩:=j2 x H' hy
  refine⟨w3,o,M,xs[i],_,⟨rfl,S.ext.trans z,R3,S.env.ext z⟩,Y,C,fun j g e q2=>?_⟩
  refine⟨w3,g,M,_,⟨rfl,S.ext.trans z,R3,e⟩,q2,fun b w4 M4 u R4 R=>?_⟩
  cases b with
  | true=>
   rw[ng rfl] at R ⊢
   refine Zu ⟨rfl,(S.ext.trans z).trans u,R4,e.ext u⟩ R fun y P dy M5 x5 R5 V q5=>?_
   let⟨r,g1,g2,g3⟩:=q5
   let⟨hn,vs,E,N⟩:=R5.list g1
   have v:Ext w P:=(z.trans u).trans x5
   have z0:P.μ l.length=p:=(v.μ _ L).trans K
   let⟨O,y2⟩:=Yw R5 hn E (N.append (RDs.cons V (RDs.nil P)))
   rw[z0] at E O y2
   refine⟨vs,E,by rw[N.length];show g2,xs.length - (i+1),'o',P.alloc p (.lst (vs++[y])),g,_,⟨rfl,(S.ext.trans v).trans O,y2,(e.ext (u.trans x5)).ext O⟩,(F.trans v).trans O,q,rfl,g3⟩
  | false=>
   rw[nc Bf9] at R ⊢
   show⟨xs.length - (i+1),'o',w4,g,M4,⟨rfl,(S.ext.trans z).trans u,R4,e.ext u⟩,(F.trans z).trans u,q,rfl,R⟩
 .rw[List.drop_eq_nil_of_le 'o'] at C
  let⟨B,hq⟩:=C
  refine .inl ⟨(A B).2 'o',?_⟩
  have:=a (.ref p) w (.ref l.length) M G S.rs (Ze.mpr ⟨L,by rw[K]⟩) ⟨rfl,hq⟩
  rw[S.heap] at this
  show this
end
def Z90(c:Cfg)(e:E):Prop:=∀(k:Ck) (Z:DX) (a:Vw) (X:Cx) (b:Expr),Good c k Z a X->chkE k e b=true->PE X b (tF a (te c Z e))/\(noIf e=true->PT X b (tFT a (ttD (te c Z e))))
def Zy2(c:Cfg)(es:Es):Prop:=∀(k:Ck) (Z:DX) (d:Vw) (X:Cx) (e:List Expr),Good c k Z d X->W1 k es e=true->PA X e (tFA d (tes c Z es))/\
 ∀(b:Bool) (a:Pos),PE X (.BoolOp (if b then .And else .Or) e a) (tF d (tbop c Z b es))/\(Bz es=true->PW X (.BoolOp (if b then .And else .Or) e a) (tFT d (ttD (tbop c Z b es))))
def Zu8(c:Cfg)(b:Eo):Prop:=(∀(k:Ck) (Z:DX) (a:Vw) (X:Cx) (e:Option Expr),Good c k Z a X->chkO k b e=true->PO X e (tFO a (teo c Z b)))/\
 ∀(k:Ck) (Z:DX) (a:Vw) (X:Cx) (d:List Expr),Good c k Z a X->chkC k b d=true->(∃x,d=[x]/\PT X x (tFT a (tcd c Z b)))\/(d=[]/\b= .no)
def Yb7(c:Cfg)(it:It):Prop:=∀(k:Ck) (Z:DX) (a:Vw) (X:Cx) (b d:Expr),Good c k Z a X->Y10 k it d=true->itTg it b=true->PI X b d (iF a (tit c Z it))
section
variable{c:Cfg}{k:Ck}{Z:DX}{w0:Vw}{X:Cx}
def Pk{d:D}{v:V}{b:L2.St}{H:Hp}(f:∀w:Vw,w.K=w0.K->RD w d v)(h:tF w0 (fun _ M Q=>Q d M) b H Q):tC v b H Q:=by
 let⟨w,e,M,i,S,g,a⟩:=h
 have:=a v w d M (Ext.refl w) S.rs (f w S.K) g
 rw[S.heap] at this
 show this
def tFF(w0:Vw)(f:Str->DEnv->Z1->(Str->Z1->Prop)->Prop):Str->L2.St->Hp->(Str->Hp->Prop)->Prop:=fun o g H Q=>∃w a M d,StOk w0 w a M g H/\f o a M d/\∀x b e,Ext w b->RS b e->d x e->Q x b.H
def Y31(c:Cfg)(es:Es):Prop:=∀(k:Ck) (Z:DX) (w0:Vw) (X:Cx) (a:List Expr),Good c k Z w0 X->Jw k es a=true->PFs X a (tFF w0 (tfs c Z es))
def PFs.imp{t t':Str->L2.St->Hp->(Str->Hp->Prop)->Prop}(h:PFs X vs t)(q:∀o a H Q,t' o a H Q->t o a H Q):PFs X vs t':=fun b s a H o Q I z=>h b s a H o Q I (q o a H Q z)
def Yc1{k:Ck}(h:Jw k .nil vs=true):vs=[]:=by
 cases vs with
 | nil=>rfl
 | cons v vs=>left
def Y28{z:Str}(h:isS e z=true):e= .str z:=by
 cases e with
 | str y=>show congrArg E.str (La h)
 | _=>left
def Zw7{k:Ck}(h:Jw k (.cons e r) vs=true):(∃y j p xs,e= .str y/\vs= .Constant (.str y) j p::xs/\Jw k r xs=true)\/∃v p xs,vs= .FormattedValue v (-1) none p::xs/\chkE k e v=true/\Jw k r xs=true:=by
 cases vs with
 | nil=>left
 | cons x xs=>
  change (_&&_)=true at h
  rw[Bz9] at h
  let⟨a,d⟩:=h
  cases x with
  | Constant b j p=>
   cases b with
   | str z=>show .inl ⟨z,j,p,xs,Y28 a,rfl,d⟩
   | _=>show absurd a Bf9
  | FormattedValue v g f p=>
   cases f with
   | none=>
    change (_&&_)=true at a
    rw[Bz9,beq_iff_eq] at a
    let⟨rfl,a⟩:=a
    show .inr ⟨v,p,xs,rfl,a,d⟩
   | some _=>show absurd a Bf9
  | _=>show absurd a Bf9
def By{k:Ck}{d:Expr}(h:chkE k (.fstr es) d=true):∃b a vs pos,d= .JoinedStr (b::a::vs) pos/\Jw k es (b::a::vs)=true:=by
 let⟨vs,pos,rfl,h⟩:=Zl8 h
 change (_&&_)=true at h
 rw[Bz9,decide_eq_true_eq] at h
 match vs,h with
 | b::a::vs,h=>show⟨b,a,vs,pos,rfl,h.2⟩
def Z02{c:Cfg}{d b:Expr}(i:PFs X (d::b::vs) (tFF w0 (tfs c Z es))):PE X (.JoinedStr (d::b::vs) pos) (tF w0 (te c Z (.fstr es))):=
 PE.imp (Zx7 i) fun m H Q zz89=>by let⟨w,a,M,n,S,g,j⟩:=zz89;show⟨w,a,M,_,S,g,fun x f l e h q=>j _ f _ l e h (Zk.mpr rfl) q⟩
def both{d:Expr}{b:Bool}(G:Good c k Z w0 X)(h:PE X d (tF w0 f))(e:∀a,isTrue d X.env a=(do let v <-a;standAt d.pos;holding [v] (truthy v))):
  PE X d (tF w0 f)/\(b=true->PT X d (tFT w0 (ttD f))):=⟨h,fun _=>Yk4 G h e⟩
def Fs{x:Str}(G:Good c k Z w0 X)(I:k.hs.contains f=true)(u:k.FN[f]?=some x)(J:k.glob x=true)(d:W1 k es (l::j)=true)(B:PA X (l::j) (tFA w0 (tes c Z es))):
  PE X (.Call (.Name x A) (l::j) [] pos) (tF w0 (te c Z (.callH f es))):=by
 let⟨g1,g2,g3⟩:=G.gl J
 cases b:c.Γ[f]? with
 | none=>
  have N:=(Ab.mp u).1
  have V:=Lu.mp b
  rw[G.flen] at N
  lia
 | some t=>
  let⟨U,Y,W,T,F,C,D,E,L⟩:=G.fnh f x t I u b
  cases es with
  | nil=>show absurd d Bf9
  | cons e r=>
   change (_&&_)=true at d
   simp only[Bz9] at d
   refine PE.imp (Zp1 F C g1 D E L B g2 (Zp d.1.2) (Vx (Yx r j d.2))) ?_
   rintro P H Q ⟨w,m,M,v,S,g,a⟩
   refine⟨w,m,M,_,S,g,fun R s i y q z n o=>?_⟩
   have o:t i y v noX:=by
    have:=o
    simp only[b] at this
    show this
   have p:s.K=X.K:=by rw[q.K,S.K,G.eK]
   show⟨s,i,y,v,noX,p,rfl,z,n,o,a.ext q,fun O dd H' h=>by
    let⟨_,_,_,_,_,_,_,_,_,_,_,_,_,h⟩:=h
    show h.elim⟩
def Bl{x:Str}{d:List Expr}(G:Good c k Z w0 X)(hc:k.calm=true)(O:k.FN[f]?=some x)(hg:k.glob x=true)(i:W1 k es d=true)(ih:PA X d (tFA w0 (tes c Z es))):
  PE X (.Call (.Name x Y) d [] pos) (tF w0 (te c Z (.call f es))):=by
 let⟨g1,g2,g3⟩:=G.gl hg
 let⟨E,I,V⟩:=G.exc
 cases b:c.Γ[f]? with
 | none=>
  have h1:=(Ab.mp O).1
  have T:=Lu.mp b
  rw[G.flen] at h1
  lia
 | some D=>
  let⟨kk,fa,fd,pr,ds,z,dD,u,F,J,L,N,R,P,hD,o⟩:=G.fns hc f x D O b
  have n:∀m H Q,tF w0 (te c Z (.call f es)) m H Q->tFA w0 (tes c Z es) m H fun C H1=>spF X.K u (C++z) H1 Q E:=by
   rintro m H Q ⟨w,j,M,B,S,g,a⟩
   refine⟨w,j,M,_,S,g,fun C t q U s W v y=>?_⟩
   have y:D q U B Z:=by
    have:=y
    simp only[b] at this
    show this
   have p:t.K=X.K:=by rw[s.K,S.K,G.eK]
   show⟨t,q++dD,U,B,Z,p,rfl,W,v.append (hD t p),o _ _ _ _ y,a.ext s,fun A dd H' hx=>V A dd H' (F2 (S.ext.trans s) hx)⟩
  cases d with
  | nil=>
   refine PE.imp (Zs5 F J g1 L N R P I g2) fun m H Q h=>?_
   have T:=n m H Q h
   let⟨w,j,M,B,S,g,a⟩:=T
   cases es with
   | nil=>
    have:=a [] w [] M (Ext.refl w) S.rs (RDs.nil w) g
    rw[S.heap] at this
    show this
   | cons e r=>show absurd i Bf9
  | cons l d=>
   cases es with
   | nil=>show absurd i Bf9
   | cons e r=>
    change (_&&_)=true at i
    simp only[Bz9] at i
    show PE.imp (Y68 F J g1 L N R P I ih g2 (Zp i.1.2) (Vx (Yx r d i.2))) n
def Jc{w:Vw}:∀{a:KQ9} {vs:List (Key×V)},RKV w a vs->RDs w (Xz a) (vs.map fun q=>kV q.1)
 | [],vs,h=>by unfold RKV at h;subst h;show RDs.nil w
 |(k,d)::a,vs,h=>by
  unfold RKV at h
  let⟨v,r,rfl,e,b⟩:=h
  refine RDs.cons ?_ (Jc b)
  cases k with
  | inl i=>show Za.mpr rfl
  | inr x=>show Zk.mpr rfl
def Fq{a:E}{x:Str}(G:Good c k Z w0 X)(B:k.calm=true)(y:x=("list":Str))(A:k.glob x=true)(C:x∈k.BN)(d:noStar l=true)(v:PE X l (tF w0 (te c Z a))):
  PE X (.Call (.Name x p1) [l] [] q1) (tF w0 (te c Z (.lkeys a))):=by
 let⟨g1,g2,g3⟩:=G.gl A
 refine PE.imp (Vk (Z14 (X:=X) (G.calm B)) g1 (G.blt _ C) (by rw[y];show boot_list) (Tv v Pj (Zp d)) g3 g2 (Zp d) rfl) fun I H Q zz90=>?_
 let⟨w,e,M,L,S,g,F⟩:=zz90
 refine Zu S g fun x q K N o b s q1=>?_
 let⟨n,rfl,u,D,t⟩:=Yq q1
 let⟨J,rfl⟩:=Ze.mp s
 let⟨_,r,h,f⟩:=b.dict D
 refine⟨q.μ n,r,rfl,h,fun p z=>?_⟩
 let⟨m,j,i⟩:=Ym b z (Jc f)
 show F _ _ _ _ (o.trans m) j i t
def Zh4(w:Vw)(n:Nat):RDs w (Su 0 n) ((Ao n).map fun(k:Nat)=>V.int (0+(k:Int))):=by
 unfold Su
 induction n with
 | zero=>show RDs.nil w
 | succ n a=>
  rw[Il,Ai,Ai]
  show a.append (RDs.cons (Za.mpr rfl) (RDs.nil w))
def Z22{a:E}{x y:Str}(G:Good c k Z w0 X)(L:k.calm=true)(J:x=("list":Str))(I:y=("range":Str))(K:k.glob x=true)(e:k.glob y=true)(N:x∈k.BN)(f:y∈k.BN)(d:noStar l=true)(F:PE X l (tF w0 (te c Z a))):
  PE X (.Call (.Name x p1) [.Call (.Name y p2) [l] [] q2] [] q1) (tF w0 (te c Z (.lrng a))):=by
 let⟨g1,g2,g3⟩:=G.gl K
 let⟨m,i,h⟩:=G.gl e
 have b:=Vk (p:=p2) (pos:=q2) (Fv (X:=X)) m (G.blt _ f) (by rw[I];show boot_range) (Tv F Pj (Zp d)) h i (Zp d) rfl
 refine PE.imp (Vk (F8 (X:=X) (G.calm L)) g1 (G.blt _ N) (by rw[J];show boot_list) (Tv b Pj rfl) g3 g2 rfl rfl) fun P H Q zz91=>?_
 let⟨w,s,M,T,S,g,O⟩:=zz91
 refine Zu S g fun x A R U z D B q1=>?_
 let⟨j,rfl,r,q,q2⟩:=Xg q1
 cases Za.mp B
 refine⟨j,rfl,r,q,fun p n=>⟨p,j,rfl,Zd,r,q,fun l d=>?_⟩⟩
 have C:=D.alloc (o:= .rng 0 j) n
 let⟨v,u,t⟩:=Ym (w:=A.alloc p (.rng 0 j)) C d (Zh4 _ j.toNat)
 show O _ _ _ _ ((z.trans (Xi n)).trans v) u t q2
def te_var{i:Nat}{a:DEnv}:te c Z (.var i) a M Q=(match a[i]? with | some (some d)=>Q d M | _=>False):=rfl
def te_glb{a:DEnv}:te c Z (.glb g) a M Q=(match c.G[g]? with | some d=>Q d M | none=>False):=rfl
set_option tactic.hygienic true in
def Zc8{i:Nat}{x:Str}(G:Good c k Z w0 X)(o:k.N[i]?=some x)(n:k.vis x=true):PE X (.Name x pos) (tF w0 (te c Z (.var i))):=by
 let⟨j,h,f⟩:=G.vis n
 refine PE.imp (C0 (i:=i) (by rw[G.N];show o) j h f) fun p H Q zz92=>?_
 let⟨w,b,M,q,S,g,a⟩:=zz92
 rw[te_var] at g
 split at g
 .rename_i d e
  let⟨v,m,l⟩:=S.env.2 i d e
  have:=a v w d M (Ext.refl w) S.rs l g
  rw[S.heap] at this
  show⟨v,m,this⟩
 .exact g.elim
def Ze2{x:Str}(G:Good c k Z w0 X)(p:k.GN[g]?=some x)(o:k.glob x=true):PE X (.Name x pos) (tF w0 (te c Z (.glb g))):=by
 let⟨g1,g2,g3⟩:=G.gl o
 cases e:c.G[g]? with
 | none=>
  refine PE.imp (t:=fun _ _ _=>False) (fun _ _ _ _ _ _ h=>h.elim) fun i H Q zz93=>?_
  let⟨w,b,M,f,S,q,a⟩:=zz93
  rw[te_glb] at q
  rw[e] at q
  show q
 | some d=>
  let⟨v,u,m,l,j⟩:=G.glb g x d p e
  refine PE.imp (Y55 g1 m l g2) fun i H Q h=>Pk (d:=d) (fun w n=>j w (by rw[n,G.eK])) ?_
  let⟨w,b,M,f,S,q,a⟩:=h
  rw[te_glb] at q
  rw[e] at q
  show⟨w,b,M,f,S,q,a⟩
def Zr4{b:Bf}{x:Str}(G:Good c k Z w0 X)(D:k.calm=true\/Ot b=true)(B:x=(bfOf b).1)(C:k.glob x=true)(E:x∈k.BN)(i:W1 k es (l::f)=true)(u:PA X (l::f) (tFA w0 (tes c Z es))):
  PE X (.Call (.Name x A) (l::f) [] pos) (tF w0 (te c Z (.bf b es))):=by
 let⟨g1,g2,g3⟩:=G.gl C
 have v:=G.blt x E
 have m:bootBuiltins x=some (bfOf b).2:=by rw[B];show Y53 b
 have d:=Zi6 (w0:=w0) G.eK b (D.imp G.calm id)
 have j:starEach (l::f) X.env=(false,eval l X.env)::starEach f X.env/\(backTo pos (starEach f X.env)).any (·.1)=false:=by
  cases es with
  | nil=>show absurd i Bf9
  | cons e r=>
   change (_&&_)=true at i
   simp only[Bz9] at i
   show⟨Zp i.1.2,Vx (Yx r f i.2)⟩
 have h:∀o H Q,tF w0 (te c Z (.bf b es)) o H Q->tCB (rC w0 (bfD w0.K b)) (tFA w0 (tes c Z es)) o H Q:=by
  rintro o H Q ⟨w,n,M,I,S,g,a⟩
  refine⟨w,n,M,_,S,g,fun L y F J s z p t=>?_⟩
  rw[<-G.wK] at t
  show⟨y,J,F,I,rfl,by rw[s.K,S.K],z,p,t,a.ext s⟩
 cases q:(bfOf b).2 with
 | builtin id=>
  rw[q] at m d
  show PE.imp (Zp5 d g1 v m u g3 g2 j.1 j.2) h
 | type T=>
  rw[q] at m d
  show PE.imp (Vk d g1 v m u g3 g2 j.1 j.2) h
 | _=>cases b<;>cases q
def Zq8{o:E}{L u:Pos}{b:List Expr}(G:Good c k Z w0 X)(J:Jz l=true)(I:(L.endLine==u.line)=true)(U:b.length<30)(t:W1 k es b=true)(F:PE X l (tF w0 (te c Z o)))(T:PA X b (tFA w0 (tes c Z es))):
  PE X (.Call (.Attribute l (mtN m) L) b [] u) (tF w0 (te c Z (.mt m o es))):=by
 have j:=Zo4 (w0:=w0) G.eK G.units m
 cases b with
 | nil=>
  refine PE.imp (Yd0 (Ya7 m) (Z94 m) (Yb5 m) j F (Rj J) I) fun N H Q zz94=>?_
  let⟨w,h,M,C,S,g,a⟩:=zz94
  refine Zu S g fun x s B D f p n q=>?_
  have i:=Zv5 p n q.1
  rw[f.K,S.K,<-G.eK] at i
  refine⟨i,?_⟩
  cases es with
  | nil=>show⟨s,D,B,[],C,rfl,by rw[f.K,S.K],p,n,RDs.nil s,q.2,a.ext f⟩
  | cons e r=>show absurd t Bf9
 | cons z b=>
  cases es with
  | nil=>show absurd t Bf9
  | cons e r=>
   have d:=t
   change (_&&_)=true at d
   simp only[Bz9] at d
   have A:((backTo u (starEach (z::b) X.env)).all (fun x=> !x.1)&&(backToKw u (keywordEach [] X.env)).all (fun x=>x.1.isSome)
     &&decide ((z::b).length+([]:List Keyword).length+(if ([]:List Keyword).isEmpty then 0 else 1)<30))=true:=by
    rw[Zp4 (Yx _ _ t)]
    show(true&&true&&decide ((z::b).length+0+0<30))=true
    simpa using U
   refine PE.imp (Yh8 (Ya7 m) (Z94 m) (Yb5 m) j F T (Rj J) A I (Zp d.1.2) (Vx (Yx r b d.2))) fun N H Q zz95=>?_
   let⟨w,h,M,C,S,g,a⟩:=zz95
   refine Zu S g fun x s B D f p n q=>?_
   have i:=Zv5 p n q.1
   rw[f.K,S.K,<-G.eK] at i
   refine⟨i,s,h,D,_,S.next f p,q.2,fun Y O V W v P y R=>?_⟩
   show⟨O,W,B,V,C,rfl,by rw[v.K,f.K,S.K],P,n.ext v,y,R,a.ext (f.trans v)⟩
def Ze5{o:E}(G:Good c k Z w0 X)(s:Jz l=true)(q:PE X l (tF w0 (te c Z o))):PE X (.Attribute l f pos) (tF w0 (te c Z (.fld o f))):=by
 refine PE.imp (Y71 q (Rj s)) fun y H Q zz96=>?_
 let⟨w,d,M,A,S,g,a⟩:=zz96
 refine Zu S g fun x m z v j p n b=>?_
 unfold fldD at b
 split at b
 .let⟨rfl,i,r,h,e⟩:=Q5.mp n
  let⟨u,t,b⟩:=b
  refine⟨_,_,_,_,r,rfl,i,h,by rw[G.hK];show t,?_,a r m _ v j p e b⟩
  rw[u];simp
 .exact b.elim
def Zs4{a:E}{lo hi:Eo}{l:Expr}{x y:Option Expr}{p2 pos:Pos}(G:Good c k Z w0 X)(u:PE X l (tF w0 (te c Z a)))(z:PO X x (tFO w0 (teo c Z lo)))(v:PO X y (tFO w0 (teo c Z hi))):
  PE X (.Subscript l (.Slice x y none p2) pos) (tF w0 (te c Z (.sl a lo hi))):=by
 refine PE.imp (Zn0 (Zn2 (w0:=w0) G.eK) u z v) fun J H Q zz97=>?_
 let⟨w,b,M,C,S,g,B⟩:=zz97
 refine Zu S g fun x n A I e i o t=>?_
 refine⟨n,b,I,_,S.next e i,t,fun l m F d q s=>?_⟩
 refine⟨m,b,F,_,(S.next e i).next d q,s,fun h j D f p r=>?_⟩
 show⟨j,D,A,C,rfl,by rw[f.K,d.K,e.K,S.K],p,o.ext (d.trans f),r,B.ext ((e.trans d).trans f)⟩
set_option tactic.hygienic true in
def Zk3{z:Expr}(h:isM1 z=true):∃y p q,z= .UnaryOp .USub (.Constant (.int 1) y p) q:=by
 unfold isM1 at h
 split at h
 .rename_i j y p q
  have:j=1:=by simpa using h
  subst this
  show⟨y,p,q,rfl⟩
 .cases h
def Ze3{a:E}{l z:Expr}(G:Good c k Z w0 X)(A:PE X l (tF w0 (te c Z a)))(hz:isM1 z=true):PE X (.Subscript l (.Slice none none (some z) p2) pos) (tF w0 (te c Z (.rev a))):=by
 let⟨y,p,q,rfl⟩:=Zk3 hz
 refine PE.imp (Yc2 A (Z77 (Yh4 Zu0 Zu5))) fun D H Q zz98=>?_
 let⟨w,h,M,J,S,g,C⟩:=zz98
 refine Zu S g fun x n I L e f u b=>?_
 split at b
 .let⟨F,j,i⟩:=b
  let⟨_,rfl⟩:=Ze.mp u
  let⟨_,o,d,m,_⟩:=f.listL j
  have B:n.K=X.K:=by rw[e.K,S.K,G.eK]
  rw[B] at d
  refine⟨1,rfl,-1,rfl,rfl,_,o,rfl,d,fun p v=>?_⟩
  let⟨t,s,r⟩:=Ym f v m.reverse
  show C _ _ _ _ (e.trans t) s r i
 .exact b.elim
def Z89{a b:E}(G:Good c k Z w0 X)(U:PE X l (tF w0 (te c Z a)))(T:PE X r (tF w0 (te c Z b))):PE X (.Dict [some l] [r] pos) (tF w0 (te c Z (.dct a b))):=by
 refine PE.imp (Y49 (Zs1 U T Y12) rfl rfl (by simp) (by simp)) fun σ H Q zz99=>?_
 let⟨w,A,M,QD,S,g,aq⟩:=zz99
 intro p z
 rw[<-S.heap] at z
 let⟨j,t,B⟩:=Sw (xs:=[]) (vs:=[]) S.rs z (by unfold RKV;rfl)
 have s:upd H p (.dK [])=(w.push p (.dK [])).H:=by rw[<-S.heap];rfl
 have f:(w.push p (.dK [])).μ M.length=p:=by
  show(if M.length=w.n then p else w.μ M.length)=p
  rw[ng S.rs.len.symm]
 have q:M.length< (w.push p (.dK [])).n:=by change M.length<w.n+1;rw[S.rs.len];lia
 rw[s]
 refine Zu (S.next j t) g fun x w1 dx M1 i L J O=>?_
 refine Zu ((S.next j t).next i L) O fun y d dy M2 h v I N=>?_
 let⟨e,e1,Y,W⟩:=N
 let⟨P,C,o,D⟩:=v.dict Y
 rw[(i.trans h).μ _ q,f] at o
 have V:C=[]:=by have:=D.length;show Hz.mp ↥this
 subst V
 cases Rk e1 (J.ext h)
 refine⟨o,[(e,y)],rfl,by simp,?_⟩
 have m:d.H (d.μ M.length)=some (.dK []):=by rw[(i.trans h).μ _ q,f];show o
 let⟨u,F⟩:=Tl (vs:=[(e,y)]) (xs:=[(e,dy)]) v P m (by
  have:=(show RKV d [] [] by unfold RKV;rfl).put (k:=e) I
  show this)
 have K:RD (d.alloc (d.μ M.length) (.dK [(e,y)])) (.ref M.length) (.ref p):=(B.ext (i.trans h)).ext u
 have:=aq _ _ _ _ (((j.trans i).trans h).trans u) F K W
 have R:(d.alloc (d.μ M.length) (.dK [(e,y)])).H=upd d.H p (.dK (O0 [] [(e,y)])):=by
  change upd d.H (d.μ M.length) (.dK [(e,y)])=_
  rw[(i.trans h).μ _ q,f]
  rfl
 rw[<-R]
 show this
def Zj0{a b:E}(G:Good c k Z w0 X)(hn:Fb r=true)(ha:PE X l (tF w0 (te c Z a)))(hb:PE X r (tF w0 (te c Z b))):PE X (.Subscript l r pos) (tF w0 (te c Z (.ix a b))):=by
 have pl:Za1 r:=by
  intro o i
  cases r<;>first | rfl | cases hn
 refine PE.imp (Yl0 (Zk7 (w0:=w0) G.eK G.units) ha hb pl) fun σ H Q zz100=>?_
 let⟨w,σD,M,QD,S,g,aq⟩:=zz100
 refine Zu S g fun x w1 dx M1 x1 r1 rx q1=>?_
 refine Zu (S.next x1 r1) q1 fun y w2 dy M2 x2 r2 ry q2=>?_
 show⟨w2,M2,dx,dy,_,rfl,by rw[x2.K,x1.K,S.K],r2,rx.ext x2,ry,q2,fun d v hq hr=>aq v w2 d M2 (x1.trans x2) r2 hr hq⟩
def Rn{w1 a:Vw}{d:Z1}{n:Nat}{o:Obj}(h:n<w1.n)(f:w1.H (w1.μ n)=some (.dK vs))(x:Ext (w1.alloc (w1.μ n) (.frz o (.dK vs))) a)(r:RS a d)(t:d[n]?=some (.fdc kvs)):
  a.H (w1.μ n)=some (.frz o (.dK vs))/\Ext w1 (a.alloc (w1.μ n) (.dK vs))/\Ext0 a (a.alloc (w1.μ n) (.dK vs))/\RS (a.alloc (w1.μ n) (.dK vs)) (d.set n (.dct kvs)):=by
 have q:=x.imm (w1.μ n) _ Zd rfl
 have b:a.μ n=w1.μ n:=x.μ n h
 let⟨j,i,e,g⟩:=r.cell n _ t
 rw[b,q] at e
 cases e
 refine⟨q,Zm2 f rfl x,G2 q,?_⟩
 have:=r.thaw t (by rw[b];show q) g
 rw[b] at this
 show this
def Zx0{t:TE}(h:PE X f t):PE X f (fun d H Q=>t d H fun v H'=>∃a o kvs,H' a=some (.frz o (.dK kvs))/\(∀o u,X.H₀ a≠some (.frz o u))/\Q v (upd H' a (.dK kvs))):=by
 intro b s d H Q I q
 refine thn (h b s d H _ I q) fun u j zz101=>?_
 let⟨v,H',i,r,a,o,kvs,e,g,q⟩:=zz101
 show⟨v,_,Ze9 i e g,r,q⟩
def Ff{d e:E}{el t iter:Expr}(G:Good c k Z w0 X)(hc:k.calm=true)(ho:Xw k.sc k.N q js scope=true)(x0:Pa iter=true)(A:q.Nodup)
  (hi:PE X iter (tF w0 (te c Z d))) (ht:So {k with N:=q,sc:=Yr scope k.sc,cells:=false,own:=ownOf scope,tries:=false,raises:=[],hs:=[]} U t=true) (he:chkE {k with N:=q,sc:=Yr scope k.sc,cells:=false,own:=ownOf scope,tries:=false,raises:=[],hs:=[]} e el=true) (z0:Z90 c e):
  PE X (.ListComp el [⟨t,iter,[],0⟩] scope pos) (tF w0 (te c Z (.compK q js U d e))):=by
 have y0:Xw X.env.scope X.N q js scope=true:=by rw[G.sc,G.N];show ho
 have hf:∀x,foldedSetIterable iter X.env x=pure x:=by
  intro x
  cases iter<;>first | rfl | cases x0
 have hg:=fun cl C fp b s H=>(Good.block G hc (scope:=scope) A cl C fp b s H).tgt U t ht
 have v0:=fun cl C fp b s H=>(z0 _ _ _ _ el (Good.block G hc (scope:=scope) A cl C fp b s H) he).1
 have y:∀{L:L2.St} {H:Hp} {P:Bool->Hp->Prop},tFT w0 (fun _ M P=>P true M) L H P->P true H:=by
  intro L H P h
  let⟨w,J,M,QD,S,g,a⟩:=h
  have:=a true w M (Ext.refl w) S.rs g
  rw[S.heap] at this
  show this
 refine PE.imp (Zx0 (Cs (G.calm hc) y0 (Z60 hi) hg v0 hf)) fun L H Q zz102=>?_
 let⟨w,J,M,QD,S,g,a⟩:=zz102
 refine Zu S g fun v j d M1 T r1 Y z=>?_
 let⟨n,rfl,z⟩:=Yq z
 let⟨A,rfl⟩:=Ze.mp Y
 let⟨f,O,B⟩:=z
 let⟨hM,l,D,y2⟩:=r1.dict O
 refine⟨_,l,rfl,D,fun o nf=>?_⟩
 have R:Ext j (j.alloc (j.μ n) (.frz o (.dK l))):=Yy D rfl
 have r2:RS (j.alloc (j.μ n) (.frz o (.dK l))) (M1.set n (.fdc f)):=r1.write hM rfl rfl D rfl ⟨o,l,Zd,y2.ext R⟩
 have hl:(M1.set n (.fdc f)).length=M1.length:=by simp
 rw[<-hl] at B
 intro p hp
 let⟨W,v1,v2⟩:=El (Q:=fun v F=>∃a o f,F a=some (.frz o (.dK f))/\(∀o u,X.H₀ a≠some (.frz o u))/\Q v (upd F a (.dK f))) ((S.ext.trans T).trans R) rfl r2 (Zc2 (js:=js) ((S.env.ext T).ext R)) (Cg (w1:=j.alloc (j.μ n) (.frz o (.dK l))) (n:=n) A Zd) B
  (fun v w2 d2 M2 x3 r3 V zy7=>by
   let⟨e3,u0,t1,t2⟩:=zy7
   let⟨a1,a2,a3,a4⟩:=Rn A D x3 r3 t1
   show⟨_,o,l,a1,nf,a v _ d2 _ (T.trans a2) a4 (V.ext0 a3) (by rw[e3];show t2)⟩) p hp
 refine⟨W,v1,fun i m I Hc hW=>(v2 i m I Hc hW).imp id fun⟨O,B⟩=>⟨O,fun x F hy=>?_⟩⟩
 let⟨u1,u2,u3,u4,u5,u6,u7,u8,u9⟩:=B x F hy
 refine⟨u1,u2,u3,u4,u5,u6,u7,u8,fun K r en q'=>?_⟩
 have:=y (u9 K r en q')
 rw[ng rfl] at this
 show this
def O9{o:LS}{cd:Eo}{el t iter:Expr}(G:Good c k Z w0 X)(O:k.calm=true)(ho:Xw k.sc k.N o js scope=true)(r0:Pa iter=true)(hn:o.Nodup)
  (hi:PI X t iter (iF w0 (tit c Z it))) (ht:So {k with N:=o,sc:=Yr scope k.sc,cells:=false,own:=ownOf scope,tries:=false,raises:=[],hs:=[]} I t=true) (hd:chkC {k with N:=o,sc:=Yr scope k.sc,cells:=false,own:=ownOf scope,tries:=false,raises:=[],hs:=[]} cd j=true) (he:chkE {k with N:=o,sc:=Yr scope k.sc,cells:=false,own:=ownOf scope,tries:=false,raises:=[],hs:=[]} e el=true) (t0:Z90 c e) (s0:Zu8 c cd):
  PE X (.ListComp el [⟨t,iter,j,0⟩] scope pos) (tF w0 (te c Z (.comp o js I it cd e)))/\
  ∀(i:Nat) (x:Str) (px n:Pos),X.N[i]?=some x->X.env.scope.names.lookup x=some .local->swapsWith (.ListComp el [⟨t,iter,j,0⟩] scope pos) (some (.Name x px)) n.line X.env=pure true->
   PS X (.Assign [.Name x px] (.ListComp el [⟨t,iter,j,0⟩] scope pos) n) (fun R l H=>tF w0 (te c Z (.comp o js I it cd e)) l H fun v H1=>R.nx (l.set i (some v)) H1):=by
 have D:Xw X.env.scope X.N o js scope=true:=by rw[G.sc,G.N];show ho
 have hf:∀x,foldedSetIterable iter X.env x=pure x:=by
  intro x
  cases iter<;>first | rfl | cases r0
 have hg:=fun u C r f s H=>(Good.block G O (scope:=scope) hn u C r f s H).tgt I t ht
 have F:=fun u C r f s H=>(t0 _ _ _ _ el (Good.block G O (scope:=scope) hn u C r f s H) he).1
 have L:∀l H Q,tF w0 (te c Z (.comp o js I it cd e)) l H Q->iF w0 (tit c Z it) l H fun J H1=>∀p,H1 p=none->∃W:Nat->Nat->L2.St->Hp->Prop,(∃m,W 0 m (Tx js l) (upd H1 p (.lst [])))/\
   ∀i m z U,W i m z U->(J.stop i U/\Q (.ref p) U)\/(J.go i U/\∀x H',J.yld i U x H'->gF w0 I x z H' fun B H2=>tFT w0 (tcd c noX cd) B H2 fun b H3=>if b=true then tF w0 (te c noX e) B H3 fun y H4=>∃T,H4 p=some (.lst T)/\T.length<sizeLine/\
    ∃m',m'<m/\W (i+1) m' B (upd H4 p (.lst (T++[y]))) else ∃m',m'<m/\W (i+1) m' B H3):=by
  rintro l H Q ⟨w,A,M,QD,S,g,a⟩
  refine⟨w,A,M,_,S,g,fun J w1 Y xs M1 x1 R1 jk q1=>?_⟩
  show El (S.ext.trans x1) rfl R1 (Zc2 (S.env.ext x1)) jk q1 fun v w2 d M2 x2 r2 u0 zz104=>by let⟨e2,q2⟩:=zz104;show a v w2 d M2 (x1.trans x2) r2 u0 (by rw[e2];show q2)
 have z0:∀{l:L2.St} {H:Hp} {P:Bool->Hp->Prop},cd= .no->tFT w0 (tcd c noX cd) l H P->P true H:=by
  intro l H P e h
  subst e
  let⟨w,A,M,QD,S,g,a⟩:=h
  have:=a true w M (Ext.refl w) S.rs g
  rw[S.heap] at this
  show this
 cases j with
 | nil=>
  have q0:cd= .no:=by
   cases cd with
   | no=>rfl
   | yes e'=>show absurd hd Bf9
  have K:∀l H Q,tF w0 (te c Z (.comp o js I it cd e)) l H Q->Zh9 js (iF w0 (tit c Z it)) (gF w0 I) (tF w0 (te c noX e)) l H Q:=by
   intro l H Q h
   let⟨w,A,M,QD,S,g,a⟩:=L l H Q h
   refine⟨w,A,M,QD,S,g,fun J w' Y xs M' x' r' jk q p hp=>?_⟩
   let⟨W,w1,w2⟩:=a J w' Y xs M' x' r' jk q p hp
   refine⟨W,w1,fun i m z U hW=>(w2 i m z U hW).imp id fun⟨z1,z2⟩=>⟨z1,fun x H' hy=>?_⟩⟩
   let⟨v1,v2,v3,v4,v5,v6,v7,v8,v9⟩:=z2 x H' hy
   refine⟨v1,v2,v3,v4,v5,v6,v7,v8,fun v0 V en q'=>?_⟩
   have:=z0 q0 (v9 v0 V en q')
   rw[ng rfl] at this
   show this
  show⟨PE.imp (Cs (G.calm O) D hi hg F hf) K,fun i x px n h1 h2 h3=>PS.imp (Zs6 (G.calm O) D G.nd h1 h2 hi hg F h3 hf) fun R l H h=>K l H _ h⟩
 | cons x0 j=>
  have hq:∀u C r f s H,∃x,x0::j=[x]/\PT (cxC X o scope u C r f s H) x (tFT w0 (tcd c noX cd)):=fun u C r f s H=>by
   rcases s0.2 _ _ _ _ (x0::j) (Good.block G O (scope:=scope) hn u C r f s H) hd with h | ⟨h,_⟩
   .exact h
   .cases h
  have e0:j=[]:=by
   cases cd with
   | no=>show absurd hd Bf9
   | yes e'=>
    cases j with
    | nil=>rfl
    | cons _ _=>show absurd hd Bf9
  subst e0
  have y0:∀u C r f s H,PT (cxC X o scope u C r f s H) x0 (tFT w0 (tcd c noX cd)):=fun u C r f s H=>by
   let⟨x,h1,h2⟩:=hq u C r f s H
   cases h1
   show h2
  show⟨PE.imp (Zr1 (G.calm O) D hi hg y0 F hf) L,fun i x px n h1 h2 h3=>PS.imp (Zj7 (G.calm O) D G.nd h1 h2 hi hg y0 F h3 hf) fun R l H h=>L l H _ h⟩
end
section
variable{c:Cfg}{k:Ck}{Z:DX}{w0:Vw}{X:Cx}
def te_cmp_bl{op:Cm}{a b:E}(σD:DEnv)(M:Z1)(QD:DK)(h:te c Z (.cmp op a b) σD M QD):te c Z (.cmp op a b) σD M fun d M'=>(∃b,d= .bl b)/\QD d M':=by
 have e:(fun(d:D) (M':Z1)=>QD d M')=QD:=rfl
 change te c Z a σD M fun x M1=>te c Z b σD M1 fun y M2=>cmD M2 op x y fun r=>(∃b,D.bl r= .bl b)/\QD (.bl r) M2
 have h:te c Z a σD M (fun x M1=>te c Z b σD M1 fun y M2=>cmD M2 op x y fun r=>QD (.bl r) M2):=h
 have:(fun(x:D) (M1:Z1)=>te c Z b σD M1 fun y M2=>cmD M2 op x y fun r=>QD (.bl r) M2)=fun x M1=>te c Z b σD M1 fun y M2=>cmD M2 op x y fun r=>(∃b,D.bl r= .bl b)/\QD (.bl r) M2:=by
  funext x M1
  congr 1
  funext y M2
  congr 1
  funext r
  show propext ⟨fun h=>⟨⟨r,rfl⟩,h⟩,fun h=>h.2⟩
 rw[this] at h
 show h
def Y46{a b:Expr}{rest:List Expr}{pos:Pos}{ta tb:TE}(ha:PE X a ta)(hb:PE X (.BoolOp .And (b::rest) pos) tb):PE X (.BoolOp .And (a::b::rest) pos) (fun σ H Q=>ta σ H fun x H1=>∃z,TruV X.K x H1 z/\if z=true then tb σ H1 Q else Q x H1):=by
 intro pins s σ H Q I h
 refine BoolOp_and (thn (ha pins s σ H _ I h) fun v s1 zz106=>?_)
 let⟨x,H1,I1,r1,q1⟩:=zz106
 refine thn (Cy pins s1 σ H1 x v (fun z H2=>if z=true then tb σ H2 Q else Q x H2) I1 r1 q1) fun z s2 zz107=>?_
 let⟨H2,I2,q2⟩:=zz107
 cases z with
 | true=>show hb pins s2 σ H2 Q I2 (by rw[ng rfl] at q2;show q2)
 | false=>show⟨x,H2,I2,r1,by rw[nc Bf9] at q2;show q2⟩
def Y90{a b:Expr}{rest:List Expr}{pos:Pos}{ta tb:TE}(ha:PE X a ta)(hb:PE X (.BoolOp .Or (b::rest) pos) tb):PE X (.BoolOp .Or (a::b::rest) pos) (fun σ H Q=>ta σ H fun x H1=>∃z,TruV X.K x H1 z/\if z=true then Q x H1 else tb σ H1 Q):=by
 intro pins s σ H Q I h
 refine BoolOp_or (thn (ha pins s σ H _ I h) fun v s1 zz108=>?_)
 let⟨x,H1,I1,r1,q1⟩:=zz108
 refine thn (Cy pins s1 σ H1 x v (fun z H2=>if z=true then Q x H2 else tb σ H2 Q) I1 r1 q1) fun z s2 zz109=>?_
 let⟨H2,I2,q2⟩:=zz109
 cases z with
 | false=>show hb pins s2 σ H2 Q I2 (by rw[nc Bf9] at q2;show q2)
 | true=>show⟨x,H2,I2,r1,by rw[ng rfl] at q2;show q2⟩
def Gv{M:Z1}{n:Nat}{xs:LD}{ys:KQ9}(h1:readL M n=some xs)(h2:Zx M n=some ys):False:=by
 unfold readL at h1
 unfold Zx at h2
 cases h:M[n]? with
 | none=>rw[h] at h2;cases h2
 | some c=>rw[h] at h1 h2;cases c<;>simp at h1 h2
def Ew{M:Z1}{x:D}{k:Bool}{A:Prop}{P:Bool->Prop}:truD M x (fun b=>if b=k then A else truD M x P)=truD M x (fun b=>if b=k then A else P b):=by
 cases x with
 | str y=>
  apply propext
  show(y.length<=sizeLine/\if ((y.length:Int) !=0)=k then A else(y.length<=sizeLine/\P ((y.length:Int) !=0)))↔(y.length<=sizeLine/\if ((y.length:Int) !=0)=k then A else P ((y.length:Int) !=0))
  split<;>simp (config:={contextual:=true})
 | ref n=>
  apply propext
  have key:∀Q:Bool->Prop,truD M (.ref n) Q↔(∃xs,readL M n=some xs/\Q (!xs.isEmpty))\/(∃xs,Zx M n=some xs/\Q (!xs.isEmpty)):=fun Q=>Ud
  constructor
  .intro h
   rcases(key _).mp h with⟨xs,h1,h2⟩ | ⟨xs,h1,h2⟩
   .refine(key _).mpr (.inl ⟨xs,h1,?_⟩)
    split at h2
    .rename_i e;rw[ng e];show h2
    .rename_i e
     rw[nc e]
     rcases(key _).mp h2 with⟨ys,g1,g2⟩ | ⟨ys,g1,g2⟩
     .rw[h1] at g1;cases g1;show g2
     .exact(Gv h1 g1).elim
   .refine(key _).mpr (.inr ⟨xs,h1,?_⟩)
    split at h2
    .rename_i e;rw[ng e];show h2
    .rename_i e
     rw[nc e]
     rcases(key _).mp h2 with⟨ys,g1,g2⟩ | ⟨ys,g1,g2⟩
     .exact(Gv g1 h1).elim
     .rw[h1] at g1;cases g1;show g2
  .intro h
   rcases(key _).mp h with⟨xs,h1,h2⟩ | ⟨xs,h1,h2⟩
   .refine(key _).mpr (.inl ⟨xs,h1,?_⟩)
    split at h2
    .rename_i e;rw[ng e];show h2
    .rename_i e;rw[nc e];show(key _).mpr (.inl ⟨xs,h1,h2⟩)
   .refine(key _).mpr (.inr ⟨xs,h1,?_⟩)
    split at h2
    .rename_i e;rw[ng e];show h2
    .rename_i e;rw[nc e];show(key _).mpr (.inr ⟨xs,h1,h2⟩)
 | non=>rfl
 | bl b=>rfl
 | int i=>rfl
 | tup xs=>rfl
 | _=>rfl
def te_bop_tt{e e2:E}{r:Es}{σD:DEnv}{M:Z1}{QD:Bool->Z1->Prop}(h:ttD (tbop c Z true (.cons e (.cons e2 r))) σD M QD):
  ttD (te c Z e) σD M fun z M1=>if z=true then ttD (tbop c Z true (.cons e2 r)) σD M1 QD else QD false M1:=by
 have hh:(fun(x:D) (M1:Z1)=>truD M1 x fun b=>if b=true then ttD (tbop c Z true (.cons e2 r)) σD M1 QD else truD M1 x fun b=>QD b M1)=
   fun x M1=>truD M1 x fun z=>if z=true then ttD (tbop c Z true (.cons e2 r)) σD M1 QD else QD false M1:=by
  funext x M1
  rw[Ew]
  congr 1
  funext b
  cases b<;>rfl
 have h':te c Z e σD M fun(x:D) (M1:Z1)=>truD M1 x fun b=>if b=true then ttD (tbop c Z true (.cons e2 r)) σD M1 QD else truD M1 x fun b=>QD b M1:=h
 rw[hh] at h'
 show h'
def te_bop_ff{e e2:E}{r:Es}{σD:DEnv}{M:Z1}{QD:Bool->Z1->Prop}(h:ttD (tbop c Z false (.cons e (.cons e2 r))) σD M QD):
  ttD (te c Z e) σD M fun z M1=>if z=true then QD true M1 else ttD (tbop c Z false (.cons e2 r)) σD M1 QD:=by
 have hh:(fun(x:D) (M1:Z1)=>truD M1 x fun b=>if b=false then ttD (tbop c Z false (.cons e2 r)) σD M1 QD else truD M1 x fun b=>QD b M1)=
   fun x M1=>truD M1 x fun z=>if z=true then QD true M1 else ttD (tbop c Z false (.cons e2 r)) σD M1 QD:=by
  funext x M1
  rw[Ew]
  congr 1
  funext b
  cases b<;>rfl
 have h':te c Z e σD M fun(x:D) (M1:Z1)=>truD M1 x fun b=>if b=false then ttD (tbop c Z false (.cons e2 r)) σD M1 QD else truD M1 x fun b=>QD b M1:=h
 rw[hh] at h'
 show h'
end
def Bm{k:Ck}{a:E}{ex:Expr}(h:chkE k (.lrng a) ex=true):∃x y l p1 p2 q1 q2,ex= .Call (.Name x p1) [.Call (.Name y p2) [l] [] q2] [] q1/\
  (k.calm&&x==("list":Str)&&y==("range":Str)&&k.glob x&&k.glob y&&k.BN.contains x&&k.BN.contains y&&noStar l&&chkE k a l)=true:=by
 let⟨fn,ls,kws,q1,rfl,h1⟩:=Zz h
 let⟨x,p1,rfl,h2⟩:=Zl h1
 let⟨rfl,h3⟩:=Y7 h2
 let⟨cc,rfl,h4⟩:=Y4 h3
 let⟨fn2,ls2,kws2,q2,rfl,h5⟩:=Zz h4
 let⟨y,p2,rfl,h6⟩:=Zl h5
 let⟨rfl,h7⟩:=Y7 h6
 let⟨l,rfl,h8⟩:=Y4 h7
 show⟨x,y,l,p1,p2,q1,q2,rfl,h8⟩
def te_cmp2_bl{c:Cfg}{Z:DX}{op op2:Cm}{a b d:E}(σD:DEnv)(M:Z1)(QD:DK)(h:te c Z (.cmp2 op op2 a b d) σD M QD):te c Z (.cmp2 op op2 a b d) σD M fun d M'=>(∃b,d= .bl b)/\QD d M':=by
 have e:(fun(x:D) (M:Z1)=>(∃b,x=D.bl b)/\QD x M)=fun x M=>(∃b,x=D.bl b)/\QD x M:=rfl
 have k1:∀(r:Bool) (M:Z1),((∃b,D.bl r= .bl b)/\QD (.bl r) M)=QD (.bl r) M:=fun r M=>propext ⟨fun z=>z.2,fun z=>⟨⟨r,rfl⟩,z⟩⟩
 change te c Z a σD M fun x M1=>te c Z b σD M1 fun y M2=>cmD M2 op x y fun r=>if r=true then te c Z d σD M2 fun z M3=>cmD M3 op2 y z fun r=>(∃b,D.bl r= .bl b)/\QD (.bl r) M3 else(∃b,D.bl false= .bl b)/\QD (.bl false) M2
 simp only[k1]
 show h
def Z05{k:Ck}{op op2:Cm}{a b d:E}{ex:Expr}(h:chkE k (.cmp2 op op2 a b d) ex=true):∃l r r2 pos,ex= .Compare l [cmOf op,cmOf op2] [r,r2] pos/\lastMarks [cmOf op,cmOf op2] [r,r2]=false/\chkE k a l=true/\chkE k b r=true/\chkE k d r2=true:=by
 let⟨l,os,rs,pos,rfl,h⟩:=Gu h
 let⟨o,os,rfl,h⟩:=Qd h
 let⟨o2,rfl,h⟩:=Y4 h
 let⟨r,rs,rfl,h⟩:=Qd h
 let⟨r2,rfl,h⟩:=Y4 h
 change (_&&_)=true at h
 simp only[Bz9,beq_iff_eq] at h
 let⟨⟨⟨⟨⟨rfl,rfl⟩,h0⟩,h1⟩,h2⟩,h3⟩:=h
 refine⟨l,r,r2,pos,rfl,?_,h1,h2,h3⟩
 change behindInMarks (cmOf op2) r2=false
 cases r2 with
 | Set es kk p=>cases op2<;>first | show absurd h0 'd' | show absurd h0 Bf9 | (simp[isIn,Pa] at h0;done) | (simp[behindInMarks,cmOf])
 | _=>rfl
mutual
theorem Zf(c:Cfg):∀e:E,Z90 c e
 | .var i,k,Z,w0,X,ex,G,h=>by
  let⟨x,pos,rfl,h⟩:=Zl h
  change (_&&_)=true at h
  simp only[Bz9,beq_iff_eq] at h
  show both G (Zc8 G h.1 h.2) fun _=>rfl
 | .int i,k,Z,w0,X,ex,G,h=>by
  let⟨v,j,pos,rfl,h⟩:=Xu h
  cases v with
  | int m=>
   have h:(i==m)=true:=h
   simp only[beq_iff_eq] at h
   subst h
   show both G (PE.imp Zu5 fun σ H Q q=>Pk (fun _ _=>Za.mpr rfl) q) fun _=>rfl
  | _=>left
 | .bl i,k,Z,w0,X,ex,G,h=>by
  let⟨v,j,pos,rfl,h⟩:=Xu h
  cases v with
  | bool m=>
   have h:(i==m)=true:=h
   simp only[beq_iff_eq] at h
   subst h
   show both G (PE.imp Yi3 fun σ H Q q=>Pk (fun _ _=>X4.mpr rfl) q) fun _=>rfl
  | _=>left
 | .non,k,Z,w0,X,ex,G,h=>by
  let⟨v,j,pos,rfl,h⟩:=Xu h
  cases v with
  | none=>show both G (PE.imp Yf0 fun σ H Q q=>Pk (fun _ _=>Zg.mpr rfl) q) fun _=>rfl
  | _=>left
 | .str i,k,Z,w0,X,ex,G,h=>by
  let⟨v,j,pos,rfl,h⟩:=Xu h
  cases v with
  | str m=>
   have h:(i==m)=true:=h
   simp only[beq_iff_eq] at h
   subst h
   show both G (PE.imp Zt3 fun σ H Q q=>Pk (fun _ _=>Zk.mpr rfl) q) fun _=>rfl
  | _=>left
 | .ty t,k,Z,w0,X,ex,G,h=>by
  let⟨x,pos,rfl,h⟩:=Zl h
  change (_&&_)=true at h
  simp only[Bz9,beq_iff_eq,Io] at h
  let⟨g1,g2,g3⟩:=G.gl h.1.2
  show both G (PE.imp (Y57 (v:= .ty (Yj t)) g1 (G.blt x h.2) (by rw[h.1.1];show Y11 t) rfl g3 g2) fun σ H Q q=>Pk (fun _ _=>Y42.mpr rfl) q) fun _=>rfl
 | .glb g,k,Z,w0,X,ex,G,h=>by
  let⟨x,pos,rfl,h⟩:=Zl h
  change (_&&_)=true at h
  simp only[Bz9,beq_iff_eq] at h
  show both G (Ze2 G h.1 h.2) fun _=>rfl
 | .bin op a b,k,Z,w0,X,ex,G,h=>by
  let⟨l,o,r,pos,rfl,h⟩:=Zd8 h
  change (_&&_)=true at h
  simp only[Bz9,beq_iff_eq] at h
  let⟨⟨rfl,h1⟩,h2⟩:=h
  show both G (PE.imp (Yk5 (Zo9 (w0:=w0) op) (Zf c a k Z w0 X l G h1).1 (Zf c b k Z w0 X r G h2).1) fun σ H Q q=>Z40 q) fun _=>rfl
 | .neg a,k,Z,w0,X,ex,G,h=>by
  let⟨o,l,pos,rfl,h⟩:=B4 h
  change (_&&_)=true at h
  simp only[Bz9,beq_iff_eq] at h
  let⟨rfl,h1⟩:=h
  refine both G (PE.imp (Yh4 Zu0 (Zf c a k Z w0 X l G h1).1) fun σ H Q zz110=>?_) fun _=>rfl
  let⟨w,σD,M,QD,S,g,aq⟩:=zz110
  refine Zu S g fun x w1 dx M1 x1 r1 rx q1=>?_
  split at q1
  .cases Za.mp rx
   show⟨_,rfl,aq _ w1 _ M1 x1 r1 (Za.mpr rfl) q1⟩
  .exact q1.elim
 | .not a,k,Z,w0,X,ex,G,h=>by
  let⟨o,l,pos,rfl,h⟩:=B4 h
  change (_&&_)=true at h
  simp only[Bz9,beq_iff_eq] at h
  let⟨rfl,h1⟩:=h
  let⟨i1,i2⟩:=Zf c a k Z w0 X l G h1
  refine⟨PE.imp (Y25 i1) fun σ H Q ⟨w,σD,M,QD,S,g,aq⟩=>?_,fun hn=>PT.imp (Ya9 (i2 hn)) fun σ H Q ⟨w,σD,M,QD,S,g,aq⟩=>?_⟩
  .refine Zu S g fun x w1 dx M1 x1 r1 rx q1=>?_
   let⟨b,t1,t2⟩:=Vl (K:=X.K) (by rw[x1.K,S.K,G.eK]) r1 rx q1
   show⟨b,t1,aq _ w1 _ M1 x1 r1 (X4.mpr rfl) t2⟩
  .exact⟨w,σD,M,fun b M1=>QD (!b) M1,S,g,fun b w' M' x' r' q'=>aq _ w' M' x' r' q'⟩
 | .cmp2 op op2 a b d,k,Z,w0,X,ex,G,h=>by
  let⟨l,r,r2,pos,rfl,h0,h1,h2,h3⟩:=Z05 h
  have ia:=(Zf c a k Z w0 X l G h1).1
  have ib:=(Zf c b k Z w0 X r G h2).1
  have id:=(Zf c d k Z w0 X r2 G h3).1
  show⟨PE.imp (Zk2 (Wo (w0:=w0) G.eK G.units op) (Wo (w0:=w0) G.eK G.units op2) ia ib id h0) fun σ H Q q=>Rf q,fun _=>Z87 (PT.imp (Zl0 (Wo (w0:=w0) G.eK G.units op) (Wo (w0:=w0) G.eK G.units op2) ia ib id h0) fun σ H Q q=>by
   let⟨w,σD,M,QD,S,g0,a⟩:=q
   show Rf ⟨w,σD,M,QD,S,g0,a⟩) te_cmp2_bl⟩
 | .cmp op a b,k,Z,w0,X,ex,G,h=>by
  let⟨l,os,rs,pos,rfl,h⟩:=Gu h
  let⟨o,rfl,h⟩:=Y4 h
  let⟨r,rfl,h⟩:=Y4 h
  change (_&&_)=true at h
  simp only[Bz9,beq_iff_eq] at h
  let⟨⟨⟨rfl,h0⟩,h1⟩,h2⟩:=h
  have hm:behindInMarks (cmOf op) r=false:=by
   cases r with
   | Set es kk p=>cases op<;>first | show absurd h0 'd' | show absurd h0 Bf9 | (simp[isIn,Pa] at h0;done) | (simp[behindInMarks,cmOf])
   | _=>rfl
  have ia:=(Zf c a k Z w0 X l G h1).1
  have ib:=(Zf c b k Z w0 X r G h2).1
  refine⟨PE.imp (Zy8 (Wo (w0:=w0) G.eK G.units op) ia ib hm) fun σ H Q q=>Gh q,fun _=>Z87 (PT.imp (Zw2 (Wo (w0:=w0) G.eK G.units op) ia ib hm) fun σ H Q q=>Gh q) te_cmp_bl⟩
 | .bop b es,k,Z,w0,X,ex,G,h=>by
  let⟨o,ls,pos,rfl,h⟩:=Z34 h
  change (_&&_)=true at h
  simp only[Bz9,beq_iff_eq] at h
  let⟨rfl,h⟩:=h
  cases b with
  | true=>
   let⟨i1,i2⟩:=(X1 c es k Z w0 X ls G h).2 true pos
   show⟨i1,fun hn=>(i2 hn).pt⟩
  | false=>
   let⟨i1,i2⟩:=(X1 c es k Z w0 X ls G h).2 false pos
   show⟨i1,fun hn=>(i2 hn).pt⟩
 | .ife t a b,k,Z,w0,X,ex,G,h=>by
  let⟨x,l,r,pos,rfl,h⟩:=Zq6 h
  change (_&&_)=true at h
  simp only[Bz9] at h
  refine⟨PE.imp (Zq9 ((Zf c t k Z w0 X x G h.1.1.1).2 h.2) (Zf c a k Z w0 X l G h.1.1.2).1 (Zf c b k Z w0 X r G h.1.2).1) fun σ H Q zz113=>?_,fun hn=>by simp[noIf] at hn⟩
  let⟨w,σD,M,QD,S,g,aq⟩:=zz113
  refine⟨w,σD,M,fun r M1=>if r=true then te c Z a σD M1 QD else te c Z b σD M1 QD,S,g,fun r w1 M1 x1 r1 q1=>?_⟩
  cases r with
  | true=>rw[ng rfl] at q1 ⊢;show Zu (S.next x1 r1) q1 (aq.ext x1)
  | false=>rw[nc Bf9] at q1 ⊢;show Zu (S.next x1 r1) q1 (aq.ext x1)
 | .lst es,k,Z,w0,X,ex,G,h=>by
  let⟨ls,pos,rfl,h⟩:=Z43 h
  refine both G (PE.imp (Y76 (X1 c es k Z w0 X ls G h).1) fun σ H Q zz114=>?_) fun _=>rfl
  let⟨w,σD,M,QD,S,g,aq⟩:=zz114
  refine⟨w,σD,M,_,S,g,fun vs w1 ds M1 x1 r1 rd1 q1=>⟨by rw[rd1.length];show q1.1,fun p hp=>?_⟩⟩
  let⟨y1,y2,y3⟩:=Ym r1 hp rd1
  show aq _ _ _ _ (x1.trans y1) y2 y3 q1.2
 | .tup es,k,Z,w0,X,ex,G,h=>by
  let⟨ls,kk,pos,rfl,h⟩:=Gp h
  refine both G (PE.imp (Ya2 (X1 c es k Z w0 X ls G h).1) fun σ H Q zz115=>?_) fun _=>rfl
  let⟨w,σD,M,QD,S,g,aq⟩:=zz115
  refine⟨w,σD,M,_,S,g,fun vs w1 ds M1 x1 r1 rd1 q1=>⟨by rw[rd1.length];show q1.1,fun p hp=>?_⟩⟩
  let⟨y1,y2,y3⟩:=Qj r1 hp rd1
  show aq _ _ _ _ (x1.trans y1) y2 y3 q1.2
 | .dict0,k,Z,w0,X,ex,G,h=>by
  let⟨ks,vs,pos,rfl,h⟩:=Gx h
  let⟨rfl,h⟩:=Y7 h
  let⟨rfl,_⟩:=Y7 h
  refine both G (PE.imp Zo6 fun σ H Q zz116=>?_) fun _=>rfl
  let⟨w,σD,M,QD,S,g,aq⟩:=zz116
  intro p hp
  rw[<-S.heap] at hp
  let⟨y1,y2,y3⟩:=Sw (xs:=[]) (vs:=[]) S.rs hp (by unfold RKV;rfl)
  have:=aq _ _ _ _ y1 y2 y3 g
  rw[<-S.heap]
  show this
 | .lkeys a,k,Z,w0,X,ex,G,h=>by
  let⟨fn,ls,kws,pos,rfl,h⟩:=Zz h
  let⟨x,np,rfl,h⟩:=Zl h
  let⟨rfl,h⟩:=Y7 h
  let⟨l,rfl,h⟩:=Y4 h
  change (_&&_)=true at h
  simp only[Bz9,beq_iff_eq,Io] at h
  let⟨⟨⟨⟨⟨h1,h2⟩,h3⟩,h4⟩,h5⟩,h6⟩:=h
  show both G (Fq G h1 h2 h3 h4 h5 (Zf c a k Z w0 X l G h6).1) fun _=>rfl
 | .lrng a,k,Z,w0,X,ex,G,h=>by
  let⟨x,y,l,p1,p2,q1,q2,rfl,hs⟩:=Bm h
  simp only[Bz9,beq_iff_eq,Io] at hs
  let⟨⟨⟨⟨⟨⟨⟨⟨h1,h2⟩,h3⟩,h4⟩,h5⟩,h6⟩,h7⟩,h8⟩,h9⟩:=hs
  show both G (Z22 G h1 h2 h3 h4 h5 h6 h7 h8 (Zf c a k Z w0 X l G h9).1) fun _=>rfl
 | .dct a b,k,Z,w0,X,ex,G,h=>by
  let⟨ks,vs,pos,rfl,h⟩:=Gx h
  let⟨q,rfl,h⟩:=Y4 h
  let⟨l,rfl,h⟩:=Qm h
  let⟨r,rfl,h2⟩:=Y4 h
  change (_&&_)=true at h2
  rw[Bz9] at h2
  show both G (Z89 G (Zf c a k Z w0 X l G h2.1).1 (Zf c b k Z w0 X r G h2.2).1) fun _=>rfl
 | .ix a b,k,Z,w0,X,ex,G,h=>by
  let⟨l,r,pos,rfl,h⟩:=Rv h
  change (_&&_)=true at h
  simp only[Bz9] at h
  show both G (Zj0 G h.1.1 (Zf c a k Z w0 X l G h.1.2).1 (Zf c b k Z w0 X r G h.2).1) fun _=>rfl
 | .sl a lo hi,k,Z,w0,X,ex,G,h=>by
  let⟨l,r,pos,rfl,h⟩:=Rv h
  let⟨x,y,z,p2,rfl,h⟩:=Jd h
  let⟨rfl,h⟩:=Nl h
  change (_&&_)=true at h
  simp only[Bz9] at h
  show both G (Zs4 G (Zf c a k Z w0 X l G h.1.1).1 ((Cc c lo).1 k Z w0 X x G h.1.2) ((Cc c hi).1 k Z w0 X y G h.2)) fun _=>rfl
 | .fstr es,k,Z,w0,X,ex,G,h=>by
  let⟨v1,v2,vs,pos,rfl,hs⟩:=By h
  show both G (Z02 (E7 c es k Z w0 X _ G hs)) fun _=>rfl
 | .rev a,k,Z,w0,X,ex,G,h=>by
  let⟨l,r,pos,rfl,h⟩:=Rv h
  let⟨x,y,z,p2,rfl,h⟩:=Jd h
  let⟨rfl,h⟩:=Nl h
  let⟨rfl,h⟩:=Nl h
  let⟨z,rfl,h2⟩:=Qm h
  change (_&&_)=true at h2
  rw[Bz9] at h2
  show both G (Ze3 G (Zf c a k Z w0 X l G h2.1).1 h2.2) fun _=>rfl
 | .callH f es,k,Z,w0,X,ex,G,h=>by
  let⟨fn,ls,kws,pos,rfl,h⟩:=Zz h
  let⟨x,np,rfl,h⟩:=Zl h
  let⟨rfl,h⟩:=Y7 h
  let⟨l,ls,rfl,h⟩:=Qd h
  change (_&&_)=true at h
  simp only[Bz9,beq_iff_eq] at h
  show both G (Fs G h.1.1.1 h.1.1.2 h.1.2 h.2 (X1 c es k Z w0 X (l::ls) G h.2).1) fun _=>rfl
 | .call f es,k,Z,w0,X,ex,G,h=>by
  let⟨fn,ls,kws,pos,rfl,h⟩:=Zz h
  let⟨x,np,rfl,h⟩:=Zl h
  let⟨rfl,h⟩:=Y7 h
  change (_&&_)=true at h
  simp only[Bz9,beq_iff_eq] at h
  show both G (Bl G h.1.1.1 h.1.1.2 h.1.2 h.2 (X1 c es k Z w0 X ls G h.2).1) fun _=>rfl
 | .bf b es,k,Z,w0,X,ex,G,h=>by
  let⟨fn,ls,kws,pos,rfl,h⟩:=Zz h
  let⟨x,np,rfl,h⟩:=Zl h
  let⟨rfl,h⟩:=Y7 h
  let⟨l,ls,rfl,h⟩:=Qd h
  change (_&&_)=true at h
  simp only[Bz9,beq_iff_eq,Bool.or_eq_true,Io] at h
  show both G (Zr4 G h.1.1.1.1 h.1.1.1.2 h.1.1.2 h.1.2 h.2 (X1 c es k Z w0 X (l::ls) G h.2).1) fun _=>rfl
 | .mt m o es,k,Z,w0,X,ex,G,h=>by
  let⟨fn,ls,kws,pos,rfl,h⟩:=Zz h
  let⟨l,nm,ap,rfl,h⟩:=O4 h
  let⟨rfl,h⟩:=Y7 h
  change (_&&_)=true at h
  simp only[Bz9,beq_iff_eq,decide_eq_true_eq] at h
  let⟨⟨⟨⟨⟨rfl,h1⟩,h2⟩,h3⟩,h4⟩,h5⟩:=h
  show both G (Zq8 G h1 (by rw[h2];simp) h3 h5 (Zf c o k Z w0 X l G h4).1 (X1 c es k Z w0 X ls G h5).1) fun _=>rfl
 | .fld o f,k,Z,w0,X,ex,G,h=>by
  let⟨l,g,pos,rfl,h⟩:=O4 h
  change (_&&_)=true at h
  simp only[Bz9,beq_iff_eq] at h
  let⟨⟨rfl,h1⟩,h2⟩:=h
  show both G (Ze5 G h1 (Zf c o k Z w0 X l G h2).1) fun _=>rfl
 | .compK N' js tg d e,k,Z,w0,X,ex,G,h=>by
  let⟨el,gens,scope,pos,rfl,h⟩:=Os h
  let⟨g,rfl,h⟩:=Y4 h
  let⟨t,iter,ifs,as⟩:=g
  let⟨rfl,h⟩:=Y7 h
  let⟨rfl,h⟩:=Ft h
  change (_&&_)=true at h
  simp only[Bz9,decide_eq_true_eq] at h
  let⟨⟨⟨⟨⟨⟨h1,h2⟩,h3⟩,h4⟩,h5⟩,h6⟩,h7⟩:=h
  show both G (Ff G h1 h2 h3 h5 (Zf c d k Z w0 X iter G h4).1 h6 h7 (Zf c e)) fun _=>rfl
 | .comp N' js tg it cd e,k,Z,w0,X,ex,G,h=>by
  let⟨el,gens,scope,pos,rfl,h⟩:=Os h
  let⟨g,rfl,h⟩:=Y4 h
  let⟨t,iter,ifs,as⟩:=g
  let⟨rfl,h⟩:=Ft h
  change (_&&_)=true at h
  simp only[Bz9,decide_eq_true_eq] at h
  let⟨⟨⟨⟨⟨⟨⟨⟨h1,h2⟩,h3⟩,h4⟩,h5⟩,h6⟩,h7⟩,h8⟩,h9⟩:=h
  show both G (O9 G h1 h2 h3 h5 (Zg5 c it k Z w0 X t iter G h4 h9) h6 h7 h8 (Zf c e) (Cc c cd)).1 fun _=>rfl
theorem E7(c:Cfg):∀es:Es,Y31 c es
 | .nil,k,Z,w0,X,vs,G,h=>by
  cases Yc1 h
  refine PFs.imp Ye1 fun o σ H Q ⟨w,σD,M,QD,S,g,aq⟩=>⟨g.1,?_⟩
  have:=aq o w M (Ext.refl w) S.rs g.2
  rw[S.heap] at this
  show this
 | .cons e r,k,Z,w0,X,vs,G,h=>by
  rcases Zw7 h with⟨y,j,p,xs,rfl,rfl,h1⟩ | ⟨v,p,xs,rfl,h1,h2⟩
  .refine PFs.imp (Yg5 (E7 c r k Z w0 X xs G h1)) fun o σ H Q zz118=>?_
   let⟨w,σD,M,QD,S,g,aq⟩:=zz118
   obtain⟨g1,g2,g3⟩:y.length<=sizeLine/\(o++y).length<=sizeLine/\tfs c Z r (o++y) σD M QD:=g
   show⟨g2,w,σD,M,QD,S,g3,aq⟩
  .refine PFs.imp (Yb0 (Zf c e k Z w0 X v G h1).1 (E7 c r k Z w0 X xs G h2)) fun o σ H Q zz119=>?_
   let⟨w,σD,M,QD,S,g,aq⟩:=zz119
   refine Zu S g fun u w1 d M1 x1 r1 rd1 q1=>?_
   rcases Zr6 q1 with⟨i,rfl,a1,a2,a3⟩ | ⟨y,rfl,a1,a2,a3⟩
   .cases Za.mp rd1
    show .inl ⟨i,rfl,a1,a2,w1,σD,M1,QD,S.next x1 r1,a3,fun x w' M' x2 r2 q=>aq x w' M' (x1.trans x2) r2 q⟩
   .cases Zk.mp rd1
    show .inr ⟨y,rfl,a1,a2,w1,σD,M1,QD,S.next x1 r1,a3,fun x w' M' x2 r2 q=>aq x w' M' (x1.trans x2) r2 q⟩
theorem X1(c:Cfg):∀es:Es,Zy2 c es
 | .nil,k,Z,w0,X,ls,G,h=>by
  cases ls with
  | nil=>
   refine⟨PA.imp Pj fun σ H Q zz120=>?_,fun b pos=>⟨PE.imp (t:=fun _ _ _=>False) (fun _ _ _ _ _ _ h=>h.elim) fun σ H Q zz121=>by let⟨w,σD,M,QD,S,g,aq⟩:=zz121;show g,fun _ whole pins s σ H Q I zz122=>by let⟨w,σD,M,QD,S,g,aq⟩:=zz122;show g.elim⟩⟩
   let⟨w,σD,M,QD,S,g,aq⟩:=zz120
   have:=aq [] w [] M (Ext.refl w) S.rs (RDs.nil w) g
   rw[S.heap] at this
   show this
  | cons l ls=>left
 | .cons e r,k,Z,w0,X,ls,G,h=>by
  cases ls with
  | nil=>left
  | cons l ls=>
   change (_&&_)=true at h
   simp only[Bz9] at h
   let⟨ie,it⟩:=Zf c e k Z w0 X l G h.1.1
   let⟨ir,ib⟩:=X1 c r k Z w0 X ls G h.2
   refine⟨PA.imp (Tv ie ir (Zp h.1.2)) fun σ H Q ⟨w,σD,M,QD,S,g,aq⟩=>?_,fun b pos=>?_⟩
   .refine Zu S g fun v w1 d M1 x1 r1 rd1 q1=>?_
    refine⟨w1,σD,M1,_,S.next x1 r1,q1,fun vs w2 ds M2 x2 r2 rd2 q2=>?_⟩
    show aq _ w2 _ M2 (x1.trans x2) r2 (RDs.cons (rd1.ext x2) rd2) q2
   .cases r with
    | nil=>
     cases ls with
     | cons _ _=>show absurd h.2 Bf9
     | nil=>
      refine⟨PE.imp (Yg6 ie) fun σ H Q q=>q,fun hn=>?_⟩
      have hn':noIf e=true:=(Bool.and_eq_true_iff.mp (show(noIf e&&Bz .nil)=true from hn)).1
      cases b with
      | true=>show fun whole pins s σ H Q I q=>Zz2 (it hn') whole pins s σ H Q I q
      | false=>show fun whole pins s σ H Q I q=>Yd9 (it hn') whole pins s σ H Q I q
    | cons e2 r2=>
     cases ls with
     | nil=>show absurd h.2 Bf9
     | cons l2 ls=>
      let⟨jb,jw⟩:=ib b pos
      constructor
      .cases b with
       | true=>
        refine PE.imp (Y46 ie jb) fun σ H Q zz124=>?_
        let⟨w,σD,M,QD,S,g,aq⟩:=zz124
        refine Zu S g fun v w1 d M1 x1 r1 rd1 q1=>?_
        let⟨z,t1,t2⟩:=Vl (K:=X.K) (by rw[x1.K,S.K,G.eK]) r1 rd1 q1
        refine⟨z,t1,?_⟩
        cases z with
        | true=>rw[ng rfl] at t2 ⊢;show Zu (S.next x1 r1) t2 (aq.ext x1)
        | false=>rw[nc Bf9] at t2 ⊢;show aq _ w1 _ M1 x1 r1 rd1 t2
       | false=>
        refine PE.imp (Y90 ie jb) fun σ H Q zz125=>?_
        let⟨w,σD,M,QD,S,g,aq⟩:=zz125
        refine Zu S g fun v w1 d M1 x1 r1 rd1 q1=>?_
        let⟨z,t1,t2⟩:=Vl (K:=X.K) (by rw[x1.K,S.K,G.eK]) r1 rd1 q1
        refine⟨z,t1,?_⟩
        cases z with
        | false=>rw[ng rfl] at t2;rw[nc Bf9];show Zu (S.next x1 r1) t2 (aq.ext x1)
        | true=>rw[nc 'd'] at t2;rw[ng rfl];show aq _ w1 _ M1 x1 r1 rd1 t2
      .intro hn
       have hn':noIf e=true/\Bz (.cons e2 r2)=true:=by
        have:(noIf e&&Bz (.cons e2 r2))=true:=hn
        simpa using this
       have jw':=jw hn'.2
       cases b with
       | true=>
        rintro whole pins s σ H Q I ⟨w,σD,M,QD,S,g,aq⟩
        refine Yf5 (it hn'.1) jw' whole pins s σ H Q I ?_
        refine⟨w,σD,M,fun z M1=>if z=true then ttD (tbop c Z true (.cons e2 r2)) σD M1 QD else QD false M1,S,?_,fun z w1 M1 x1 r1 q1=>?_⟩
        .exact te_bop_tt g
        .cases z with
         | true=>rw[ng rfl] at q1 ⊢;show⟨w1,σD,M1,QD,S.next x1 r1,q1,fun z w2 M2 x2 r2 q2=>aq z w2 M2 (x1.trans x2) r2 q2⟩
         | false=>rw[nc Bf9] at q1 ⊢;show aq _ w1 M1 x1 r1 q1
       | false=>
        rintro whole pins s σ H Q I ⟨w,σD,M,QD,S,g,aq⟩
        refine Yh7 (it hn'.1) jw' whole pins s σ H Q I ?_
        refine⟨w,σD,M,fun z M1=>if z=true then QD true M1 else ttD (tbop c Z false (.cons e2 r2)) σD M1 QD,S,?_,fun z w1 M1 x1 r1 q1=>?_⟩
        .exact te_bop_ff g
        .cases z with
         | true=>rw[ng rfl] at q1 ⊢;show aq _ w1 M1 x1 r1 q1
         | false=>rw[nc Bf9] at q1 ⊢;show⟨w1,σD,M1,QD,S.next x1 r1,q1,fun z w2 M2 x2 r2 q2=>aq z w2 M2 (x1.trans x2) r2 q2⟩
theorem Cc(c:Cfg):∀eo:Eo,Zu8 c eo
 | .no=>⟨fun k Z w0 X lo G h=>by
   cases lo with
   | none=>
    rintro pins s σ H Q I ⟨w,σD,M,QD,S,g,aq⟩
    refine Zy4 pins s σ H Q I ?_
    have:=aq none w M (Ext.refl w) S.rs g
    rw[S.heap] at this
    show this
   | some _=>left,fun k Z w0 X ls G h=>by
   cases ls with
   | nil=>show .inr ⟨rfl,rfl⟩
   | cons _ _=>left⟩
 | .yes e=>⟨fun k Z w0 X lo G h=>by
   cases lo with
   | none=>left
   | some x=>
    rintro pins s σ H Q I ⟨w,σD,M,QD,S,g,aq⟩
    refine Z77 (Zf c e k Z w0 X x G h).1 pins s σ H Q I ?_
    refine Zu S g fun v w1 d M1 x1 r1 rd1 q1=>?_
    split at q1
    .cases Za.mp rd1
     show⟨_,rfl,aq _ w1 M1 x1 r1 q1⟩
    .exact q1.elim,fun k Z w0 X ls G h=>by
   match ls,h with
   | [x],h=>
    change (_&&_)=true at h
    simp only[Bz9] at h
    show .inl ⟨x,rfl,(Zf c e k Z w0 X x G h.1).2 h.2⟩
   | [],h=>left
   | _::_::_,h=>left⟩
theorem Zg5(c:Cfg):∀it:It,Yb7 c it
 | .seq e,k,Z,w0,X,tg,ex,G,h,_=>by
  refine PI.imp (Yf2 (Zf c e k Z w0 X ex G h).1) fun σ H R zz126=>?_
  let⟨w,σD,M,QD,S,g,aq⟩:=zz126
  refine Zu S g fun v w1 d M1 x1 r1 rd1 q1=>?_
  have hK:X.K=w1.K:=by rw[x1.K,S.K,G.eK]
  unfold itD at q1
  split at q1
  .let⟨hn,rfl⟩:=Ze.mp rd1
   let⟨xs,z1,z2⟩:=q1
   let⟨_,vs,y1,y2,_⟩:=r1.listL z1
   rw[<-hK] at y1
   show .inl ⟨_,rfl,⟨vs,y1⟩,aq _ w1 _ _ M1 x1 r1 (Zk4 hK hn) z2⟩
  .let⟨a,vs,rfl,y1,y2⟩:=Yb.mp rd1
   show .inr (.inl ⟨a,rfl,⟨vs,.of y1⟩,aq _ w1 _ _ M1 x1 r1 (Za2 hK (.of y1) y2) q1⟩)
  .let⟨a,vs,rfl,y1,y2⟩:=Rx.mp rd1
   show .inr (.inl ⟨a,rfl,⟨vs,by rw[hK];show y1⟩,aq _ w1 _ _ M1 x1 r1 (Za2 hK y1 y2) q1⟩)
  .cases Zk.mp rd1
   show .inr (.inr ⟨_,rfl,aq _ w1 _ _ M1 x1 r1 Y05 q1⟩)
  .exact q1.elim
 | .rng1 a,k,Z,w0,X,tg,ex,G,h,_=>by
  let⟨fn,ls,kws,pos,rfl,h⟩:=Zz h
  let⟨x,np,rfl,h⟩:=Zl h
  let⟨rfl,h⟩:=Y7 h
  let⟨l,rfl,h⟩:=Y4 h
  change (_&&_)=true at h
  simp only[Bz9,beq_iff_eq,Io] at h
  let⟨⟨⟨⟨rfl,h1⟩,h2⟩,h3⟩,h4⟩:=h
  let⟨g1,g2,g3⟩:=G.gl h1
  refine PI.imp (Za3 g1 (G.blt _ h2) (Tv (Zf c a k Z w0 X l G h4).1 Pj (Zp h3)) (Zp h3)) fun σ H R zz127=>?_
  let⟨w,σD,M,QD,S,g,aq⟩:=zz127
  refine Zu S g fun v w1 d M1 x1 r1 rd1 q1=>?_
  split at q1
  .cases Za.mp rd1
   show⟨_,rfl,q1.1,q1.2.1,aq _ w1 _ _ M1 x1 r1 Y35 q1.2.2⟩
  .exact q1.elim
 | .enm a,k,Z,w0,X,tg,ex,G,h,ht=>by
  let⟨elts,ctx,tp,rfl,_⟩:=Gp (F:=fun _=>true) (show Zx1 tg (fun _=>true)=true by cases tg<;>first | rfl | show ht)
  let⟨fn,ls,kws,pos,rfl,h⟩:=Zz h
  let⟨x,np,rfl,h⟩:=Zl h
  let⟨rfl,h⟩:=Y7 h
  let⟨l,rfl,h⟩:=Y4 h
  change (_&&_)=true at h
  simp only[Bz9,beq_iff_eq,Io] at h
  let⟨⟨⟨⟨rfl,h1⟩,h2⟩,h3⟩,h4⟩:=h
  let⟨g1,g2,g3⟩:=G.gl h1
  refine PI.imp (Zz6 g1 (G.blt _ h2) (Tv (Zf c a k Z w0 X l G h4).1 Pj (Zp h3)) (Zp h3)) fun σ H R zz128=>?_
  let⟨w,σD,M,QD,S,g,aq⟩:=zz128
  refine Zu S g fun v w1 d M1 x1 r1 rd1 q1=>?_
  have hK:X.K=w1.K:=by rw[x1.K,S.K,G.eK]
  split at q1
  .let⟨hn,rfl⟩:=Ze.mp rd1
   let⟨xs,z1,z2⟩:=q1
   let⟨_,vs,y1,y2,_⟩:=r1.listL z1
   rw[<-hK] at y1
   show⟨_,rfl,⟨vs,y1⟩,aq _ w1 _ _ M1 x1 r1 (Zn3 hK hn) z2⟩
  .exact q1.elim
end
noncomputable def B2:Expr->Bool
 | .ListComp .. | .SetComp .. | .DictComp ..=>false
 | _=>true
def Zi4:Expr->Bool
 | .Tuple ..=>false
 | _=>true
def notK:E->Bool
 | .compK ..=>false
 | _=>true
def Yd5:Expr->Bool
 | .Name ..=>true
 | _=>false
def Yg3(k:Ck)(t x:Expr):Bool:=match t,x with
 | .Name n b,.ListComp _ _ a p=>k.sc.kind== .function&&k.loc n&&b.line==p.line&&!(a.names.any fun(m,j)=>m==n&&(j== .local || j== .cell))
 | _,_=>false
def Yc3(k:Ck)(t x:Expr):Bool:=match t,x with
 | .Name n _,.ListComp ..=>k.sc.names.lookup n==some .cell
 | _,_=>false
def Yh5(a:Stmt)(F:Expr->Bool):Bool:=if q:a.ctorIdx=24 then Stmt.Expr.elim (motive_2:=fun _=>Bool) a q (fun v _=>F v) else false
def Zi5{a:Stmt}(h:Yh5 a F=true):∃v p,a= .Expr v p/\F v=true:=by
 let⟨q,h⟩:=Zt h
 show Stmt.Expr.elim (motive_2:=fun a=>∀q:a.ctorIdx=24,Stmt.Expr.elim (motive_2:=fun _=>Bool) a q (fun v _=>F v)=true->∃v p,a= .Expr v p/\F v=true) a q (fun v p _ h=>⟨v,p,rfl,h⟩) q h
def Y75(a:Stmt)(F:Expr->(List Stmt)->(List Stmt)->Bool):Bool:=if q:a.ctorIdx=12 then Stmt.If.elim (motive_2:=fun _=>Bool) a q (fun y l r _=>F y l r) else false
def Zi1{a:Stmt}(h:Y75 a F=true):∃y l r p,a= .If y l r p/\F y l r=true:=by
 let⟨q,h⟩:=Zt h
 show Stmt.If.elim (motive_2:=fun a=>∀q:a.ctorIdx=12,Stmt.If.elim (motive_2:=fun _=>Bool) a q (fun y l r _=>F y l r)=true->∃y l r p,a= .If y l r p/\F y l r=true) a q (fun y l r p _ h=>⟨y,l,r,p,rfl,h⟩) q h
def chkB(k:Ck)(h:Tk)(f:Nat)(es:Es)(st:Stmt):Bool:=Yh5 st fun v=>Xx v fun b _ a _=>Yz b fun _=>on0 a (match h with
 | .drop=>chkE k (.call f es) v
 | _=>false)
def Ye9:Op->Bool
 | .add | .sub=>true
 | _=>false
mutual
noncomputable def chkS(k:Ck):S->Stmt->Bool
 | .ret e,.Return (some x) _=>chkE k e x
 | .expr e,.Expr x _=>B2 x&&chkE k e x
 | .set d e,.Assign [t] x _=>So k d t&&chkE k e x&&((B2 x&&(Yd5 t || Zi4 x)) || (Yg3 k t x&&(decide (d.length=1)&&notK e)) || Yc3 k t x)
 | .aug p j e,.AugAssign (.Name x _) o y _=>o==opOf p&&Ye9 p&&k.N[j]?==some x&&k.locC x&&chkE k e y
 | .put o i v,.Assign [.Subscript l r _] x _=>Fb r&&B2 x&&chkE k v x&&chkE k o l&&chkE k i r
 | .ite t a b,.If x c B _=>chkE k t x&&noIf t&&Xa k a c&&Xa k b B
 | .for_ d q b,.For t x c [] _=>k.calm&&k.loops&&Pa x&&So k d t&&Y10 k q x&&Xa k b c&&itTg q t
 | .forK d e b,.For t x c [] _=>k.calm&&k.loops&&Pa x&&So k d t&&chkE k e x&&Xa k b c
 | .while_ t b,.While x c [] _=>k.loops&&chkE k t x&&noIf t&&Xa k b c
 | .raise g m,.Raise I K _=>soO I fun e=>Xx e fun F c D _=>Yz F fun x=>on0 D (noO K (k.calm&&k.raises.contains g&&k.GN[g]?==some x&&k.glob x&&decide (c.length<=1)&&W1 k m c))
 | .tryI t f m H h g i s,.Try L E o G _=>on1 L fun b=>Y75 b fun y l r=>on1 l fun P=>on1 r fun O=>on1 E fun J=>match J with
  | .ExceptHandler u C M _=>soO u fun w=>Yz w fun x=>soO C fun n=>on0 o (on0 G (onC M fun A z=>k.calm&&k.tries&&k.GN[g]?==some x&&k.glob x&&k.N[i]?==some n&&k.loc n&&noIf t&&chkE {k with tries:=false,raises:=[]} t y&&chkB {k with tries:=false,raises:=[]} .drop f m P&&
   chkB {k with tries:=false,raises:=[]} .drop H h O&&Xa {k with calm:=false,loops:=true,tries:=false,raises:=[]} s (A::z)))
 | _,_=>false
noncomputable def Xa(k:Ck):Ss->List Stmt->Bool
 | .nil,[]=>true
 | .cons s r,x::a=>chkS k s x&&Xa k r a
 | _,_=>false
end
section
variable{c:Cfg}{k:Ck}{Z:DX}{w0:Vw}{X:Cx}
def Fu{x:Expr}{t:Option Expr}{a:Nat}(h:B2 x=true):swapsWith x t a env=pure false:=by
 cases x<;>first | rfl | cases h
def O6{i:L2.St}{w:Vw}{H:Hp}(S:StOk w0 w g M i H)(h:f RR g M)
  (n:∀b d a e,Ext w d->RS d e->REnv d a b->RR.nx a e->R.nx b d.H) (m:Aft w RR.rt R.rt)
  (l:∀b d a e,Ext w d->RS d e->REnv d a b->RR.bk a e->R.bk b d.H)
  (j:∀b d a e,Ext w d->RS d e->REnv d a b->RR.ct a e->R.ct b d.H):tFS w0 f R i H:=⟨w,g,M,RR,S,h,n,m,l,j⟩
def Zy0(X:Cx)(R:Ends):Ends:={nx:=fun d H=>∃a o b,H a=some (.frz o (.dK b))/\(∀o u,X.H₀ a≠some (.frz o u))/\R.nx d (upd H a (.dK b)),rt:=fun v H=>∃a o b,H a=some (.frz o (.dK b))/\(∀o u,X.H₀ a≠some (.frz o u))/\R.rt v (upd H a (.dK b))}
def Y54{st:Stmt}{t:TS}(h:PS X st t):PS X st (fun R j H=>t (Zy0 X R) j H):=by
 intro d s j H D I q
 refine thn (h d s j H (Zy0 X D) I q) fun f p i=>?_
 cases f with
 | next=>
  let⟨b,n,g,a,o,m,e,l,q⟩:=i
  show⟨b,_,Ze9 g e l,q⟩
 | brk=>let⟨b,n,g,q⟩:=i;show q.elim
 | cont=>let⟨b,n,g,q⟩:=i;show q.elim
 | ret u=>
  let⟨v,b,n,g,r,a,o,m,e,l,q⟩:=i
  show⟨v,b,_,Ze9 g e l,r,q⟩
def REnv.ext0{w f:Vw}{a:DEnv}{b:L2.St}(h:REnv w a b)(x:Ext0 w f):REnv f a b:=
 ⟨h.1,fun i d e=>by let⟨v,q,r⟩:=h.2 i d e;show⟨v,q,r.ext0 x⟩⟩
def Ze0{w1:Vw}{J:L2.It}{own:Own}{xs:LD}{t:LQ}{body:DS}{L:Z1}{V:Hp}{o:DEnv}{n:L2.St}{RR:DEnds}{R:Ends}(S:StOk w0 w1 o L n V)(jk:JOk w1 J own xs)
  (h:forD own xs t body xs RR o L)
  (T:∀b f a g,Ext w1 f->RS f g->REnv f a b->RR.nx a g->R.nx b f.H) (h2:Aft w1 RR.rt R.rt):
  ∃W:Nat->Nat->L2.St->Hp->Prop,(∃m,W 0 m n V)/\∀i m n H,W i m n H->
   (J.stop i H/\R.nx n H)\/(J.go i H/\∃N:L2.St->Hp->Prop,(∀b H',N b H'->∃Q,Q<m/\W (i+1) Q b H')/\∀x H',J.yld i H x H'->gF w0 t x n H' fun j H2=>tFS w0 body {R with nx:=N,ct:=N,bk:=R.nx} j H2):=by
 refine⟨fun i m n H=>∃w e M,StOk w0 w e M n H/\Ext w1 w/\i<=xs.length/\m=xs.length - i/\forD own xs t body (xs.drop i) RR e M,⟨xs.length,w1,o,L,S,Ext.refl _,nq _,rfl,h⟩,?_⟩
 rintro i m F Hc ⟨w,e,M,l,z,hi,rfl,y⟩
 have q:∀u:Ou own xs M,_:=fun u=>jk w M z l.rs u i
 rw[l.heap] at q
 by_cases r:i<xs.length
 .rw[Im r] at y
  let⟨u,y⟩:=y
  let⟨j1,j2⟩:=(q u).1 xs[i] (Aa r)
  refine .inr ⟨j1,fun b H'=>∃w e M,StOk w0 w e M b H'/\Ext w1 w/\i+1<=xs.length/\forD own xs t body (xs.drop (i+1)) RR e M,?_,fun x H' hy=>?_⟩
  .rintro b H' ⟨w2,j,M2,S2,Y,l2,f2⟩
   show⟨xs.length - (i+1),'o',w2,j,M2,S2,Y,l2,rfl,f2⟩
  .let⟨P,rfl,p,U,G⟩:=j2 x H' hy
   refine⟨P,e,M,xs[i],_,⟨rfl,l.ext.trans p,U,l.env.ext p⟩,G,y,fun j O E q2=>?_⟩
   have C:∀b f a g,Ext P f->RS f g->REnv f a b->forD own xs t body (xs.drop (i+1)) RR a g->
     ∃w e M,StOk w0 w e M b f.H/\Ext w1 w/\i+1<=xs.length/\forD own xs t body (xs.drop (i+1)) RR e M:=
    fun b f a g s A K B=>⟨f,a,g,⟨rfl,(l.ext.trans p).trans s,A,K⟩,(z.trans p).trans s,r,B⟩
   show O6 ⟨rfl,l.ext.trans p,U,E⟩ q2 C (fun v f d g s A I B=>h2 v f d g ((z.trans p).trans s) A I B)
    (fun b f a g s A K B=>T b f a g ((z.trans p).trans s) A K B) C
 .rw[List.drop_eq_nil_of_le 'o'] at y
  let⟨u,hq⟩:=y
  refine .inl ⟨(q u).2 'o',?_⟩
  have:=T F w e M z l.rs l.env hq
  rw[l.heap] at this
  show this
def Y89{o i value:Expr}(hu:X.A.units+1<cLine)(ho:PE X o td)(hi:PE X i ty)(hv:PE X value tv)(hs:swapsWith value (some (.Subscript o i pos')) pos.line X.env=pure false):
  PS X (.Assign [.Subscript o i pos'] value pos) (fun R σ H=>tv σ H fun v H1=>td σ H1 fun x H2=>ty σ H2 fun y H3=>Y85 x y v H3 (fun H4=>R.nx σ H4)\/∃a H4,x= .ref a/\DPut H3 a y v H4/\R.nx σ H4):=by
 intro pins s σ H D I h
 refine wpAny_Assign_Subscript (thn (hv pins s σ H _ I h) fun r s1 ⟨v,H1,I1,rv,q1⟩=>thn (ho pins s1 σ H1 _ I1 q1) fun u s2 ⟨x,H2,I2,rx,q2⟩=>thn (hi pins s2 σ H2 _ I2 q2) fun iv s3 zz131=>?_) hs
 let⟨y,H3,I3,ry,q3⟩:=zz131
 rcases q3 with q3 | ⟨a,H4,ex,g,q3⟩
 .exact thn (Zn7 pins s3 σ H3 x y v u iv r (fun H4=>D.nx σ H4) I3 rx ry rv q3) fun _ s4 zz132=>by let⟨H4,I4,q4⟩:=zz132;show⟨σ,H4,I4,q4⟩
 .subst ex
  obtain rfl:u=Value.ref a:=rx
  show Z81 hu I3 g ry rv fun s4 I4=>⟨σ,H4,I4,q3⟩
def Ze1{E:XK}{x:Str}{J a pos:Pos}{n:Nat}{o:FuncData}{sp:Sp}{p:LW}{t:TA}(L:Leaves X E)(hc:X.calm=true)(u:ExcMk X.K C f)(F:FnOk X.prog X.w X.K X.mg X.base CX0 n f o ps sp)(U:Room (n+1) X.A)(hb:Y9 X.K o ps p)(hd:Vals dvs p)(hg:Gl X x)(Y:X.mg x=↑C)
  (ha:PA X (e::es) t) (l:(x==("__debug__":Str))=false) (he:starEach (e::es) X.env=(false,eval e X.env)::starEach es X.env) (j:(backTo a (starEach es X.env)).any (·.1)=false):
  PS X (.Raise (some (.Call (.Name x J) (e::es) [] a)) none pos) (Zu4 C sp dvs E t):=by
 intro d s B H D I h
 rw[arm_exec_Raise]
 simp only[show ∀e v,evalOpt (some e) v=some (eval e v) from fun _ _=>rfl,show ∀v,evalOpt none v=none from fun _=>rfl,Option.map]
 refine Ad (Lm (Px (C:=C) (I.ok.hd hc) ?_))
 refine Ad (Dx (Q:=fun v b=>∃(e:Uh) (M q:Str) (N:Uh) (bs bm:LW) (g:Bool) (G:LS) (i:LW) (ab:Bool) (m:Option Bool) (dd:Option Uh) (T S R P O:Option Uf) (dx:Option Uh),
   v= .ref e/\ExcCls b.heap C M q N bs bm g G i ab m dd T S R P O "ValueError" "ValueError.__new__"/\ExAt b.heap e (.ref C) dx .none/\X.xe (.ref e) b) ?_ (fun v b z=>Ad (Lm (Am z))) fun _ _ z=>z)
 refine Hq (Xp I hg Y ?_ l)
 refine Mj (h₀:=X.base) I.ok.mod.kin u.kp (thn (ha a d s B H _ I h) fun us b ⟨vs,H1,y,r,q⟩=>⟨y.kIn,?_⟩) he j
 show Ef L u F U hb hd y r q.1 q.2
end
def B1(c:Cfg)(s:S):Prop:=∀(k:Ck) (Z:DX) (a:Vw) (X:Cx) (b:Stmt),Good c k Z a X->chkS k s b=true->PS X b (tFS a (ts c Z s))
def Zb8(c:Cfg)(s:Ss):Prop:=∀(k:Ck) (Z:DX) (a:Vw) (X:Cx) (b:List Stmt),Good c k Z a X->Xa k s b=true->PSs X b (tFS a (tss c Z s))
section
variable{c:Cfg}{k:Ck}{Z:DX}{w0:Vw}{X:Cx}
def Good.noxG(G:Good c k Z w0 X):Good c {k with tries:=false,raises:=[]} noX w0 X.nox where
 hK:=G.hK
 wK:=G.wK
 N:=G.N
 nd:=G.nd
 sc:=G.sc
 calm:=G.calm
 units:=G.units
 fns:=fun h f x b i g=>by
  let⟨e,f,j,d,n,l,o,a,h⟩:=G.fns h f x b i g
  show⟨e,f,j,d,n,l,o,a,h⟩
 flen:=G.flen
 glb:=G.glb
 blt:=G.blt
 exc:=⟨E0,fun _ _ _ _ _ _ _ h=>by
  let⟨_,_,_,_,_,_,_,_,_,_,_,_,_,_,_,h⟩:=h
  show h.elim,fun p q s h=>by
  let⟨_,_,_,_,_,_,_,_,_,_,_,_,_,h⟩:=h
  show h.elim⟩
 stk:=fun h=>by cases h
 rai:=fun _ h=>absurd h Bf9
 po:=fun _=>On
 fnc:=G.fnc
 fno:=G.fno
 fnh:=fun f x b i g m=>by
  let⟨e,f,j,d,F,r,h⟩:=G.fnh f x b i g m
  show⟨e,f,j,d,F,⟨r.dp,r.un⟩,h⟩
def Good.heldG(G:Good c k Z w0 X)(e:Uh):Good c {k with calm:=false,loops:=true,tries:=false,raises:=[]} noX w0 (Held X e) where
 hK:=G.hK
 wK:=G.wK
 N:=G.N
 nd:=G.nd
 sc:=G.sc
 calm:=fun h=>by cases h
 units:=G.units
 fns:=fun h=>by cases h
 flen:=G.flen
 glb:=G.glb
 blt:=G.blt
 exc:=⟨E0,fun _ _ _ _ _ _ _ h=>by
  let⟨_,_,_,_,_,_,_,_,_,_,_,_,_,_,_,h⟩:=h
  show h.elim,fun m n o h=>by
  let⟨_,_,_,_,_,_,_,_,_,_,_,_,_,h⟩:=h
  show h.elim⟩
 stk:=fun h=>by cases h
 rai:=fun _ h=>absurd h Bf9
 po:=fun _=>On
 fnc:=G.fnc
 fno:=G.fno
 fnh:=fun f x a j i g=>by
  let⟨d,f,l,b,F,r,h⟩:=G.fnh f x a j i g
  show⟨d,f,l,b,F,⟨r.dp,r.un⟩,h⟩
def tFX(w0:Vw)(g:DX->DE):TEX:=fun h H Q E=>∃w a M e Z,StOk w0 w a M h H/\g Z a M e/\Aft w e Q/\∀b d f,xkOf w Z b d f->E b d f
def PEX.imp{t t':TEX}(h:PEX X e t)(q:∀a H Q E,t' a H Q E->t a H Q E):PEX X e t':=fun b s a H Q E I z=>h b s a H Q E I (q a H Q E z)
def Z99{sp:Sp}{b:LW}{x:Str}{p pos:Pos}(F:FnOk X.prog X.w X.K X.mg X.base (CX1 X.prog X.w) g f j ps sp)(n:Room g X.A)(t:Gl X x)(o:X.mg x=↑f)(r:Dv X.K (.ref f)=true)(v:Y9 X.K j ps b)(i:Vals dvs b)
  (d:(x==("__debug__":Str))=false):PEX X (.Call (.Name x p) [] [] pos) (Zu9 sp dvs tNil):=by
 intro e s B H Q E I h
 refine Hq (Xp I t o ?_ d)
 refine PySem.W.callWith_K0 I.kIn r ?_
 have q:([]++b).length=ps.length:=by
  have m:Vals ([]++dvs) ([]++b):=i
  rw[<-m.length];show F.len _ _ _ _ h
 refine Lc (Kr (F.run X.A X.stack s H ⟨[],[]⟩ ([]++b) ([]++dvs) Q E n I.env0 (v s [] I.kIn q) i h) fun l C a=>?_)
 cases l with
 | error z=>show Yb9 I a
 | ok y=>
  cases y with
  | ret u=>show I.after a
  | next=>show Dk a
  | brk=>show Dk a
  | cont=>show Dk a
def Q1{x:Str}{i:List Expr}(G:Good c k Z w0 X)(h:chkE {k with tries:=false,raises:=[]} (.call f es) (.Call (.Name x J) i [] pos)=true):PEX X (.Call (.Name x J) i [] pos) (tFX w0 fun Z=>fun b M j=>tes c noX es b M fun t D=>match c.Γ[f]? with
  | some s=>s t D j Z
  | none=>False):=by
 change (_&&_)=true at h
 simp only[Bz9,beq_iff_eq] at h
 let⟨⟨⟨hc,P⟩,hg⟩,d⟩:=h
 let⟨g1,g2,g3⟩:=G.gl hg
 cases p:c.Γ[f]? with
 | none=>
  have h1:=(Ab.mp P).1
  have h2:=Lu.mp p
  rw[G.flen] at h1
  lia
 | some s=>
  let⟨kk,fa,fd,pr,t,A,dD,y,F,L,N,O,T,R,hD,o⟩:=G.fns hc f x s P p
  have n:∀m H Q E,tFX w0 (fun Z=>fun b M j=>tes c noX es b M fun t D=>s t D j Z) m H Q E->tFA w0 (tes c noX es) m H fun I H1=>spF X.K y (I++A) H1 Q E:=by
   rintro m H Q E ⟨w,b,M,j,Z',S,g,a,U⟩
   refine⟨w,b,M,_,S,g,fun I v B M' u V z W=>?_⟩
   have q:v.K=X.K:=by rw[u.K,S.K,G.eK]
   show⟨v,B++dD,M',j,Z',q,rfl,V,z.append (hD v q),o _ _ _ _ W,a.ext u,fun C dd H' hx=>U C dd H' (F2 u hx)⟩
  cases i with
  | nil=>
   refine PEX.imp (Z99 F L g1 N O T R g2) fun m H Q E h=>?_
   let⟨w,b,M,j,S,g,a⟩:=n m H Q E h
   cases es with
   | nil=>
    have:=a [] w [] M (Ext.refl w) S.rs (RDs.nil w) g
    rw[S.heap] at this
    show this
   | cons e r=>show absurd d Bf9
  | cons l i=>
   cases es with
   | nil=>show absurd d Bf9
   | cons e r=>
    have Y:=(X1 c (.cons e r) _ _ w0 X.nox (l::i) G.noxG d).1
    change (_&&_)=true at d
    simp only[Bz9] at d
    show PEX.imp (Zl9 F L g1 N O T R Y g2 (Zp d.1.2) (Vx (Yx r i d.2))) n
def Yg1{a b:List Stmt}{n:TT}{p o:TSX}(u:PT X.nox e n)(y:PSX X a p)(x:PSX X b o):PSX X [.If e a b pos] (fun D E g H=>n g H fun r i=>if r=true then p D E g i else o D E g i):=by
 intro d s g H D E I h
 have j:∀(f:Flow) (l:Ug),SP X d D f l->(match f with | .next=>⇑X (execs [] X.env) (SP X d D) (XP X d g E) l | f=>SP X d D f l):=fun f l h=>by
  cases f with
  | next=>show Lg h
  | ret v=>show h
  | brk=>show h
  | cont=>show h
 refine wpAny_execs_cons (wpAny_If (Dx (u d s g H _ (I.wish _) h) (fun r m zz134=>?_) fun _ _ z=>z.elim))
 let⟨i,B,q⟩:=zz134
 have t:Inv X d g i m:=B.unwish
 cases r with
 | true=>show Dx (y d m g i D E t q) j fun _ _ z=>z
 | false=>show Dx (x d m g i D E t q) j fun _ _ z=>z
def Og{k:Ck}{b:Stmt}(h:chkB k .drop f es b=true):∃x p a q pos,b= .Expr (.Call (.Name x p) a [] q) pos/\chkE k (.call f es) (.Call (.Name x p) a [] q)=true:=by
 let⟨v,pos,rfl,h⟩:=Zi5 h
 let⟨e,a,d,q,rfl,h⟩:=Zz h
 let⟨x,p,rfl,h⟩:=Zl h
 let⟨rfl,h⟩:=Y7 h
 show⟨x,p,a,q,pos,rfl,h⟩
def Z63{c:Cfg}{X:DX}{t:E}{f:Nat}{es:Es}{m:Nat}{d:Es}{g i:Nat}{s:Ss}{R:DEnds}{b:DEnv}{M:Z1}:ts c X (.tryI t f es m d g i s) R b M=(match c.G[g]? with
  | some (.cls D)=>tt c noX t b M fun r u=>tes c noX (if r=true then es else d) b u fun p q=>match c.Γ[if r=true then f else m]? with
   | some n=>n p q (fun _ l=>R.nx b l) fun C j l=>Catch c.K C D true/\∀e o,
     tss c noX s {nx:=fun a h=>R.nx (a.set i none) h,rt:=R.rt,bk:=fun a h=>R.bk (a.set i none) h,ct:=fun a h=>R.ct (a.set i none) h} (b.set i (some (.exn e C o j))) l
   | none=>False
  | _=>False):=rfl
set_option tactic.hygienic true in
def Z29{t:E}{g i:Nat}{y:Expr}{x n:Str}(G:Good c k Z w0 X)(hc:k.calm=true)(ht:k.tries=true)(hg:k.GN[g]?=some x)(t0:k.glob x=true)(hi:k.N[i]?=some n)(hl:k.loc n=true)
  (x0:noIf t=true) (hy:chkE {k with tries:=false,raises:=[]} t y=true) (q0:chkB {k with tries:=false,raises:=[]} .drop f es b1=true) (r0:chkB {k with tries:=false,raises:=[]} .drop f2 s b2=true) (hs:Xa {k with calm:=false,loops:=true,tries:=false,raises:=[]} F (s0::Y)=true) (ih:Zb8 c F):
  PS X (.Try [.If y [b1] [b2] ip] [.ExceptHandler (some (.Name x np)) (some n) (s0::Y) hp] [] [] pos) (tFS w0 (ts c Z (.tryI t f es f2 s g i F))):=by
 let⟨g1,g2,g3⟩:=G.gl t0
 let⟨y0,z0⟩:=G.stk ht
 have v0:X.env.scope.names.lookup n=some .local:=by
  unfold Ck.loc at hl
  rw[G.sc];show La hl
 have u0:X.N[i]?=some n:=by rw[G.N];show hi
 by_cases Q:∃D,c.G[g]?=some (.cls D)
 rotate_left
 .refine PS.imp Bc fun R W H zz135=>?_
  let⟨w,b,M,j,S,q,_⟩:=zz135
  rw[Z63] at q
  split at q
  .rename_i D e;show(Q ⟨D,e⟩).elim
  .exact q
 let⟨Dc,Q⟩:=Q
 let⟨v,u,q1,p,q3⟩:=G.glb g x _ hg Q
 have hv:v= .ref Dc:=Xf.mp (q3 ⟨X.K,fun _=>none,fun _=>0,0⟩ rfl)
 subst hv
 cases (show u=Value.ref Dc from p)
 have o:∀e,PSs (Held X e) (s0::Y) (tFS w0 (tss c noX F)):=fun e=>ih _ _ w0 (Held X e) (s0::Y) (G.heldG e) hs
 let⟨x1,p1,l1,c1,o1,rfl,k1⟩:=Og q0
 let⟨B,p2,l2,c2,o2,rfl,k2⟩:=Og r0
 have hT:PT X.nox y (tFT w0 (tt c noX t)):=(Zf c t _ _ w0 X.nox y G.noxG hy).2 x0
 refine PS.imp (Yc0 (Yg1 hT (Cb (Q1 G k1) rfl) (Cb (Q1 G k2) rfl)) o G.nd u0 v0 g1 q1 y0 z0 g2) fun R W H zz136=>?_
 let⟨w,b,M,j,S,q,h1,h2,h3,h4⟩:=zz136
 rw[Z63] at q
 rw[Q] at q
 refine⟨w,b,M,_,S,q,fun r w1 M1 I r1 q'=>?_⟩
 have S1:=S.next I r1
 have T:∀(f:Nat) (es:Es),(tes c noX es b M1 fun ds A=>match c.Γ[f]? with
   | some sp=>sp ds A (fun _ V=>j.nx b V) fun C O V=>Catch c.K C Dc true/\∀e dx,tss c noX F {nx:=fun a h=>j.nx (a.set i none) h,rt:=j.rt,bk:=fun a h=>j.bk (a.set i none) h,ct:=fun a h=>j.ct (a.set i none) h} (b.set i (some (.exn e C dx O))) V
   | none=>False)->Zs9 (tFX w0 fun Z=>fun b M QD=>tes c noX es b M fun ds M1=>match c.Γ[f]? with
    | some sp=>sp ds M1 QD Z
    | none=>False) R (fun z dd H1=>∃C,z= .ref C/\Catch X.K C Dc true/\∀e,H1 e=some (XO e z dd)->tFS w0 (tss c noX F) {nx:=fun a J=>R.nx (a.set i none) J,rt:=R.rt,bk:=fun a J=>R.bk (a.set i none) J,ct:=fun a J=>R.ct (a.set i none) J} (W.set i (↑e)) H1) W w1.H:=by
  intro f es q
  refine⟨w1,b,M1,fun _ V=>j.nx b V,_,S1,q,fun v w' d h l r' p0 q'=>h1 W w' b h (I.trans l) r' ((S1.env).ext l) q',?_⟩
  rintro z dd J ⟨C,dx,r,w',O,h,rfl,rfl,rfl,l,r',z1,z2,z3,z4⟩
  refine⟨C,rfl,by rw[G.hK];show z3,fun e he=>?_⟩
  refine O6 (RR:={nx:=fun a h=>j.nx (a.set i none) h,rt:=j.rt,bk:=fun a h=>j.bk (a.set i none) h,ct:=fun a h=>j.ct (a.set i none) h}) ⟨rfl,S1.ext.trans l,r',(S1.env.ext l).set i (Q5.mpr ⟨rfl,he,r,z1,z2⟩)⟩ (z4 e dx) ?_ ?_ ?_ ?_
  .exact fun a L m A B P U p=>h1 _ L _ A ((I.trans l).trans B) P (U.drop i) p
  .exact h2.ext (I.trans l)
  .exact fun a L m A B P U p=>h3 _ L _ A ((I.trans l).trans B) P (U.drop i) p
  .exact fun a L m A B P U p=>h4 _ L _ A ((I.trans l).trans B) P (U.drop i) p
 cases r with
 | true=>show T f es q'
 | false=>show T f2 s q'
end
section
variable{c:Cfg}{k:Ck}{Z:DX}{w0:Vw}{X:Cx}
def Bu{H:Hp}{e d:Uh}{a b c' d':HO}(h:(upd H e a) d=none):upd (upd (upd (upd H e a) d b) e c') e d'=upd (upd H d b) e d'/\d≠e:=by
 have f:d≠e:=by
  rintro rfl
  rw[Zd] at h
  cases h
 refine⟨?_,f⟩
 funext p
 unfold upd
 by_cases i:p=e
 .simp[i]
 .by_cases g:p=d
  .simp[g,f]
  .simp[i,g]
def En{c:Cfg}{k:Nat}{a:DEnv}:ts c Z (.raise k es) R a M=(match c.G[k]? with
  | some (.cls C)=>tes c Z es a M fun b d=>match excD b with
   | some r=>Z C r d
   | none=>False
  | _=>False):=rfl
set_option tactic.hygienic true in
def E4{x:Str}{p:List Expr}(G:Good c k Z w0 X)(hc:k.calm=true)(hr:k.raises.contains g=true)(hg:k.GN[g]?=some x)(r0:k.glob x=true)(hn:p.length<=1)(A:W1 k es p=true)(ih:PA X p (tFA w0 (tes c Z es))):
  PS X (.Raise (some (.Call (.Name x np) p [] v0)) none pos) (tFS w0 (ts c Z (.raise g es))):=by
 let⟨g1,g2,g3⟩:=G.gl r0
 by_cases Q:∃C,c.G[g]?=some (.cls C)
 .let⟨C,Q⟩:=Q
  let⟨v,u,q1,q2,q3⟩:=G.glb g x _ hg Q
  have hv:v= .ref C:=Xf.mp (q3 ⟨X.K,fun _=>none,fun _=>0,0⟩ rfl)
  subst hv
  cases (show u=Value.ref C from q2)
  let⟨⟨E,L,xk⟩,rs⟩:=G.rai g hr
  let⟨kk,f,fd,Mk,F,t,b1,b0,S0⟩:=rs C Q
  have Y:∀(R:Ends) (s:L2.St) (H:Hp) (P:LV) (u0:LD->D),(∀(w:Vw) j m r,excD j=some r->RDs w j m->j.length=p.length->∃y,m++P=[y]/\RD w r y)->(∀i M I,tes c Z es i M I->tes c Z es i M fun j J=>j.length=p.length/\I j J)->tFS w0 (ts c Z (.raise g es)) R s H->
    tFA w0 (tes c Z es) s H fun m H1=>m.length<=8/\∀e,H1 e=none->Ol X.K (.ref e::(m++P)) (upd H1 e (XN e (.ref C) none)) (fun v H2=>v= .non/\∃dd,H2 e=some (XN e (.ref C) dd)/\E (.ref C) dd (upd H2 e (XO e (.ref C) dd))) E0:=by
   rintro R s H P u0 z0 y0 ⟨w,i,M,RR,S,q,_⟩
   rw[En] at q
   rw[Q] at q
   refine⟨w,i,M,_,S,y0 _ _ _ q,fun m U j M' x' r' t0 W=>?_⟩
   let⟨hl,W⟩:=W
   split at W
   .rename_i r er
    let⟨y,ey,ry⟩:=z0 U j m r er t0 hl
    have s0:m.length<=8:=by
     have:=congrArg List.length ey
     simp at this
     lia
    refine⟨s0,fun e he=>⟨e,C,y,by rw[ey],Zd,S0,fun n O=>⟨rfl,some n,Zd,?_⟩⟩⟩
    let⟨eH,N⟩:=Bu (b:= .xd [("row",y)]) (c':=XN e (.ref C) (some n)) (d':=XO e (.ref C) (some n)) O
    rw[eH]
    have B:U.H n=none:=by rw[Z7 N] at O;show O
    have x0:(U.alloc n (.xd [("row",y)])).H e=none:=by
     change upd U.H n _ e=none
     rw[Z7 (Ia N)];show he
    have y1:=Xi (o:= .xd [("row",y)]) B
    have y2:=Xi (o:=XO e (.ref C) (some n)) x0
    have T:=y1.trans y2
    refine xk _ _ _ ⟨C,n,y,(U.alloc n (.xd [("row",y)])).alloc e (XO e (.ref C) (some n)),r,M',rfl,rfl,rfl,(S.ext.trans x').trans T,(r'.alloc B).alloc x0,?_,ry.ext T,W⟩
    rw[Z7 N,Zd]
   .exact W.elim
  cases p with
  | nil=>
   cases es with
   | cons e r=>show absurd A Bf9
   | nil=>
    refine PS.imp (Zd3 L (G.calm hc) Mk F t b1 (dvs:=[.non]) (.cons rfl .nil) g1 q1 g2) fun R s H h=>?_
    let⟨w,i,M,I,S,q,a⟩:=Y R s H [.non] (fun _=> .non) (fun w j m r er rd hl=>by
     cases Hz.mp hl
     cases rds0 rd
     cases er
     show⟨.non,rfl,Zg.mpr rfl⟩) (fun i M I h=>⟨rfl,h⟩) h
    have:=a [] w [] M (Ext.refl w) S.rs (RDs.nil w) q
    rw[S.heap] at this
    show this
  | cons l p=>
   cases p with
   | cons _ _=>simp at hn
   | nil=>
    cases es with
    | nil=>show absurd A Bf9
    | cons ee r=>
     cases r with
     | cons _ _=>
      change (_&&_)=true at A
      simp only[Bz9] at A
      show absurd A.2 Bf9
     | nil=>
      change (_&&_)=true at A
      simp only[Bz9] at A
      refine PS.imp (Ze1 L (G.calm hc) Mk F t b0 (dvs:=[]) .nil g1 q1 ih g2 (Zp A.1.2) rfl) fun R s H h=>?_
      show Y R s H [] (fun _=> .non) (fun w j m r er rd hl=>by
       match j,hl with
       | [d],_=>
        let⟨y,rfl,ry⟩:=rds1 rd
        cases er
        show⟨y,rfl,ry⟩) (fun i M I h=>by
       have e:(fun(d:D) (J:Z1)=>I [d] J)=fun d J=>[d].length=[l].length/\I [d] J:=by
        funext d J
        show propext ⟨fun z=>⟨rfl,z⟩,fun z=>z.2⟩
       have h':te c Z ee i M fun(d:D) (J:Z1)=>I [d] J:=h
       rw[e] at h'
       show h') h
 .refine PS.imp Bc fun R s H zz137=>?_
  let⟨w,i,M,RR,S,q,_⟩:=zz137
  rw[En] at q
  split at q
  .rename_i C e;show(Q ⟨C,e⟩).elim
  .exact q
end
def Z15{k:Ck}{t x:Expr}(h:Yg3 k t x=true):∃n b c a scope p,t= .Name n b/\x= .ListComp c a scope p:=by
 cases t with
 | Name n b=>
  cases x with
  | ListComp c a scope p=>show⟨_,_,_,_,_,_,rfl,rfl⟩
  | _=>left
 | _=>left
def Z01{k:Ck}{t x:Expr}(h:Yc3 k t x=true):∃n b c a scope p,t= .Name n b/\x= .ListComp c a scope p/\k.sc.names.lookup n=some .cell:=by
 cases t with
 | Name n b=>
  cases x with
  | ListComp c a scope p=>show⟨_,_,_,_,_,_,rfl,rfl,La h⟩
  | _=>left
 | _=>left
def Z33{k:Ck}{a:List Comprehension}{p:Pos}(h:chkE k e (.ListComp l a scope p)=true)(i:notK e=true):
  ∃f js c it cd d t iter b,e= .comp f js c it cd d/\a=[⟨t,iter,b,0⟩]:=by
 cases e with
 | comp f js c it cd d=>
  let⟨_,_,_,_,j,h⟩:=Os h
  cases j
  let⟨g,rfl,h⟩:=Y4 h
  let⟨t,iter,b,m⟩:=g
  let⟨rfl,_⟩:=Ft h
  show⟨_,_,_,_,_,_,_,_,_,rfl,rfl⟩
 | compK _ _ _ _ _=>show absurd i Bf9
 | _=>left
def Ze4(c:Cfg)(D:LQ)(e:E):B1 c (.set D e):=by
  intro k Z U X st G h
  cases st with
  | Assign V x l=>
   match V,h with
   | [t],h=>
    change (_&&_)=true at h
    simp only[Bz9,Bool.or_eq_true,decide_eq_true_eq] at h
    let⟨⟨m,I⟩,h⟩:=h
    rcases h with(⟨hc,A⟩ | ⟨A,P,z0⟩) | A
    rotate_left 2
    .let⟨n,F,T,r,a,p,rfl,rfl,B⟩:=Z01 A
     have Q:swapsWithSole [.Name n F] (.ListComp T r a p) l.line X.env=pure false:=by
      have hk:X.env.kindOf n=some .cell:=by
       unfold Env.kindOf
       rw[G.sc];show B
      have y0:(X.env.kindOf n==some NameKind.local)=false:=by rw[hk];rfl
      unfold swapsWithSole swapsWith
      simp only[y0,Bool.and_false,Bool.false_and]
     refine PS.imp (Zu2 (Zf c e k Z U X _ G I).1 (G.tgt D _ m) Q rfl rfl) fun R σ H zz138=>?_
     let⟨w,b,M,RR,S,q,J,q2,q3,q4⟩:=zz138
     refine Zu S q fun v u d C o y g K=>?_
     show⟨u,b,C,d,_,S.next o y,g,K,fun s f e' z=>J s u f C o y e' z⟩
    .have Q:swapsWithSole [t] x l.line X.env=pure false:=Fu hc
     have h2:swappedStores [t] x X.env=pure none:=by
      cases t with
      | Name n p=>cases x<;>rfl
      | Tuple es kk p=>
       have:Zi4 x=true:=A.resolve_left Bf9
       cases x<;>first | rfl | cases this
      | _=>show absurd m Bf9
     have h3:(assignEach [t] X.env).map (·.2)=[assign t X.env]:=by
      cases t with
      | Name n p=>rfl
      | Tuple es kk p=>rfl
      | _=>show absurd m Bf9
     refine PS.imp (Zu2 (Zf c e k Z U X x G I).1 (G.tgt D t m) Q h2 h3) fun R σ H zz139=>?_
     let⟨w,b,M,RR,S,q,J,q2,q3,q4⟩:=zz139
     refine Zu S q fun v u d C o y g K=>?_
     show⟨u,b,C,d,_,S.next o y,g,K,fun s f e' z=>J s u f C o y e' z⟩
    .match D,P,m with
     | [i],_,m=>
      let⟨n,F,T,r,a,p,rfl,rfl⟩:=Z15 A
      let⟨N',js,D,it,cd,e,W,j,L,rfl,rfl⟩:=Z33 I z0
      change (_&&_)=true at I
      simp only[Bz9,decide_eq_true_eq] at I
      let⟨⟨⟨⟨⟨⟨⟨⟨Q,h2⟩,h3⟩,h4⟩,h5⟩,h6⟩,h7⟩,h8⟩,h9⟩:=I
      change (_&&_)=true at m
      simp only[Bz9,beq_iff_eq] at m
      change (_&&_&&_&&!_)=true at A;simp only[Bz9,beq_iff_eq,Bool.not_eq_true'] at A
      let⟨⟨⟨s1,s2⟩,s3⟩,s4⟩:=A
      have O:X.env.scope.names.lookup n=some .local:=by
       unfold Ck.loc at s2
       rw[G.sc];show La s2
      have Y:swapsWith (.ListComp T [⟨W,j,L,0⟩] a p) (some (.Name n F)) l.line X.env=pure true:=by
       unfold swapsWith
       have hb:(X.env.blockKind==ScopeKind.function)=true:=by
        unfold Env.blockKind
        rw[G.sc,s1];rfl
       have hk:(X.env.kindOf n==some NameKind.local)=true:=by
        unfold Env.kindOf
        rw[O];rfl
       have hp:(F.line==(Expr.ListComp T [⟨W,j,L,0⟩] a p).pos.line)=true:=by
        show(F.line==p.line)=true
        rw[s3];simp
       simp only[hb,hk,hp,s4,Bool.not_false,Bool.and_self]
      refine PS.imp ((O9 G Q h2 h3 h5 (Zg5 c it k Z U X W j G h4 h9) h6 h7 h8 (Zf c e) (Cc c cd)).2 i n F l (by rw[G.N];show m.1) O Y) fun R σ H zz140=>?_
      let⟨w,b,M,RR,S,q,J,q2,q3,q4⟩:=zz140
      have q:te c Z (.comp N' js D it cd e) b M fun d M1=>RR.nx (b.set i (some d)) M1:=q
      refine Zu S q fun v u d C o y g K=>?_
      show J _ u _ C o y ((S.env.ext o).set i g) K
     | [],P,_=>simp at P
     | _::_::_,P,_=>simp at P
   | [],h=>left
   | _::_::_,h=>left
  | _=>left
def Z46{k:Ck}{op:Op}{j:Nat}{e:E}{st:Stmt}(h:chkS k (.aug op j e) st=true):∃x p o y pos,st= .AugAssign (.Name x p) o y pos/\(o==opOf op&&Ye9 op&&k.N[j]?==some x&&k.locC x&&chkE k e y)=true:=by
 cases st with
 | AugAssign t o y pos=>
  cases t with
  | Name x p=>show⟨_,_,_,_,_,rfl,h⟩
  | _=>left
 | _=>left
def Y92{c:Cfg}{a:DEnv}:ts c Z (.aug op j e) R a M=(match a[j]? with
  | some (some x)=>te c Z e a M fun y b=>augD op x y fun z=>R.nx (a.set j (some z)) b
  | _=>False):=rfl
set_option tactic.hygienic true in
def Z86(c:Cfg)(op:Op)(j:Nat)(e:E):B1 c (.aug op j e):=by
 intro k Z s X st G h
 let⟨x,p,o,y,l,rfl,A⟩:=Z46 h
 simp only[Bz9,beq_iff_eq] at A
 let⟨⟨⟨⟨rfl,h1⟩,Y⟩,W⟩,V⟩:=A
 let⟨L,K⟩:=G.locC W
 have O:X.N[j]?=some x:=by rw[G.N];show Y
 have t:∀f:Int->Int->Int,PIp X (opOf op) (ipI f)->(∀a b Q,augD op a b Q->∃m n,a= .int m/\b= .int n/\Q (.int (f m n)))->PS X (.AugAssign (.Name x p) (opOf op) y l) (tFS s (ts c Z (.aug op j e))):=by
  intro f P U
  refine PS.imp (Yh3 G.nd O L (Zf c e k Z s X y G V).1 P K) fun R σ H zz141=>?_
  let⟨w,B,M,RR,S,q,J,q2,q3,q4⟩:=zz141
  rw[Y92] at q
  split at q
  .rename_i d T
   let⟨v,e1,F⟩:=S.env.2 j d T
   refine⟨v,e1,Zu S q fun u D d2 M1 r I i z=>?_⟩
   let⟨m,n,rfl,rfl,C⟩:=U _ _ _ z
   cases Za.mp F
   cases Za.mp i
   refine⟨_,_,rfl,rfl,J _ D _ M1 r I ((S.env.ext r).set j (Za.mpr rfl)) C⟩
  .exact q.elim
 cases op with
 | add=>
  refine t _ Y84 fun a b Q g=>?_
  unfold augD at g
  split at g
  .exact⟨_,_,rfl,rfl,g⟩
  .contradiction
  .exact g.elim
 | sub=>
  refine t _ Yb2 fun a b Q g=>?_
  unfold augD at g
  split at g
  .contradiction
  .exact⟨_,_,rfl,rfl,g⟩
  .exact g.elim
 | _=>show absurd h1 Bf9
def Z47(c:Cfg)(o i v:E):B1 c (.put o i v):=by
  intro k Z J X Y G h
  cases Y with
  | Assign K x z0=>
   match K,h with
   | [t],h=>
    cases t with
    | Subscript l r p=>
     change (_&&_)=true at h
     simp only[Bz9] at h
     let⟨⟨⟨⟨h1,h2⟩,h3⟩,h4⟩,h5⟩:=h
     refine PS.imp (Y89 (by have:=G.units;lia) (Zf c o k Z J X l G h4).1 (Zf c i k Z J X r G h5).1 (Zf c v k Z J X x G h3).1 (Fu h2)) fun R O H zz142=>?_
     let⟨w,g,M,RR,S,q,T,q2,q3,q4⟩:=zz142
     refine Zu S q fun vv w1 dv M1 f Q y V=>?_
     refine Zu (S.next f Q) V fun vo w2 x0 M2 e r2 N U=>?_
     refine Zu ((S.next f Q).next e r2) U fun vi w3 di M3 d z u C=>?_
     split at C
     .let⟨B,rfl⟩:=Ze.mp (N.ext d)
      rcases C with⟨xs,A,j,rfl,I,F,D⟩ | ⟨y0,A,I,F,D,W⟩
      .cases Za.mp u
       let⟨B,P,n,m⟩:=z.list I
       let⟨s,L⟩:=Yw z B n (m.set (y.ext (e.trans d)) j)
       show .inl ⟨_,P,A,j,rfl,rfl,n,by rw[m.length];show F,T O _ g _ (((f.trans e).trans d).trans s) L (S.env.ext (((f.trans e).trans d).trans s)) D⟩
      .let⟨B,P,n,m⟩:=z.dict I
       cases Rk F u
       let⟨s,L⟩:=Tl z B n (m.put (k:=A) (y.ext (e.trans d)))
       show .inr ⟨_,_,rfl,DPut.k (k:=A) n (by rw[m.length];show D),T O _ g _ (((f.trans e).trans d).trans s) L (S.env.ext (((f.trans e).trans d).trans s)) W⟩
     .exact C.elim
    | _=>left
   | [],h=>left
   | a::b::r,h=>cases a<;>left
  | _=>left
def Z28{k:Ck}{t:E}{f v:Nat}{es a:Es}{g i:Nat}{s:Ss}{st:Stmt}(h:chkS k (.tryI t f es v a g i s) st=true):∃y m j q x p n d c u pos,st= .Try [.If y [m] [j] q] [.ExceptHandler (some (.Name x p)) (some n) (d::c) u] [] [] pos/\
  (k.calm&&k.tries&&k.GN[g]?==some x&&k.glob x&&k.N[i]?==some n&&k.loc n&&noIf t&&chkE {k with tries:=false,raises:=[]} t y&&chkB {k with tries:=false,raises:=[]} .drop f es m&&chkB {k with tries:=false,raises:=[]} .drop v a j&&
   Xa {k with calm:=false,loops:=true,tries:=false,raises:=[]} s (d::c))=true:=by
 cases st with
 | Try b B o f pos=>
  let⟨D,rfl,h⟩:=Y4 (F:=fun b=>_) h
  let⟨y,l,r,q,rfl,h⟩:=Zi1 h
  let⟨m,rfl,h⟩:=Y4 h
  let⟨j,rfl,h⟩:=Y4 h
  let⟨e,rfl,h⟩:=Y4 h
  let⟨w,A,C,u⟩:=e
  let⟨z,rfl,h⟩:=Qm h
  let⟨x,p,rfl,h⟩:=Zl h
  let⟨n,rfl,h⟩:=Qm h
  let⟨rfl,h⟩:=Y7 h
  let⟨rfl,h⟩:=Y7 h
  let⟨d,c,rfl,h⟩:=Qd h
  show⟨_,_,_,_,_,_,_,_,_,_,_,rfl,h⟩
 | _=>left
def F7{k:Ck}{g:Nat}{es:Es}{st:Stmt}(h:chkS k (.raise g es) st=true):∃x b a c pos,st= .Raise (some (.Call (.Name x b) a [] c)) none pos/\
  (k.calm&&k.raises.contains g&&k.GN[g]?==some x&&k.glob x&&decide (a.length<=1)&&W1 k es a)=true:=by
 cases st with
 | Raise i j pos=>
  let⟨e,rfl,h⟩:=Qm (F:=fun e=>_) h
  let⟨f,a,d,c,rfl,h⟩:=Zz h
  let⟨x,b,rfl,h⟩:=Zl h
  let⟨rfl,h⟩:=Y7 h
  let⟨rfl,h⟩:=Nl h
  show⟨_,_,_,_,_,rfl,h⟩
 | _=>left
set_option tactic.hygienic true in
mutual
theorem Ye6(c:Cfg):∀s:S,B1 c s
 | .ret e,k,Z,r,X,E,G,h=>by
  cases E with
  | Return v I=>
   cases v with
   | some x=>show PS.imp (Zv3 (Zf c e k Z r X x G h).1) fun R σ H zz143=>by let⟨w,B,M,RR,S,q,L,K,P,O⟩:=zz143;show Zu S q K
   | none=>left
  | _=>left
 | .expr e,k,Z,r,X,E,G,h=>by
  cases E with
  | Expr x I=>
   change (_&&_)=true at h
   simp only[Bz9] at h
   show PS.imp (Y08 (Zf c e k Z r X x G h.2).1 (Fu h.1)) fun R σ H zz144=>by let⟨w,B,M,RR,S,q,L,K,P,O⟩:=zz144;show Zu S q fun v A d D C F z0 q'=>L σ A B D C F (S.env.ext C) q'
  | _=>left
 | .set tg e,k,Z,r,X,E,G,h=>Ze4 c tg e k Z r X E G h
 | .aug op j e,k,Z,r,X,E,G,h=>Z86 c op j e k Z r X E G h
 | .put o i v,k,Z,r,X,E,G,h=>Z47 c o i v k Z r X E G h
 | .ite t a b,k,Z,r,X,E,G,h=>by
  cases E with
  | If x ls rs I=>
   change (_&&_)=true at h
   simp only[Bz9] at h
   let⟨⟨⟨L,K⟩,P⟩,O⟩:=h
   refine PS.imp (Yi2 ((Zf c t k Z r X x G L).2 K) (X3 c a k Z r X ls G P) (X3 c b k Z r X rs G O)) fun R σ H zz145=>?_
   let⟨w,B,M,RR,S,q,q1,q2,q3,q4⟩:=zz145
   refine⟨w,B,M,_,S,q,fun z w1 M1 N r1 V=>?_⟩
   have u0:∀{f:DS},f RR B M1->tFS r f R σ w1.H:=fun hf=>O6 (S.next N r1) hf (fun p A l D C F Q z=>q1 p A l D (N.trans C) F Q z) (q2.ext N)
    (fun p A l D C F Q z=>q3 p A l D (N.trans C) F Q z) (fun p A l D C F Q z=>q4 p A l D (N.trans C) F Q z)
   cases z with
   | true=>
    rw[ng rfl] at V
    change if (true:Bool)=true then _ else _
    rw[ng rfl];show u0 V
   | false=>
    rw[nc Bf9] at V
    change if (false:Bool)=true then _ else _
    rw[nc Bf9];show u0 V
  | _=>left
 | .for_ tg it b,k,Z,r,X,E,G,h=>by
  cases E with
  | For t x ls T I=>
   cases T with
   | nil=>
    change (_&&_)=true at h
    simp only[Bz9] at h
    let⟨⟨⟨⟨⟨⟨L,K⟩,P⟩,O⟩,h5⟩,h6⟩,h7⟩:=h
    have hf:∀v,foldedSetIterable x X.env v=pure v:=by
     intro v
     cases x<;>first | rfl | cases P
    refine PS.imp (Zt7 (G.po K) (G.calm L) (Zg5 c it k Z r X t x G h5 h7) (G.tgt tg t O) (X3 c b k Z r X ls G h6) hf) fun R σ H zz146=>?_
    let⟨w,B,M,RR,S,q,q1,q2,q3,q4⟩:=zz146
    refine⟨w,B,M,_,S,q,fun J w1 v1 xs M1 N r1 jk z=>?_⟩
    show Ze0 (S.next N r1) jk z (fun p A l D C F Q z=>q1 p A l D (N.trans C) F Q z) (q2.ext N)
   | cons _ _=>left
  | _=>left
 | .forK tg e b,k,Z,r,X,E,G,h=>by
  cases E with
  | For t x ls T I=>
   cases T with
   | nil=>
    change (_&&_)=true at h
    simp only[Bz9] at h
    let⟨⟨⟨⟨⟨L,K⟩,P⟩,O⟩,h5⟩,h6⟩:=h
    have hf:∀v,foldedSetIterable x X.env v=pure v:=by
     intro v
     cases x<;>first | rfl | cases P
    refine PS.imp (Y54 (Zt7 (G.po K) (G.calm L) (Z60 (Zf c e k Z r X x G h5).1) (G.tgt tg t O) (X3 c b k Z r X ls G h6) hf)) fun R σ H zz147=>?_
    let⟨w,B,M,RR,S,q,q1,q2,q3,q4⟩:=zz147
    refine Zu S q fun v w1 d M1 N r1 r0 z=>?_
    split at z
    .let⟨hn,rfl⟩:=Ze.mp r0
     let⟨q0,z1,z2⟩:=z
     let⟨hM,vs,V,y2⟩:=r1.dict z1
     refine⟨_,vs,rfl,V,fun o nf=>?_⟩
     rename_i _ n
     have x2:Ext w1 (w1.alloc (w1.μ n) (.frz o (.dK vs))):=Yy V rfl
     have r2:RS (w1.alloc (w1.μ n) (.frz o (.dK vs))) (M1.set n (.fdc q0)):=r1.write hM rfl rfl V rfl ⟨o,vs,Zd,y2.ext x2⟩
     refine Ze0 (R:=Zy0 X R) (S.next (N.trans x2) r2) (Cg (w1:=w1.alloc (w1.μ n) (.frz o (.dK vs))) (n:=n) hn Zd) z2 (fun p A l D C F Q ⟨v0,t1,t2⟩=>?_) (fun v A d D C F z0 ⟨v0,t1,t2⟩=>?_)
     .let⟨a1,a2,a3,a4⟩:=Rn hn V C F t1
      show⟨_,o,vs,a1,nf,q1 p _ l _ (N.trans a2) a4 (Q.ext0 a3) t2⟩
     .let⟨a1,a2,a3,a4⟩:=Rn hn V C F t1
      show⟨_,o,vs,a1,nf,q2 v _ d _ (N.trans a2) a4 (z0.ext0 a3) t2⟩
    .exact z.elim
   | cons _ _=>left
  | _=>left
 | .while_ t b,k,Z,r,X,E,G,h=>by
  cases E with
  | While x ls T I=>
   cases T with
   | nil=>
    change (_&&_)=true at h
    simp only[Bz9] at h
    let⟨⟨⟨L,K⟩,P⟩,O⟩:=h
    refine PS.imp (Zj3 (G.po L) ((Zf c t k Z r X x G K).2 P) (X3 c b k Z r X ls G O)) fun R σ H zz150=>?_
    let⟨w,B,M,RR,S,q,q1,q2,q3,q4⟩:=zz150
    let⟨W,⟨m0,p0⟩,y0⟩:=q
    refine⟨fun m σ H=>∃Y u U,StOk r Y u U σ H/\Ext w Y/\W m u U,⟨m0,w,B,M,S,Ext.refl w,p0⟩,?_⟩
    rintro m t0 H2 ⟨Y,u,U,S2,x2,hW⟩
    refine⟨Y,u,U,_,S2,y0 m u U hW,fun z w3 M3 x3 r3 y3=>?_⟩
    cases z with
    | false=>
     rw[nc Bf9] at y3 ⊢
     show q1 t0 w3 u M3 (x2.trans x3) r3 (S2.env.ext x3) y3
    | true=>
     rw[ng rfl] at y3 ⊢
     have x0:∀p A l D,Ext w3 A->RS A D->REnv A l p->(∃m',m'<m/\W m' l D)->∃m',m'<m/\∃Y u U,StOk r Y u U p A.H/\Ext w Y/\W m' u U:=
      fun p A l D C F Q zz151=>by let⟨m',l',z'⟩:=zz151;show⟨m',l',A,l,D,⟨rfl,(S2.ext.trans x3).trans C,F,Q⟩,(x2.trans x3).trans C,z'⟩
     refine⟨fun p H'=>∃m',m'<m/\∃Y u U,StOk r Y u U p H'/\Ext w Y/\W m' u U,fun p H' z=>z,?_⟩
     show O6 (S2.next x3 r3) y3 x0 (fun v A d D C F z0 z'=>q2 v A d D ((x2.trans x3).trans C) F z0 z') (fun p A l D C F Q z'=>q1 p A l D ((x2.trans x3).trans C) F Q z') x0
   | cons _ _=>left
  | _=>left
 | .raise g es,k,Z,r,X,E,G,h=>by
  let⟨x,np,ls,cp,I,rfl,hs⟩:=F7 h
  simp only[Bz9,beq_iff_eq,decide_eq_true_eq] at hs
  let⟨⟨⟨⟨⟨L,K⟩,P⟩,O⟩,h5⟩,h6⟩:=hs
  show E4 G L K P O h5 h6 (X1 c es k Z r X ls G h6).1
 | .tryI t f es f2 u1 g i s,k,Z,r,X,E,G,h=>by
  let⟨y,b1,b2,ip,x,np,n,s0,ss,hp,I,rfl,hs⟩:=Z28 h
  simp only[Bz9,beq_iff_eq] at hs
  let⟨⟨⟨⟨⟨⟨⟨⟨⟨⟨L,K⟩,P⟩,O⟩,h5⟩,h6⟩,h7⟩,h8⟩,h9⟩,n0⟩,o0⟩:=hs
  show Z29 G L K P O h5 h6 h7 h8 h9 n0 o0 (X3 c s)
theorem X3(c:Cfg):∀s:Ss,Zb8 c s
 | .nil,k,Z,m,X,n,G,h=>by
  cases n with
  | nil=>
   refine PSs.imp Z51 fun R t H zz152=>?_
   let⟨w,d,M,F,S,q,o,_⟩:=zz152
   have:=o t w d M (Ext.refl w) S.rs S.env q
   rw[S.heap] at this
   show this
  | cons _ _=>left
 | .cons s r,k,Z,m,X,n,G,h=>by
  cases n with
  | nil=>left
  | cons x B=>
   change (_&&_)=true at h
   simp only[Bz9] at h
   refine PSs.imp (C7 (Ye6 c s k Z m X x G h.1) (X3 c r k Z m X B G h.2)) fun R t H zz153=>?_
   let⟨w,d,M,F,S,q,o,y,v,u⟩:=zz153
   refine O6 S q ?_ y v u
   intro A I p J f C E D
   show O6 ⟨rfl,S.ext.trans f,C,E⟩ D (fun b g a l e i j z=>o b g a l (f.trans e) i j z) (y.ext f) (fun b g a l e i j z=>v b g a l (f.trans e) i j z) (fun b g a l e i j z=>u b g a l (f.trans e) i j z)
end
theorem FnOk.cx{w:Uj}{K:Ac}{k:Nat}{c:FuncData}{sp:Sp}(F:FnOk P w K mg base CX0 k f c ps sp):FnOk P w K mg base CX k f c ps sp:=
 ⟨F.len,fun A a s H b g d Q E l m n i j=>Kr (F.run A a s H b g d Q E l m n i j) fun r p h=>by
  cases r with
  | error e=>show Dk h
  | ok o=>cases o<;>show h⟩
structure Prg(P:Ui)(w:Uj)(K:Ac)(mg:Str->Option Uf)(base:Uk)(c:Cfg)(FN GN BN:LS)(lv:Nat):Prop where
 hK:c.K=K
 fns:∀(f:Nat) (x:Str) (sp:DSp),FN[f]?=some x->c.Γ[f]?=some sp->∃(kk:Nat) (f:Uh) (fd:FuncData) (ps:LS) (ds:LW) (dvs:LV) (dD:LD) (sp0:DSp),FnOk P w K mg base (CX1 P w) kk f fd ps (spF K sp0)/\kk<=lv/\mg x=↑f/\Dv K (.ref f)=true/\
  Y9 K fd ps ds/\Vals dvs ds/\(∀w:Vw,w.K=K->RDs w dD dvs)/\∀as M Q Z,sp as M Q Z->sp0 (as++dD) M Q Z
 flen:FN.length=c.Γ.length
 glb:∀(g:Nat) (x:Str) (d:D),GN[g]?=some x->c.G[g]?=some d->∃v u,mg x=some u/\RelV v u/\∀w:Vw,w.K=K->RD w d v
 blt:∀x,x∈BN->mg x=none
def start0(N:LS)(a:LD):DEnv:=a.map some++Hf (N.length - a.length) none
def Vz{w:Vw}{a:LD}(r:RDs w a vs):REnv w (start0 N a) (L2.start N vs):=by
 refine⟨by unfold start0 L2.start;simp[r.length],fun i d e=>?_⟩
 unfold start0 at e
 unfold L2.start
 by_cases b:i<a.length
 .rw[Az ↥b,Aw] at e
  rw[Az (by rw[Ag,r.length];show b),Aw]
  cases c:a[i]? with
  | none=>rw[c] at e;cases e
  | some j=>
   rw[c] at e
   have h:j=d:=by simpa using e
   subst h
   let⟨v,g,f⟩:=r.get c
   show⟨v,by rw[g];rfl,f⟩
 .rw[Di ↥b] at e
  have:=Ab.mp e
  simp at this
section
variable{P:Ui}{w:Uj}{K:Ac}{mg:Str->Option Uf}{base:Uk}{c:Cfg}{FN GN BN:LS}{lv:Nat}{x qual:Str}{st:Stmt}{f:Uh}{fd:FuncData}{N ps:LS}
abbrev ck0(N:LS)(st:Stmt)(FN GN BN:LS):Ck:=⟨N,Z3 st,FN,GN,BN,true,true,true,[],true,[],[]⟩
abbrev ck1(a:LQ)(N:LS)(st:Stmt)(FN GN BN:LS):Ck:=⟨N,Z3 st,FN,GN,BN,true,true,true,a,true,[],[]⟩
def fn0(g:Prg P w K mg base c FN GN BN lv)(F:Fun K x qual st f fd)(S:FnScope N ps (Z3 st)){body:Ss}(J:Xa (ck0 N st FN GN BN) body (Zh st)=true){sp:DSp}(D:∀b M Q Z,sp b M Q Z->b.length=ps.length)
  (L:∀b M Q Z,sp b M Q Z->tss c noX body {nx:=fun _ M=>Q .non M,rt:=Q} (start0 N b) M):FnOk P w K mg base (CX1 P w) (lv+1) f fd ps (spF K sp):=by
 refine FnOk.cx (F.ok S (fun B H Q E h=>?_) fun t A e s H B Q E y h=>?_)
 .let⟨w,b,M,u,Z,_,_,_,r,h,_⟩:=h
  rw[r.length];show D _ _ _ _ h
 let⟨j,b,M,u,Z,p,rfl,R,r,h,a,W⟩:=h
 have G:Good c (ck0 N st FN GN BN) noX j (cxOf CX0 P w K mg base N qual (Z3 st) f t A e s j.H E).nox:=
  {hK:=g.hK.symm
   wK:=p.trans g.hK.symm
   N:=rfl
   nd:=S.nd
   sc:=rfl
   calm:=fun _=>rfl
   units:=y.units
   fns:=fun _ f x sp T O=>by
    let⟨C,f,fd,ps,b,q,U,n,F,I,h⟩:=g.fns f x sp T O
    show⟨C,f,fd,ps,b,q,U,n,F,y.mono I,h⟩
   flen:=g.flen
   glb:=g.glb
   blt:=g.blt
   exc:=⟨E0,fun _ _ _ _ _ _ _ h=>by
    let⟨_,_,_,_,_,_,_,_,_,_,_,_,_,_,_,h⟩:=h
    show h.elim,fun V X Y h=>by
    let⟨_,_,_,_,_,_,_,_,_,_,_,_,_,h⟩:=h
    show h.elim⟩
   stk:=fun _=>⟨rfl,rfl⟩
   rai:=fun _ h=>absurd h Bf9
   po:=fun _=>On
   fnc:=fun _ _=>rfl
   fno:=fun _ h=>by cases h
   fnh:=fun _ _ _ h=>absurd h Bf9}
 refine⟨_,X3 c body _ _ j _ _ G J,j,start0 N b,M,{nx:=fun _ M=>u .non M,rt:=u},⟨rfl,Ext.refl j,R,Vz r⟩,L _ _ _ _ h,?_,a,?_,?_⟩
 .exact fun i m d v l o z k=>a .non m .non v l o (Zg.mpr rfl) k
 .exact fun i m d v l o z k=>k.elim
 .exact fun i m d v l o z k=>k.elim
def PrgH(P:Ui)(w:Uj)(K:Ac)(mg:Str->Option Uf)(base:Uk)(c:Cfg)(FN:LS)(d:LQ)(lv:Nat):Prop:=∀(f:Nat) (x:Str) (a:DSp),d.contains f=true->FN[f]?=some x->c.Γ[f]?=some a->∃(b:Nat) (f:Uh) (fd:FuncData) (ps:LS),FnOkH P w K mg base b f fd ps (spF K a)/\b<=lv/\mg x=↑f/\Dv K (.ref f)=true/\Y9 K fd ps []
abbrev ckR(a:LQ)(N:LS)(st:Stmt)(FN GN BN:LS):Ck:=⟨N,Z3 st,FN,GN,BN,true,true,true,[],true,[],a⟩
abbrev ckH(N:LS)(st:Stmt)(FN GN BN:LS):Ck:=⟨N,Z3 st,FN,GN,BN,false,false,false,[],true,[],[]⟩
def fnR(g:Prg P w K mg base c FN GN BN lv){q:LQ}(Y:PrgH P w K mg base c FN q lv)(F:Fun K x qual st f fd)(S:FnScope N ps (Z3 st)){body:Ss}(T:Xa (ckR q N st FN GN BN) body (Zh st)=true){sp:DSp}(O:∀b M Q Z,sp b M Q Z->b.length=ps.length)
  (U:∀b M Q Z,sp b M Q Z->tss c noX body {nx:=fun _ M=>Q .non M,rt:=Q} (start0 N b) M):FnOk P w K mg base (CX1 P w) (lv+1) f fd ps (spF K sp):=by
 refine FnOk.cx (F.ok S (fun L H Q E h=>?_) fun C A e s H L Q E t h=>?_)
 .let⟨w,b,M,D,Z,_,_,_,r,h,_⟩:=h
  rw[r.length];show O _ _ _ _ h
 let⟨j,b,M,D,Z,v,rfl,R,r,h,a,xk⟩:=h
 have G:Good c (ckR q N st FN GN BN) noX j (cxOf CX0 P w K mg base N qual (Z3 st) f C A e s j.H E).nox:=
  {hK:=g.hK.symm
   wK:=v.trans g.hK.symm
   N:=rfl
   nd:=S.nd
   sc:=rfl
   calm:=fun _=>rfl
   units:=t.units
   fns:=fun _ f x sp z y=>by
    let⟨p,f,fd,ps,b,B,W,n,F,u,h⟩:=g.fns f x sp z y
    show⟨p,f,fd,ps,b,B,W,n,F,t.mono u,h⟩
   flen:=g.flen
   glb:=g.glb
   blt:=g.blt
   exc:=⟨E0,fun _ _ _ _ _ _ _ h=>by
    let⟨_,_,_,_,_,_,_,_,_,_,_,_,_,_,_,h⟩:=h
    show h.elim,fun X dd H' h=>by
    let⟨_,_,_,_,_,_,_,_,_,_,_,_,_,h⟩:=h
    show h.elim⟩
   stk:=fun _=>⟨rfl,rfl⟩
   rai:=fun _ h=>absurd h Bf9
   po:=fun _=>On
   fnc:=fun _ _=>rfl
   fno:=fun _ h=>by cases h
   fnh:=fun f x sp z y V=>by
    let⟨p,f,fd,ps,F,u,h⟩:=Y f x sp z y V
    show⟨p,f,fd,ps,F,.of t u,h⟩}
 refine⟨_,X3 c body _ _ j _ _ G T,j,start0 N b,M,{nx:=fun _ M=>D .non M,rt:=D},⟨rfl,Ext.refl j,R,Vz r⟩,U _ _ _ _ h,?_,a,?_,?_⟩
 .exact fun i m d I l o J k=>a .non m .non I l o (Zg.mpr rfl) k
 .exact fun i m d I l o J k=>k.elim
 .exact fun i m d I l o J k=>k.elim
def fnH(k:Prg P w K mg base c FN GN BN lv)(F:Fun K x qual st f fd)(S:FnScope N ps (Z3 st)){body:Ss}(C:Xa (ckH N st FN GN BN) body (Zh st)=true){sp:DSp}(B:∀d M Q Z,sp d M Q Z->d.length=ps.length)
  (D:∀d M Q Z,sp d M Q Z->tss c noX body {nx:=fun _ M=>Q .non M,rt:=Q} (start0 N d) M):FnOkH P w K mg base (lv+1) f fd ps (spF K sp):=by
 refine Ye4 F S (fun v H Q E h=>?_) fun p A e s H v Q E y h=>?_
 .let⟨w,d,M,q,Z,_,_,_,r,h,_⟩:=h
  rw[r.length];show B _ _ _ _ h
 let⟨i,d,M,q,Z,o,rfl,R,r,h,a,J⟩:=h
 have G:Good c (ckH N st FN GN BN) noX i (cxH P w K mg base N qual (Z3 st) f p A e s i.H):=
  {hK:=k.hK.symm
   wK:=o.trans k.hK.symm
   N:=rfl
   nd:=S.nd
   sc:=rfl
   calm:=fun z=>nomatch z
   units:=by have:=y.un;show(A.deeper _).units+64<cLine;lia
   fns:=fun z=>nomatch z
   flen:=k.flen
   glb:=k.glb
   blt:=k.blt
   exc:=⟨E0,fun _ _ _ _ _ _ _ h=>by
    let⟨_,_,_,_,_,_,_,_,_,_,_,_,_,_,_,h⟩:=h
    show h.elim,fun I L O h=>by
    let⟨_,_,_,_,_,_,_,_,_,_,_,_,_,h⟩:=h
    show h.elim⟩
   stk:=fun z=>nomatch z
   rai:=fun _ h=>absurd h Bf9
   po:=fun z=>nomatch z
   fnc:=fun _ _=>rfl
   fno:=fun _ h=>by cases h
   fnh:=fun _ _ _ h=>absurd h Bf9}
 refine⟨_,X3 c body _ _ i _ _ G C,i,start0 N d,M,{nx:=fun _ M=>q .non M,rt:=q},⟨rfl,Ext.refl i,R,Vz r⟩,D _ _ _ _ h,?_,a,?_,?_⟩
 .exact fun g m b t l n u j=>a .non m .non t l n (Zg.mpr rfl) j
 .exact fun g m b t l n u j=>j.elim
 .exact fun g m b t l n u j=>j.elim
def PrgR(P:Ui)(w:Uj)(K:Ac)(mg:Str->Option Uf)(base:Uk)(c:Cfg)(b:LQ)(lv:Nat):Prop:=∀g:Nat,b.contains g=true->∀C:Uh,c.G[g]?=some (.cls C)->∃(a:Nat) (f:Uh) (fd:FuncData),ExcMk K C f/\FnOk P w K mg base CX0 a f fd ["self","row"] (Ol K)/\a+1<=lv/\
 Y9 K fd ["self","row"] [.none]/\Y9 K fd ["self","row"] []/\ExcSet K C "row"
def fn1(i:Prg P w K mg base c FN GN BN lv){p:LQ}(Rr:PrgR P w K mg base c p lv)(F:Fun K x qual st f fd)(S:FnScope N ps (Z3 st)){body:Ss}(Y:Xa (ck1 p N st FN GN BN) body (Zh st)=true){sp:DSp}(V:∀b M Q Z,sp b M Q Z->b.length=ps.length)
  (hb:∀b M Q Z,sp b M Q Z->tss c Z body {nx:=fun _ M=>Q .non M,rt:=Q} (start0 N b) M):FnOk P w K mg base (CX1 P w) (lv+1) f fd ps (spF K sp):=by
 refine Y52 F S (fun T H Q E h=>?_) fun D A e s H T Q E u h=>?_
 .let⟨w,b,M,I,Z,_,_,_,r,h,_⟩:=h
  rw[r.length];show V _ _ _ _ h
 let⟨k,b,M,I,Z,v,rfl,R,r,h,a,L⟩:=h
 have G:Good c (ck1 p N st FN GN BN) Z k (cxOf (CX1 P w) P w K mg base N qual (Z3 st) f D A e s k.H E):=
  {hK:=i.hK.symm
   wK:=v.trans i.hK.symm
   N:=rfl
   nd:=S.nd
   sc:=rfl
   calm:=fun _=>rfl
   units:=u.units
   fns:=fun _ f x sp z y=>by
    let⟨t,f,fd,ps,b,B,dD,o,F,W,h⟩:=i.fns f x sp z y
    show⟨t,f,fd,ps,b,B,dD,o,F,u.mono W,h⟩
   flen:=i.flen
   glb:=i.glb
   blt:=i.blt
   exc:=⟨E,Yl2 Gw,L⟩
   stk:=fun _=>⟨rfl,rfl⟩
   rai:=fun g U=>⟨⟨E,Gw,L⟩,fun C X=>by
    let⟨t,f,fd,z,y,h3,h4,h5,h6⟩:=Rr g U C X
    show⟨t,f,fd,z,y,u.mono h3,h4,h5,h6⟩⟩
   po:=fun _=>PassesOwn.leaving
   fnc:=fun _ _=>rfl
   fno:=fun _ h=>by cases h
   fnh:=fun _ _ _ h=>absurd h Bf9}
 refine⟨_,X3 c body _ _ k _ _ G Y,k,start0 N b,M,{nx:=fun _ M=>I .non M,rt:=I},⟨rfl,Ext.refl k,R,Vz r⟩,hb _ _ _ _ h,?_,a,?_,?_⟩
 .exact fun j n d J m q O l=>a .non n .non J m q (Zg.mpr rfl) l
 .exact fun j n d J m q O l=>l.elim
 .exact fun j n d J m q O l=>l.elim
end
def Zf3:DSp:=fun b M Q _=>∃a:List Int,b=[.ref 0]/\M=[.frz (a.map .int)]/\a.length<=63/\(∀i∈a,Bits bigN i)/\∀c,Q (.bl true) c
def Cq(w:Vw):∀ns:List Int,RDs w (ns.map .int) (ns.map V.int)
 | []=>RDs.nil w
 | _::r=>RDs.cons (Za.mpr rfl) (Cq w r)
def Zi0{l:PySem.W.OpenLaw}{k:Nat}{q:Ui}{loose:LS}{XP:(Str->Option Uf)->Uk->Prop}{YP:Uj->Uk->Prop}{d:DefRec}{K:Params->Ac}{x:Str}{c0 T:Uh}(S:l.most=some 63)(B:d.params.defaults=[])(R:Room k callerA)
  (hY:∀(w:Uj) (h:Uk),YP w h->(K w.params).In h) (C:∀(w:Uj) (h:Uk),YP w h->h.get? T=some (PySem.W.tabObj #[]))
  (Q:∀(w:Uj) (h:Uk),(K w.params).In h->PySem.W.tabIn (K w.params) "chosen_head"=some (c0,T)/\PySem.W.noTabs (K w.params)=true/\PySem.W.codeHdIn (K w.params) c0 T=true)
  (F:∀(w:Uj) (mg:Str->Option Uf) (y:Uh) (h:Uk),(K w.params).In h->h.Ns mainGlobals mg->mg d.name=↑y->
   ∃E:FuncData,(∀(s:Ug) (u:Uf),BindsTo s E ⟨[u],[]⟩ [(x,u)])/\∀base:Uk,(K w.params).In base->base.Ns mainGlobals mg->Bs (K w.params) mg base->FnOk l.prog w (K w.params) mg base (CX1 l.prog w) k y E [x] (spF (K w.params) Zf3)):
  PySem.W.WalkO q loose XP YP l.row.toRowW d [] (fun f vs=>PySem.call f vs):=by
 refine Gb S B fun w J I mg mb y o pm cd z0 a vs r G Y A p m c n X=>?_
 have z:=hY w _ Y
 let⟨O,N,M⟩:=Q w _ z
 let⟨E,Z,D⟩:=F w mg y _ z G.T.g A
 refine Za0 z G.T.g G.T.b G.T.builtins G.T.nolimit X G.T.bmain O N (PySem.W.codeHd_of_K z M) (C w _ Y) p m (ni c 'd') R D Z (fun H hS L=>?_) fun H e s' h=>?_
 .have D:SqF (K w.params) H a (r.map V.int):=hS
  refine⟨⟨K w.params,H,fun _=>a,1⟩,[.ref 0],[.frz (r.map .int)],fun d _=>d= .bl true,noX,rfl,rfl,⟨rfl,fun i j ci cj ei ej mi mj _=>?_,fun i c' e=>?_,L⟩,RDs.cons (Ze.mpr ⟨Nat.one_pos,rfl⟩) (RDs.nil _),⟨r,rfl,rfl,c,n,fun _=>rfl⟩,fun v w' d M' _ _ P e=>?_,fun y0 dd H' h=>?_⟩
  .have t:=(Ab.mp ei).1
   have h2:=(Ab.mp ej).1
   simp at t h2
   lia
  .have t:=(Ab.mp e).1
   have U:i=0:=by simp at t;show t
   subst U
   simp at e
   subst e
   show⟨_,D,Cq _ r⟩
  .subst e
   show X4.mp P
  .let⟨_,_,_,_,_,_,_,_,_,_,_,_,_,h⟩:=h
   show h.elim
 .let⟨_,_,_,_,_,_,_,_,_,_,_,_,_,_,_,h⟩:=h
  show h.elim
def bot:DSp:=fun _ _ _ _=>False
def Ent(K:Ac)(mg:Str->Option Uf)(x:Str):Prop:=∃(f:Uh) (b:FuncData) (a:LS),mg x=↑f/\Dv K (.ref f)=true/\Y9 K b a []
section
variable{P:Ui}{w:Uj}{K:Ac}{mg:Str->Option Uf}{base:Uk}{Γ:List DSp}{G:LD}{FN GN BN:LS}{lv:Nat}
def Prg.zero(n:∀x∈FN,Ent K mg x)(k:FN.length=Γ.length)(m:∀sp∈Γ,sp=bot)(l:∀(g:Nat) (x:Str) (d:D),GN[g]?=some x->G[g]?=some d->∃v u,mg x=some u/\RelV v u/\∀w:Vw,w.K=K->RD w d v)(o:∀x∈BN,mg x=none):
  Prg P w K mg base ⟨K,Γ,G⟩ FN GN BN 0 where
 hK:=rfl
 fns:=fun f x sp q p=>by
  let⟨t,r,i,B,z,y⟩:=n x (As q)
  have j:sp=bot:=m sp (As p)
  subst j
  have c:∀a H Q E,¬spF K bot a H Q E:=fun a H Q E zz154=>by let⟨_,_,_,_,_,_,_,_,_,h,_⟩:=zz154;show h
  show⟨0,t,r,i,[],[],[],bot,⟨fun a H Q E h=>absurd h (c a H Q E),fun A b s H e C a Q E _ _ _ _ h=>absurd h (c a H Q E)⟩,na _,B,z,y,.nil,fun w _=>RDs.nil w,fun _ _ _ _ h=>h.elim⟩
 flen:=k
 glb:=l
 blt:=o
def Prg.add(i:Prg P w K mg base ⟨K,Γ,G⟩ FN GN BN lv)(n:Nat){x:Str}{sp:DSp}{d c:Nat}(p:FN[n]?=some x)(F:FnOk P w K mg base (CX1 P w) d f g ps (spF K sp))(u:d<=c)(t:lv<=c)(q:mg x=↑f)(k:Dv K (.ref f)=true)(s:Y9 K g ps []):
  Prg P w K mg base ⟨K,Γ.set n sp,G⟩ FN GN BN c where
 hK:=rfl
 fns:=fun m y b l a=>by
  by_cases e:n=m
  .subst e
   rw[p] at l
   cases l
   have r:n<Γ.length:=by rw[<-i.flen];show(Ab.mp p).1
   have a:(Γ.set n sp)[n]?=some b:=a
   rw[Dm r] at a
   cases a
   show⟨d,f,g,ps,[],[],[],sp,F,u,q,k,s,.nil,fun w _=>RDs.nil w,fun A M Q Z h=>by rw[Hd];show h⟩
  .have a:(Γ.set n sp)[m]?=some b:=a
   rw[Dh e] at a
   let⟨d,f,g,ps,v,o,z,j,F,k,h⟩:=i.fns m y b l a
   show⟨d,f,g,ps,v,o,z,j,F,ni k t,h⟩
 flen:=by rw[i.flen];simp
 glb:=i.glb
 blt:=i.blt
end
def Z6{a:Nat}{xs:LD}(h:readL M a=some xs):readL (M++N) a=some xs:=by
 unfold readL at *
 have b:a<M.length:=by
  cases e:M[a]? with
  | none=>rw[e] at h;cases h
  | some c=>show(Ab.mp e).1
 rw[Az b];show h
def Rg{a:Nat}{xs:KQ9}(h:Zx M a=some xs):Zx (M++N) a=some xs:=by
 unfold Zx at *
 have b:a<M.length:=by
  cases e:M[a]? with
  | none=>rw[e] at h;cases h
  | some c=>show(Ab.mp e).1
 rw[Az b];show h
def Z67(M:Z1)(c:Cell)(N:Z1):(M++c::N)[M.length]?=some c:=by simp
def Ze8(M N:Z1)(k:Nat):(M++N)[M.length+k]?=N[k]?:=by rw[Di 'o'];congr 1;lia
def Xh(M:Z1)(xs:LD)(N:Z1):readL (M++ .lst xs::N) M.length=some xs:=by unfold readL;rw[Z67]
def Yp(M:Z1)(xs:LD)(N:Z1):Zw (M++ .lst xs::N) M.length=some xs:=by unfold Zw;rw[Z67]
def Z93(M:Z1)(xs:KQ9)(N:Z1):Zx (M++ .dct xs::N) M.length=some xs:=by unfold Zx;rw[Z67]
def Yl(M N:Z1)(k:Nat):readL (M++N) (M.length+k)=readL N k:=by unfold readL;rw[Ze8]
def We(M N:Z1)(k:Nat):Zw (M++N) (M.length+k)=Zw N k:=by unfold Zw;rw[Ze8]
def Rl(M:Z1)(c d:Cell)(N:Z1):(M++c::N).set M.length d=M++d::N:=by
 rw[Dj _ _ (na _)];simp
def Vn(M N:Z1)(k:Nat)(d:Cell):(M++N).set (M.length+k) d=M++N.set k d:=by
 rw[Dj _ _ 'o'];congr 2;lia
def Rz{n:Nat}{xs:LD}(h:Zw M n=some xs):readL M n=some xs:=Zz8 h
def Yg{own:Own}{xs:LD}{g:LQ}{body:DS}{R:DEnds}{a:DEnv}{M:Z1}(I:Nat->DEnv->Z1->Prop)(h0:I 0 a M)(m:∀i a M,i<=xs.length->I i a M->Ou own xs M)
  (step:∀(i:Nat) (d:D) a M (C:DEnv->Z1->Prop),xs[i]?=some d->I i a M->(∀b c,I (i+1) b c->C b c)->tgD g d a fun f=>body {nx:=C,rt:=R.rt,bk:=R.nx,ct:=C} f M)
  (l:∀a M,I xs.length a M->R.nx a M):forD own xs g body xs R a M:=by
 have k:∀(j:Nat) a M,j<=xs.length->I (xs.length - j) a M->forD own xs g body (xs.drop (xs.length - j)) R a M:=by
  intro j
  induction j with
  | zero=>
   intro a M _ h
   rw[Nat.sub_zero] at h ⊢
   rw[List.drop_length]
   show⟨m _ a M (na _) h,l a M h⟩
  | succ j p=>
   intro a M q h
   have n:xs.length - (j+1)<xs.length:='o'
   have e:xs.length - (j+1)+1=xs.length - j:='o'
   rw[Im n]
   refine⟨m _ a M 'o' h,step _ _ a M _ (Aa n) h fun b c o=>?_⟩
   rw[e] at o ⊢
   show p b c 'o' o
 have:=k xs.length a M (na _) (by rw[Nat.sub_self];show h0)
 rw[Nat.sub_self] at this
 show this
def Zn{own:Own}{xs:LD}{cd:DT}{z:Nat}{a:DEnv}(I:Nat->DEnv->Z1->Prop)(h0:I 0 a M)(p:∀i a M,i<=xs.length->I i a M->Ou own xs M)
  (step:∀(i:Nat) (d:D) a M (C:DEnv->Z1->Prop),xs[i]?=some d->I i a M->(∀c g,I (i+1) c g->C c g)->tgD l d a fun f=>cd f M fun b s=>if b=true then
   m f s fun y g=>∃k,Zw g z=some k/\k.length<sizeLine/\C f (g.set z (.lst (k++[y]))) else C f s)
  (o:∀a M,I xs.length a M->Q M):Ri own xs l cd m z xs a M Q:=by
 have n:∀(j:Nat) a M,j<=xs.length->I (xs.length - j) a M->Ri own xs l cd m z (xs.drop (xs.length - j)) a M Q:=by
  intro j
  induction j with
  | zero=>
   intro a M _ h
   rw[Nat.sub_zero] at h ⊢
   rw[List.drop_length]
   show⟨p _ a M (na _) h,o a M h⟩
  | succ j t=>
   intro a M u h
   have q:xs.length - (j+1)<xs.length:='o'
   have e:xs.length - (j+1)+1=xs.length - j:='o'
   rw[Im q]
   refine⟨p _ a M 'o' h,step _ _ a M (fun c g=>Ri own xs l cd m z (xs.drop (xs.length - (j+1)+1)) c g Q) (Aa q) h fun c g r=>?_⟩
   rw[e] at r ⊢
   show t c g 'o' r
 have:=n xs.length a M (na _) (by rw[Nat.sub_self];show h0)
 rw[Nat.sub_self] at this
 show this
def mulR{i j:Int}(b:-(2 ^ 64)<j)(a:j<2 ^ 64):IntMulOk i j:=CMul.ok (.inr ⟨b,a⟩)
def mulL{i j:Int}(b:-(2 ^ 64)<i)(a:i<2 ^ 64):IntMulOk i j:=CMul.ok (.inl ⟨b,a⟩)
def N7{i j:Int}(c:0<j)(b:j<2 ^ 64):Zc9 i j:=by
 refine⟨'o',?_⟩
 have a:j.natAbs<2 ^ 64:='o'
 show Nat.lt_trans (Bh a 'd') 'd'
def Z0{n:Nat}(h:n<=16000000):n<=sizeLine:=by rw[Mo];lia
def Z2{n:Nat}(h:n<=16000000):n<sizeLine:=by rw[Mo];lia
section
variable{M:Z1}{Q:DK}{B:Bool->Prop}{i j:Int}{a b:Str}{p q:Bool}{xs ys:LD}{n m:Nat}{K:Ac}
def op_add_i:opD .add (.int i) (.int j) M Q=Q (.int (i+j)) M:=rfl
def op_add_s:opD .add (.str a) (.str b) M Q=(a.length+b.length<=sizeLine/\Q (.str (a++b)) M):=rfl
def op_add_t:opD .add (.tup xs) (.tup ys) M Q=(xs≠[]/\xs.length+ys.length<=sizeLine/\Q (.tup (xs++ys)) M):=rfl
def op_add_l:opD .add (.ref n) (.ref m) M Q=∃xs ys,Zw M n=some xs/\Zw M m=some ys/\xs.length+ys.length<=sizeLine/\Q (.ref M.length) (M++[.lst (xs++ys)]):=rfl
def op_sub_i:opD .sub (.int i) (.int j) M Q=Q (.int (i - j)) M:=rfl
def op_mul_i:opD .mul (.int i) (.int j) M Q=(IntMulOk i j/\Q (.int (i * j)) M):=rfl
def op_mul_l:opD .mul (.ref n) (.int i) M Q=∃xs,Zw M n=some xs/\0<=i/\i<2 ^ 62/\xs.length * i.toNat<=sizeLine/\Q (.ref M.length) (M++[.lst (Hf i.toNat xs).flatten]):=rfl
def op_fdiv_i:opD .fdiv (.int i) (.int j) M Q=(Zc9 i j/\Q (.int (qdiv i j)) M):=rfl
def op_mod_i:opD .mod (.int i) (.int j) M Q=(j≠0/\Q (.int (qmod i j)) M):=rfl
def op_pow_i:opD .pow (.int i) (.int j) M Q=(CPow i j/\Q (.int (i ^ j.toNat)) M):=rfl
def cm_lt_i:cmD M .lt (.int i) (.int j) B=B (decide (i<j)):=rfl
def cm_le_i:cmD M .le (.int i) (.int j) B=B (decide (i<=j)):=rfl
def cm_gt_i:cmD M .gt (.int i) (.int j) B=B (decide (j<i)):=rfl
def cm_eq{x y:D}:cmD M .eq x y B=eqD M x y B:=rfl
def cm_ne{x y:D}:cmD M .ne x y B=eqD M x y fun b=>B (!b):=rfl
def cm_in{x y:D}:cmD M .isin x y B=inQ M x y B:=rfl
def cm_notin{x y:D}:cmD M .notin x y B=inQ M x y fun b=>B (!b):=rfl
def cm_is_n:cmD M .is .non .non B=B true:=rfl
def cm_is_i:cmD M .is (.int i) .non B=B false:=rfl
def cm_is_s:cmD M .is (.str a) .non B=B false:=rfl
def cm_is_b:cmD M .is (.bl p) .non B=B false:=rfl
def cm_is_t:cmD M .is (.tup xs) .non B=B false:=rfl
def cm_is_r:cmD M .is (.ref n) .non B=B false:=rfl
def cm_isnot_n:cmD M .isnot .non .non B=B false:=rfl
def cm_isnot_i:cmD M .isnot (.int i) .non B=B true:=rfl
def cm_isnot_s:cmD M .isnot (.str a) .non B=B true:=rfl
def cm_isnot_b:cmD M .isnot (.bl p) .non B=B true:=rfl
def cm_isnot_t:cmD M .isnot (.tup xs) .non B=B true:=rfl
def cm_isnot_r:cmD M .isnot (.ref n) .non B=B true:=rfl
def eq_i:eqD M (.int i) (.int j) B=B (decide (i=j)):=rfl
def eq_s:eqD M (.str a) (.str b) B=B (decide (a=b)):=rfl
def eq_b:eqD M (.bl p) (.bl q) B=B (decide (p=q)):=rfl
def eq_nn:eqD M .non .non B=B true:=rfl
def eq_is:eqD M (.int i) (.str b) B=B false:=rfl
def eq_si:eqD M (.str b) (.int i) B=B false:=rfl
def tru_b:truD M (.bl p) B=B p:=rfl
def tru_i:truD M (.int i) B=B (i !=0):=rfl
def tru_n:truD M .non B=B false:=rfl
def tru_t:truD M (.tup xs) B=B (!xs.isEmpty):=rfl
def ix_t:ixD M (.tup xs) (.int i) F=∃d,atI xs i=some d/\F d:=rfl
def ix_g:ixD M (.gtup xs) (.int i) F=∃d,atI xs i=some d/\F d:=rfl
def ix_s:ixD M (.str a) (.int i) F=(a.length<=sizeLine/\∃c,atI a.cps.toList i=some c/\F (.str ⟨#[c]⟩)):=rfl
def ix_l{k:Nat}(h:readL M n=some xs){d:D}(c:xs[k]?=some d)(e:F d):ixD M (.ref n) (.int k) F:= .inl ⟨xs,k,d,rfl,h,J3 c,e⟩
def Y48(h:readL M n=some xs){d:D}(c:atI xs i=some d)(e:F d):ixD M (.ref n) (.int i) F:= .inl ⟨xs,i,d,rfl,h,c,e⟩
def ix_d{k:D}{y:Key}(h:Zx M n=some kvs)(c:keyD k=some y){d:D}(e:valD kvs y=some d)(f:F d):ixD M (.ref n) k F:= .inr ⟨kvs,y,d,Y16 h,c,e,f⟩
def ix_f{k:D}{y:Key}(h:M[n]?=some (.fdc kvs))(c:keyD k=some y){d:D}(e:valD kvs y=some d)(f:F d):ixD M (.ref n) k F:= .inr ⟨kvs,y,d,by unfold Z25;rw[h],c,e,f⟩
def sl_s{lo hi:Option Int}:slD (.str a) lo hi M Q=(a.length<=sizeLine/\Q (.str (Txt.slice a lo hi)) M):=rfl
def sl_t{lo hi:Option Int}:slD (.tup xs) lo hi M Q=(¬(HT.sIx xs.length 0 lo=0/\HT.sIx xs.length xs.length hi=xs.length)/\Q (.tup (cutD xs lo hi)) M):=rfl
def sl_l{lo hi:Option Int}:slD (.ref n) lo hi M Q=∃xs,readL M n=some xs/\Q (.ref M.length) (M++[.lst (cutD xs lo hi)]):=rfl
def tyNon:Ty->Bool:=fun _=>false
def tyBl:Ty->Bool
 | .bool=>true | .int=>true | _=>false
def tyInt:Ty->Bool
 | .int=>true | _=>false
def tyStr:Ty->Bool
 | .str=>true | _=>false
def tyTup:Ty->Bool
 | .tuple=>true | _=>false
def tyLst:Ty->Bool
 | .list=>true | _=>false
def tyDct:Ty->Bool
 | .dict=>true | _=>false
def Po{d:D}{t:Ty}{v:Bool}(o:∀e C u r,d≠ .exn e C u r)(g:tyD M d=some s)(f:Df K (.type s) (.type (Yj t))=some v):isD K M d (.ty (Yj t)) B=B v:=by
 have:isD K M d (.ty (Yj t)) B=∃c b,tyD M d=some c/\Df K (.type c) (.type (Yj t))=some b/\B b:=by
  cases d<;>first | rfl | show absurd rfl (o _ _ _ _)
 rw[this]
 apply propext
 constructor
 .rintro⟨c,b,l,k,h⟩
  rw[g] at l
  cases l
  rw[f] at k
  cases k
  show h
 .intro h;show⟨s,v,g,f,h⟩
def is_non{t:Ty}:isD K M .non (.ty (Yj t)) B=B (tyNon t):=Po (fun _ _ _ _ h=>nomatch h) rfl (by cases t<;>rfl)
def is_bl{t:Ty}:isD K M (.bl p) (.ty (Yj t)) B=B (tyBl t):=Po (fun _ _ _ _ h=>nomatch h) rfl (by cases t<;>rfl)
def is_int{t:Ty}:isD K M (.int i) (.ty (Yj t)) B=B (tyInt t):=Po (fun _ _ _ _ h=>nomatch h) rfl (by cases t<;>rfl)
def is_str{t:Ty}:isD K M (.str a) (.ty (Yj t)) B=B (tyStr t):=Po (fun _ _ _ _ h=>nomatch h) rfl (by cases t<;>rfl)
def is_tup{t:Ty}:isD K M (.tup xs) (.ty (Yj t)) B=B (tyTup t):=Po (fun _ _ _ _ h=>nomatch h) rfl (by cases t<;>rfl)
def Zu3{t:Ty}(h:Zw M n=some xs):isD K M (.ref n) (.ty (Yj t)) B=B (tyLst t):=Po (s:="list") (fun _ _ _ _ h=>nomatch h) (by simp only[tyD,Np h]) (by cases t<;>rfl)
def Zq(h:readL M n=some xs)(c:Q (.int xs.length) M):bfD K .len [.ref n] M Q:= .inl ⟨xs,h,c⟩
def bf_len_t:bfD K .len [.tup xs] M Q=Q (.int xs.length) M:=rfl
def bf_len_s:bfD K .len [.str a] M Q=(a.length<=sizeLine/\Q (.int a.length) M):=rfl
def bf_is{d c:D}:bfD K .isinst [d,c] M Q=isD K M d c fun b=>Q (.bl b) M:=rfl
def bf_list{d:D}:bfD K .list1 [d] M Q=∃xs,B0 M d=some xs/\Q (.ref M.length) (M++[.lst xs]):=rfl
def Zc0{xs:LD}:bfD K .tuple1 [.tup xs] M Q=Q (.tup xs) M:=rfl
def bf_tuple:bfD K .tuple1 [.ref n] M Q=∃xs,readL M n=some xs/\Q (.tup xs) M:=rfl
def bf_dict:bfD K .dict1 [.ref n] M Q=((∃xs,Zx M n=some xs/\Q (.ref M.length) (M++[.dct xs]))\/(∃ps:KQ9,readL M n=some (Yk ps)/\ps.length<sizeLine/\Q (.ref M.length) (M++[.dct (S5 ps)]))):=rfl
def at2_xy{x y:D}:at2 [x,y] F=F x y:=rfl
def onRef_r:Qy (.ref n) F=F n:=rfl
def bf_sortedL:bfD K .sortedL [.ref n] M Q=∃ns:List Int,readL M n=some (ns.map .int)/\ns.length<64/\∀c:List Int,c.Perm ns->c.Pairwise (·<=·)->Q (.ref M.length) (M++[.lst (c.map .int)]):=rfl
def on_int:N6 (.int i) F=F i:=rfl
def ati0{c:Type}{x:c}{l:List c}:atI (x::l) 0=some x:=J3 (j:=0) rfl
def ati1{c:Type}{x y:c}{l:List c}:atI (x::y::l) 1=some y:=J3 (j:=1) rfl
def ati2{c:Type}{x y z:c}{l:List c}:atI (x::y::z::l) 2=some z:=J3 (j:=2) rfl
def ofS_inj{a b:String}:(Str.ofString a=Str.ofString b)=(a=b):=by
 apply propext
 constructor
 .intro h
  rw[Str.ofString_eq_toList,Str.ofString_eq_toList] at h
  have h1:=congrArg (fun s:Str=>s.cps.toList) h
  simp only at h1
  have inj:∀{l m:List Char},l.map Char.toNat=m.map Char.toNat->l=m:=by
   intro l
   induction l with
   | nil=>intro m h;cases m<;>simp_all
   | cons c l ih=>
    intro m h
    cases m with
    | nil=>simp at h
    | cons e m=>
     rw[Ch,Ch,List.cons.injEq] at h
     rw[ih h.2,Char.toNat_inj.mp h.1]
  show String.toList_inj.mp (inj h1)
 .intro h;rw[h]
def mt_append_r{d:D}:mtD .append (.ref n) [d] M Q=∃xs,Zw M n=some xs/\xs.length<sizeLine/\Q .non (M.set n (.lst (xs++[d]))):=rfl
def mt_upd_r:mtD .upd (.ref n) [.ref m] M Q=∃kvs c,Zx M n=some kvs/\Zx M m=some c/\n≠m/\kvs.length+c.length<=sizeLine/\Q .non (M.set n (.dct (c.foldl (fun m p=>putD m p.1 p.2) kvs))):=rfl
def mt_get2_r{k z:D}:mtD .get2 (.ref n) [k,z] M Q=∃kvs y,Zx M n=some kvs/\keyD k=some y/\Q ((valD kvs y).getD z) M:=rfl
def mt_pop_r:mtD .pop0 (.ref n) [] M Q=∃xs d,Zw M n=some xs/\xs[xs.length - 1]?=some d/\Q d (M.set n (.lst xs.dropLast)):=rfl
def mt_reverse_r:mtD .reverse (.ref n) [] M Q=∃xs,Zw M n=some xs/\Q .non (M.set n (.lst xs.reverse)):=rfl
def mt_index_r{d:D}:mtD .index1 (.ref n) [d] M Q=∃xs k z,readL M n=some xs/\Y2 d=true/\xs.all Y2=true/\xs[k]?=some z/\eqF z d=true/\(∀(j:Nat) u,j<k->xs[j]?=some u->eqF u d=false)/\Q (.int k) M:=rfl
def mt_extend_r:mtD .extend (.ref n) [.ref m] M Q=∃xs ys,Zw M n=some xs/\Zw M m=some ys/\xs.length+ys.length<=sizeLine/\Q .non (M.set n (.lst (xs++ys))):=rfl
def mk_index:mtK .index1 (.ref n) M=((readL M n).isSome=true):=rfl
def mk_extend:mtK .extend (.ref n) M=((readL M n).isSome=true):=rfl
def aug_add{B:D->Prop}:augD .add (.int i) (.int j) B=B (.int (i+j)):=rfl
def aug_sub{B:D->Prop}:augD .sub (.int i) (.int j) B=B (.int (i - j)):=rfl
def mk_append:mtK .append (.ref n) M=((readL M n).isSome=true):=rfl
def mk_pop:mtK .pop0 (.ref n) M=((readL M n).isSome=true):=rfl
def mk_reverse:mtK .reverse (.ref n) M=((readL M n).isSome=true):=rfl
def mk_upd:mtK .upd (.ref n) M=((Zx M n).isSome=true):=rfl
def mk_get2:mtK .get2 (.ref n) M=((Zx M n).isSome=true):=rfl
def tg_one{k:Nat}{d:D}{c:DEnv}:tgD [k] d c F=F (c.set k (some d)):=by cases d<;>rfl
def tg_two{k l:Nat}{d e:D}{c:DEnv}:tgD [k,l] (.tup [d,e]) c F=F ((c.set k (some d)).set l (some e)):=by
 show([d,e].length=[k,l].length/\F _)=_
 simp
def it_r:itD M (.ref n) R=∃xs,readL M n=some xs/\R (.lst n) xs:=rfl
def it_t:itD M (.tup xs) R=R .no xs:=rfl
def it_g:itD M (.gtup xs) R=R .no xs:=rfl
def key_i:keyD (.int i)=some (.inl i):=rfl
def key_s:keyD (.str a)=some (.inr a):=rfl
def in_ss:inQ M (.str a) (.str b) B=B (!(Mf b a 0 b.length 1).isEmpty):=rfl
end
def Z9{a:Type}{o:Option a}{x:a}(h:o=some x):o.isSome=true:=by rw[h];rfl
abbrev vs4:LW:=[.type "ValueError",.type "Exception",.type "BaseException",.type "object"]
def mro4{K:Ac}{nm q:Str}{d:LW}{c:LS}{a:LW}{b:Option Bool}{n:Option Uh}{m k j i h:Option Uf}
  (l:K.lookup C=some (excClassObj nm q C N d (.ref J::vs4) true c a f b n m k j i h g)):∃cd,Mv K C=some cd/\cd.hasDict=true/\cd.mro=[.ref C,.ref J]++vs4:=by
 have e:Mv K C=some {name:=nm,bases:=d,mro:= .ref C::(.ref J::vs4),ns:=N,qualname:=q,hasDict:=true,slotNames:=c,subclasses:=a,abstract:=f,collection:=b,hasDel:=false}:=by
  unfold Mv
  rw[l]
 show⟨_,e,rfl,rfl⟩
def Zp3{K:Ac}{nm q:Str}{k:LW}{c:LS}{a:LW}{b:Option Bool}{i h g e d:Option Uf}
  (l:K.lookup C=some (excClassObj nm q C N k (.ref J::vs4) true c a m b j i h g e d "ValueError.__new__")) (hi:Hs K (.ref C) "__init__"=some (↑f)) (o:PySem.W.isFn K (.ref f)=true) (n:Dv K (.ref C)=true):ExcMk K C f where
 cls:=⟨nm,q,N,k,_,true,c,a,m,b,j,i,h,g,e,d,l,rfl,rfl,rfl,rfl⟩
 init:=hi
 fn:=o
 kp:=n
def Z54{K:Ac}{nm q:Str}{t:LW}{d:LS}{a:LW}{b:Option Bool}{j i h g f:Option Uf}
  (l:K.lookup C=some (excClassObj nm q C N t (.ref J::vs4) true d a u b r j i h g f e)) (m:Hs K (.ref C) "row"=some none) (k:Hs K (.ref C) "__setattr__"=some (some (.builtin "object.__setattr__"))):ExcSet K C "row" where
 cls:=by
  let⟨s,p,o,n⟩:=mro4 l
  refine⟨s,[.ref C,.ref J],p,o,n,fun v c=>?_⟩
  simp only[Aq,Hy,or_false] at c
  rcases c with rfl | rfl
  .exact⟨_,rfl⟩
  .exact⟨_,rfl⟩
 no:=m
 set:=k
def Zo8(st:Stmt):Bool:=match Zh st with
 | [.Assign [.Attribute (.Name a _) b _] (.Name d _) _]=>a=="self"&&b=="row"&&d=="row"
 | _=>false
set_option tactic.hygienic true in
def Z08{st:Stmt}(h:Zo8 st=true):∃p1 p2 p3 p4,Zh st=[.Assign [.Attribute (.Name "self" p1) "row" p2] (.Name "row" p3) p4]:=by
 unfold Zo8 at h
 split at h
 .rename_i a p1 b p2 d p3 p4 e
  simp only[Bz9,beq_iff_eq] at h
  let⟨⟨rfl,rfl⟩,rfl⟩:=h
  show⟨_,_,_,_,e⟩
 .cases h
def Y09{P:Ui}{w:Uj}{K:Ac}{mg:Str->Option Uf}{base:Uk}{st:Stmt}{f:Uh}{name qual:Str}{n m b l a o v:Uf}{p od:Option Uh}{d:Array (Option Uf)}
  (x:K.lookup f=some ⟨v,od,.func (Ke name qual (Xb st) (Zh st) (Z3 st) n m b l p a o),d⟩) (k:Lv K a qual=true) (S:FnScope ["self","row"] ["self","row"] (Z3 st)) (z:Zo8 st=true)
  (D:(Z3 st).names.lookup ("self":Str)=some .local) (B:(Z3 st).names.lookup ("row":Str)=some .local):
  FnOk P w K mg base CX0 1 f (Ke name qual (Xb st) (Zh st) (Z3 st) n m b l p a o) ["self","row"] (Ol K):=by
 refine Zm7 x k S (fun q H Q E zz155=>by let⟨e,C,y,h,_⟩:=zz155;rw[h];rfl) fun A c s H q Q E N g=>?_
 let⟨e,C,y,rfl,u,t,r⟩:=g
 let⟨M,L,J,I,F⟩:=Z08 z
 rw[F]
 refine⟨_,C7 (Ye8 (C0 (i:=0) rfl (.inl D)) (C0 (i:=1) rfl (.inl B)) rfl) Z51,?_⟩
 show⟨y,rfl,.ref e,rfl,e,C,rfl,u,t,fun G j=>r G j⟩
def Prg.up{w:Uj}{K:Ac}{c:Cfg}{j i k:LS}{g a:Nat}(b:Prg P w K mg base c j i k g)(h:g<=a):Prg P w K mg base c j i k a where
 hK:=b.hK
 fns:=fun m y l t s=>by
  let⟨o,f,q,n,u,e,v,d,F,p,r⟩:=b.fns m y l t s
  show⟨o,f,q,n,u,e,v,d,F,ni p h,r⟩
 flen:=b.flen
 glb:=b.glb
 blt:=b.blt
def PrgR.one{w:Uj}{K:Ac}{c:Cfg}{b n:Nat}{a:FuncData}(h:c.G[n]?=some (.cls B))(p:ExcMk K B f)(o:FnOk P w K mg base CX0 1 f a ["self","row"] (Ol K))(m:2<=b)(l:Y9 K a ["self","row"] [.none])(k:Y9 K a ["self","row"] [])(j:ExcSet K B "row"):
  PrgR P w K mg base c [n] b:=fun g i C d=>by
 have e:g=n:=by simpa using i
 subst e
 rw[h] at d
 cases d
 show⟨1,f,a,p,o,m,l,k,j⟩
def Rest(c:Cfg)(X:DX)(r:Ss)(R:DEnds)(a:DEnv)(M:Z1):Prop:=tss c X r R a M
def tss_nil{c:Cfg}{a:DEnv}:tss c X .nil R a M=R.nx a M:=rfl
def tss_cons{c:Cfg}{b:DEnv}:tss c X (.cons s r) R b M=ts c X s {R with nx:=fun a d=>Rest c X r R a d} b M:=rfl
def Z8{c:Cfg}{X:DX}{r:Ss}{R:DEnds}{a:DEnv}{M:Z1}(h:tss c X r R a M):Rest c X r R a M:=h
def Zt2{a:Type}{P:List a->Prop}(h:P [])(l:List a)(e:l.length=0):P l:=by
 cases l with
 | nil=>show h
 | cons _ _=>cases e
def Z61{b:Type}{n:Nat}{P:List b->Prop}(h:∀a l,l.length=n->P (a::l))(l:List b)(e:l.length=n+1):P l:=by
 cases l with
 | nil=>cases e
 | cons a r=>show h a r (Nat.succ.inj e)
def Zu6{b:Type}{P:List b->Prop}(h:∀a,P [a]):∀l:List b,l.length=1->P l:=Z61 fun a=>Zt2 (h a)
def Ya4{c:Type}{P:List c->Prop}(h:∀a b,P [a,b]):∀l:List c,l.length=2->P l:=Z61 fun a=>Zu6 (P:=fun l=>P (a::l)) (h a)
def Zh0{a:Type}{P:a->Prop}:∀x∈([]:List a),P x:=fun _ h=>absurd h Hy
def all_cons{b:Type}{P:b->Prop}{a:b}{l:List b}(h:P a)(t:∀x∈l,P x):∀x∈a::l,P x:=fun x c=>(Aq.mp c).elim (fun e=>e ▸ h) (t x)
def Zp9{K:Ac}{b:FuncData}{n:Nat}(h:∀s:Ug,K.In s.heap->∀us:LW,us.length=n->BindsTo s b ⟨us,[]⟩ (ps.zip (us++[])))(e:ps.length=n):Y9 K b ps []:=fun s us c a=>h s c us (by rw[Hd,e] at a;show a)
def Y17{K:Ac}{b:FuncData}{d:Uf}{n:Nat}(h:∀s:Ug,K.In s.heap->∀us:LW,us.length=n->BindsTo s b ⟨us,[]⟩ (ps.zip (us++[d])))(e:ps.length=n+1):Y9 K b ps [d]:=fun s us c a=>h s c us (by rw[Ae,e] at a;show Nat.succ.inj a)
def Nc:List (Str×NameKind):=[("goals",.cell),("together",.cell),("doors",.cell),("min",.globalImplicit)]
abbrev chN:LS:=["goals","together","doors"]
def Kq(M a:Z1):Prop:=∀(i:Nat) c,M[i]?=some c->a[i]?=some c
def Z39(c:DSp):DSp:=fun h M Q _=>∃(g d:D) (t:Nat) (b:List Int),h=[g,.ref t,d]/\readL M t=some (b.map .int)/\0<b.length/\
 (∀a,Kq M a->∀x∈b,c [g,.ref t,d,.int x] a (fun v e=>(∃r f,v= .ref r/\readL e r=some f)/\Kq a e) noX)/\∀m∈b,∀a,Kq M a->Q (.int m) a
def Kq.readL{M a:Z1}{n:Nat}{xs:LD}(h:Kq M a)(e:U.readL M n=some xs):U.readL a n=some xs:=by
 unfold U.readL at e ⊢
 cases q:M[n]? with
 | none=>rw[q] at e;cases e
 | some c=>rw[q] at e;rw[h n c q];show e
def RS.over{w:Vw}(R:RS w M)(d:∀b o,Tb o=false->w.H b=some o->H2 b=some o)(f:∀b o,w.H b=some o->Imm o=true->H2 b=some o)(a:Z26 w.K H2):Ext w {w with H:=H2}/\RS {w with H:=H2} M:=by
 have x:Ext w {w with H:=H2}:=⟨rfl,na _,fun _ _=>rfl,f⟩
 refine⟨x,R.len,R.inj,fun i c e=>?_,a⟩
 refine(R.cell i c e).stay x fun h=>?_
 let⟨o,g⟩:=(R.cell i c e).some h
 change H2 (w.μ i)=w.H (w.μ i)
 rw[g]
 show d _ _ (Pe (R.cell i c e) h g) g
def Yd8(c:cellOf env "goals"=(pure c1:Sem Uh))(b:cellOf env "together"=(pure c2:Sem Uh))(a:cellOf env "doors"=(pure c3:Sem Uh)):closureFor Zy env=(pure (Qx c1 c2 c3):Sem (List (Str×Uh))):=by
 unfold closureFor
 simp[Zy,c,b,a]
def fnC{P:Ui}{w:Uj}{K:Ac}{mg:Str->Option Uf}{base:Uk}{c:Cfg}{FN GN BN:LS}{lv n:Nat}{st:Stmt}{f c0 T:Uh}{fd:FuncData}{p1 p2 p3 p4 p5 p6 p7 p8 p9 pos q1 q2 q3 q4 q5:Pos}{I:DSp}
  (Pr:Prg P w K mg base c FN GN BN lv) (KX:K.In base) (G0:base.Ns mainGlobals mg) (B:Bs K mg base) (ht:PySem.W.tabIn K "chosen_head"=some (c0,T)) (u0:mg "chosen_head"=↑f) (F:Fun K "chosen_head" "chosen_head" st f fd)
  (w0:Zh st=[.Return (some (.Call (.Name "min" q1) [.Name "together" q2] [{arg:=some "key",value:= .Lambda (Ww p1) (V4 p2 p3 p4 p5 p6 p7 p8 p9) Zy pos,pos:=q3}] q4)) q5]) (Y:(Z3 st).names=Nc)
  (S:FnScope chN chN (Z3 st)) (z0:("min":Str)∈BN) (y0:("len":Str)∈BN) (hn:FN[n]?=some ("come_round":Str)) (hg:c.Γ[n]?=some I):FnOk P w K mg base (CX1 P w) (lv+3) f fd chN (spF K (Z39 I)):=by
 let⟨oc,od,dV,kV,n1,pm,an,m0,ct,v1,rfl,lk,q0⟩:=F.ex
 have L:m0= .ref c0:=PySem.W.law_code KX G0 ht u0 (KX _ _ lk) rfl
 subst L
 refine FnOk.cx (Zm7 (CX:=CX0) lk q0 S (fun vs H Q E h=>?_) fun A j s H vs Q E hr h=>?_)
 .let⟨w,ds,M,QD,Z,_,_,_,r,h,_⟩:=h
  let⟨g,d,t,ns,rfl,_⟩:=h
  rw[r.length];rfl
 let⟨G,ds,M,QD,Z,y,rfl,R,r,h,a,xk⟩:=h
 let⟨g,d,t,ns,rfl,e1,v0,hC,q⟩:=h
 let⟨kk,fc,t1,y1,o1,s1,n0,z1,Fc,u1,t0,s0,p0,r0,o0,V⟩:=Pr.fns n "come_round" I hn hg
 have J:∀(x:Str) k,Nc.lookup x=some k->(envOfC "chosen_head" (Z3 st) s.heap.objs.size f (.ref c0)).kindOf x=some k:=fun x k e=>by
  show(Z3 st).names.lookup x=some k
  rw[Y];show e
 have u:(envOfC "chosen_head" (Z3 st) s.heap.objs.size f (.ref c0)).cells=cellsFrom (s.heap.objs.size+1) Nc []:=by
  change cellsFrom (s.heap.objs.size+1) (Z3 st).names []=_
  rw[Y]
 have ce:∀(x:Str) cc,(cellsFrom (s.heap.objs.size+1) Nc []).lookup x=some cc->cellOf (envOfC "chosen_head" (Z3 st) s.heap.objs.size f (.ref c0)) x=(pure cc:Sem Uh):=fun x cc e=>by
  unfold cellOf
  rw[u,e]
 have hx:∀x0 H s e s',CX1 P w x0 H s E0 e s'->False:=fun _ _ _ _ _ h=>by
  let⟨_,_,_,_,_,_,_,_,_,_,_,_,_,_,_,h⟩:=h
  show h.elim
 have pm:=Zy6 (X:=(cxOf CX0 P w K mg base chN "chosen_head" (Z3 st) f (.ref c0) A j s G.H E).nox) (c0:=c0) (T:=T) (c1:=s.heap.objs.size+1) (c2:=s.heap.objs.size+2) (c3:=s.heap.objs.size+3) (p1:=p1) (p2:=p2) (p3:=p3) (p4:=p4) (p5:=p5) (p6:=p6) (p7:=p7) (p8:=p8) (p9:=p9) (pos:=pos) (q1:=q1) (q2:=q2) (q3:=q3) (q4:=q4)
  B rfl rfl ht (Yd8 (ce _ _ rfl) (ce _ _ rfl) (ce _ _ rfl)) (by rw[show(cxOf CX0 P w K mg base chN "chosen_head" (Z3 st) f (.ref c0) A j s G.H E).nox.env.cells=_ from u];rfl) (by rw[show(cxOf CX0 P w K mg base chN "chosen_head" (Z3 st) f (.ref c0) A j s G.H E).nox.env.cells=_ from u];rfl) (by rw[show(cxOf CX0 P w K mg base chN "chosen_head" (Z3 st) f (.ref c0) A j s G.H E).nox.env.cells=_ from u];rfl)
  rfl (hr.mono 'o') (J "min" _ rfl) (Pr.blt _ z0) (Pr.blt _ y0) rfl rfl rfl (.inr (.inl (J "goals" _ rfl))) (.inr (.inl (J "together" _ rfl))) (.inr (.inl (J "doors" _ rfl))) (J "goals" _ rfl) (J "together" _ rfl) (J "doors" _ rfl) Fc t0 s0 p0 r0 hx
 have D:=Zx5 (Zv3 (pos:=q5) pm)
 rw[<-w0] at D
 refine⟨_,D.nox,?_⟩
 unfold RDs at r
 let⟨vg,r1,rfl,rg,r⟩:=r
 unfold RDs at r
 let⟨vt,r2,rfl,rt,r⟩:=r
 unfold RDs at r
 let⟨vd,r3,rfl,rd,r⟩:=r
 unfold RDs at r
 subst r
 let⟨tl,rfl⟩:=Ze.mp rt
 let⟨ps,hP,tr⟩:=R.tab c0 T (by rw[y];show ht)
 refine⟨vg,vd,G.μ t,ns,ps,fun O=>∃p C,p.H=O/\Ext G p/\RS p C/\Kq M C,rfl,rfl,rfl,v0,hP,tr,fun O k1 k2=>?_,fun O hj=>?_,fun O hj x hx=>?_,fun m hm O hj=>?_⟩
 .have nT:∀b o,G.H b=some o->(∀qs,o≠ .tbl qs)->b≠T:=fun b o e h z=>by rw[z,hP] at e;cases e;show h _ rfl
  let⟨x4,r4⟩:=RS.over (H2:=O) R (fun b o t e=>k1 b o (nT b o e fun qs z=>by rw[z] at t;cases t) e) (fun b o e t=>k1 b o (nT b o e fun qs z=>by rw[z] at t;cases t) e) fun c' P' e=>by
   rw[y,ht] at e
   cases e
   show k2
  show⟨_,M,rfl,x4,r4,fun i c e=>e⟩
 .let⟨p,C,rfl,l,R1,k⟩:=hj
  let⟨_,us,U,l2,_⟩:=R1.listL (k.readL e1)
  cases Qq l2
  rw[l.K,y,l.μ t tl] at U
  show U
 .let⟨p,C,rfl,l,R1,k⟩:=hj
  have N:p.K=K:=l.K.trans y
  refine⟨p,[g,.ref t,d,.int x]++n0,C,_,noX,N,rfl,R1,?_,V _ _ _ _ (hC C k x hx),fun v w2 dv M2 x2 R2 rv qv=>?_,fun u dd H' h=>?_⟩
  .exact(RDs.cons (rg.ext l) (RDs.cons (Ze.mpr ⟨nh tl l.n,by rw[l.μ t tl]⟩) (RDs.cons (rd.ext l) (RDs.cons (Za.mpr rfl) (RDs.nil p))))).append (o0 p N)
  .let⟨⟨rr,ys,rfl,e2⟩,k2⟩:=qv
   let⟨_,rfl⟩:=Ze.mp rv
   let⟨_,us,U,_⟩:=R2.listL e2
   refine⟨⟨_,us,rfl,?_⟩,⟨w2,M2,rfl,l.trans x2,R2,fun i c e=>k2 i c (k i c e)⟩,fun b φ e=>x2.imm _ _ e rfl⟩
   rw[x2.K,N] at U
   show U
  .let⟨_,_,_,_,_,_,_,_,_,_,_,_,_,h⟩:=h
   show h.elim
 .let⟨p,C,rfl,l,R1,k⟩:=hj
  show a _ p _ C l R1 (Za.mpr rfl) (q m hm C k)
end U
namespace GT
inductive Av (g:Nat->LQ) (a:Nat):Nat->Prop
 | zero:a≠0->Av g a 0
 | step {x y:Nat}:Av g a x->y∈g x->y≠a->Av g a y
structure Num(g:Nat->LQ)(n:Nat):Prop where
 pos:0<n
 cl:∀x,x<n->∀y∈g x,y<n
 up:∀k,k<n->k≠0->∃p,p<k/\k∈g p
structure Must(g:Nat->LQ)(k m:Nat):Prop where
 ne:m≠k
 dom:¬Av g m k
 last:∀d,d≠k->¬Av g d k->d<=m
structure Wk(g:Nat->LQ)(n:Nat)(B:LQ)(T:List (Nat×Nat))(F:LQ):Prop where
 bn:B.Nodup
 bl:∀x∈B,x<n
 z:0∈B
 mem:∀x,x∈B↔(∃s,(x,s)∈T)\/x∈F
 nd:(T.map (·.1)++F).Nodup
 first:∀p,T[0]?=some p->p.1=0
 chain:∀(i:Nat) p q,T[i]?=some p->T[i+1]?=some q->q.1∈g p.1
 steps:∀a s,(a,s)∈T->s<=(g a).length/\∀j y,j<s->(g a)[j]?=some y->y∈B
 fin:∀d∈F,∀y∈g d,y∈B
 par:∀(i:Nat) x,F[i]?=some x->x≠0->∃p,x∈g p/\p∈B/\p∉F.take (i+1)
def wkM(n:Nat)(B:LQ)(T:List (Nat×Nat)):Nat:=3 * (n - B.length)+(T.map fun p=>3 - p.2).sum
def Wk.begin(g:Nat->LQ){n:Nat}(c:0<n):Wk g n [0] [(0,0)] [] where
 bn:=by simp
 bl:=by intro x h;simp at h;lia
 z:=by simp
 mem:=by intro x;simp
 nd:=by simp
 first:=by intro p h;simp at h;rw[<-h]
 chain:=by intro i p q e b;simp at b
 steps:=by
  intro a s h
  simp at h
  let⟨rfl,rfl⟩:=h
  show⟨nq _,fun j y h=>by lia⟩
 fin:=by intro d h;simp at h
 par:=by intro i x h;simp at h
def Wd{a:Type}(T:List a)(p:a):(T++[p])[T.length]?=some p:=by simp
def Yd{a:Type}{T:List a}{p q:a}{i:Nat}(h:T[i]?=some q):(T++[p])[i]?=some q:=by
 rw[Az (Ab.mp h).1];show h
def Zo{a:Type}{T:List a}{p q:a}{i:Nat}(h:(T++[p])[i]?=some q):T[i]?=some q\/(i=T.length/\q=p):=by
 by_cases b:i<T.length
 .rw[Az b] at h;show .inl h
 .rw[Di 'o'] at h
  have c:=(Ab.mp h).1
  simp at c
  have e:i - T.length=0:='o'
  rw[e] at h
  simp at h
  show .inr ⟨'o',h.symm⟩
def Wk.close{g:Nat->LQ}{n a s:Nat}{B F:LQ}{T:List (Nat×Nat)}(w:Wk g n B (T++[(a,s)]) F)(C:s=(g a).length):Wk g n B T (F++[a]) where
 bn:=w.bn
 bl:=w.bl
 z:=w.z
 mem:=by
  intro x
  rw[w.mem x]
  simp only[Au,An,Prod.mk.injEq]
  constructor
  .rintro(⟨f,h | ⟨rfl,rfl⟩⟩ | h)
   .exact .inl ⟨f,h⟩
   .exact .inr (.inr rfl)
   .exact .inr (.inl h)
  .rintro(⟨f,h⟩ | h | rfl)
   .exact .inl ⟨f,.inl h⟩
   .exact .inr h
   .exact .inl ⟨s,.inr ⟨rfl,rfl⟩⟩
 nd:=by
  have h:=w.nd
  have p:(T.map (·.1)++(F++[a])).Perm ((T++[(a,s)]).map (·.1)++F):=by
   rw[Ai,Ar]
   show List.Perm.append_left _ List.perm_append_comm
  show p.nodup_iff.mpr h
 first:=fun p h=>w.first p (Yd h)
 chain:=fun i p q l k=>w.chain i p q (Yd l) (Yd k)
 steps:=fun b t h=>w.steps b t (Dg _ h)
 fin:=by
  intro d h y m
  rcases Au.mp h with h | h
  .exact w.fin d h y m
  .rw[An] at h
   subst h
   let⟨j,u⟩:=Iu m
   show(w.steps d s (by simp)).2 j y (by have:=(Ab.mp u).1;lia) u
 par:=by
  intro i x h o
  rcases Zo h with h | ⟨rfl,rfl⟩
  .let⟨p,l,k,A⟩:=w.par i x h o
   refine⟨p,l,k,?_⟩
   have D:=(Ab.mp h).1
   rw[List.take_append_of_le_length 'o']
   show A
  .have r:T≠[]:=by
    rintro rfl
    show o (w.first (x,s) rfl)
   obtain⟨e,⟨b,t⟩,rfl⟩:∃e p,T=e++[p]:=⟨T.dropLast,T.getLast r,(Ic r).symm⟩
   refine⟨b,?_,?_,?_⟩
   .exact w.chain e.length (b,t) (x,s) (Yd (Wd _ _)) (by have:=Wd (e++[(b,t)]) (x,s);simpa using this)
   .rw[w.mem b];show .inl ⟨t,by simp⟩
   .rw[List.take_of_length_le (by simp)]
    intro v
    have c:=w.nd
    simp only[Ai,Ch,Dp,Ar] at c
    have c:=(Dq.mp c).2.1
    simp only[List.singleton_append,Hj,Aq,not_or] at c
    rcases Au.mp v with h | h
    .exact c.1.2 h
    .simp at h;show c.1.1 h
def Wk.pass{g:Nat->LQ}{n a s y:Nat}{B F:LQ}{T:List (Nat×Nat)}(w:Wk g n B (T++[(a,s)]) F)(l:(g a)[s]?=some y)(m:y∈B):Wk g n B (T++[(a,s+1)]) F where
 bn:=w.bn
 bl:=w.bl
 z:=w.z
 mem:=by
  intro x
  rw[w.mem x]
  simp only[Au,An,Prod.mk.injEq]
  constructor
  .rintro(⟨f,h | ⟨rfl,rfl⟩⟩ | h)
   .exact .inl ⟨f,.inl h⟩
   .exact .inl ⟨f+1,.inr ⟨rfl,rfl⟩⟩
   .exact .inr h
  .rintro(⟨f,h | ⟨rfl,rfl⟩⟩ | h)
   .exact .inl ⟨f,.inl h⟩
   .exact .inl ⟨s,.inr ⟨rfl,rfl⟩⟩
   .exact .inr h
 nd:=by have:=w.nd;simpa using this
 first:=by
  intro p h
  rcases Zo h with h | ⟨e,rfl⟩
  .exact w.first p (Yd h)
  .have:=w.first (a,s) (by rw[e];show Wd _ _)
   show this
 chain:=by
  intro i p q c d
  rcases Zo d with d | ⟨e,rfl⟩
  .rcases Zo c with c | ⟨e1,rfl⟩
   .exact w.chain i p q (Yd c) (Yd d)
   .have:=(Ab.mp d).1
    lia
  .rcases Zo c with c | ⟨e1,rfl⟩
   .exact w.chain i p (a,s) (Yd c) (by rw[e];show Wd _ _)
   .lia
 steps:=by
  intro b t h
  rcases Au.mp h with h | h
  .exact w.steps b t (Dg _ h)
  .rw[An] at h
   cases h
   let⟨c,d⟩:=w.steps a s (by simp)
   refine⟨(Ab.mp l).1,fun j z o k=>?_⟩
   by_cases e:j=s
   .subst e;rw[l] at k;cases k;show m
   .exact d j z 'o' k
 fin:=w.fin
 par:=w.par
def Wk.open{g:Nat->LQ}{n a s y:Nat}{B F:LQ}{T:List (Nat×Nat)}(w:Wk g n B (T++[(a,s)]) F)(o:(g a)[s]?=some y)(C:y<n)(u:y∉B):Wk g n (B++[y]) (T++[(a,s+1),(y,0)]) F where
 bn:=by
  rw[Dq]
  refine⟨w.bn,by simp,fun x l z k=>?_⟩
  simp at k
  subst k
  show fun e=>u (e ▸ l)
 bl:=by
  intro x l
  rcases Au.mp l with h | h
  .exact w.bl x h
  .simp at h;lia
 z:=Dg _ w.z
 mem:=by
  intro x
  rw[Au,w.mem x]
  simp only[Au,An,Aq,Prod.mk.injEq,Hy,or_false]
  constructor
  .rintro((⟨m,h | ⟨rfl,rfl⟩⟩ | h) | rfl)
   .exact .inl ⟨m,.inl h⟩
   .exact .inl ⟨m+1,.inr (.inl ⟨rfl,rfl⟩)⟩
   .exact .inr h
   .exact .inl ⟨0,.inr (.inr ⟨rfl,rfl⟩)⟩
  .rintro(⟨m,h | ⟨rfl,rfl⟩ | ⟨rfl,rfl⟩⟩ | h)
   .exact .inl (.inl ⟨m,.inl h⟩)
   .exact .inl (.inl ⟨s,.inr ⟨rfl,rfl⟩⟩)
   .exact .inr rfl
   .exact .inl (.inr h)
 nd:=by
  have c:=w.nd
  have f:y∉(T++[(a,s)]).map (·.1)++F:=by
   intro h
   apply u
   rw[w.mem y]
   rcases Au.mp h with h | h
   .let⟨⟨b,t⟩,v,e⟩:=De.mp h
    simp at e
    subst e
    show .inl ⟨t,v⟩
   .exact .inr h
  have p:((T++[(a,s+1),(y,0)]).map (·.1)++F).Perm (y::((T++[(a,s)]).map (·.1)++F)):=by
   simp only[Ai,Ch,Dp,Ar,Ih,Lj]
   have q:=List.perm_middle (a:=y) (l₁:=List.map (fun x=>x.1) T++[a]) (l₂:=F)
   simpa only[Ar,Ih,Lj] using q
  show p.nodup_iff.mpr (Hj.mpr ⟨f,c⟩)
 first:=by
  intro p h
  have:T++[(a,s+1),(y,0)]=(T++[(a,s+1)])++[(y,0)]:=by simp
  rw[this] at h
  rcases Zo h with h | ⟨e,rfl⟩
  .rcases Zo h with h | ⟨e,rfl⟩
   .exact w.first p (Yd h)
   .exact w.first (a,s) (by rw[e];show Wd _ _)
  .simp at e
 chain:=by
  intro i p q c f
  have:T++[(a,s+1),(y,0)]=(T++[(a,s+1)])++[(y,0)]:=by simp
  rw[this] at c f
  rcases Zo f with f | ⟨e,rfl⟩
  .rcases Zo c with c | ⟨e1,rfl⟩
   .rcases Zo f with f | ⟨e,rfl⟩
    .rcases Zo c with c | ⟨e1,rfl⟩
     .exact w.chain i p q (Yd c) (Yd f)
     .have:=(Ab.mp f).1
      lia
    .rcases Zo c with c | ⟨e1,rfl⟩
     .exact w.chain i p (a,s) (Yd c) (by rw[e];show Wd _ _)
     .lia
   .have:=(Ab.mp f).1
    lia
  .rcases Zo c with c | ⟨e1,rfl⟩
   .rcases Zo c with c | ⟨e1,rfl⟩
    .have:=(Ab.mp c).1
     simp at e
     lia
    .exact As o
   .lia
 steps:=by
  intro b t h
  simp only[Au,Aq,Hy,or_false,Prod.mk.injEq] at h
  rcases h with h | ⟨rfl,rfl⟩ | ⟨rfl,rfl⟩
  .let⟨c,f⟩:=w.steps b t (Dg _ h)
   show⟨c,fun j z r k=>Dg _ (f j z r k)⟩
  .let⟨c,f⟩:=w.steps b s (by simp)
   refine⟨(Ab.mp o).1,fun j z r k=>?_⟩
   by_cases e:j=s
   .subst e;rw[o] at k;cases k;simp
   .exact Dg _ (f j z 'o' k)
  .exact⟨nq _,fun j y h=>by lia⟩
 fin:=fun d h z k=>Dg _ (w.fin d h z k)
 par:=by
  intro i x h l
  let⟨p,c,f,A⟩:=w.par i x h l
  show⟨p,c,Dg _ f,A⟩
def Nb:∀{n:Nat} {B:LQ},B.Nodup->(∀x∈B,x<n)->B.length<=n:=by
 intro n B c b
 have:B.length<=(Ao n).length:=Dl c (fun x a=>He.mpr (b x a))
 simpa using this
def Wk.room{g:Nat->LQ}{n:Nat}{B F:LQ}{T:List (Nat×Nat)}(w:Wk g n B T F):B.length<=n:=Nb w.bn w.bl
def Wk.small{g:Nat->LQ}{n:Nat}{B F:LQ}{T:List (Nat×Nat)}(w:Wk g n B T F):T.length+F.length<=n:=by
 have h:=Nb (n:=n) w.nd fun x a=>w.bl x ((w.mem x).mpr (by
  rcases Au.mp a with h | h
  .let⟨⟨b,t⟩,c,e⟩:=De.mp h
   simp at e
   subst e
   show .inl ⟨t,c⟩
  .exact .inr h))
 simpa using h
def Zc3{n a s:Nat}{B:LQ}{T:List (Nat×Nat)}(b:s<=2):wkM n B T<wkM n B (T++[(a,s)]):=by
 unfold wkM
 simp only[Ai,Kk,Ch,Dp,Ln,Mq]
 lia
def Zi9{n a s:Nat}{B:LQ}{T:List (Nat×Nat)}(b:s<2):wkM n B (T++[(a,s+1)])<wkM n B (T++[(a,s)]):=by
 unfold wkM
 simp only[Ai,Kk,Ch,Dp,Ln,Mq]
 lia
def Zl7{n a s y:Nat}{B:LQ}{T:List (Nat×Nat)}(b:s<2)(c:B.length<n):wkM n (B++[y]) (T++[(a,s+1),(y,0)])<wkM n B (T++[(a,s)]):=by
 unfold wkM
 simp only[Ai,Kk,Ch,Dp,Ln,Mq,Ae,Ex,Ik]
 lia
def Zt8{O:LQ}(a:O.Nodup){k x:Nat}(h:O[k]?=some x):O.idxOf x=k:=by
 let⟨c,b⟩:=Ab.mp h
 rw[<-b]
 show List.Nodup.idxOf_getElem a k c
structure Ord(g:Nat->LQ)(n:Nat)(O:LQ):Prop where
 nd:O.Nodup
 lt:∀x∈O,x<n
 z:O[0]?=some 0
 cl:∀x∈O,∀y∈g x,y∈O
 up:∀(k:Nat) x,O[k]?=some x->k≠0->∃(j:Nat) (p:Nat),j<k/\O[j]?=some p/\x∈g p
def Wk.ord{g:Nat->LQ}{n:Nat}{B F:LQ}(w:Wk g n B [] F):Ord g n F.reverse:=by
 have a:∀x,x∈B↔x∈F:=by intro x;rw[w.mem x];simp
 have l:F.Nodup:=by have:=w.nd;simpa using this
 have z:F[F.length - 1]?=some 0:=by
  have s:=(a 0).mp w.z
  have q:0<F.length:=Ld s
  rw[Aa 'o']
  by_cases e:F[F.length - 1]=0
  .rw[e]
  .let⟨p,_,f,d⟩:=w.par (F.length - 1) _ (Aa 'o') e
   rw[List.take_of_length_le 'o'] at d
   show absurd ((a p).mp f) d
 have q:0<F.length:=Ld ((a 0).mp w.z)
 have h:∀k,k<F.length->F.reverse[k]?=F[F.length - 1 - k]?:=fun k b=>List.getElem?_reverse b
 refine⟨(List.reverse_perm F).nodup_iff.mpr l,fun x c=>w.bl x ((a x).mpr ↥c),?_,fun x c y t=>?_,fun k x b s=>?_⟩
 .rw[h 0 q];show z
 .rw[Dw] at *
  show(a y).mp (w.fin x c y t)
 .have m:k<F.length:=by
   have:=(Ab.mp b).1
   simpa using this
  rw[h k m] at b
  have c:x≠0:=by
   rintro rfl
   have r:=Zt8 l b
   have f:=Zt8 l z
   lia
  let⟨p,r,f,d⟩:=w.par _ x b c
  let⟨j,o⟩:=Iu ((a p).mp f)
  have u:=(Ab.mp o).1
  have v:F.length - 1 - k+1<=j:=by
   by_cases e:F.length - 1 - k+1<=j
   .exact e
   .exfalso
    apply d
    apply As (i:=j)
    rw[List.getElem?_take_of_lt 'o']
    show o
  refine⟨F.length - 1 - j,p,'o',?_,r⟩
  rw[h _ 'o',show F.length - 1 - (F.length - 1 - j)=j by lia]
  show o
def Ord.le{g:Nat->LQ}{n:Nat}{O:LQ}(o:Ord g n O):O.length<=n:=Nb o.nd o.lt
structure Fd(g:Nat->LQ)(n a:Nat)(L:LQ)(t:Nat):Prop where
 nd:L.Nodup
 z:L[0]?=some 0
 av:∀x∈L,Av g a x
 done:∀(i:Nat) x,i<t->L[i]?=some x->∀y∈g x,y=a\/y∈L
 le:t<=L.length
end GT
namespace ND
structure St where
 b:LQ
 s:List (Nat×LQ)
 d:LQ
def stp(g:Nat->LQ):St->St
 | ⟨b,[],d⟩=>⟨b,[],d⟩
 | ⟨b,(x,[])::s,d⟩=>⟨b,s,d++[x]⟩
 | ⟨b,(x,t::r)::s,d⟩=>if t∈b then⟨b,(x,r)::s,d⟩ else⟨b++[t],(t,g t)::(x,r)::s,d⟩
def itr(g:Nat->LQ):Nat->St->St
 | 0,s=>s
 | k+1,s=>stp g (itr g k s)
def Ends(g:Nat->LQ)(x:Nat)(d:LQ):Prop:=∃k b,itr g k ⟨[x],[(x,g x)],[]⟩=⟨b,[],d⟩
def mp(π:Nat->Nat)(s:St):St:=⟨s.b.map π,s.s.map fun p=>(π p.1,p.2.map π),s.d.map π⟩
structure In(S:Nat->Prop)(z:St):Prop where
 b:∀x∈z.b,S x
 s:∀p∈z.s,S p.1/\∀t∈p.2,S t
 d:∀x∈z.d,S x
def In.stp{g:Nat->LQ}{S:Nat->Prop}(cl:∀x,S x->∀t∈g x,S t){s:St}(h:In S s):In S (stp g s):=by
 let⟨b,s,d⟩:=s
 cases s with
 | nil=>show h
 | cons p s=>
  let⟨x,r⟩:=p
  have hx:=h.s (x,r) Db
  cases r with
  | nil=>show⟨h.b,fun p hp=>h.s p (Aj _ hp),fun y hy=>(Au.mp hy).elim (h.d y) fun z=>by rw[An] at z;subst z;show hx.1⟩
  | cons t r=>
   change In S (if t∈b then _ else _)
   split
   .refine⟨h.b,fun p hp=>?_,h.d⟩
    rcases Aq.mp hp with rfl | hp
    .exact⟨hx.1,fun u hu=>hx.2 u (Aj _ hu)⟩
    .exact h.s p (Aj _ hp)
   .have ht:=hx.2 t Db
    refine⟨fun y hy=>(Au.mp hy).elim (h.b y) fun z=>by rw[An] at z;subst z;show ht,fun p hp=>?_,h.d⟩
    rcases Aq.mp hp with rfl | hp
    .exact⟨ht,cl t ht⟩
    .rcases Aq.mp hp with rfl | hp
     .exact⟨hx.1,fun u hu=>hx.2 u (Aj _ hu)⟩
     .exact h.s p (Aj _ hp)
structure Ok(g:Nat->LQ)(x:Nat)(s:St):Prop where
 nb:s.b.Nodup
 nd:(s.s.map (·.1)++s.d).Nodup
 eq:∀y,y∈s.b↔y∈s.s.map (·.1)\/y∈s.d
 cl:∀y∈s.d,∀t∈g y,t∈s.b
 op:∀p∈s.s,(∀t∈p.2,t∈g p.1)/\∀t∈g p.1,t∈p.2\/t∈s.b
 bot:s.s.getLast?.map (·.1)=some x\/(s.s=[]/\s.d.getLast?=some x)
def Ok.begin(g:Nat->LQ)(x:Nat):Ok g x ⟨[x],[(x,g x)],[]⟩ where
 nb:=by simp
 nd:=by simp
 eq:=by simp
 cl:=by simp
 op:=by
  intro p hp
  rw[An] at hp
  subst hp
  show⟨fun t h=>h,fun t h=> .inl h⟩
 bot:= .inl rfl
def Ok.stp{g:Nat->LQ}{x:Nat}{s:St}(h:Ok g x s):Ok g x (stp g s):=by
 let⟨b,s,d⟩:=s
 cases s with
 | nil=>show h
 | cons p s=>
  let⟨y,r⟩:=p
  let⟨h1,h2,h3,h4,h5,h6⟩:=h
  simp only[Ch] at h2 h3 h4 h5 h6
  cases r with
  | nil=>
   change Ok g x ⟨b,s,d++[y]⟩
   refine⟨h1,?_,fun z=>?_,fun z hz t ht=>?_,fun p hp=>h5 p (Aj _ hp),?_⟩
   .show(s.map (·.1)++(d++[y])).Nodup
    rw[<-Ar]
    have h2':(y::(s.map (·.1)++d)).Nodup:=h2
    rw[Hj] at h2'
    show Dq.mpr ⟨h2'.2,by simp,fun a ha c hc=>by rw[An] at hc;subst hc;show fun e=>h2'.1 (e ▸ ha)⟩
   .change z∈b↔z∈s.map (·.1)\/z∈d++[y]
    rw[h3 z]
    simp only[Aq,Au,Hy,or_false]
    constructor
    .rintro((h | h) | h)
     .exact .inr (.inr h)
     .exact .inl h
     .exact .inr (.inl h)
    .rintro(h | h | h)
     .exact .inl (.inr h)
     .exact .inr h
     .exact .inl (.inl h)
   .rcases Au.mp hz with hz | hz
    .exact h4 z hz t ht
    .rw[An] at hz
     subst hz
     show((h5 (z,[]) Db).2 t ht).resolve_left (by simp)
   .cases s with
    | nil=>
     refine .inr ⟨rfl,?_⟩
     rcases h6 with h6 | ⟨h6,_⟩
     .show(d++[y]).getLast?=some x
      rw[List.getLast?_append]
      simpa using h6
     .cases h6
    | cons q s=>
     refine .inl ?_
     rcases h6 with h6 | ⟨h6,_⟩
     .show(q::s).getLast?.map (·.1)=some x
      rw[Mg] at h6
      show h6
     .cases h6
  | cons t r=>
   have hy:=h5 (y,t::r) Db
   change Ok g x (if t∈b then⟨b,(y,r)::s,d⟩ else⟨b++[t],(t,g t)::(y,r)::s,d⟩)
   split
   .rename_i hb
    refine⟨h1,h2,h3,h4,fun p hp=>?_,?_⟩
    .rcases Aq.mp hp with rfl | hp
     .refine⟨fun u hu=>hy.1 u (Aj _ hu),fun u hu=>?_⟩
      rcases hy.2 u hu with z | z
      .rcases Aq.mp z with rfl | z
       .exact .inr hb
       .exact .inl z
      .exact .inr z
     .exact h5 p (Aj _ hp)
    .rcases h6 with h6 | ⟨h6,_⟩
     .refine .inl ?_
      cases s with
      | nil=>show h6
      | cons q s=>rw[Mg] at h6 ⊢;show h6
     .cases h6
   .rename_i hb
    have hn:¬(t=y\/t∈s.map (·.1))/\t∉d:=by
     have:=fun z=>hb ((h3 t).mpr z)
     simp only[Aq] at this
     show⟨fun z=>this (.inl z),fun z=>this (.inr z)⟩
    refine⟨?_,?_,fun z=>?_,fun z hz u hu=>Dg _ (h4 z hz u hu),fun p hp=>?_,?_⟩
    .exact Dq.mpr ⟨h1,by simp,fun a ha c hc=>by rw[An] at hc;subst hc;show fun e=>hb (e ▸ ha)⟩
    .show(t::(y::s.map (·.1)++d)).Nodup
     rw[Hj]
     refine⟨fun z=>?_,h2⟩
     rcases Au.mp z with z | z
     .exact hn.1 (Aq.mp z)
     .exact hn.2 z
    .change z∈b++[t]↔z∈t::y::s.map (·.1)\/z∈d
     rw[Au,h3 z,An,Aq (a:=z) (b:=t)]
     constructor
     .rintro((h | h) | h)
      .exact .inl (.inr h)
      .exact .inr h
      .exact .inl (.inl h)
     .rintro((h | h) | h)
      .exact .inr h
      .exact .inl (.inl h)
      .exact .inl (.inr h)
    .rcases Aq.mp hp with rfl | hp
     .exact⟨fun u hu=>hu,fun u hu=> .inl hu⟩
     .rcases Aq.mp hp with rfl | hp
      .refine⟨fun u hu=>hy.1 u (Aj _ hu),fun u hu=>?_⟩
       rcases hy.2 u hu with z | z
       .rcases Aq.mp z with rfl | z
        .exact .inr (Dd _ (by simp))
        .exact .inl z
       .exact .inr (Dg _ z)
      .let⟨a1,a2⟩:=h5 p (Aj _ hp)
       show⟨a1,fun u hu=>(a2 u hu).imp id (Dg _)⟩
    .rcases h6 with h6 | ⟨h6,_⟩
     .refine .inl ?_
      rw[Mg]
      cases s with
      | nil=>show h6
      | cons q s=>rw[Mg] at h6 ⊢;show h6
     .cases h6
def Ok.itr{g:Nat->LQ}{x:Nat}{s:St}(h:Ok g x s):∀k,Ok g x (itr g k s)
 | 0=>h
 | k+1=>(Ok.itr h k).stp
def Ends.facts{g:Nat->LQ}{x:Nat}{d:LQ}(h:Ends g x d):d.Nodup/\(∀y∈d,∀t∈g y,t∈d)/\d.getLast?=some x:=by
 let⟨k,b,h⟩:=h
 have o:=(Ok.begin g x).itr k
 rw[h] at o
 have e:∀y,y∈b↔y∈d:=fun y=>by have:=o.eq y;simpa using this
 refine⟨↥o.nd,fun y hy t ht=>(e t).mp (o.cl y hy t ht),?_⟩
 rcases o.bot with z | ⟨_,z⟩
 .cases z
 .exact z
def Yi(N:Nat)(l:LQ)(nd:l.Nodup)(h:∀x∈l,x<N):l.length<=N:=by
 have:l.length<=(Ao N).length:=Dl nd (fun x hx=>He.mpr (h x hx))
 simpa using this
def mea(N:Nat)(z:St):Nat:=3 * (N - z.b.length)+(z.s.map fun p=>p.2.length+1).sum
def Rh{l:LQ}(nd:l.Nodup){i:Nat}(h:i<l.length):l.idxOf l[i]=i:=nd.idxOf_getElem i h
end ND
namespace BF
structure Ok(E:Nat->Nat->Prop)(b:Nat)(B:List (Nat×Option Nat)):Prop where
 hd:B[0]?=some (b,none)
 nd:(B.map (·.1)).Nodup
 up:∀(i g p:Nat),B[i]?=some (g,some p)->E p g/\∃(j:Nat) (o:Option Nat),j<i/\B[j]?=some (p,o)
 top:∀(i g:Nat),B[i]?=some (g,none)->i=0/\g=b
def keys(B:List (Nat×Option Nat)):LQ:=B.map (·.1)
inductive Rc (E:Nat->Nat->Prop) (b:Nat):Nat->Prop
 | here:Rc E b b
 | step {x y:Nat}:Rc E b x->E x y->Rc E b y
structure Way(E:Nat->Nat->Prop)(b l:Nat)(W:LQ):Prop where
 fst:W[0]?=some b
 lst:W[W.length - 1]?=some l
 go:∀(i x y:Nat),W[i]?=some x->W[i+1]?=some y->E x y
 nd:W.Nodup
structure Bk(E:Nat->Nat->Prop)(b l:Nat)(B:List (Nat×Option Nat))(T:LQ)(c:Option Nat)(m:Nat):Prop where
 cur:(m=0/\c=none/\T[T.length - 1]?=some b)\/∃(p:Nat) (o:Option Nat),0<m/\c=some p/\B[m - 1]?=some (p,o)/\((T=[]/\p=l)\/∃x,T[T.length - 1]?=some x/\E p x)
 fst:T=[]\/T[0]?=some l
 go:∀(i x y:Nat),T[i]?=some x->T[i+1]?=some y->E y x
 nd:T.Nodup
 old:∀x∈T,∃(j:Nat) (o:Option Nat),m<=j/\B[j]?=some (x,o)
end BF
namespace KS
open ND
abbrev Rc(g:Nat->LQ)(x y:Nat):Prop:=BF.Rc (fun p q=>q∈g p) x y
def Rc.trans{g:Nat->LQ}{x y z:Nat}(h:Rc g x y)(k:Rc g y z):Rc g x z:=by
 induction k with
 | here=>show h
 | step _ e a=>show .step a e
def Rc.one{g:Nat->LQ}{x y:Nat}(h:y∈g x):Rc g x y:= .step .here h
structure Mk(g:Nat->LQ)(z:St)(m:Nat->Nat):Prop where
 lo:∀p∈z.s,m p.1<=z.d.length
 op:∀p∈z.s,∀(i x:Nat),m p.1<=i->z.d[i]?=some x->Rc g p.1 x/\m p.1<=m x
 st:z.s.Pairwise fun p q=>m q.1<=m p.1/\Rc g q.1 p.1
 dn:∀i x:Nat,z.d[i]?=some x->m x<=i/\∀j y:Nat,m x<=j->j<=i->z.d[j]?=some y->Rc g x y/\m x<=m y
 ed:∀i x:Nat,z.d[i]?=some x->∀y∈g x,(∃j,j<i/\z.d[j]?=some y)\/m y<=i
def Mk.begin(g:Nat->LQ)(x:Nat):Mk g ⟨[x],[(x,g x)],[]⟩ (fun _=>0) where
 lo:=fun _ _=>nq _
 op:=fun _ _ i x _ h=>by simp at h
 st:=List.pairwise_singleton _ _
 dn:=fun i x h=>by simp at h
 ed:=fun i x h=>by simp at h
def Zo{d:LQ}{y i x:Nat}(h:(d++[y])[i]?=some x):(i<d.length/\d[i]?=some x)\/(i=d.length/\x=y):=by
 by_cases e:i<d.length
 .rw[Az e] at h;show .inl ⟨e,h⟩
 .rw[Di 'o'] at h
  have:i - d.length=0:=by
   by_cases z:i - d.length=0
   .exact z
   .rw[Iq (by simp;lia)] at h;cases h
  rw[this] at h
  show .inr ⟨'o',(Hb h).symm⟩
def Mk.stp{g:Nat->LQ}{T:Nat}{z:St}{m:Nat->Nat}(o:Ok g T z)(h:Mk g z m):∃c,Mk g (stp g z) c:=by
 let⟨b,s,d⟩:=z
 cases s with
 | nil=>show⟨m,h⟩
 | cons p s=>
  let⟨x,r⟩:=p
  let⟨A,E,Q,G,M⟩:=h
  simp only at A E Q G M
  let⟨v,C⟩:=List.pairwise_cons.mp Q
  cases r with
  | nil=>
   refine⟨m,?_⟩
   change Mk g ⟨b,s,d++[x]⟩ m
   have W:=A (x,[]) Db
   have V:=E (x,[]) Db
   refine⟨fun p a=>?_,fun p a i y w e=>?_,C,fun i y e=>?_,fun i y e t S=>?_⟩
   .have:=A p (Aj _ a)
    simp only[Ae,Ay];lia
   .rcases Zo e with⟨_,e⟩ | ⟨rfl,rfl⟩
    .exact E p (Aj _ a) i y w e
    .exact⟨(v p a).2,(v p a).1⟩
   .rcases Zo e with⟨l,e⟩ | ⟨rfl,rfl⟩
    .refine⟨(G i y e).1,fun j u I L n=>?_⟩
     rcases Zo n with⟨_,n⟩ | ⟨z,_⟩
     .exact(G i y e).2 j u I L n
     .lia
    .refine⟨W,fun j u I L n=>?_⟩
     rcases Zo n with⟨_,n⟩ | ⟨_,rfl⟩
     .exact V j u I n
     .exact⟨.here,na _⟩
   .have H:∀j,j<d.length->d[j]?=some t->(d++[x])[j]?=some t:=fun j F e=>by rw[Az F];show e
    rcases Zo e with⟨l,e⟩ | ⟨rfl,rfl⟩
    .rcases M i y e t S with⟨j,F,n⟩ | z
     .exact .inl ⟨j,F,H j 'o' n⟩
     .exact .inr z
    .rcases(o.op (y,[]) Db).2 t S with z | z
     .simp at z
     .rcases(o.eq t).mp z with z | z
      .let⟨q,k,rfl⟩:=De.mp z
       show .inr (A q k)
      .let⟨j,F⟩:=List.mem_iff_getElem?.mp z
       have l:=(Ab.mp F).1
       show .inl ⟨j,l,H j l F⟩
  | cons t r=>
   change ∃c,Mk g (if t∈b then _ else _) c
   by_cases O:t∈b
   .rw[ng O]
    refine⟨m,fun p a=>?_,fun p a=>?_,List.pairwise_cons.mpr ⟨fun q k=>v q k,C⟩,G,M⟩
    .rcases Aq.mp a with rfl | a
     .exact A (x,t::r) Db
     .exact A p (Aj _ a)
    .rcases Aq.mp a with rfl | a
     .exact E (x,t::r) Db
     .exact E p (Aj _ a)
   .rw[nc O]
    let c:Nat->Nat:=fun y=>if y=t then d.length else m y
    have N:c t=d.length:=ng rfl
    have f:∀y,y∈b->c y=m y:=fun y K=>nc fun(e:y=t)=>O (e ▸ K)
    have D:∀p∈(x,t::r)::s,p.1∈b:=fun p a=>(o.eq p.1).mpr (.inl (De.mpr ⟨p,a,rfl⟩))
    have P:∀(i y:Nat),d[i]?=some y->y∈b:=fun i y e=>(o.eq y).mpr (.inr (As e))
    have B:Rc g x t:=Rc.one ((o.op (x,t::r) Db).1 t Db)
    have J:=D (x,t::r) Db
    refine⟨c,fun p a=>?_,fun p a i y w e=>?_,?_,fun i y e=>?_,fun i y e u R=>?_⟩
    .rcases Aq.mp a with rfl | a
     .change c t<=_;rw[N];show na _
     .rcases Aq.mp a with rfl | a
      .change c x<=_;rw[f x J];show A (x,t::r) Db
      .rw[f _ (D p (Aj _ a))];show A p (Aj _ a)
    .have K:=f y (P i y e)
     rcases Aq.mp a with rfl | a
     .exfalso
      replace w:c t<=i:=w
      rw[N] at w
      have:i<d.length:=(Ab.mp e).1
      lia
     .rcases Aq.mp a with rfl | a
      .replace w:c x<=i:=w
       change Rc g x y/\c x<=c y
       rw[f x J] at w ⊢
       rw[K]
       show E (x,t::r) Db i y w e
      .rw[f _ (D p (Aj _ a))] at w ⊢
       rw[K]
       show E p (Aj _ a) i y w e
    .refine List.pairwise_cons.mpr ⟨fun q k=>?_,List.pairwise_cons.mpr ⟨fun q k=>?_,?_⟩⟩
     .change c q.1<=c t/\Rc g q.1 t
      rw[N]
      rcases Aq.mp k with rfl | k
      .exact⟨by change c x<=_;rw[f x J];show A (x,t::r) Db,B⟩
      .exact⟨by rw[f _ (D q (Aj _ k))];show A q (Aj _ k),(v q k).2.trans B⟩
     .change c q.1<=c x/\Rc g q.1 x
      rw[f x J,f _ (D q (Aj _ k))]
      show v q k
     .refine Mh.imp_of_mem (fun{p q} a k h=>?_) C
      rw[f _ (D p (Aj _ a)),f _ (D q (Aj _ k))]
      show h
    .rw[f y (P i y e)]
     refine⟨(G i y e).1,fun j u I L n=>?_⟩
     rw[f u (P j u n)]
     show(G i y e).2 j u I L n
    .have U:=o.cl y (As e) u R
     rw[f u U]
     show M i y e u R
def Mk.itr{g:Nat->LQ}(x:Nat):∀k,Ok g x (itr g k ⟨[x],[(x,g x)],[]⟩)/\∃m,Mk g (itr g k ⟨[x],[(x,g x)],[]⟩) m
 | 0=>⟨Ok.begin g x,_,Mk.begin g x⟩
 | k+1=>by
  let⟨o,m,h⟩:=Mk.itr x k
  show⟨o.stp,h.stp o⟩
inductive Wy (g:Nat->LQ) (S:Nat->Prop) (p:Nat):Nat->Prop
 | here:S p->Wy g S p p
 | step {x y:Nat}:S x->y∈g x->Wy g S p y->Wy g S p x
def sound{g:Nat->LQ}{r:Nat}{d:LQ}(h:Ends g r d){j p x:Nat}(u:d[j]?=some p)(B:Wy g (fun y=>∃i,i<=j/\d[i]?=some y) p x):Rc g p x:=by
 let⟨k,b,h⟩:=h
 let⟨o,m,M⟩:=Mk.itr (g:=g) r k
 rw[h] at o M
 have v:d.Nodup:=by simpa using o.nd
 have q:∀{a c y:Nat},d[a]?=some y->d[c]?=some y->a=c:=fun{a c y} f l=>(List.getElem?_inj (Ab.mp f).1 v).mp (f.trans l.symm)
 let⟨w,s⟩:=M.dn j p u
 suffices ∃a,m p<=a/\a<=j/\d[a]?=some x by
  let⟨a,f,l,n⟩:=this
  show(s a x f l n).1
 induction B with
 | here=>show⟨j,w,na _,u⟩
 | @step x y S e _ A=>
  let⟨a,f,l,n⟩:=A
  let⟨i,C,t⟩:=S
  refine⟨i,?_,C,t⟩
  have E:=(s a y f l n).2
  rcases M.ed i x t y e with⟨c,F,D⟩ | z
  .have:=q D n
   lia
  .lia
end KS
namespace DB
open KS
def lk(n:Nat)(g:Nat->LQ)(D:LQ)(x:Nat):LQ:=if x<n/\x∉D then(g x).filter fun y=>y∉D else []
def mem_lk{n:Nat}{g:Nat->LQ}{D:LQ}{x y:Nat}:y∈lk n g D x↔(x<n/\x∉D)/\y∈g x/\y∉D:=by
 unfold lk
 by_cases h:x<n/\x∉D
 .rw[ng h];simp[h]
 .rw[nc h];simp only[Hy,false_iff];show fun z=>h z.1
structure Scc(n:Nat)(g:Nat->LQ)(D T:LQ):Prop where
 nd:T.Nodup
 lt:∀t∈T,t<n/\t∉D
 two:2<=T.length
 mu:∀t∈T,∀u∈T,Rc (lk n g D) t u
 all:∀t∈T,∀x,x<n->x∉D->Rc (lk n g D) t x->Rc (lk n g D) x t->x∈T
def cp(n:Nat)(P:LQ)(x:Nat):Nat:=if x∈P then n+P.idxOf x else x
def pj(n:Nat)(P:LQ)(x:Nat):Nat:=if x<n then x else P.getD (x - n) 0
def nx(n:Nat)(g:Nat->LQ)(T P:LQ)(x:Nat):LQ:=if x<n then(if x∈T then g x else(g x).map (cp n P)) else(g (pj n P x)).map (cp n P)
structure Sp(n:Nat)(g:Nat->LQ)(D T:LQ)(h:Nat)(P:LQ):Prop where
 cl:∀x,x<n->∀y∈g x,y<n
 sc:Scc n g D T
 hT:h∈T
 Pn:P.Nodup
 Pt:∀p∈P,p∈T/\p≠h
def Yk0{n:Nat}{P:LQ}{y:Nat}(h:y<n):pj n P (cp n P y)=y:=by
 unfold cp
 by_cases e:y∈P
 .rw[ng e]
  unfold pj
  rw[nc 'o',Nat.add_sub_cancel_left,Af,Aa (Dt e),Ms,Ir]
 .rw[nc e]
  unfold pj
  rw[ng h]
section
variable{n h:Nat}{g:Nat->LQ}{D T P:LQ}
def pj_old{x:Nat}(hx:x<n):pj n P x=x:=ng hx
def pj_new{x:Nat}(h1:n<=x)(h2:x<n+P.length):pj n P x∈P:=by
 unfold pj
 rw[nc 'o',Af,Aa 'o',Ms]
 show Hx _
def Sp.pj_lt(s:Sp n g D T h P){x:Nat}(hx:x<n+P.length):pj n P x<n:=by
 by_cases e:x<n
 .rw[pj_old e];show e
 .exact(s.sc.lt _ (s.Pt _ (pj_new 'o' hx)).1).1
def Yf3(s:Sp n g D T h P){y:Nat}(hy:y<n):cp n P y<n+P.length:=by
 unfold cp
 by_cases e:y∈P
 .rw[ng e];have:=Dt e;lia
 .rw[nc e];lia
def Sp.cl'(s:Sp n g D T h P){x:Nat}(hx:x<n+P.length):∀y∈nx n g T P x,y<n+P.length:=by
 intro y hy
 unfold nx at hy
 by_cases e:x<n
 .rw[ng e] at hy
  by_cases t:x∈T
  .rw[ng t] at hy;have:=s.cl x e y hy;lia
  .rw[nc t] at hy
   let⟨u,hu,rfl⟩:=De.mp hy
   show Yf3 s (s.cl x e u hu)
 .rw[nc e] at hy
  let⟨u,hu,rfl⟩:=De.mp hy
  show Yf3 s (s.cl _ (s.pj_lt hx) u hu)
def Sp.over(s:Sp n g D T h P){x:Nat}(hx:x<n+P.length):(nx n g T P x).map (pj n P)=g (pj n P x):=by
 have back:∀l:LQ,(∀y∈l,y<n)->(l.map (cp n P)).map (pj n P)=l:=by
  intro l hl
  rw[Ii]
  calc l.map (pj n P ∘ cp n P)=l.map id:=Hi fun y hy=>Yk0 (hl y hy)
   _=l:=List.map_id l
 unfold nx
 by_cases e:x<n
 .rw[ng e,pj_old e]
  by_cases t:x∈T
  .rw[ng t]
   calc (g x).map (pj n P)=(g x).map id:=Hi fun y hy=>pj_old (s.cl x e y hy)
    _=g x:=List.map_id _
  .rw[nc t];show back _ (s.cl x e)
 .rw[nc e];show back _ (s.cl _ (s.pj_lt hx))
def lift{n':Nat}{g':Nat->LQ}{π:Nat->Nat}(cl:∀x,x<n'->∀y∈g' x,y<n')(ov:∀x,x<n'->(g' x).map π=g (π x)){x' y:Nat}(hx:x'<n')(r:Rc g (π x') y):∃y',y'<n'/\Rc g' x' y'/\π y'=y:=by
 induction r with
 | here=>show⟨x',hx,.here,rfl⟩
 | @step a b _ e ih=>
  let⟨a',h1,h2,rfl⟩:=ih
  rw[<-ov a' h1] at e
  let⟨b',h3,rfl⟩:=De.mp e
  show⟨b',cl a' h1 b' h3,.step h2 h3,rfl⟩
def Sp.nd'(s:Sp n g D T h P){x:Nat}(hx:x<n+P.length)(hd:x∉h::D):pj n P x∉D:=by
 by_cases e:x<n
 .rw[pj_old e];show fun z=>hd (Aj _ z)
 .exact(s.sc.lt _ (s.Pt _ (pj_new 'o' hx)).1).2
def Sp.down(s:Sp n g D T h P){x y:Nat}(r:Rc (lk (n+P.length) (nx n g T P) (h::D)) x y):Rc (lk n g D) (pj n P x) (pj n P y):=by
 induction r with
 | here=>show .here
 | @step a b _ e ih=>
  let⟨⟨e1,e2⟩,e3,e4⟩:=mem_lk.mp e
  have e5:=s.cl' e1 b e3
  refine .step ih (mem_lk.mpr ⟨⟨s.pj_lt e1,s.nd' e1 e2⟩,?_,s.nd' e5 e4⟩)
  rw[<-s.over e1]
  show De.mpr ⟨b,e3,rfl⟩
def Sp.cross(s:Sp n g D T h P){x y:Nat}(r:Rc (lk (n+P.length) (nx n g T P) (h::D)) x y)(hx:x<n)(hy:n<=y):∃u,u<n/\u∉T/\u∉D/\Rc (lk (n+P.length) (nx n g T P) (h::D)) x u/\Rc (lk (n+P.length) (nx n g T P) (h::D)) u y:=by
 induction r with
 | here=>lia
 | @step a b ra e ih=>
  by_cases ha:n<=a
  .let⟨u,h1,h2,h3,h4,h5⟩:=ih ha
   show⟨u,h1,h2,h3,h4,.step h5 e⟩
  .let⟨⟨e1,e2⟩,e3,e4⟩:=mem_lk.mp e
   refine⟨a,'o',fun z=>?_,fun z=>e2 (Aj _ z),ra,.step .here e⟩
   unfold nx at e3
   rw[ng 'o',ng z] at e3
   have:=s.cl a 'o' b e3
   lia
def Cl(n:Nat)(g:Nat->LQ)(D:LQ)(f:Nat->Nat):Prop:=∀x y,x<n->y<n->x∉D->y∉D->Rc (lk n g D) x y->Rc (lk n g D) y x->f x=f y
def Sp.apart(s:Sp n g D T h P){x y:Nat}(hx:x<n)(hy:n<=y)(hy2:y<n+P.length)(r:Rc (lk (n+P.length) (nx n g T P) (h::D)) x y)(k:Rc (lk (n+P.length) (nx n g T P) (h::D)) y x):False:=by
 let⟨u,h1,h2,h3,h4,h5⟩:=s.cross r hx hy
 have a:=s.down h5
 have b:=s.down (k.trans h4)
 rw[pj_old h1] at a b
 show h2 (s.sc.all _ (s.Pt _ (pj_new hy hy2)).1 u h1 h3 b a)
def Sp.clus(s:Sp n g D T h P){f:Nat->Nat}(c:Cl n g D f)(m:Nat):Cl (n+P.length) (nx n g T P) (h::D) (fun x=>if x<n then f x else m):=by
 intro x y hx hy dx dy r k
 show(if x<n then f x else m)=if y<n then f y else m
 by_cases ex:x<n<;>by_cases ey:y<n
 .rw[ng ex,ng ey]
  have a:=s.down r
  have b:=s.down k
  rw[pj_old ex,pj_old ey] at a b
  show c x y ex ey (fun z=>dx (Aj _ z)) (fun z=>dy (Aj _ z)) a b
 .exact(s.apart ex 'o' hy r k).elim
 .exact(s.apart ey 'o' hx k r).elim
 .rw[nc ex,nc ey]
end
def cnt(n:Nat)(D:LQ)(f:Nat->Nat)(c:Nat):Nat:=((Ao n).filter fun x=>decide (x∉D)&&decide (f x=c)).length
def wt(n:Nat)(D:LQ)(f:Nat->Nat)(m:Nat):Nat:=((Ao m).map fun c=>2 ^ cnt n D f c - 1).sum
def Zf1{m:Nat}{a b:Nat->Nat}(h:∀c,c<m->a c<=b c):((Ao m).map a).sum<=((Ao m).map b).sum:=by
 induction m with
 | zero=>show na _
 | succ m ih=>
  rw[Il,Ai,Ai,Kk,Kk]
  have:=ih fun c hc=>h c 'o'
  have:=h m 'o'
  simp only[Ch,Dp,Ln,Mq]
  lia
def Zf7{m c:Nat}{a b:Nat->Nat}(hc:c<m)(h:∀i,i<m->i≠c->a i<=b i):((Ao m).map a).sum+b c<=((Ao m).map b).sum+a c:=by
 induction m with
 | zero=>lia
 | succ m ih=>
  rw[Il,Ai,Ai,Kk,Kk]
  simp only[Ch,Dp,Ln,Mq]
  by_cases e:c=m
  .subst e
   have:=Zf1 (m:=c) (a:=a) (b:=b) fun i hi=>h i 'o' 'o'
   lia
  .have:=ih 'o' fun i hi hn=>h i 'o' hn
   have:=h m 'o' (Ia e)
   lia
def Jn{p:Nat->Bool}{h:Nat}:∀{l:LQ},l.Nodup->h∈l->p h=true->l.countP p=l.countP (fun x=>p x&&!decide (x=h))+1
 | [],_,c,_=>by simp at c
 | a::l,g,c,f=>by
  let⟨j,i⟩:=Hj.mp g
  by_cases e:a=h
  .subst e
   have:l.countP p=l.countP (fun x=>p x&&!decide (x=a)):=Kz fun x k=>by
    have:x≠a:=fun z=>j (z ▸ k)
    simp[this]
   rw[Ki (by show f),Lb (by simp),this]
  .have d:=Jn i ((Aq.mp c).resolve_left fun z=>e z.symm) f
   by_cases b:p a=true
   .rw[Ki b,Ki (by simp[b,e]),d]
   .rw[Lb b,Lb (by simp[b]),d]
def Gr(n:Nat)(D:LQ)(f:Nat->Nat)(c:Nat):cnt n D f c=(Ao n).countP fun x=>decide (x∉D)&&decide (f x=c):=by
 unfold cnt;rw[Kg]
def range_add(n k:Nat):Ao (n+k)=Ao n++(Ao k).map (n+·):=List.range_add
section
variable{n h m:Nat}{g:Nat->LQ}{D T P:LQ}{f:Nat->Nat}
abbrev up(n m:Nat)(f:Nat->Nat):Nat->Nat:=fun x=>if x<n then f x else m
def Z82{k c:Nat}(b:c≠m):cnt (n+k) (h::D) (up n m f) c=(Ao n).countP fun x=>decide (x∉h::D)&&decide (f x=c):=by
 rw[Gr,range_add,Mn]
 have:((Ao k).map (n+·)).countP (fun x=>decide (x∉h::D)&&decide (up n m f x=c))=0:=by
  rw[List.countP_eq_zero]
  intro x a
  let⟨i,_,rfl⟩:=De.mp a
  have:up n m f (n+i)=m:=nc 'o'
  rw[this]
  simp only[Bz9,decide_eq_true_eq,not_and]
  show fun _ z=>b z.symm
 rw[this,Nat.add_zero]
 refine Kz fun x a=>?_
 have:up n m f x=f x:=ng (He.mp a)
 rw[this]
def Zy5{k:Nat}(d:∀x,x<n->f x<m)(j:∀x∈h::D,x<n):cnt (n+k) (h::D) (up n m f) m=k:=by
 rw[Gr,range_add,Mn]
 have a:(Ao n).countP (fun x=>decide (x∉h::D)&&decide (up n m f x=m))=0:=by
  rw[List.countP_eq_zero]
  intro x c
  have l:=He.mp c
  have:up n m f x=f x:=ng l
  rw[this]
  simp only[Bz9,decide_eq_true_eq,not_and]
  have:=d x l
  show fun _ z=>by lia
 have b:((Ao k).map (n+·)).countP (fun x=>decide (x∉h::D)&&decide (up n m f x=m))=((Ao k).map (n+·)).length:=by
  rw[List.countP_eq_length]
  intro x c
  let⟨i,_,rfl⟩:=De.mp c
  have e:up n m f (n+i)=m:=nc 'o'
  rw[e]
  simp only[Bz9,decide_eq_true_eq,and_true]
  show fun z=>by have:=j _ z;lia
 rw[a,b,Ag,Ky,Nat.zero_add]
def Sp.few(s:Sp n g D T h P)(c:Cl n g D f):P.length+1<=cnt n D f (f h):=by
 have j:=s.sc.lt h s.hT
 have l:P.length+1<=T.length:=by
  have:(h::P).length<=T.length:=Dl (Hj.mpr ⟨fun z=>(s.Pt h z).2 rfl,s.Pn⟩) fun x a=>by
   rcases Aq.mp a with rfl | a
   .exact s.hT
   .exact(s.Pt x a).1
  simpa using this
 have k:T.length<=cnt n D f (f h):=by
  unfold cnt
  refine Dl s.sc.nd fun t b=>?_
  let⟨i,d⟩:=s.sc.lt t b
  have e:=c t h i j.1 d j.2 (s.sc.mu t b h s.hT) (s.sc.mu h s.hT t b)
  simp[i,d,e]
 lia
def Sp.weight(s:Sp n g D T h P)(c:Cl n g D f)(hf:∀x,x<n->f x<m)(hD:∀x∈D,x<n):wt (n+P.length) (h::D) (up n m f) (m+1)+1<=wt n D f m:=by
 have hh:=s.sc.lt h s.hT
 have fh:=hf h hh.1
 have few:=s.few c
 have hD':∀x∈h::D,x<n:=fun x hx=>by
  rcases Aq.mp hx with rfl | hx
  .exact hh.1
  .exact hD x hx
 have e0:cnt (n+P.length) (h::D) (up n m f) (f h)+1=cnt n D f (f h):=by
  rw[Z82 'o',Gr n D f (f h),Jn (p:=fun x=>decide (x∉D)&&decide (f x=f h)) (h:=h) Ma (He.mpr hh.1) (by simp[hh.2])]
  congr 1
  refine Kz fun x _=>?_
  simp only[Aq,not_or,Bz9,decide_eq_true_eq,Bool.not_eq_true',decide_eq_false_iff_not]
  constructor
  .rintro⟨⟨a,b⟩,d⟩;show⟨⟨b,d⟩,a⟩
  .rintro⟨⟨b,d⟩,a⟩;show⟨⟨a,b⟩,d⟩
 have e1:∀i,i<m->i≠f h->2 ^ cnt (n+P.length) (h::D) (up n m f) i - 1<=2 ^ cnt n D f i - 1:=fun i hi _=>by
  have:cnt (n+P.length) (h::D) (up n m f) i<=cnt n D f i:=by
   rw[Z82 'o',Gr]
   refine List.countP_mono_left fun x _ hx=>?_
   simp only[Aq,not_or,Bz9,decide_eq_true_eq] at hx ⊢
   show⟨hx.1.2,hx.2⟩
  have:=Nat.pow_le_pow_right (n:=2) 'o' this
  lia
 have key:=Zf7 (m:=m) (c:=f h) (a:=fun i=>2 ^ cnt (n+P.length) (h::D) (up n m f) i - 1) (b:=fun i=>2 ^ cnt n D f i - 1) fh e1
 unfold wt
 rw[Il,Ai,Kk]
 simp only[Ch,Dp,Ln,Mq,Nat.add_zero]
 rw[Zy5 hf hD']
 replace key:_+(2 ^ cnt n D f (f h) - 1)<=_+(2 ^ cnt (n+P.length) (h::D) (up n m f) (f h) - 1):=key
 rw[<-e0] at key few
 generalize cnt (n+P.length) (h::D) (up n m f) (f h)=b at key few
 have q1:2 ^ P.length<=2 ^ b:=Nat.pow_le_pow_right 'o' 'o'
 have q2:2 ^ (b+1)=2 * 2 ^ b:=by rw[Nat.pow_succ];lia
 have q3:0<2 ^ P.length:=Nat.pow_pos 'o'
 rw[q2] at key
 lia
end
def Oj(p:Nat->Bool)(a:Nat)(l:LQ):l.countP p<=(a::l).countP p:=by
 by_cases h:p a=true
 .rw[Ki h];lia
 .rw[Lb h];show na _
def Za5{n:Nat}{D:LQ}{f:Nat->Nat}:∀(m:Nat) (l:LQ),(∀x∈l,f x<m)->l.countP (fun x=>decide (x∉D))<=((Ao m).map fun c=>l.countP fun x=>decide (x∉D)&&decide (f x=c)).sum
 | m,[],_=>by simp
 | m,a::l,h=>by
  have d:=Za5 (n:=n) (D:=D) m l fun x g=>h x (Aj _ g)
  have j:=h a Db
  by_cases e:a∉D
  .rw[Ki ↥e]
   have:=Zf7 (m:=m) (c:=f a) (a:=fun c=>l.countP fun x=>decide (x∉D)&&decide (f x=c)) (b:=fun c=>(a::l).countP fun x=>decide (x∉D)&&decide (f x=c)) j fun i _ _=>Oj _ _ _
   replace this:_+(a::l).countP (fun x=>decide (x∉D)&&decide (f x=f a))<=_+l.countP (fun x=>decide (x∉D)&&decide (f x=f a)):=this
   rw[Ki (a:=a) (p:=fun x=>decide (x∉D)&&decide (f x=f a)) (by simp[e])] at this
   lia
  .rw[Lb ↥e]
   refine ni d (Zf1 fun c _=>Oj _ _ _)
def many{n m:Nat}{D:LQ}{f:Nat->Nat}(g:∀x,x<n->f x<m):n<=D.length+wt n D f m:=by
 have a:=Za5 (n:=n) (D:=D) m (Ao n) fun x e=>g x (He.mp e)
 have b:(Ao n).countP (fun x=>decide (x∈D))<=D.length:=by
  rw[Kg]
  refine Dl (Ma.filter _) fun x e=>?_
  simpa using (Hr.mp e).2
 have c:n=(Ao n).countP (fun x=>decide (x∈D))+(Ao n).countP (fun x=>decide (x∉D)):=by
  have:=List.length_eq_countP_add_countP (p:=fun x=>decide (x∈D)) (l:=Ao n)
  rw[Ky] at this
  rw[this]
  congr 1
  .rw[<-this]
  .rw[<-this]
   show Kz fun x _=>by simp
 have d:((Ao m).map fun c=>(Ao n).countP fun x=>decide (x∉D)&&decide (f x=c)).sum<=wt n D f m:=by
  unfold wt
  refine Zf1 fun c _=>?_
  rw[<-Gr]
  have:=Nat.lt_two_pow_self (n:=cnt n D f c)
  lia
 lia
end DB
namespace K44
open PySem PySem.Spec PyProof.Rows L2 L3 U
abbrev Rd(K:Ac)(Γ:List DSp)(G:LD)(sp:DSp)(b:Ss)(N:LS):Prop:=∀ds M Q Z,sp ds M Q Z->tss ⟨K,Γ,G⟩ noX b {nx:=fun _ M=>Q .non M,rt:=Q} (start0 N ds) M
def FN:LS:="ways"::"with_ways"::"walked"::"numbered"::"links_among"::"turned"::"come_to"::"set_left"::"doors_of"::"come_round"::"chosen_head"::"led_to_copies"::"put_copies"::"doubled"::"free_name"::"goals_of"::"put_sums"::"tests_for"::"put_guides"::"guided"::"_law_cell"::"_law_mixed"::"_law_goals"::"_law_order"::"_law_graph"::"_law_kinds"::"_law_refused"::"_law_ring"::"_law_sums"::"_law_knot"::"_law_counts"::"law"::[]
def GN:LS:=["JumpError","ByNought","NoRow","NoJump","NoEnd","TooGreat","NoForm","TwoWays","NoWay","MOST_NODES"]
def BN:LS:=["tuple","list","dict","enumerate","len","sorted","range","min","isinstance","ValueError"]
abbrev Yc4:Stmt:=top 11
def Zt1:LS:=["node"]
section
local macro_rules | `(#[$x,*])=>do
 let mut r<-`(.nil)
 for y in x.getElems.reverse do r<-`(.cons $(<-tmI y) $r)
 return r
local macro_rules | `($a :: $b)=>do `(.cons $(<-tmI a) $b)
local macro_rules | `($a[$i])=>do `(.ix $(<-tmI a) $(<-tmI i))
local macro_rules | `($a + $b)=>do `(.bin .add $(<-tmI a) $(<-tmI b))
local macro_rules | `($a - $b)=>do `(.bin .sub $(<-tmI a) $(<-tmI b))
local macro_rules | `($a * $b)=>do `(.bin .mul $(<-tmI a) $(<-tmI b))
local macro_rules | `($a / $b)=>do `(.bin .fdiv $(<-tmI a) $(<-tmI b))
local macro_rules | `($a % $b)=>do `(.bin .mod $(<-tmI a) $(<-tmI b))
local macro_rules | `($a == $b)=>do `(.cmp .eq $(<-tmI a) $(<-tmI b))
local macro_rules | `($a != $b)=>do `(.cmp .ne $(<-tmI a) $(<-tmI b))
local macro_rules | `($a < $b)=>do `(.cmp .lt $(<-tmI a) $(<-tmI b))
local macro_rules | `($a > $b)=>do `(.cmp .gt $(<-tmI a) $(<-tmI b))
local macro_rules | `($a ∈ $b)=>do `(.cmp .isin $(<-tmI a) $(<-tmI b))
noncomputable def Oq:Ss:=#[.ret (.tup .nil)]
def Sv:Ss:=(.ite (v0[0]=="test") #[.ret (.tup #[v0[4],v0[5]])] .nil)::Oq
def Zu1:Ss:=(.ite (v0[0]=="sum") #[.ret (.tup #[v0[5]])] .nil)::Sv
abbrev Fo:Stmt:=top 12
def Ql:LS:=["node","goals"]
def Xk:Ss:=#[.ret (.var 0)]
def Yt:Ss:=(.ite (v0[0]=="test") #[.ret ((.sl (.var 0) .no (.yes (.int 4)))+(.bf .tuple1 #[v1]))] .nil)::Xk
def Qi:Ss:=(.ite (v0[0]=="sum") #[.ret ((.sl (.var 0) .no (.yes (.int 5)))+(.bf .tuple1 #[v1]))] .nil)::Yt
abbrev Zk8:Stmt:=top 13
def Ej:LS:=["goals","starts","begun","finished","start","opened","place","left","goal"]
def Pw:Ss:=#[.expr (.mt .reverse (.var 3) .nil),.ret (.var 3)]
def Tu:Ss:=#[.set [6,7] v5[.neg (.int 1)],.ite (v7==(.lst .nil)) #[.expr (.mt .append (.var 3) #[v6]),.expr (.mt .pop0 (.var 5) .nil)] #[.set [8] (.mt .pop0 (.var 7) .nil),.ite (.cmp .notin (.var 8) (.var 2)) #[.put (.var 2) (.var 8) (.bl true),.expr (.mt .append (.var 5) #[.tup #[v8,.bf .list1 #[v0[v8]]]])] .nil]]
def Tg:Ss:=#[.while_ (.var 5) Tu]
def Pq:Ss:=(.set [5] (.lst .nil))::(.ite (.cmp .notin (.var 4) (.var 2)) #[.put (.var 2) (.var 4) (.bl true),.expr (.mt .append (.var 5) #[.tup #[v4,.bf .list1 #[v0[v4]]]])] .nil)::Tg
def Ev:Ss:=(.set [2] .dict0)::(.set [3] (.lst .nil))::(.for_ [4] (.seq (.var 1)) Pq)::Pw
abbrev Z11:Stmt:=top 14
def O2:LS:=["nodes","order","numbers"]
def Pf:Ss:=#[.set [2] (.bf .dict1 #[.comp ["number","place"] [none,none] [0,1] (.enm (.var 1)) .no (.tup #[v1,v0])]),.ret (.comp ["place","nodes","numbers"] [none,some 0,some 2] [0] (.seq (.var 1)) .no (.call 1 #[v1[v0],.comp ["goal","numbers"] [none,some 2] [0] (.seq (.call 0 #[v1[v0]])) .no v1[v0]]))]
abbrev Oz:Stmt:=top 18
def Vo:LS:=["goals","places","among"]
def Ve:Ss:=#[.set [2] (.bf .dict1 #[.comp ["place"] [none] [0] (.seq (.var 1)) .no (.tup #[v0,.bl true])]),.ret (.bf .dict1 #[.comp ["place","goals","among"] [none,some 0,some 2] [0] (.seq (.var 1)) .no (.tup #[v0,.comp ["goal","among"] [none,some 2] [0] (.seq v1[v0]) (.yes (v0∈v1)) (.var 0)])])]
abbrev Zs3:Stmt:=top 19
def Ca:LS:=["links","froms","place","goal"]
def Tf:Ss:=#[.ret (.var 1)]
def O7:Ss:=#[.expr (.mt .append v1[v3] #[v2])]
def To:Ss:=#[.for_ [3] (.seq v0[v2]) O7]
def Ce:Ss:=(.set [1] (.bf .dict1 #[.compK ["place"] [none] [0] (.var 0) (.tup #[v0,.lst .nil])]))::(.forK [2] (.var 0) To)::Tf
abbrev Zg7:Stmt:=top 20
def G5:LS:=["links","starts","taken","told","left","place"]
def Qg:Ss:=#[.ret (.var 3)]
def Qe:Ss:=#[.set [5] (.mt .pop0 (.var 4) .nil),.ite (.cmp .notin (.var 5) (.var 2)) #[.put (.var 2) (.var 5) (.bl true),.expr (.mt .append (.var 3) #[v5]),.expr (.mt .extend (.var 4) #[v0[v5]])] .nil]
def G8:Ss:=(.set [3] (.lst .nil))::(.set [4] (.bf .list1 #[v1]))::(.while_ (v4 !=(.lst .nil)) Qe)::Qg
abbrev Z06:Stmt:=top 17
def Oa:LS:=["goals","done","links","froms","taken","place","together"]
def S7:Ss:=#[.ret .non]
def Sf:Ss:=#[.set [6] (.call 6 #[v3,.lst #[v5],v4]),.ite ((.bf .len #[v6])>1) #[.ret (.bf .sortedL #[v6])] .nil]
def Pz:Ss:=(.set [2] (.call 4 #[v0,.comp ["place","done"] [none,some 1] [0] (.rng1 (.bf .len #[v0])) (.yes (.cmp .notin (.var 0) (.var 1))) (.var 0)]))::(.set [3] (.call 5 #[v2]))::(.set [4] .dict0)::(.for_ [5] (.seq (.call 2 #[v2,.lkeys (.var 2)])) Sf)::S7
abbrev Z32:Stmt:=top 21
def Py:LS:=["goals","together","within","reached","place","goal"]
def Se:Ss:=#[.ret (.comp ["place","reached"] [none,some 3] [0] (.seq (.var 1)) (.yes (v0∈v1)) (.var 0))]
def S8:Ss:=#[.put (.var 3) (.var 5) (.bl true)]
def Si:Ss:=#[.ite (.cmp .notin (.var 4) (.var 2)) #[.for_ [5] (.seq v0[v4]) S8] .nil]
def O5:Ss:=(.set [2] (.bf .dict1 #[.comp ["place"] [none] [0] (.seq (.var 1)) .no (.tup #[v0,.bl true])]))::(.set [3] (.dct (.int 0) (.bl true)))::(.for_ [4] (.rng1 (.bf .len #[v0])) Si)::Se
abbrev Jt:Stmt:=top 25
def Sh:LS:=["goals","together","doors","head","others"]
def Sn:Ss:=#[.set [4] (.comp ["place","head"] [none,some 3] [0] (.seq (.var 1)) (.yes (v0 !=v1)) (.var 0)),.ret (.call 6 #[.call 4 #[v0,v4],.comp ["door","head"] [none,some 3] [0] (.seq (.var 2)) (.yes (v0 !=v1)) (.var 0),.dict0])]
abbrev Oo:Stmt:=top 24
abbrev Re:Stmt:=top 27
def W8:LS:=["places","copies"]
def W5:Ss:=#[.ret (.bf .tuple1 #[.comp ["place","copies"] [none,some 1] [0] (.seq (.var 0)) .no (.mt .get2 (.var 1) #[v0,v0])])]
abbrev Gd:Stmt:=top 26
def Sa:LS:=["goals","origins","together","places","copies","copied","place"]
def Ws:Ss:=#[.expr (.mt .extend (.var 0) #[v5]),.expr (.mt .extend (.var 1) #[.comp ["place","origins"] [none,some 1] [0] (.seq (.var 3)) .no v1[v0]])]
def Wt:Ss:=#[.ite (.cmp .notin (.var 6) (.var 2)) #[.put (.var 0) (.var 6) (.call 11 #[v0[v6],v4])] .nil]
def Sl:Ss:=(.set [4] (.bf .dict1 #[.comp ["count","place","goals"] [none,none,some 0] [0,1] (.enm (.var 3)) .no (.tup #[v1,(.bf .len #[v2])+v0])]))::(.set [5] (.comp ["place","goals","copies"] [none,some 0,some 4] [0] (.seq (.var 3)) .no (.call 11 #[v1[v0],v2])))::(.for_ [6] (.rng1 (.bf .len #[v0])) Wt)::Ws
abbrev Zh8:Stmt:=top 23
def Js:LS:=["graph","goals","origins","done","together","doors","head","order","nodes"]
def Q6:Ss:=#[.set [7] (.call 2 #[v1,.lst #[0]]),.set [8] (.comp ["place","origin","graph","goals"] [none,none,some 0,some 1] [0,1] (.enm (.var 2)) .no (.call 1 #[v2[v1],v3[v0]])),.ret (.tup #[.call 3 #[v8,v7],.comp ["place","origins"] [none,some 2] [0] (.seq (.var 7)) .no v1[v0]])]
def V3:Ss:=(.ite ((.bf .len #[v1])>(.glb 9)) #[.raise 5 .nil] .nil)::Q6
def V1:Ss:=#[.set [5] (.call 8 #[v1,v4]),.set [6] (.call 10 #[v1,v4,v5]),.expr (.call 12 #[v1,v2,v4,.call 9 #[v1,v4,v5,v6]]),.put (.var 3) (.var 6) (.bl true),.set [4] (.call 7 #[v1,v3])]
def G4:Ss:=(.set [1] (.comp ["node"] [none] [0] (.seq (.var 0)) .no (.call 0 #[v0])))::(.set [2] (.lrng (.bf .len #[v0])))::(.set [3] .dict0)::(.set [4] (.call 7 #[v1,v3]))::(.while_ (.bop true #[.cmp .isnot (.var 4) .non,.cmp .le (.bf .len #[v1]) (.glb 9)]) V1)::V3
abbrev E6:Stmt:=top 31
def Q2:LS:=["graph","taken","node","thing","number"]
def Vu:Ss:=#[.ret (.fstr #["way",v4])]
def Nn:Ss:=#[.aug .add 4 (.int 1)]
def V6:Ss:=(.set [4] (.int 0))::(.while_ ((.fstr #["way",v4])∈v1) Nn)::Vu
def Vi:Ss:=#[.put (.var 1) (.var 3) (.bl true)]
def Vp:Ss:=#[.for_ [3] (.seq (.var 2)) Vi]
def Ru:Ss:=(.set [1] .dict0)::(.for_ [2] (.seq (.var 0)) Vp)::V6
abbrev Bv:Stmt:=top 30
def Pl:LS:=["nodes"]
def O3:Ss:=#[.ret (.comp ["node"] [none] [0] (.seq (.var 0)) .no (.call 0 #[v0]))]
abbrev Bq:Stmt:=top 34
def Pd:LS:=["nodes","name","doors","first","sums","count","door"]
def Sk:Ss:=#[.ret (.var 4)]
def Sb:Ss:=#[.put (.var 4) (.var 6) (.bf .len #[v0]),.expr (.mt .append (.var 0) #[.tup #["sum",v1,v5,"+",0,v3]])]
def Oh:Ss:=(.set [4] .dict0)::(.for_ [5,6] (.enm (.var 2)) Sb)::Sk
abbrev E8:Stmt:=top 33
def Rw:LS:=["name","doors","first","tests"]
def Q7:Ss:=#[.set [3] (.comp ["count","door","name","first"] [none,none,some 0,some 2] [0,1] (.enm (.sl (.var 1) .no (.yes (.neg (.int 1))))) .no (.tup #["test",v2,"=",v0,v1,(v3+v0)+1])),.put (.var 3) (.neg (.int 1)) (.call 1 #[v3[.neg (.int 1)],.tup #[v1[.neg (.int 2)],v1[.neg (.int 1)]]]),.ret (.var 3)]
abbrev Jv:Stmt:=top 32
def Sj:LS:=["nodes","name","together","doors","before","outer","inner","place","sums"]
def Wr:Ss:=#[.set [8] (.ife (v7∈v2) (.var 6) (.var 5)),.put (.var 0) (.var 7) (.call 1 #[v0[v7],.comp ["goal","sums"] [none,some 8] [0] (.seq (.call 0 #[v0[v7]])) .no (.mt .get2 (.var 1) #[v0,v0])])]
def S9:Ss:=#[.set [4] (.bf .len #[v0]),.expr (.mt .extend (.var 0) #[.call 17 #[v1,v3,v4]]),.set [5] (.call 16 #[v0,v1,v3,v4]),.set [6] (.call 16 #[v0,v1,v3,v4]),.for_ [7] (.rng1 (.var 4)) Wr]
abbrev Zn5:Stmt:=top 29
def Cj:LS:=["graph","name","nodes","done","together","doors","order"]
def Bi:Ss:=#[.set [6] (.call 2 #[.call 15 #[v2],.lst #[0]]),.ret (.tup #[.call 3 #[v2,v6],.comp ["place","graph"] [none,some 0] [0] (.seq (.var 6)) .no (.ife (v0<(.bf .len #[v1])) (.var 0) (.neg (.int 1))),v1])]
def Od:Ss:=(.ite ((.bf .len #[v2])>(.glb 9)) #[.raise 5 .nil] .nil)::Bi
def Tq:Ss:=#[.expr (.mt .upd (.var 3) #[.bf .dict1 #[.comp ["door"] [none] [0] (.seq (.var 5)) .no (.tup #[v0,.bl true])]]),.set [4] (.call 7 #[.call 15 #[v2],v3])]
def S4:Ss:=(.set [5] (.call 8 #[.call 15 #[v2],v4]))::(.ite ((.bf .len #[v5])>1) #[.expr (.call 18 #[v2,v1,v4,v5])] .nil)::Tq
def Ba:Ss:=(.set [1] (.call 14 #[v0]))::(.set [2] (.bf .list1 #[v0]))::(.set [3] .dict0)::(.set [4] (.call 7 #[.call 15 #[v2],v3]))::(.while_ (.cmp .isnot (.var 4) .non) S4)::Od
abbrev Zx8:Stmt:=top 36
def Z42:LS:=["_law_script","_law_k"]
def G6:Ss:=#[.ret (.int 0)]
def Z56:Ss:=(.ite (v1<(.bf .len #[v0])) #[.ret v0[v1]] .nil)::G6
abbrev Zm8:Stmt:=top 37
def Ez:LS:=["_law_cell_here","_law_k","_law_number"]
def C4:Ss:=#[.set [2] (((((v0%2147483647)*48271)+((7919*v1)*v1))+104729)%2147483647),.ret ((v2*v2)%2147483629)]
abbrev Zr2:Stmt:=top 38
def Ci:LS:=["_law_node"]
def Tp:Ss:=#[.ret (.lst .nil)]
def Wp:Ss:=(.ite (v0[0]=="test") #[.ret (.lst #[v0[5],v0[4]])] .nil)::Tp
def Er:Ss:=(.ite (v0[0]=="sum") #[.ret (.lst #[v0[5]])] .nil)::Wp
abbrev Zq5:Stmt:=top 39
def C3:LS:=["_law_raw","_law_begun","_law_trail","_law_done","_law_here","_law_step","_law_goals_here"]
def Ps:Ss:=#[.ret (.rev (.var 3))]
def Td:Ss:=#[.set [4,5] (.mt .pop0 (.var 2) .nil),.set [6] (.call 22 #[v0[v4]]),.ite (v5==(.bf .len #[v6])) #[.expr (.mt .append (.var 3) #[v4])] #[.expr (.mt .append (.var 2) #[.tup #[v4,v5+1]]),.ite (.cmp .notin v6[v5] (.var 1)) #[.expr (.mt .append (.var 1) #[v6[v5]]),.expr (.mt .append (.var 2) #[.tup #[v6[v5],0]])] .nil]]
def B6:Ss:=(.set [1] (.lst #[0]))::(.set [2] (.lst #[.tup #[0,0]]))::(.set [3] (.lst .nil))::(.while_ (v2 !=(.lst .nil)) Td)::Ps
abbrev Zn4:Stmt:=top 40
def Ek:LS:=["_law_raw","_law_order_here","_law_graph_here","_law_old","_law_node"]
def Ob:Ss:=#[.ret (.var 2)]
def Te:Ss:=#[.expr (.mt .append (.var 2) #[v4])]
def Xd:Ss:=(.ite (v4[0]=="test") #[.set [4] ((.sl (.var 4) .no (.yes (.int 4)))+(.tup #[.mt .index1 (.var 1) #[v4[4]],.mt .index1 (.var 1) #[v4[5]]]))] .nil)::Te
def Pv:Ss:=(.set [4] v0[v3])::(.ite (v4[0]=="sum") #[.set [4] ((.sl (.var 4) .no (.yes (.int 5)))+(.tup #[.mt .index1 (.var 1) #[v4[5]]]))] .nil)::Xd
def B8:Ss:=(.set [1] (.call 23 #[v0]))::(.set [2] (.lst .nil))::(.for_ [3] (.seq (.var 1)) Pv)::Ob
abbrev R8:Stmt:=top 41
def R7:LS:=["_law_error","_law_others","_law_good"]
def Z78:FnScope R7 ["_law_error"] (Z3 R8):=⟨rfl,rfl,rfl,'k',rfl,'k','k'⟩
def Ox:Ss:=#[.set [1] (.lst #[.bf .isinst #[v0,.glb 2],.bf .isinst #[v0,.glb 3],.bf .isinst #[v0,.glb 4],.bf .isinst #[v0,.glb 8]]),.set [1] (v1+(.lst #[.bf .isinst #[v0,.glb 6],.bf .isinst #[v0,.glb 7],.bf .isinst #[v0,.glb 1]])),.set [2] (.bop true #[.bf .isinst #[v0,.glb 5],.bf .isinst #[v0,.ty .valueError]]),.ret (.bop true #[v2,.cmp .notin (.bl true) (.var 1),.cmp .is (.fld (.var 0) "row") .non])]
def Z75:Xa (ckH R7 R8 FN GN BN) Ox (Zh R8)=true:='k'
abbrev Wh:Stmt:=top 42
def Wn:LS:=["_law_graph_here","_law_by_name","_law_good","e"]
def Fe:FnScope Wn ["_law_graph_here","_law_by_name"] (Z3 Wh):=⟨rfl,rfl,rfl,'k',rfl,'k','k'⟩
def W4:Ss:=#[.ret (.var 2)]
def Tj:Ss:=(.set [2] (.bl false))::(.tryI (.var 1) 19 #[v0] 13 #[v0] 0 3 #[.set [2] (.callH 25 #[v3])])::W4
def Z23:Xa (ckR [25] Wn Wh FN GN BN) Tj (Zh Wh)=true:='k'
abbrev Y32:Stmt:=top 43
def Z96:LS:=["_law_script","_law_start","_law_size","_law_nodes","_law_k","_law_cell_here","_law_to","_law_no"]
def Vv:Ss:=#[.ret (.var 3)]
def Ry:Ss:=#[.expr (.mt .append (.var 3) #[.tup #["test","y","=",v5%(.bin .pow (.int 10) (.int 18)),v6,v7]])]
def F6:Ss:=(.set [5] (.call 20 #[v0,4+v4]))::(.set [6] (v1+((.call 21 #[v5,v4])%v2)))::(.set [7] ((v1+v4)+1))::(.ite (v4==(v2-1)) #[.set [6] (v1+v2),.set [7] (.var 1)] .nil)::Ry
def Z80:Ss:=(.set [3] (.lst .nil))::(.for_ [4] (.rng1 (.var 2)) F6)::Vv
abbrev Y18:Stmt:=top 44
def Z38:LS:=["_law_start","_law_many"]
def Z74:Ss:=#[.ret (.comp ["_law_k","_law_start"] [none,some 0] [0] (.rng1 (.var 1)) .no (.tup #["sum","x","x","+",v0,(v1+v0)+1]))]
abbrev Y21:Stmt:=top 45
def Zd6:LS:=["_law_script","_law_ahead","_law_size","_law_behind","_law_second","_law_raw","_law_goals_here"]
def Qh:Ss:=#[.set [5] (v5+(.lst #[(.tup #["test","x","<",(.call 20 #[v0,3])%(.bin .pow (.int 10) (.int 18))])+v6])),.set [5] ((v5+(.call 27 #[v0,v1+1,v2]))+(.call 28 #[(v1+1)+v2,v3])),.ret (.call 24 #[v5+(.lst #[.tup #["end"]])])]
def Z83:Ss:=(.set [4] ((v1+2)+((.call 21 #[.call 20 #[v0,2],2])%(v2-1))))::(.set [5] (.call 28 #[0,v1]))::(.set [6] (.tup #[v1+1,v4]))::(.ite (((.call 20 #[v0,3])%2)==1) #[.set [6] (.tup #[v4,v1+1])] .nil)::Qh
abbrev Zc7:Stmt:=top 46
def F0:LS:=["_law_graph_here","_law_found","_law_k"]
def Qb:Ss:=#[.ret (.cmp2 .lt .le (.bf .len #[v0]) (.bf .len #[v1[0]]) (.int 40))]
def Qs:Ss:=#[.ite (.cmp .notin (.var 2) v1[1]) #[.ret (.bl false)] .nil]
def Rs:Ss:=(.for_ [2] (.rng1 (.bf .len #[v0])) Qs)::Qb
def Rb:Ss:=(.ite (.bop false #[.not (.bf .isinst #[v1[0],.ty .list]),.not (.bf .isinst #[v1[1],.ty .list]),(.bf .len #[v1[0]]) !=(.bf .len #[v1[1]])]) #[.ret (.bl false)] .nil)::Rs
def Ju:Ss:=(.ite (.bop false #[.not (.bf .isinst #[v1,.ty .tuple]),(.bf .len #[v1]) !=2]) #[.ret (.bl false)] .nil)::Rb
abbrev Fg:Stmt:=top 47
def Zk6:LS:=["_law_script","_law_number","_law_size","_law_ahead","_law_graph_here","_law_free"]
def Y81:FnScope Zk6 ["_law_script"] (Z3 Fg):=⟨rfl,rfl,rfl,'k',rfl,'k','k'⟩
def E5:Ss:=#[.set [3] ((.call 21 #[.call 20 #[v0,1],1])%(v5+1)),.set [4] (.call 29 #[v0,v3,v2,v5-v3]),.ret (.call 30 #[v4,.call 13 #[.bf .list1 #[v4]]])]
def Z92:Ss:=(.set [2] (2+((v1/3)%4)))::(.set [5] (39-((.lst #[4,8,16,32])[v2-2])))::(.ite ((v1%3)==1) #[.set [5] ((v1/12)%(v5+1))] .nil)::E5
def Y02:Ss:=(.set [1] (.call 21 #[.call 20 #[v0,0],0]))::(.ite ((v1%3)==0) #[.set [2] (2+((v1/3)%9)),.set [3] ((.call 21 #[.call 20 #[v0,1],1])%(39-v2)),.set [4] (.call 29 #[v0,v3,v2,(38-v2)-v3]),.ret (.bop true #[.call 26 #[.bf .list1 #[v4],.bl false],.call 26 #[.bf .list1 #[v4],.bl true]])] .nil)::Z92
end
def Yj4:Xa (ck0 Zk6 Fg FN GN BN) Y02 (Zh Fg)=true:='k'
def Yb8:Stmt->Stmt
 | .ClassDef _ _ _ (b::_) _ _ _ _ _ _ _=>b
 | s=>s
abbrev Jq:Stmt:=Yb8 (top 1)
def Y44:FnScope ["self","row"] ["self","row"] (Z3 Jq):=⟨rfl,rfl,rfl,'k',rfl,'k','k'⟩
def Y29:Zo8 Jq=true:='k'
set_option hygiene false
local macro_rules | `(tactic| walk_at "go")=>do
 let ids:=("tss_nil tss_cons sret9 sexpr9 sset9 saug9 sput9 site9 sfor_9 sforK9 swhile_9 sraise9 stryI9 evar9 eint9 ebl9 enon9 estr9 ety9 eglb9 ebin9 eneg9 enot9 ecmp9 ecmp29 ebop9 eife9 elst9 etup9 edict09 elkeys9 elrng9 edct9 eix9 esl9 ecallH9 ecall9 ebf9 efstr9 erev9 emt9 efld9 ecompK9 ecomp9 lnil09 lcons19 ono09 oyes19 iseq09 irng119 ienm29 dno09 dyes19 bnil09 bcons19 bcons29 tt op_add_i op_add_s op_add_t op_add_l op_sub_i op_mul_i op_mul_l op_fdiv_i op_mod_i op_pow_i cm_lt_i cm_le_i cm_gt_i cm_eq cm_ne cm_in cm_notin cm_is_n cm_is_i cm_is_s cm_is_b cm_is_t cm_is_r cm_isnot_n cm_isnot_i cm_isnot_s cm_isnot_b cm_isnot_t cm_isnot_r eq_i eq_s eq_b eq_nn eq_is eq_si tru_b tru_i tru_n tru_t ix_t ix_g ix_s sl_s sl_t sl_l is_non is_bl is_int is_str is_tup tyNon tyBl tyInt tyStr tyTup tyLst tyDct bf_len_t bf_len_s bf_is bf_list bf_tuple bf_dict at2_xy onRef_r mt_append_r mt_get2_r mt_upd_r mk_upd bf_sortedL on_int ati0 ati1 ati2 Option.some.injEq exists_eq_left' ofS_inj String.reduceEq not_true_eq_false mt_pop_r mt_reverse_r mt_index_r mt_extend_r mk_append mk_pop mk_reverse mk_get2 mk_index mk_extend tg_one tg_two it_r it_t it_g key_i key_s in_ss aug_add aug_sub start0 List.map_cons List.map_nil List.length_cons List.length_nil List.cons_append List.nil_append List.append_nil List.replicate List.set_cons_zero List.set_cons_succ List.getElem?_cons_zero List.getElem?_cons_succ Nat.reduceAdd Nat.reduceSub Nat.sub_self Nat.zero_add decide_eq_true_eq ne_eq Int.reduceEq not_false_eq_true true_and Bool.not_eq_true' decide_eq_false_iff_not Bool.false_eq_true Bool.true_eq_false if_true if_false Bool.not_true Bool.not_false".splitOn " ").toArray.map fun s=>Lean.mkIdent s.toName
 let gs ←(Array.range 28).mapM fun i=>`(tactic| try simp only[$(Lean.mkIdent (Lean.Name.mkSimple s!"g{i}")):ident])
 `(tactic| ((try dsimp only[$[$ids:ident],*]);(try simp only[$[$ids:ident],*]);$[$gs:tactic];*))
local macro_rules | `(tactic| walk_at "ev")=>`(tactic| (walk_at "go";repeat (with_reducible refine Z8 ?_;walk_at "go")))
set_option hygiene false
local macro_rules | `(tactic| walk_at "gp")=>do
 let ids:=("tss_nil tss_cons sret9 sexpr9 sset9 saug9 sput9 site9 sfor_9 sforK9 swhile_9 sraise9 stryI9 evar9 eint9 ebl9 enon9 estr9 ety9 eglb9 ebin9 eneg9 enot9 ecmp9 ecmp29 ebop9 eife9 elst9 etup9 edict09 elkeys9 elrng9 edct9 eix9 esl9 ecallH9 ecall9 ebf9 efstr9 erev9 emt9 efld9 ecompK9 ecomp9 lnil09 lcons19 ono09 oyes19 iseq09 irng119 ienm29 dno09 dyes19 bnil09 bcons19 bcons29 tt op_add_i op_add_s op_add_t op_add_l op_sub_i op_mul_i op_mul_l op_fdiv_i op_mod_i op_pow_i cm_lt_i cm_le_i cm_gt_i cm_eq cm_ne cm_in cm_notin cm_is_n cm_is_i cm_is_s cm_is_b cm_is_t cm_is_r cm_isnot_n cm_isnot_i cm_isnot_s cm_isnot_b cm_isnot_t cm_isnot_r eq_i eq_s eq_b eq_nn eq_is eq_si tru_b tru_i tru_n tru_t ix_t ix_g ix_s sl_s sl_t sl_l is_non is_bl is_int is_str is_tup tyNon tyBl tyInt tyStr tyTup tyLst tyDct bf_len_t bf_len_s bf_is bf_list bf_tuple bf_dict at2_xy onRef_r mt_append_r mt_get2_r mt_upd_r mk_upd bf_sortedL on_int mt_pop_r mt_reverse_r mt_index_r mt_extend_r mk_append mk_pop mk_reverse mk_get2 mk_index mk_extend tg_one tg_two it_r it_t it_g key_i key_s in_ss aug_add aug_sub start0 List.map_cons List.map_nil List.length_cons List.length_nil List.cons_append List.nil_append List.append_nil List.replicate List.set_cons_zero List.set_cons_succ List.getElem?_cons_zero List.getElem?_cons_succ Nat.reduceAdd Nat.reduceSub Nat.sub_self Nat.zero_add decide_eq_true_eq ne_eq Int.reduceEq not_false_eq_true true_and Bool.not_eq_true' decide_eq_false_iff_not Bool.false_eq_true Bool.true_eq_false if_true if_false Bool.not_true Bool.not_false".splitOn " ").toArray.map fun s=>Lean.mkIdent s.toName
 let gs ←(Array.range 28).mapM fun i=>`(tactic| try simp only[$(Lean.mkIdent (Lean.Name.mkSimple s!"g{i}")):ident])
 `(tactic| ((try dsimp only[$[$ids:ident],*]);(try simp only[$[$ids:ident],*]);$[$gs:tactic];*))
local macro_rules | `(tactic| walk_at "ew")=>`(tactic| (walk_at "gp";repeat (with_reducible refine Z8 ?_;walk_at "gp")))
def Kp(M a:Z1):Prop:=∃N,a=M++N
def Kp.refl(M:Z1):Kp M M:=⟨[],(Hd M).symm⟩
def Kp.app{M a:Z1}(h:Kp M a)(N:Z1):Kp M (a++N):=by let⟨L,rfl⟩:=h;show⟨L++N,by rw[Ar]⟩
def Kp.trans{M b a:Z1}(h:Kp M b)(g:Kp b a):Kp M a:=by let⟨L,rfl⟩:=h;let⟨c,rfl⟩:=g;show⟨L++c,by rw[Ar]⟩
def Kp.new(M N:Z1):Kp M (M++N):=⟨N,rfl⟩
def Kp.L{M b:Z1}{a:Nat}{xs:LD}(h:Kp M b)(e:readL M a=some xs):readL b a=some xs:=by let⟨L,rfl⟩:=h;show Z6 e
def mixN(c k:Int):Int:=(c % 2147483647 * 48271+7919 * k * k+104729) % 2147483647
def mix(c k:Int):Int:=mixN c k * mixN c k % 2147483629
def Y51(c k:Int):0<=mixN c k:=Kl _ 'd'
def Zz5(c k:Int):mixN c k<2147483647:=Le _ 'd'
def Y87(c k:Int):0<=mix c k:=Kl _ 'd'
def Y0(ns:List Int)(k:Nat):Int:=ns.getD k 0
def qm{i j:Int}(h:0<j):qmod i j=i % j:=Zr5 h
def qd{i j:Int}(h:0<j):qdiv i j=i / j:=Zj8 h
inductive Opd where
 | nm (x:Str) | no (i:Int)
def Opd.d:Opd->D
 | .nm x=> .str x
 | .no i=> .int i
inductive Nd where
 | sum (x:Str) (a:Opd) (sg:Str) (b:Opd) (t:Nat) | test (a:Opd) (sg:Str) (b:Opd) (y n:Nat) | fin | spin
def Nd.d:Nd->D
 | .sum x a c b t=> .tup [.str "sum",.str x,a.d,.str c,b.d,.int t]
 | .test a c b y n=> .tup [.str "test",a.d,.str c,b.d,.int y,.int n]
 | .fin=> .tup [.str "end"]
 | .spin=> .tup [.str "spin"]
def Nd.gs:Nd->LQ
 | .sum _ _ _ _ t=>[t]
 | .test _ _ _ y n=>[n,y]
 | .fin=>[]
 | .spin=>[]
def Nd.to(f:Nat->Nat):Nd->Nd
 | .sum x a c b t=> .sum x a c b (f t)
 | .test a c b y n=> .test a c b (f y) (f n)
 | .fin=> .fin
 | .spin=> .spin
def Nd.gs_to(f:Nat->Nat)(d:Nd):(d.to f).gs=d.gs.map f:=by cases d<;>rfl
def Nd.gs_two(d:Nd):d.gs.length<=2:=by cases d<;>simp[Nd.gs]
def natD(l:LQ):LD:=l.map fun(x:Nat)=>D.int (x:Int)
def Z4(l:LQ):(natD l).length=l.length:=by unfold natD;simp
def Yu{k x:Nat}(h:l[k]?=some x):(natD l)[k]?=some (.int x):=by unfold natD;rw[Aw,h];rfl
def Wb(l m:LQ):natD (l++m)=natD l++natD m:=by unfold natD;rw[Ai]
def Wa(l:LQ):(natD l).all Y2=true:=by
 rw[Hw]
 intro d h
 unfold natD at h
 let⟨x,_,rfl⟩:=De.mp h
 rfl
def Ov(x:Nat)(l:LQ):inD (.int x) (natD l)=decide (x∈l):=by
 unfold inD natD
 rw[List.any_map]
 induction l with
 | nil=>rfl
 | cons y r a=>
  rw[Ks,a]
  show(((y:Int)==(x:Int)) || decide (x∈r))=decide (x∈y::r)
  by_cases h:x=y
  .subst h;simp
  .have b:¬(y:Int)=(x:Int):='o'
   simp[h,b]
def Y74{a x:Nat}(h:readL M a=some (natD l))(q:B (decide (x∈l))):inQ M (.int x) (.ref a) B:=
 .inl ⟨_,h,rfl,Wa l,by rw[Ov];show q⟩
def wy(a:List Nd)(k:Nat):LQ:=match a[k]? with
 | some d=>d.gs
 | none=>[]
def Qw{a:List Nd}{k:Nat}{d:Nd}(h:a[k]?=some d):wy a k=d.gs:=by unfold wy;rw[h]
def Jx{a:List Nd}{k:Nat}{d:Nd}(h:a[k]?=some d):(a.map Nd.d)[k]?=some d.d:=by rw[Aw,h];rfl
def Jh:DSp:=fun c M Q _=>∃(a:Nat) (b:List Int) (k:Nat),c=[.ref a,.int k]/\readL M a=some (b.map .int)/\Q (.int (Y0 b k)) M
def Ro:DSp:=fun a M Q _=>∃c k:Int,a=[.int c,.int k]/\0<=k/\k<=1000/\Q (.int (mix c k)) M
section
variable{K:Ac}
def Y61{Γ G}:Rd K Γ G Jh Z56 Z42:=by
 rintro d M Q Z ⟨a,b,k,rfl,f,q⟩
 delta Z56 G6 Z42
 rfl'
 refine Zq f ?_
 rfl'
 split
 .rename_i h
  have c:k<b.length:=by simpa using h
  refine ix_l f (by rw[Aw,Aa c];rfl) ?_
  have e:Y0 b k=b[k]:=by unfold Y0;rw[Af,Aa c];rfl
  rw[e] at q
  show q
 .rename_i h
  have c:b.length<=k:=by simpa using h
  have e:Y0 b k=0:=by unfold Y0;rw[Af,Iq c];rfl
  rw[e] at q
  show q
def Zk9{Γ G}:Rd K Γ G Ro C4 Ez:=by
 rintro a M Q Z ⟨c,k,rfl,f,e,q⟩
 delta C4 Ez
 rfl'
 rw[qm 'd',qm 'd']
 have d:=Y51 c k
 have b:=Zz5 c k
 refine⟨mulR 'd' 'd',mulL 'd' 'd',mulR 'o' 'o',?_⟩
 rfl'
 rw[qm 'd']
 show⟨mulL (by change -(2 ^ 64)<mixN c k;lia) (by change mixN c k<2 ^ 64;lia),q⟩
end
def Zv(l:LQ)(x:Nat):natD (l++[x])=natD l++[.int (x:Nat)]:=Wb _ _
def gra(a:List Nd)(O:LQ):List Nd:=O.map fun x=>(a.getD x .fin).to fun y=>O.idxOf y
def W9(a:List Nd)(O:LQ):(gra a O).length=O.length:=by unfold gra;simp
def Fn{a:List Nd}{i x:Nat}{d:Nd}(h:O[i]?=some x)(b:a[x]?=some d):(gra a O)[i]?=some (d.to fun y=>O.idxOf y):=by
 unfold gra
 rw[Aw,h,Option.map_some,Af,b]
 rfl
def V7{a:Type}{l:List a}{i:Nat}{x:a}(h:l[i]?=some x):l.take (i+1)=l.take i++[x]:=by
 let⟨c,b⟩:=Ab.mp h
 rw[<-b]
 show List.take_succ_eq_append_getElem c
def begD(B:LQ):KQ9:=B.map fun(x:Nat)=>((Du (x:Int),D.bl true):Key×D)
def Xn(B:LQ):(begD B).length=B.length:=by unfold begD;simp
def Wz(B:LQ)(y:Nat):(valD (begD B) (Du (y:Int))).isSome=decide (y∈B):=by
 unfold valD begD
 induction B with
 | nil=>rfl
 | cons x r a=>
  rw[Ch,Ie]
  by_cases e:x=y
  .subst e;simp
  .have:decide ((Du (x:Int):Key)=Du (y:Int))=false:=by
    rw[decide_eq_false_iff_not];intro z;show e (by have:=My z;lia)
   rw[this]
   simp only
   rw[a]
   have b:¬y=x:=fun z=>e z.symm
   simp[b]
def Wl{y:Nat}(h:¬y∈B):putD (begD B) (Du (y:Int)) (.bl true)=begD (B++[y]):=by
 unfold putD
 rw[nc]
 rfl'
 .unfold begD;rw[Ai];rfl
 .intro z
  let⟨d,b,a⟩:=Kt.mp z
  unfold begD at b
  let⟨x,c,rfl⟩:=De.mp b
  rw[decide_eq_true_eq] at a
  have:=My a
  have e:x=y:='o'
  show h (e ▸ c)
def O8{x y:Nat}(e:readL M x=some (natD l))(d:readL M y=some [])(q:B l.isEmpty):eqD M (.ref x) (.ref y) B:=by
 have c:∀l:LQ,PDs M (l.map fun(x:Nat)=>PyData.int (x:Int)) (natD l):=by
  intro l
  induction l with
  | nil=>rfl
  | cons x r b=>show⟨_,_,rfl,rfl,b⟩
 have a:∀l:LQ,PyData.canLayAll0 (l.map fun(x:Nat)=>PyData.int (x:Int))=true:=by
  intro l
  induction l with
  | nil=>rw[Dp,PyData.canLayAll0]
  | cons x r b=>rw[Ch];unfold PyData.canLayAll0;rw[b];rfl
 refine .inl ⟨.list (l.map fun(x:Nat)=>PyData.int (x:Int)),.list [],⟨x,_,rfl,e,c l⟩,⟨y,_,rfl,d,rfl⟩,a l,rfl,?_,?_⟩
 .exact ni (Nat.min_le_right _ _) 'd'
 .cases l with
  | nil=>show q
  | cons p r=>show q
def J9{a:Type}(xs:List a)(d:a):atI (xs++[d]) (-1)=some d:=by
 have h:ixN (xs++[d]).length (-1)=some xs.length:=by
  unfold ixN
  rw[nc 'o',ng (by rw[Ae,Ay];lia)]
  rfl'
  congr 1
  rw[Ae,Ay]
  lia
 unfold atI
 rw[h]
 simp
def cL{i:Nat}{xs:LD}(h:M[i]?=some (.lst xs)):readL M i=some xs:=by unfold readL;rw[h]
def cW{i:Nat}{xs:LD}(h:M[i]?=some (.lst xs)):Zw M i=some xs:=by unfold Zw;rw[h]
def cD{i:Nat}{xs:KQ9}(h:M[i]?=some (.dct xs)):Zx M i=some xs:=by unfold Zx;rw[h]
def c_lt{M:Z1}{i:Nat}{c:Cell}(h:M[i]?=some c):i<M.length:=(Ab.mp h).1
def X5{M:Z1}{i:Nat}{c c':Cell}(h:M[i]?=some c'):(M.set i c)[i]?=some c:=Dm (c_lt h)
def c_ne{M:Z1}{i j:Nat}{c c':Cell}(h:M[j]?=some c')(a:i≠j):(M.set i c)[j]?=some c':=by rw[Dh a];show h
def Z5{M N:Z1}{j:Nat}{c':Cell}(h:M[j]?=some c'):(M++N)[j]?=some c':=by rw[Az (c_lt h)];show h
def Zb{M:Z1}{c:Cell}:(M++[c])[M.length]?=some c:=by simp
def Kp.set{M a:Z1}{i:Nat}{c:Cell}(h:Kp M a)(hi:M.length<=i):Kp M (a.set i c):=by
 let⟨N,rfl⟩:=h
 show⟨N.set (i - M.length) c,by rw[Dj _ _ hi]⟩
def opA(O:List (Nat×Nat×LQ)):LD:=O.map fun p=> .tup [.int (p.1:Nat),.ref p.2.1]
def Z65(O:List (Nat×Nat×LQ)):(opA O).length=O.length:=by unfold opA;simp
def Wc(O:List (Nat×Nat×LQ))(x j:Nat)(r:LQ):opA (O++[(x,j,r)])=opA O++[.tup [.int (x:Nat),.ref j]]:=by unfold opA;rw[Ai];rfl
def toW(O:List (Nat×Nat×LQ)):List (Nat×LQ):=O.reverse.map fun p=>(p.1,p.2.2)
def Xq(O:List (Nat×Nat×LQ))(x j:Nat)(r:LQ):toW (O++[(x,j,r)])=(x,r)::toW O:=by unfold toW;rw[List.reverse_append];rfl
structure Wst(M M':Z1)(b f o:Nat)(B F:LQ)(O:List (Nat×Nat×LQ)):Prop where
 kp:Kp M M'
 nb:M.length<=b
 nf:M.length<=f
 no:M.length<=o
 fo:f≠o
 hb:M'[b]?=some (.dct (begD B))
 hf:M'[f]?=some (.lst (natD F))
 ho:M'[o]?=some (.lst (opA O))
 li:∀p∈O,M'[p.2.1]?=some (.lst (natD p.2.2.reverse))/\M.length<=p.2.1/\p.2.1≠f/\p.2.1≠o
 nd:(O.map (·.2.1)).Nodup
def c_dl{M:Z1}{i j:Nat}{x:KQ9}{y:LD}(h:M[i]?=some (.dct x))(k:M[j]?=some (.lst y)):i≠j:=fun e=>by subst e;rw[h] at k;cases k
section
variable{M M':Z1}{b f o:Nat}{B F:LQ}{O:List (Nat×Nat×LQ)}{x j:Nat}{r:LQ}
def Wst.app(h:Wst M M' b f o B F O)(N:Z1):Wst M (M'++N) b f o B F O:=
 ⟨h.kp.app N,h.nb,h.nf,h.no,h.fo,Z5 h.hb,Z5 h.hf,Z5 h.ho,fun p a=>by let⟨d,c⟩:=h.li p a;show⟨Z5 d,c⟩,h.nd⟩
def Wst.done(h:Wst M M' b f o B F (O++[(x,j,[])])):Wst M ((M'.set f (.lst (natD (F++[x])))).set o (.lst (opA O))) b f o B (F++[x]) O:=by
 have k:=c_dl h.hb h.hf
 have i:=c_dl h.hb h.ho
 refine⟨(h.kp.set h.nf).set h.no,h.nb,h.nf,h.no,h.fo,c_ne (c_ne h.hb k.symm) i.symm,c_ne (X5 h.hf) h.fo.symm,X5 (c_ne h.ho h.fo),fun p d=>?_,?_⟩
 .let⟨g,e,c,a⟩:=h.li p (Dg _ d)
  show⟨c_ne (c_ne g c.symm) a.symm,e,c,a⟩
 .have:=h.nd
  rw[Ai] at this
  show(Dq.mp this).1
def Wst.pop{t:Nat}(h:Wst M M' b f o B F (O++[(x,j,t::r)])):Wst M (M'.set j (.lst (natD r.reverse))) b f o B F (O++[(x,j,r)]):=by
 let⟨l,k,i,g⟩:=h.li (x,j,t::r) (by simp)
 have n:=c_dl h.hb l
 have d:=h.nd
 rw[Ai] at d
 refine⟨h.kp.set k,h.nb,h.nf,h.no,h.fo,c_ne h.hb n.symm,c_ne h.hf i,?_,fun p a=>?_,by rw[Ai];show d⟩
 .have:=c_ne (c:= .lst (natD r.reverse)) h.ho g
  rw[Wc] at this ⊢
  show this
 .rcases Au.mp a with a | a
  .let⟨g1,g2,g3,g4⟩:=h.li p (Dg _ a)
   have m:j≠p.2.1:=fun e=>(Dq.mp d).2.2 p.2.1 (De.mpr ⟨p,a,rfl⟩) j (by simp) e.symm
   show⟨c_ne g1 m,g2,g3,g4⟩
  .rw[An] at a
   subst a
   show⟨X5 l,k,i,g⟩
def Wst.beg(h:Wst M M' b f o B F O)(t:Nat):Wst M (M'.set b (.dct (begD (B++[t])))) b f o (B++[t]) F O:=by
 refine⟨h.kp.set h.nb,h.nb,h.nf,h.no,h.fo,X5 h.hb,c_ne h.hf (c_dl h.hb h.hf),c_ne h.ho (c_dl h.hb h.ho),fun p c=>?_,h.nd⟩
 let⟨a,d⟩:=h.li p c
 show⟨c_ne a (c_dl h.hb a),d⟩
def Wst.push(h:Wst M M' b f o B F O)(t:Nat)(l:LQ):Wst M ((M'++[Cell.lst (natD l)]).set o (.lst (opA (O++[(t,M'.length,l.reverse)])))) b f o B F (O++[(t,M'.length,l.reverse)]):=by
 have i:=c_lt h.ho
 have k:=c_lt h.hf
 refine⟨(h.kp.app _).set h.no,h.nb,h.nf,h.no,h.fo,c_ne (Z5 h.hb) (c_dl h.hb h.ho).symm,c_ne (Z5 h.hf) h.fo.symm,X5 (Z5 h.ho),fun p d=>?_,?_⟩
 .rcases Au.mp d with d | d
  .let⟨g1,g2,g3,g4⟩:=h.li p d
   show⟨c_ne (Z5 g1) g4.symm,g2,g3,g4⟩
  .rw[An] at d
   subst d
   have:=h.no
   refine⟨?_,by have:=h.kp;let⟨N,rfl⟩:=h.kp;simp only[Ae];lia,fun e=>absurd k (by simp only at e;lia),fun e=>absurd i (by simp only at e;lia)⟩
   show((M'++[Cell.lst (natD l)]:Z1).set o _)[M'.length]?=some (Cell.lst (natD l.reverse.reverse))
   rw[List.reverse_reverse]
   show c_ne Zb 'o'
 .rw[Ai]
  refine Dq.mpr ⟨h.nd,by simp,fun a m c g=>?_⟩
  let⟨p,d,rfl⟩:=De.mp m
  have:=c_lt (h.li p d).1
  have g:c=M'.length:=by simpa using g
  lia
end
def GA(M:Z1)(a:Nat)(S:Nat->Prop)(gf:Nat->LQ):Prop:=∀p,S p->∀(b:Z1),Kp M b->∀F:D->Prop,(∀d,B0 b d=some (natD (gf p))->F d)->ixD b (.ref a) (.int (p:Nat)) F
section
variable{K:Ac}
def Z50{Γ G}{M w:Z1}{a st b f o:Nat}{S:Nat->Prop}{gf:Nat->LQ}(U:GA M a S gf){B F:LQ}{O:List (Nat×Nat×LQ)}{x j:Nat}{r:LQ}{Q:DK}{C V:DEnv->Z1->Prop}{E v u s:Option D}
  (h:Wst M w b f o B F (O++[(x,j,r)])) (X:F.length<=8000) (W:O.length<=8000) (Y:B.length<=8000) (L:∀t∈r,S t)
  (q:∀J H I n v u s,ND.stp (fun y=>(gf y).reverse) ⟨B,toW (O++[(x,j,r)]),F⟩=⟨J,toW H,I⟩->Wst M n b f o J I H->C [↑a,↑st,↑b,↑f,E,↑o,v,u,s] n):
  tss ⟨K,Γ,G⟩ noX Tu {nx:=C,rt:=Q,bk:=V,ct:=C} [↑a,↑st,↑b,↑f,E,↑o,v,u,s] w:=by
 let⟨m,R,P,N⟩:=h.li (x,j,r) (by simp)
 delta Tu
 rfl'
 have g:atI (opA (O++[(x,j,r)])) (-1)=some (.tup [.int (x:Nat),.ref j]):=by
  rw[Wc];show J9 _ _
 refine .inl ⟨_,-1,_,rfl,cL h.ho,g,?_⟩
 rfl'
 refine⟨Z0 'd',O8 (Z6 (cL m)) (cL Zb) ?_⟩
 rfl'
 have e:=h.app [.lst []]
 have p:=Xq O x j r
 generalize w++[.lst []]=M1 at e
 cases r with
 | nil=>
  rw[ng (by simp)]
  rfl'
  refine⟨Z9 (cL e.hf),_,cW e.hf,by rw[Z4];show Z2 'o',?_⟩
  rfl'
  rw[<-Zv]
  have z:=c_ne (c:= .lst (natD (F++[x]))) e.ho e.fo
  refine⟨Z9 (cL z),_,.tup [.int (x:Nat),.ref j],cW z,by rw[Wc];simp,?_⟩
  rfl'
  rw[Wc,Mu]
  show q B O (F++[x]) _ _ _ _ (by rw[p];rfl) e.done
 | cons t r=>
  rw[nc (by simp)]
  rfl'
  have A:natD (t::r).reverse=natD r.reverse++[.int (t:Nat)]:=by rw[List.reverse_cons];show Zv _ _
  let⟨m,_⟩:=e.li (x,j,t::r) (by simp)
  refine⟨Z9 (cL m),_,.int (t:Nat),cW m,by rw[A];simp,?_⟩
  rfl'
  rw[A,Mu]
  have l:=e.pop
  generalize M1.set j (.lst (natD r.reverse))=n at l
  rfl'
  refine .inr (.inl ⟨begD B,_,cD l.hb,rfl,?_⟩)
  rfl'
  rw[Wz]
  by_cases i:t∈B
  .rw[decide_eq_true i]
   try dsimp only
   rw[nc 'd']
   rfl'
   show q B (O++[(x,j,r)]) F _ _ _ _ (by rw[p,Xq];show(if t∈B then _ else _)=_;rw[ng i]) l
  .rw[mh i]
   try dsimp only
   rw[ng rfl]
   rfl'
   refine .inr ⟨begD B,_,cD l.hb,rfl,by rw[Xn];show Z2 'o',?_⟩
   rfl'
   rw[Wl i]
   have k:=l.beg t
   generalize n.set b (.dct (begD (B++[t])))=M3 at k
   refine⟨Z9 (cL k.ho),U t (L t Db) M3 k.kp _ fun d T=>⟨natD (gf t),T,Z0 'd',?_⟩⟩
   refine⟨_,cW (Z5 k.ho),by rw[Z65,Ae,Ay];show Z2 'o',?_⟩
   rfl'
   rw[<-Wc _ _ _ (gf t).reverse]
   show q (B++[t]) (O++[(x,j,r)]++[(t,M3.length,(gf t).reverse)]) F _ _ _ _ (by rw[p,Xq,Xq];show(if t∈B then _ else _)=_;rw[nc i]) (k.push t (gf t))
def Zo5{n x:Nat}{rest r B F d c:LQ}{s a:List (Nat×LQ)}(i:∀t,t≠n->g' t=g t)(h:∀t∈r,t≠n)(e:ND.stp g ⟨B,(x,r)::s,F⟩=⟨d,a,c⟩):ND.stp g' ⟨n::B,(x,r)::(s++[(n,rest)]),F⟩=⟨n::d,a++[(n,rest)],c⟩:=by
 cases r with
 | nil=>
  have e:ND.St.mk B s (F++[x])=⟨d,a,c⟩:=e
  injection e with e1 e2 e3
  subst e1;subst e2;subst e3
  rfl
 | cons t r=>
  have f:=h t Db
  have e:(if t∈B then ND.St.mk B ((x,r)::s) F else⟨B++[t],(t,g t)::(x,r)::s,F⟩)=⟨d,a,c⟩:=e
  show(if t∈n::B then ND.St.mk (n::B) ((x,r)::(s++[(n,rest)])) F else⟨n::B++[t],(t,g' t)::(x,r)::(s++[(n,rest)]),F⟩)=_
  by_cases b:t∈B
  .rw[ng b] at e
   rw[ng (Aj _ b)]
   injection e with e1 e2 e3
   subst e1;subst e2;subst e3
   rfl
  .rw[nc b] at e
   rw[nc (fun z=>(Aq.mp z).elim f b),i t f]
   injection e with e1 e2 e3
   subst e1;subst e2;subst e3
   rfl
def Zk1{N x:Nat}{r B F i h:LQ}{s d:List (Nat×LQ)}(j:B.Nodup)(o:∀u∈B,u<N)(k:∀t∈r,t<N/\(g t).length<=2)(e:ND.stp g ⟨B,(x,r)::s,F⟩=⟨i,d,h⟩):ND.mea N ⟨i,d,h⟩<ND.mea N ⟨B,(x,r)::s,F⟩:=by
 rw[<-e]
 cases r with
 | nil=>change ND.mea N ⟨B,s,F++[x]⟩<_;unfold ND.mea;simp
 | cons t r=>
  change ND.mea N (if t∈B then⟨B,(x,r)::s,F⟩ else⟨B++[t],(t,g t)::(x,r)::s,F⟩)<_
  let⟨p,q⟩:=k t Db
  split
  .unfold ND.mea;simp
  .rename_i m
   have l:(B++[t]).length<=N:=ND.Yi N (B++[t]) (Dq.mpr ⟨j,by simp,fun a n c f=>by rw[An] at f;subst f;show fun e=>m (e ▸ n)⟩) fun u b=>by
    rcases Au.mp b with b | b
    .exact o u b
    .rw[An] at b;subst b;show p
   rw[Ae,Ay] at l
   unfold ND.mea
   simp only[Ae,Ay,Ch,Ln,Ex]
   lia
def gR(n:Nat)(starts:LQ)(gf:Nat->LQ):Nat->LQ:=fun y=>if y=n then starts else(gf y).reverse
structure Wf(n:Nat)(starts:LQ)(S:Nat->Prop)(gf:Nat->LQ):Prop where
 lt:∀p,S p->p<n
 small:n<=2000
 st:∀x∈starts,S x
 two:∀p,S p->(gf p).length<=2
 cl:∀p,S p->∀t∈gf p,S t
def Yh2{n:Nat}{S:Nat->Prop}(h:Wf n starts S gf):∀x,(x=n\/S x)->∀t∈gR n starts gf x,S t:=by
 intro x b t a
 unfold gR at a
 by_cases e:x=n
 .rw[ng e] at a;show h.st t a
 .rw[nc e] at a
  show h.cl x (b.resolve_left e) t (Dw.mp a)
def Yd1{n:Nat}{S:Nat->Prop}(h:Wf n starts S gf)(k:Nat):ND.In (fun x=>x=n\/S x) (ND.itr (gR n starts gf) k ⟨[n],[(n,starts)],[]⟩):=by
 induction k with
 | zero=>
  change ND.In _ ⟨[n],[(n,starts)],[]⟩
  show⟨fun y a=>by rw[An] at a;show .inl a,fun p c=>by rw[An] at c;subst c;show⟨.inl rfl,fun t b=> .inr (h.st t b)⟩,fun y a=>by simp at a⟩
 | succ k d=>show d.stp fun x e t b=> .inr (Yh2 h x e t b)
def Yi0{n:Nat}(k:Nat):ND.Ok (gR n starts gf) n (ND.itr (gR n starts gf) k ⟨[n],[(n,starts)],[]⟩):=by
 have e:starts=gR n starts gf n:=by unfold gR;rw[ng rfl]
 have:=(ND.Ok.begin (gR n starts gf) n).itr k
 rw[<-e] at this
 show this
def facts{n:Nat}{starts:LQ}{S:Nat->Prop}{gf:Nat->LQ}(h:Wf n starts S gf){k:Nat}{B F rest:LQ}{s:List (Nat×LQ)}(e:ND.itr (gR n starts gf) k ⟨[n],[(n,starts)],[]⟩=⟨n::B,s++[(n,rest)],F⟩):
  B.Nodup/\(∀u∈B,S u)/\B.length<=n/\s.length+F.length<=n/\∀p∈s,∀t∈p.2,S t:=by
 have i:=Yi0 (n:=n) (starts:=starts) (gf:=gf) k
 have a:=Yd1 h k
 rw[e] at i a
 let⟨l,c⟩:=Hj.mp i.nb
 have o:∀u∈B,S u:=fun u j=>(a.b u (Aj _ j)).resolve_left fun z=>l (z ▸ j)
 refine⟨c,o,ND.Yi n B c fun u j=>h.lt u (o u j),?_,fun p m t q=>?_⟩
 .have:=ND.Yi (n+1) _ i.nd fun y f=>by
   have:y=n\/S y:=by
    rcases Au.mp f with f | f
    .let⟨p,m,rfl⟩:=De.mp f
     show(a.s p m).1
    .exact a.d y f
   rcases this with z | z
   .lia
   .have:=h.lt y z;lia
  simp only[Ae,Ag,Ay] at this
  lia
 .have g:p∈s++[(n,rest)]:=Dg _ m
  show Yh2 h p.1 (a.s p g).1 t ((i.op p g).1 t q)
def Y06(O:List (Nat×Nat×LQ)):(toW O).length=O.length:=by unfold toW;simp
def Ja{Γ G}{M P:Z1}{a st b f o n k:Nat}{starts rest:LQ}{S:Nat->Prop}{gf:Nat->LQ}(V:GA M a S gf)(i:Wf n starts S gf){B F:LQ}{O:List (Nat×Nat×LQ)}{Q:DK}{C bk:DEnv->Z1->Prop}{I g d c:Option D}
  (h:Wst M P b f o B F O) (e:ND.itr (gR n starts gf) k ⟨[n],[(n,starts)],[]⟩=⟨n::B,toW O++[(n,rest)],F⟩)
  (q:∀w v s R g d c,Wst M s b f o w v []->ND.itr (gR n starts gf) R ⟨[n],[(n,starts)],[]⟩=⟨n::w,[(n,rest)],v⟩->C [↑a,↑st,↑b,↑f,I,↑o,g,d,c] s):
  tss ⟨K,Γ,G⟩ noX Tg {nx:=C,rt:=Q,bk:=bk,ct:=C} [↑a,↑st,↑b,↑f,I,↑o,g,d,c] P:=by
 delta Tg
 rfl'
 refine⟨fun m J s=>∃B O F g d c k,m=ND.mea n ⟨B,toW O,F⟩/\J=[↑a,↑st,↑b,↑f,I,↑o,g,d,c]/\Wst M s b f o B F O/\ND.itr (gR n starts gf) k ⟨[n],[(n,starts)],[]⟩=⟨n::B,toW O++[(n,rest)],F⟩,⟨_,B,O,F,g,d,c,k,rfl,rfl,h,e⟩,?_⟩
 rintro m J s ⟨B,O,F,g,d,c,k,rfl,rfl,h,e⟩
 rfl'
 refine .inl ⟨opA O,cL h.ho,?_⟩
 rfl'
 try dsimp only
 by_cases A:O=[]
 .subst A
  rw[nc (by simp[opA])]
  rfl'
  show q B F s k g d c h e
 .have E:(!(opA O).isEmpty)=true:=by
   cases O with
   | nil=>show absurd rfl A
   | cons _ _=>rfl
  rw[ng ↥E]
  rfl'
  obtain⟨N,⟨y,j,r⟩,rfl⟩:∃N p,O=N++[p]:=⟨O.dropLast,O.getLast A,(Ic A).symm⟩
  let⟨Z,Y,f3,X,W⟩:=facts i e
  rw[Y06,Ae,Ay] at X
  have sm:=i.small
  have x:∀t∈r,S t:=W (y,r) (by rw[Xq];show Db)
  refine Z50 V h 'o' 'o' 'o' x fun w L v M3 g d c H U=>?_
  rfl'
  rw[Xq] at H e
  refine⟨ND.mea n ⟨w,toW L,v⟩,?_,w,L,v,g,d,c,k+1,rfl,rfl,U,?_⟩
  .rw[Xq]
   show Zk1 Z (fun u T=>i.lt u (Y u T)) (fun t l=>⟨i.lt t (x t l),by rw[Ht];show i.two t (x t l)⟩) H
  .change ND.stp _ (ND.itr _ k _)=_
   rw[e]
   show Zo5 (fun t l=>by unfold gR;rw[nc l]) (fun t l z=>absurd (i.lt t (x t l)) 'o') H
def Vj:DSp:=fun g M Q _=>∃(a f n:Nat) (b:LQ) (S:Nat->Prop) (c:Nat->LQ),g=[.ref a,.ref f]/\readL M f=some (natD b)/\GA M a S c/\Wf n b S c/\
 ∀d e r,ND.Ends (gR n b c) n (d++[n])->Kp M e->Zw e r=some (natD d.reverse)->M.length<=r->Q (.ref r) e
def Zj1{Γ G}:Rd K Γ G Vj Ev Ej:=by
 rintro R M Q Z ⟨a,st,n,b,S,j,rfl,w,O,l,q⟩
 delta Ev Ej
 rfl'
 rw[Ar,Ih,Lj,Ae,Ex,Ik]
 refine⟨Z0 'd',_,Z6 w,?_⟩
 rfl'
 refine Yg (fun i A c=>∃B F H E r o m k,A=[↑a,↑st,↑M.length,some (.ref (M.length+1)),H,E,r,o,m]/\Kp M c/\c[M.length]?=some (.dct (begD B))/\c[M.length+1]?=some (.lst (natD F))/\ND.itr (gR n b j) k ⟨[n],[(n,b)],[]⟩=⟨n::B,[(n,b.drop i)],F⟩)
  ⟨[],[],none,none,none,none,none,0,rfl,Kp.new _ _,by simp[begD],by simp[natD],rfl⟩ ?_ ?_ ?_
 .rintro i A c _ ⟨B,F,H,E,r,o,m,k,rfl,v,N,h,e⟩
  show v.L w
 .rintro i dx A c C g ⟨B,F,H,E,r,o,m,k,rfl,v,N,h,e⟩ Y
  obtain⟨x,D,rfl⟩:∃x,b[i]?=some x/\dx= .int (x:Nat):=by
   unfold natD at g
   rw[Aw,Ho] at g
   let⟨x,D,e⟩:=g
   show⟨x,D,e.symm⟩
  let⟨hi,J⟩:=Ab.mp D
  have dr:b.drop i=x::b.drop (i+1):=by rw[Im hi,J]
  have X:S x:=l.st x (As D)
  have W:x≠n:=fun z=>absurd (l.lt x X) 'o'
  delta Pq
  rfl'
  have z0:M.length+1<c.length:=c_lt h
  have u:Wst M (c++[.lst []]) M.length (M.length+1) c.length B F []:=
   ⟨v.app _,na _,'o','o','o',Z5 N,Z5 h,Zb,fun p hp=>by simp at hp,by simp⟩
  generalize y0:c++[.lst []]=M1 at u
  have sm:=l.small
  let⟨_,_,lB,_,_⟩:=facts l (s:=[]) e
  refine⟨Z0 'd',.inr (.inl ⟨begD B,_,cD u.hb,rfl,?_⟩)⟩
  rfl'
  rw[Wz]
  rw[dr] at e
  by_cases y:x∈B
  .rw[decide_eq_true y]
   try dsimp only
   rw[nc 'd']
   rfl'
   refine Ja (k:=k+1) (rest:=b.drop (i+1)) O l u ?_ fun V U T I r o m f P=>?_
   .change ND.stp _ (ND.itr _ k _)=_
    rw[e]
    show(if x∈n::B then _ else _)=_
    rw[ng (Aj _ y)]
    rfl
   .exact Y _ _ ⟨V,U,_,_,_,_,_,I,rfl,f.kp,f.hb,f.hf,P⟩
  .rw[mh y]
   try dsimp only
   rw[ng rfl]
   rfl'
   refine .inr ⟨begD B,_,cD u.hb,rfl,by rw[Xn];show Z2 'o',?_⟩
   rfl'
   rw[Wl y]
   have t:=u.beg x
   generalize M1.set M.length (.dct (begD (B++[x])))=T at t
   refine⟨Z9 (cL t.ho),O x X T t.kp _ fun d hd=>⟨natD (j x),hd,Z0 'd',?_⟩⟩
   refine⟨_,cW (Z5 t.ho),by rw[Z65];show Z2 (by simp),?_⟩
   rfl'
   rw[<-Wc _ _ _ (j x).reverse]
   have f:=t.push x (j x)
   refine Ja (k:=k+1) (rest:=b.drop (i+1)) O l f ?_ fun V U T I r o m f P=>?_
   .change ND.stp _ (ND.itr _ k _)=_
    rw[e]
    show(if x∈n::B then _ else _)=_
    rw[nc (fun z=>(Aq.mp z).elim W y)]
    change ND.St.mk (n::B++[x]) [(x,gR n b j x),(n,b.drop (i+1))] F=_
    unfold gR
    rw[nc W]
    rfl
   .exact Y _ _ ⟨V,U,_,_,_,_,_,I,rfl,f.kp,f.hb,f.hf,P⟩
 .rintro A c ⟨B,F,H,E,r,o,m,k,rfl,v,N,h,e⟩
  have hl:(natD b).length=b.length:=Z4 _
  rw[hl,List.drop_length] at e
  delta Pw
  rfl'
  refine⟨Z9 (cL h),_,cW h,?_⟩
  rfl'
  have en:ND.Ends (gR n b j) n (F++[n]):=by
   refine⟨k+1,n::B,?_⟩
   have e0:gR n b j n=b:=by unfold gR;rw[ng rfl]
   rw[e0]
   change ND.stp _ (ND.itr _ k _)=_
   rw[e]
   rfl
  refine q F _ _ en (v.set 'o') ?_ 'o'
  rw[cW (X5 h)]
  unfold natD
  rw[List.map_reverse]
end
def Sg:DSp:=fun a M Q _=>∃d:Nd,a=[d.d]/\Q (.tup (natD d.gs.reverse)) M
def Nd.wt(l:LQ):Nd->Nd
 | .sum x a c b _=> .sum x a c b (l.getD 0 0)
 | .test a c b _ _=> .test a c b (l.getD 0 0) (l.getD 1 0)
 | .fin=> .fin
 | .spin=> .spin
def Nd.wt_to(f:Nat->Nat)(d:Nd):d.wt (d.gs.reverse.map f)=d.to f:=by cases d<;>rfl
def Nd.wt_gs(d:Nd)(h:l.length=d.gs.length):(d.wt l).gs.reverse=l:=by
 cases d with
 | sum x a c b t=>match l,h with | [p],_=>rfl
 | test a c b y n=>match l,h with | [p,q],_=>rfl
 | fin=>match l,h with | [],_=>rfl
 | spin=>match l,h with | [],_=>rfl
def LT(M:Z1)(g:D)(l:LQ):Prop:=(∃r,g= .ref r/\readL M r=some (natD l))\/g= .tup (natD l)
def Zi3{K:Ac}(h:LT M g l)(q:Q (.tup (natD l)) M):bfD K .tuple1 [g] M Q:=by
 rcases h with⟨r,rfl,h⟩ | rfl
 .rw[bf_tuple];show⟨_,h,q⟩
 .rw[Zc0];show q
def Sc:DSp:=fun a M Q _=>∃(d:Nd) (l:LQ) (g:D),a=[d.d,g]/\l.length=d.gs.length/\LT M g l/\Q (d.wt l).d M
def Wm:DSp:=fun f M Q _=>∃(a b:Nat) (c:List Nd) (O:LQ),f=[.ref a,.ref b]/\readL M a=some (c.map Nd.d)/\readL M b=some (natD O)/\O.Nodup/\O.length<=2000/\(∀x∈O,x<c.length)/\(∀x∈O,∀t∈wy c x,t∈O)/\
 ∀e r,Kp M e->Zw e r=some ((gra c O).map Nd.d)->M.length<=r->Q (.ref r) e
def numP(O:LQ):KQ9:=O.mapIdx fun i (x:Nat)=>((Du (x:Int),D.int (i:Nat)):Key×D)
def Ga(O:LQ)(y:Nat):numP (O++[y])=numP O++[(Du (y:Int),D.int (O.length:Nat))]:=by unfold numP;rw[List.mapIdx_append];simp
def C6(O:LQ):(numP O).length=O.length:=by unfold numP;simp
def Zl4(m:KQ9)(k j:Key)(v:D):valD (putD m k v) j=if k=j then some v else valD m j:=by
 unfold putD
 split
 .rename_i h
  unfold valD
  induction m with
  | nil=>simp at h
  | cons p r f=>
   rw[Ch,Ie,Ie]
   by_cases d:p.1=k
   .rw[ng d]
    symm
    by_cases b:k=j
    .subst b;simp[d]
    .have:decide (p.1=j)=false:=by rw[decide_eq_false_iff_not,d];show b
     simp only[this]
     rw[nc b]
     symm
     by_cases e:(r.any fun a=>decide (a.1=k))=true
     .have:=f e;rw[nc b] at this;show this
     .have i:r.map (fun a=>if a.1=k then(a.1,v) else a)=r:=by
       rw[Hi (g:=id)]
       .simp
       .intro a c
        rw[nc]
        symm
        .rfl
        .intro z;show e (Kt.mpr ⟨a,c,↥z⟩)
      rw[i]
   .rw[nc d]
    symm
    have e:(r.any fun a=>decide (a.1=k))=true:=by simpa[d] using h
    by_cases b:p.1=j
    .have:¬k=j:=fun z=>d (b.trans z.symm)
     simp[b,this]
    .simp only[b,decide_false]
     show f e
 .rename_i h
  unfold valD
  rw[List.find?_append]
  by_cases b:k=j
  .subst b
   have:m.find? (fun a=>decide (a.1=k))=none:=by
    rw[List.find?_eq_none]
    intro a c z
    show h (Kt.mpr ⟨a,c,z⟩)
   rw[this]
   simp
  .rw[nc b]
   symm
   simp[b]
def Pc(ps:KQ9)(p:Key×D):S5 (ps++[p])=putD (S5 ps) p.1 p.2:=by unfold S5;rw[List.foldl_append];rfl
def Zg0:∀(n:Nat) (O:LQ),O.length=n->O.Nodup->∀x∈O,valD (S5 (numP O)) (Du (x:Int))=some (.int (O.idxOf x:Nat))
 | 0,O,h,_,x,f=>by rw[Hz.mp h] at f;cases f
 | n+1,O,h,g,x,f=>by
  have c:O≠[]:=by rintro rfl;cases h
  obtain⟨d,y,rfl⟩:∃d y,O=d++[y]:=⟨O.dropLast,O.getLast c,(Ic c).symm⟩
  rw[Ae,Ay] at h
  have a:=Dq.mp g
  rw[Ga,Pc,Zl4]
  by_cases e:y=x
  .subst e
   rw[ng rfl]
   symm
   have i:y∉d:=fun z=>a.2.2 y z y (by simp) rfl
   rw[List.idxOf_append,nc i]
   simp
  .rw[nc (fun z=>e (by have:=My z;lia))]
   symm
   have b:x∈d:=(Au.mp f).resolve_right (by rw[An];show fun z=>e z.symm)
   rw[Zg0 n d 'o' a.1 x b,List.idxOf_append,ng b]
def Vm{xs:LD}{i:Nat}{d:D}(h:(F5 xs)[i]?=some d):∃x,xs[i]?=some x/\d= .tup [.int (i:Nat),x]:=by
 unfold F5 at h
 rw[Ds,Ho] at h
 let⟨x,a,rfl⟩:=h
 show⟨x,a,rfl⟩
def V5(xs:LD):(F5 xs).length=xs.length:=by unfold F5;simp
section
variable{K:Ac}
def Yg4{Γ G}:Rd K Γ G Sg Zu1 Zt1:=by
 rintro c M Q Z ⟨d,rfl,q⟩
 delta Zu1 Zt1
 symm
 cases d with
 | sum x a e b t=>
  simp only[Nd.d]
  symm
  refine⟨_,rfl,?_⟩
  symm
  show⟨_,rfl,Z0 'd',q⟩
 | test a e b y n=>
  simp only[Nd.d]
  symm
  refine⟨_,rfl,?_⟩
  symm
  rw[nc 'k']
  symm
  delta Sv
  symm
  refine⟨_,rfl,?_⟩
  symm
  show⟨_,rfl,_,rfl,Z0 'd',q⟩
 | fin=>
  simp only[Nd.d]
  symm
  refine⟨_,rfl,?_⟩
  symm
  rw[nc 'k']
  symm
  delta Sv
  symm
  refine⟨_,rfl,?_⟩
  symm
  rw[nc 'k']
  symm
  delta Oq
  symm
  show⟨Z0 'd',q⟩
 | spin=>
  simp only[Nd.d]
  symm
  refine⟨_,rfl,?_⟩
  symm
  rw[nc 'k']
  symm
  delta Sv
  symm
  refine⟨_,rfl,?_⟩
  symm
  rw[nc 'k']
  symm
  delta Oq
  symm
  show⟨Z0 'd',q⟩
def Y79{Γ G}:Rd K Γ G Sc Qi Ql:=by
 rintro f M Q Z ⟨d,l,g,rfl,h,i,q⟩
 delta Qi Ql
 symm
 cases d with
 | sum x a c b t=>
  obtain⟨p,rfl⟩:∃p,l=[p]:=by match l,h with | [p],_=>show⟨p,rfl⟩
  simp only[Nd.d]
  symm
  refine⟨_,rfl,?_⟩
  symm
  refine⟨'d',?_⟩
  refine Zi3 i ?_
  rw[show U.cutD [.str "sum",.str x,a.d,.str c,b.d,.int t] none (some 5)=[.str "sum",.str x,a.d,.str c,b.d] from rfl]
  refine⟨by simp[natD],Z0 (by simp[natD]),q⟩
 | test a c b y n=>
  obtain⟨p,e,rfl⟩:∃p e,l=[p,e]:=by match l,h with | [p,e],_=>show⟨p,e,rfl⟩
  simp only[Nd.d]
  symm
  refine⟨_,rfl,?_⟩
  symm
  rw[nc 'k']
  symm
  delta Yt
  symm
  refine⟨_,rfl,?_⟩
  symm
  refine⟨'d',?_⟩
  refine Zi3 i ?_
  rw[show U.cutD [.str "test",a.d,.str c,b.d,.int y,.int n] none (some 4)=[.str "test",a.d,.str c,b.d] from rfl]
  refine⟨by simp[natD],Z0 (by simp[natD]),q⟩
 | fin=>
  simp only[Nd.d]
  symm
  refine⟨_,rfl,?_⟩
  symm
  rw[nc 'k']
  symm
  delta Yt
  symm
  refine⟨_,rfl,?_⟩
  symm
  rw[nc 'k']
  symm
  delta Xk
  symm
  show q
 | spin=>
  simp only[Nd.d]
  symm
  refine⟨_,rfl,?_⟩
  symm
  rw[nc 'k']
  symm
  delta Yt
  symm
  refine⟨_,rfl,?_⟩
  symm
  rw[nc 'k']
  symm
  delta Xk
  symm
  show q
def Z19{Γ G}(g0:Γ[0]?=some Sg)(g1:Γ[1]?=some Sc):Rd K Γ G Wm Pf O2:=by
 rintro I M Q Z ⟨a,b,g,O,rfl,V,E,T,Y,A,D,q⟩
 delta Pf O2
 symm
 refine⟨_,E,?_⟩
 symm
 simp only[capD,Ch,Dp,Hk,Go,Ha,Dz,Hl]
 refine Zn (fun i f k=>∃h u,f=[h,u]/\k=M++[.lst (Yk (numP (O.take i)))]) ⟨none,none,rfl,rfl⟩ ?_ ?_ ?_
 .rintro i f k _ ⟨h,u,rfl,rfl⟩
  show⟨_,Z6 E,rfl⟩
 .rintro i P f k C l ⟨h,u,rfl,rfl⟩ H
  let⟨y,w,rfl⟩:=Vm l
  have B:i<O.length:=by have:=(Ab.mp w).1;rwa[Z4] at this
  have e:O[i]?=some O[i]:=Aa B
  generalize O[i]=z at e
  rw[Yu e] at w
  cases w
  symm
  refine⟨Z0 'd',_,Yp _ _ [],by unfold U.Yk;rw[Ag,C6,Hu];show Z2 'o',?_⟩
  symm
  rw[Rl]
  refine H _ _ ⟨_,_,rfl,?_⟩
  symm
  rw[V7 e,Ga,Hu,Nat.min_eq_left 'o']
  unfold U.Yk
  rw[Ai]
  rfl
 .rintro f k ⟨h,u,rfl,rfl⟩
  rw[V5,Z4,Dr]
  symm
  refine .inr ⟨numP O,Xh _ _ [],by rw[C6];show Z2 'o',?_⟩
  symm
  have o:Kp M (M++[.lst (U.Yk (numP O))]++[.dct (S5 (numP O))]):=(Kp.new _ _).app _
  have n:Zx (M++[.lst (U.Yk (numP O))]++[.dct (S5 (numP O))]) (M++[Cell.lst (U.Yk (numP O))]:Z1).length=some (S5 (numP O)):=Z93 _ _ []
  generalize M++[.lst (U.Yk (numP O))]++[.dct (S5 (numP O))]=M1 at o n
  generalize (M++[Cell.lst (U.Yk (numP O))]:Z1).length=nn at n
  have s:=o.L V
  have r:=o.L E
  refine⟨_,r,?_⟩
  symm
  refine Zn (fun i f k=>∃h N,f=[h,↑a,↑nn]/\k=M1++ .lst (((gra g O).take i).map Nd.d)::N) ⟨none,[],rfl,rfl⟩ ?_ ?_ ?_
  .rintro i f k _ ⟨h,N,rfl,rfl⟩
   show Z6 r
  .rintro i P f k C l ⟨h,N,rfl,rfl⟩ H
   have B:i<O.length:=by have:=(Ab.mp l).1;rwa[Z4] at this
   have e:O[i]?=some O[i]:=Aa B
   generalize O[i]=x at e
   rw[Yu e] at l
   cases l
   have p:=As e
   obtain⟨d,t⟩:∃d,g[x]?=some d:=⟨_,Aa (A x p)⟩
   have R:=d.gs_two
   symm
   refine ix_l (Z6 s) (Jx t) (ix_l (Z6 s) (Jx t) ?_)
   symm
   try simp only[g0,g1]
   refine⟨d,rfl,?_⟩
   symm
   rw[Ar]
   simp only[Ih]
   have W:(M1++ .lst (((gra g O).take i).map Nd.d)::N).length=M1.length+(N.length+1):=by simp
   rw[W]
   refine Zn (fun j f k=>∃h,f=[h,↑nn]/\k=M1++ .lst (((gra g O).take i).map Nd.d)::(N++[.lst (natD ((d.gs.reverse.take j).map fun y=>O.idxOf y))])) ⟨none,rfl,rfl⟩ (fun _ _ _ _ _=>trivial) ?_ ?_
   .rintro j P f k C2 l ⟨h,rfl,rfl⟩ F
    have J:j<d.gs.reverse.length:=by have:=(Ab.mp l).1;rwa[Z4] at this
    have m:d.gs.reverse[j]?=some d.gs.reverse[j]:=Aa J
    generalize d.gs.reverse[j]=y at m
    rw[Yu m] at l
    cases l
    have v:y∈O:=D x p y (by rw[Qw t];show Dw.mp (As m))
    symm
    refine ix_d (Rg n) rfl (Zg0 _ O rfl T y v) ?_
    symm
    have S:∀c,Zw (M1++ .lst (((gra g O).take i).map Nd.d)::(N++[.lst c])) (M1.length+(N.length+1))=some c:=fun c=>by rw[We];show Yp N _ []
    refine⟨_,S _,by rw[Z4,Ag,Hu];rw[Ht] at J ⊢;show Z2 'o',?_⟩
    symm
    rw[Vn,List.set_cons_succ,Rl,<-Zv]
    refine F _ _ ⟨_,rfl,?_⟩
    symm
    rw[V7 m,Ai]
    rfl
   .rintro f k ⟨h,rfl,rfl⟩
    rw[Z4,Dr]
    refine⟨d,d.gs.reverse.map fun y=>O.idxOf y,_,rfl,by simp,.inl ⟨_,rfl,by rw[Yl];show Xh N _ []⟩,?_⟩
    rw[Nd.wt_to]
    symm
    refine⟨_,Yp _ _ _,by rw[Ag,Hu,W9];show Z2 'o',?_⟩
    symm
    rw[Rl]
    refine H _ _ ⟨_,N++[.lst (natD (d.gs.reverse.map fun y=>O.idxOf y))],rfl,?_⟩
    symm
    rw[V7 (Fn e t),Ai]
    rfl
  .rintro f k ⟨h,N,rfl,rfl⟩
   symm
   refine q _ _ (o.app _) ?_ ?_
   .rw[Z4,<-W9 g O,Dr]
    show Yp _ _ _
   .let⟨X,rfl⟩:=o;rw[Ae];lia
end
structure DLs(M:Z1)(lo:Nat)(kvs:KQ9)(ps:LQ)(at_:Nat->Nat)(h:Nat->LQ):Prop where
 eq:kvs=ps.map fun(p:Nat)=>((Du (p:Int),D.ref (at_ p)):Key×D)
 inj:∀p∈ps,∀q∈ps,at_ p=at_ q->p=q
 lo:∀p∈ps,lo<=at_ p
 cell:∀p∈ps,M[at_ p]?=some (.lst (natD (h p)))
def Zf4:∀(n:Nat) (ps:KQ9),ps.length=n->(ps.map (·.1)).Nodup->S5 ps=ps
 | 0,ps,h,_=>by rw[Hz.mp h];rfl
 | n+1,ps,h,e=>by
  have a:ps≠[]:=by rintro rfl;cases h
  obtain⟨b,y,rfl⟩:∃b y,ps=b++[y]:=⟨ps.dropLast,ps.getLast a,(Ic a).symm⟩
  rw[Ae,Ay] at h
  rw[Ai] at e
  let⟨d,_,c⟩:=Dq.mp e
  rw[Pc,Zf4 n b 'o' d]
  unfold putD
  rw[nc]
  intro z
  let⟨f,i,g⟩:=Kt.mp z
  rw[decide_eq_true_eq] at g
  show c f.1 (De.mpr ⟨f,i,rfl⟩) y.1 (by simp) g
def Y94{ps:LQ}(h:ps.Nodup)(f:Nat->D):((ps.map fun(p:Nat)=>((Du (p:Int),f p):Key×D)).map (·.1)).Nodup:=by
 rw[Ii]
 show Mh.map _ (fun a b c z=>c (by have:=My z;lia)) h
def Nr{ps:LQ}(h:ps.Nodup)(f:Nat->D):S5 (ps.map fun(p:Nat)=>((Du (p:Int),f p):Key×D))=ps.map fun(p:Nat)=>((Du (p:Int),f p):Key×D):=Zf4 _ _ rfl (Y94 h f)
def Jo{ps:LQ}(f:Nat->D)(p:Nat):valD (ps.map fun(p:Nat)=>((Du (p:Int),f p):Key×D)) (Du (p:Int))=if p∈ps then some (f p) else none:=by
 unfold valD
 induction ps with
 | nil=>rfl
 | cons x r a=>
  rw[Ch,Ie]
  by_cases e:x=p
  .subst e;simp
  .have:decide ((Du (x:Int):Key)=Du (p:Int))=false:=by
    rw[decide_eq_false_iff_not];intro z;show e (by have:=My z;lia)
   rw[this]
   simp only
   rw[a]
   have b:¬p=x:=fun z=>e z.symm
   simp[b]
def Zm6{c:Cell}:(M++c::N)[M.length]?=some c:=by simp
def DLs.ga{M:Z1}{lo a:Nat}{kvs:KQ9}{ps:LQ}{b:Nat->Nat}{h:Nat->LQ}(l:DLs M lo kvs ps b h)(f:M[a]?=some (.dct kvs)):GA M a (·∈ps) h:=by
 intro p c g e F q
 let⟨N,rfl⟩:=e
 refine ix_d (cD (Z5 f)) rfl (d:= .ref (b p)) ?_ (q _ (cL (Z5 (l.cell p c))))
 rw[l.eq,Jo,ng c]
def Y20{a:Nat}{gs:List (LQ)}(h:readL M a=some (gs.map fun l=> .tup (natD l))):GA M a (· <gs.length) (fun p=>gs.getD p []):=by
 intro p e f c F q
 have b:gs[p]?=some gs[p]:=Aa e
 refine ix_l (k:=p) (c.L h) (d:= .tup (natD gs[p])) (by rw[Aw,b];rfl) (q _ ?_)
 change some (natD gs[p])=some (natD (gs.getD p []))
 rw[Af,b]
 rfl
def Nf:DSp:=fun h M Q _=>∃(a b:Nat) (e:List (LQ)) (c:LQ),h=[.ref a,.ref b]/\readL M a=some (e.map fun l=> .tup (natD l))/\readL M b=some (natD c)/\c.Nodup/\c.length<=2000/\(∀p∈c,p<e.length)/\(∀l∈e,l.length<=2)/\
 ∀f r d g,Kp M f->M.length<=r->f[r]?=some (.dct d)->DLs f M.length d c g (fun p=>(e.getD p []).filter (·∈c))->Q (.ref r) f
def Xy(ps:LQ):LD:=ps.map fun(p:Nat)=> .tup [.int (p:Nat),.bl true]
section
variable{K:Ac}
def Y1{i:Nat}{d:D}(h:(natD ps)[i]?=some d):∃p,ps[i]?=some p/\d= .int (p:Nat):=by
 unfold natD at h
 rw[Aw,Ho] at h
 let⟨x,a,e⟩:=h
 show⟨x,a,e.symm⟩
def Zr{a:Type}{ps:List a}{i:Nat}{p:a}(h:ps[i]?=some p):ps.take (i+1)=ps.take i++[p]:=by
 rw[List.take_add_one,h];rfl
def among{c:Cfg}{a:DEnv}{b i:Nat}(hi:a[i]?=some (↑b))(g:readL M b=some (natD ps))(h:ps.Nodup)(n:ps.length<=2000)(l:js=[none])
  (q:Q (.ref (M.length+1)) (M++[.lst (Xy ps)]++[.dct (begD ps)])):te c Z (.bf .dict1 (.cons (.comp N js [0] (.seq (.var i)) .no (.tup (.cons (.var 0) (.cons (.bl true) .nil)))) .nil)) a M Q:=by
 subst l
 dsimp only[te,tes,tit]
 rw[hi]
 dsimp only[itD]
 refine⟨_,g,?_⟩
 refine Zn (fun i a f=>∃d,a=[d]/\f=M++[.lst (Xy (ps.take i))]) ⟨none,rfl,rfl⟩ ?_ ?_ ?_
 .rintro i a f _ ⟨d,rfl,rfl⟩
  show Z6 g
 .rintro i o a f C j ⟨d,rfl,rfl⟩ m
  let⟨p,k,rfl⟩:=Y1 j
  rfl'
  refine⟨Z0 'd',_,cW Zb,by unfold Xy;rw[Ag];show Z2 (by simp;lia),?_⟩
  refine m _ _ ⟨_,rfl,?_⟩
  rw[Dj _ _ (na _),Nat.sub_self,Zr k]
  unfold Xy
  rw[Ai]
  rfl
 .rintro a f ⟨d,rfl,rfl⟩
  have e:(natD ps).length=ps.length:=Z4 _
  rw[e,Dr]
  change bfD _ _ _ _ _
  rw[bf_dict]
  refine .inr ⟨ps.map fun(p:Nat)=>((Du (p:Int),D.bl true):Key×D),?_,by rw[Ag];show Z2 'o',?_⟩
  .rw[cL Zb]
   unfold U.Yk Xy
   rw[Ii]
   rfl
  .rw[Nr h (fun _=> .bl true)]
   have:(M++[Cell.lst (Xy ps)]).length=M.length+1:=by simp
   rw[this]
   show q
def Yh{l:LQ}{i p:Nat}(f:Nat->Bool)(h:l[i]?=some p):(l.take (i+1)).filter f=(l.take i).filter f++(if f p=true then [p] else []):=by
 rw[Zr h,List.filter_append]
 by_cases e:f p=true
 .rw[ng e,List.filter_cons_of_pos e];rfl
 .rw[nc e,List.filter_cons_of_neg e];rfl
def te_pair{c:Cfg}{a:DEnv}{d:D}(h0:a[0]?=some (some d))(h:te c X e a M fun y b=>2<=sizeLine/\Q (.tup [d,y]) b):te c X (.tup (.cons (.var 0) (.cons e .nil))) a M Q:=by
 simp only[te,tes,h0]
 show h
def Z84{c:Cfg}{a:DEnv}{b i:Nat}{xs:LD}{d:E}(hi:a[i]?=some (↑b))(e:readL M b=some xs)
  (h:Ri (.lst b) xs [0] (fun _ M P=>P true M) (te c noX d) M.length xs (capD js a) (M++[.lst []]) fun f=>bfD c.K .dict1 [.ref M.length] f Q):te c Z (.bf .dict1 (.cons (.comp N js [0] (.seq (.var i)) .no d) .nil)) a M Q:=by
 dsimp only[te,tes,tit]
 rw[hi]
 dsimp only[itD]
 show⟨_,e,h⟩
def Y43{c:Cfg}{a j p:Nat}{gs:List (LQ)}(v:readL M a=some (gs.map fun l=> .tup (natD l)))(s:M[j]?=some (.dct (begD ps)))(r:p<gs.length)(w:∀l∈gs,l.length<=2)
  (q:Q (.ref M.length) (M++[.lst (natD ((gs.getD p []).filter (·∈ps)))])):te c noX (.comp N [none,some 2] [0] (.seq (.ix (.var 1) (.var 0))) (.yes (.cmp .isin (.var 0) (.var 1))) (.var 0)) [some (.int (p:Nat)),↑a,↑j] M Q:=by
 have f:gs[p]?=some gs[p]:=Aa r
 have x:gs.getD p []=gs[p]:=by rw[Af,f];rfl
 have u:=w _ (As f)
 rw[x] at q
 generalize gs[p]=l at f u q
 rfl'
 refine ix_l (k:=p) v (d:= .tup (natD l)) (by rw[Aw,f];rfl) ?_
 rfl'
 simp only[capD,Ch,Dp,Hk,Go,Ha,Dz,Hl]
 refine Zn (fun i b h=>∃d,b=[d,↑j]/\h=M++[.lst (natD ((l.take i).filter (·∈ps)))]) ⟨none,rfl,rfl⟩ ?_ ?_ ?_
 .rintro i b h _ _
  trivial
 .rintro i y b h C o ⟨d,rfl,rfl⟩ n
  let⟨t,m,rfl⟩:=Y1 o
  rfl'
  refine .inr (.inl ⟨begD ps,_,cD (Z5 s),rfl,?_⟩)
  rfl'
  rw[Wz]
  by_cases g:t∈ps
  .rw[ng ↥g]
   rfl'
   refine⟨_,cW Zb,by rw[Z4];show Z2 (ni (Hg _ _) (by simp;lia)),?_⟩
   refine n _ _ ⟨_,rfl,?_⟩
   rw[Dj _ _ (na _),Nat.sub_self,Yh _ m,ng ↥g,Zv]
   rfl
  .rw[nc ↥g]
   rfl'
   refine n _ _ ⟨_,rfl,?_⟩
   rw[Yh _ m,nc ↥g,Hd]
 .rintro b h ⟨d,rfl,rfl⟩
  have e:(natD l).length=l.length:=Z4 _
  rw[e,Dr]
  show q
def Zw0{Γ G}:Rd K Γ G Nf Ve Vo:=by
 rintro v M Q Z ⟨a,b,u,c,rfl,F,t,n,E,h,O,q⟩
 simp only[Ve,Vo,tss_cons,tss_nil]
 simp only[ts]
 refine among rfl t n E rfl ?_
 have g:Kp M (M++[.lst (Xy c)]++[.dct (begD c)]):=(Kp.new _ _).app _
 have j:(M++[.lst (Xy c)]++[.dct (begD c)]:Z1)[M.length+1]?=some (.dct (begD c)):=by
  have:=@Zb (M++[.lst (Xy c)]) (.dct (begD c))
  rwa[show(M++[Cell.lst (Xy c)]).length=M.length+1 by simp] at this
 generalize M++[.lst (Xy c)]++[.dct (begD c)]=M1 at g j
 rw[tg_one]
 refine Z8 ?_
 simp only[tss_cons,tss_nil,ts]
 change te _ noX _ [↑a,↑b,some (.ref (M.length+1))] M1 Q
 refine Z84 rfl (g.L t) ?_
 have H:∀N:Z1,readL (M1++N) a=some (u.map fun l=> .tup (natD l)):=fun N=>Z6 (g.L F)
 have J:∀N:Z1,(M1++N)[M.length+1]?=some (.dct (begD c)):=fun N=>Z5 j
 refine Zn (fun i k m=>∃d,k=[d,↑a,some (.ref (M.length+1))]/\m=M1++ .lst ((c.take i).map fun(p:Nat)=> .tup [.int (p:Nat),.ref (M1.length+1+c.idxOf p)])::((c.take i).map fun p=> .lst (natD ((u.getD p []).filter (·∈c))))) ⟨none,rfl,rfl⟩ ?_ ?_ ?_
 .rintro i k m _ ⟨d,rfl,rfl⟩
  show Z6 (g.L t)
 .rintro i R k m C B ⟨d,rfl,rfl⟩ I
  let⟨p,f,rfl⟩:=Y1 B
  have o:=As f
  let⟨x,r⟩:=Ab.mp f
  have A:c.idxOf p=i:=by rw[<-r];show ND.Rh n x
  change te _ noX _ [some (.int (p:Nat)),_,_] _ _
  refine te_pair rfl (Y43 (H _) (J _) (h p o) O ?_)
  have z:(M1++ .lst ((c.take i).map fun(p:Nat)=> .tup [.int (p:Nat),.ref (M1.length+1+c.idxOf p)])::((c.take i).map fun p=> .lst (natD ((u.getD p []).filter (·∈c)))):Z1).length=M1.length+1+c.idxOf p:=by
   rw[A];simp[Nat.min_eq_left (Nat.le_of_lt x)];lia
  rw[z]
  refine⟨Z0 'd',_,cW (Z5 Zm6),by rw[Ag];show Z2 (by simp;lia),?_⟩
  refine I _ _ ⟨_,rfl,?_⟩
  rw[Zr f,Ai,Ai,Ar,Ih,Dj _ _ (na _),Nat.sub_self]
  rfl
 .rintro k m ⟨d,rfl,rfl⟩
  have e:(natD c).length=c.length:=Z4 _
  rw[e,Dr]
  change bfD _ _ _ _ _
  rw[bf_dict]
  refine .inr ⟨c.map fun(p:Nat)=>((Du (p:Int),D.ref (M1.length+1+c.idxOf p)):Key×D),?_,by rw[Ag];show Z2 'o',?_⟩
  .refine(cL Zm6).trans ?_
   unfold U.Yk
   rw[Ii]
   rfl
  .rw[Nr n]
   let⟨P,rfl⟩:=g
   refine q _ _ _ (fun p=>(M++P).length+1+c.idxOf p) ⟨_,by rw[Ar,Ar]⟩ (by simp only[Ae];lia) Zb ⟨rfl,fun p h w s e=>?_,fun p _=>by simp only[Ae];lia,fun p h=>Z5 ?_⟩
   .have:c.idxOf p=c.idxOf w:='o'
    have y:c[c.idxOf p]'(Dt h)=c[c.idxOf w]'(Dt s):=by congr 1
    rw[Ir,Ir] at y
    show y
   .rw[Nat.add_assoc,Di 'o',Nat.add_sub_cancel_left,Nat.add_comm 1,Dz,Aw,Aa (Dt h),Ir]
    rfl
end
def Fh(ps:LQ)(f:Nat->D):Xz (ps.map fun(p:Nat)=>((Du (p:Int),f p):Key×D))=natD ps:=by
 unfold Xz natD
 rw[Ii]
 rfl
def Ed{M N:Z1}{a:Nat}{c:Cell}{kvs:KQ9}(h:M[a]?=some (.dct kvs)):(M.set a c++N).set a (.dct kvs)=M++N:=by
 have b:=c_lt h
 rw[Kh _ _ ↥b,Lf]
 congr 1
 refine Hm fun i=>?_
 by_cases e:a=i
 .subst e;rw[Dm b,h]
 .rw[Dh e]
structure Tst(M M':Z1)(a fr:Nat)(kvs:KQ9)(ps:LQ)(at2:Nat->Nat)(acc:Nat->LQ):Prop where
 fz:M'[a]?=some (.fdc kvs)
 kp:Kp M (M'.set a (.dct kvs))
 gr:M.length<=fr
 fd:M'[fr]?=some (.dct (ps.map fun(p:Nat)=>((Du (p:Int),D.ref (at2 p)):Key×D)))
 lo:∀p∈ps,M.length<=at2 p
 inj:∀p∈ps,∀q∈ps,at2 p=at2 q->p=q
 cell:∀p∈ps,M'[at2 p]?=some (.lst (natD (acc p)))
def Tst.put{a f:Nat}{at2:Nat->Nat}{b:Nat->LQ}(h:Tst M j a f kvs ps at2 b)(m:a<M.length)(c:g∈ps)(l:LQ):
  Tst M (j.set (at2 g) (.lst (natD l))) a f kvs ps at2 (fun q=>if q=g then l else b q):=by
 have k:=h.lo g c
 have i:=h.cell g c
 refine⟨c_ne h.fz 'o',?_,h.gr,c_ne h.fd fun e=>?_,h.lo,h.inj,fun p d=>?_⟩
 .rw[List.set_comm _ _ 'o']
  show h.kp.set k
 .have:=h.fd;rw[<-e,i] at this;cases this
 .by_cases e:p=g
  .subst e;rw[ng rfl];show X5 i
  .rw[nc e]
   show c_ne (h.cell p d) fun z=>e (h.inj g c p d z).symm
def Tst.old{M d:Z1}{a f i:Nat}{at2:Nat->Nat}{c:Nat->LQ}{xs:LD}(h:Tst M d a f kvs ps at2 c)(hi:M[i]?=some (.lst xs)):d[i]?=some (.lst xs):=by
 let⟨N,e⟩:=h.kp
 have b:(d.set a (.dct kvs))[i]?=some (.lst xs):=by rw[e];show Z5 hi
 by_cases z:a=i
 .subst z
  rw[X5 h.fz] at b;cases b
 .rw[Dh z] at b;show b
def Z31{c:Cfg}{b:DEnv}{a i:Nat}{d:E}(hi:b[i]?=some (↑a))(e:Zx M a=some kvs)
  (h:Ri (.dct a) (Xz kvs) [0] (fun _ M P=>P true M) (te c noX d) M.length (Xz kvs) (capD js b) (M.set a (.fdc kvs)++[.lst []]) fun g=>Zm9 a g fun f=>bfD c.K .dict1 [.ref M.length] f Q):te c Z (.bf .dict1 (.cons (.compK N js [0] (.var i) d) .nil)) b M Q:=by
 dsimp only[te,tes]
 rw[hi]
 show⟨kvs,e,h⟩
def into(h:Nat->LQ)(ps:LQ)(g:Nat):LQ:=ps.flatMap fun p=>((h p).filter (·=g)).map fun _=>p
def Oy:∀{ps:LQ},(∀p∈ps,(h p).length<=2)->(into h ps g).length<=2 * ps.length
 | [],_=>nq _
 | p::r,a=>by
  have c:=Oy (ps:=r) (g:=g) fun p b=>a p (Aj _ b)
  have e:=a p Db
  have d:(((h p).filter (·=g)).map fun _=>p).length<=(h p).length:=by rw[Ag];show Hg _ _
  show(((((h p).filter (·=g)).map fun _=>p))++into h r g).length<=_
  rw[Ae,Ex]
  lia
def Ow:DSp:=fun j M Q _=>∃(a i:Nat) (c:KQ9) (b:LQ) (f:Nat->Nat) (h:Nat->LQ),j=[.ref a]/\M[a]?=some (.dct c)/\DLs M i c b f h/\b.Nodup/\b.length<=2000/\(∀p∈b,(h p).length<=2/\∀t∈h p,t∈b)/\
 ∀e r d g,Kp M e->M.length<=r->e[r]?=some (.dct d)->DLs e M.length d b g (into h b)->Q (.ref r) e
section
variable{K:Ac}
def Z53{Γ G}{a lo o:Nat}{A at2:Nat->Nat}(T:M[a]?=some (.dct kvs))(B:DLs M lo kvs ps A h)(nd:ps.Nodup)(S:∀p∈ps,(h p).length<=2/\∀t∈h p,t∈ps)(hl:ps.length<=2000)
  (X:Kp M F) (U:M.length<=o) (fd:F[o]?=some (.dct (ps.map fun(p:Nat)=>((Du (p:Int),D.ref (at2 p)):Key×D)))) (k:∀p∈ps,M.length<=at2 p) (v:∀p∈ps,∀q∈ps,at2 p=at2 q->p=q) (cl:∀p∈ps,F[at2 p]?=some (.lst (natD [])))
  (q:∀b r u at2,Kp M b->M.length<=r->b[r]?=some (.dct u)->DLs b M.length u ps at2 (into h ps)->Q (.ref r) b):
  tss ⟨K,Γ,G⟩ noX (.cons (.forK [2] (.var 0) To) Tf) {nx:=fun _ M=>Q .non M,rt:=Q} [↑a,↑o,none,none] F:=by
 have V:=c_lt T
 have R:Xz kvs=natD ps:=by rw[B.eq];show Fh _ _
 let⟨O,rfl⟩:=X
 have L:(M++O)[a]?=some (.dct kvs):=Z5 T
 simp only[tss_cons,ts]
 change te _ noX _ _ _ _
 dsimp only[te,Ha]
 refine⟨kvs,cD L,?_⟩
 rw[R]
 refine Yg (fun i f b=>∃E n,f=[↑a,↑o,E,n]/\Tst M b a o kvs ps at2 (into h (ps.take i))) ⟨none,none,rfl,?_⟩ ?_ ?_ ?_
 .have e0:((M++O).set a (.fdc kvs)).set a (.dct kvs)=M++O:=by
   have:=Ed (N:=[]) (c:= .fdc kvs) L
   rwa[Hd,Hd] at this
  refine⟨Dm (c_lt L),by rw[e0];show Kp.new _ _,U,c_ne fd 'o',k,v,fun p s=>c_ne (cl p s) (by have:=k p s;lia)⟩
 .rintro i f b _ ⟨E,n,rfl,t⟩
  show⟨kvs,t.fz,R.symm⟩
 .rintro i dx f b C H ⟨E,n,rfl,t⟩ Z
  let⟨p,x,rfl⟩:=Y1 H
  have l:=As x
  let⟨Y,I⟩:=S p l
  rw[tg_one]
  simp only[To,tss_cons,tss_nil,ts,tit]
  dsimp only[te,List.set_cons_succ,List.set_cons_zero,Ha,Dz]
  refine ix_f t.fz rfl (d:= .ref (A p)) (by rw[B.eq,Jo,ng l]) ?_
  refine⟨_,cL (t.old (B.cell p l)),?_⟩
  refine Yg (fun j f b=>∃n,f=[↑a,↑o,some (.int (p:Nat)),n]/\Tst M b a o kvs ps at2 (fun g=>into h (ps.take i) g++(((h p).take j).filter (·=g)).map fun _=>p)) ⟨_,rfl,↥t⟩ ?_ ?_ ?_
  .rintro j f b _ ⟨n,rfl,t⟩
   show cL (t.old (B.cell p l))
  .rintro j dx f b C2 H ⟨n,rfl,t⟩ J
   let⟨g,y,rfl⟩:=Y1 H
   have m:=I g (As y)
   rw[tg_one]
   delta O7
   rfl'
   refine ix_d (cD t.fd) rfl (d:= .ref (at2 g)) (by rw[Jo,ng m]) ?_
   rfl'
   have W:(into h (ps.take i) g).length<=2 * (ps.take i).length:=Oy fun p s=>(S p (List.mem_of_mem_take s)).1
   have l2:((((h p).take j).filter (·=g)).map fun _=>p).length<=(h p).length:=by
    rw[Ag]
    show ni (Hg _ _) (by simp;lia)
   rw[Hu] at W
   refine⟨Z9 (cL (t.cell g m)),_,cW (t.cell g m),by rw[Z4,Ae];show Z2 'o',?_⟩
   rfl'
   refine J _ _ ⟨_,rfl,?_⟩
   rw[<-Zv]
   have P:=t.put V m (into h (ps.take i) g++((((h p).take j).filter (·=g)).map fun _=>p)++[p])
   have e:(fun q=>if q=g then into h (ps.take i) g++((((h p).take j).filter (·=g)).map fun _=>p)++[p] else into h (ps.take i) q++(((h p).take j).filter (·=q)).map fun _=>p)=fun q=>into h (ps.take i) q++(((h p).take (j+1)).filter (·=q)).map fun _=>p:=by
    funext z
    rw[Yh _ y,Ai]
    by_cases e:z=g
    .subst e
     rw[ng rfl,ng (by simp),Ar]
     rfl
    .rw[nc e,nc (by simpa using fun w=>e w.symm),Dp,Hd]
   rw[e] at P
   show P
  .rintro f b ⟨n,rfl,t⟩
   refine Z _ _ ⟨_,_,rfl,?_⟩
   rw[Z4,Dr] at t
   have e:into h (ps.take (i+1))=fun g=>into h (ps.take i) g++((h p).filter (·=g)).map fun _=>p:=by
    funext g
    unfold into
    rw[Zr x,List.flatMap_append]
    simp
   rw[e]
   show t
 .rintro f b ⟨E,n,rfl,t⟩
  rw[Z4,Dr] at t
  refine⟨kvs,t.fz,?_⟩
  refine Z8 ?_
  simp only[Tf,tss_cons,tss_nil,ts]
  dsimp only[te,Ha,Dz]
  refine q _ o _ at2 t.kp U (c_ne t.fd 'o') ⟨rfl,v,k,fun p s=>c_ne (t.cell p s) (by have:=k p s;lia)⟩
def Zl1{Γ G}:Rd K Γ G Ow Ce Ca:=by
 rintro u M Q Z ⟨a,S,c,b,R,h,rfl,j,F,l,N,O,q⟩
 have y:Xz c=natD b:=by rw[F.eq];show Fh _ _
 have x:=c_lt j
 simp only[Ce,Ca,tss_cons,tss_nil,ts]
 refine Z31 rfl (cD j) ?_
 rw[y]
 refine Zn (fun i g k=>∃d,g=[d]/\k=M.set a (.fdc c)++ .lst ((b.take i).map fun(p:Nat)=> .tup [.int (p:Nat),.ref (M.length+1+b.idxOf p)])::((b.take i).map fun _=> .lst (natD []))) ⟨none,rfl,rfl⟩ ?_ ?_ ?_
 .rintro i g k _ ⟨d,rfl,rfl⟩
  show⟨c,Z5 (Dm x),y.symm⟩
 .rintro i T g k C L ⟨d,rfl,rfl⟩ P
  let⟨p,f,rfl⟩:=Y1 L
  let⟨A,o⟩:=Ab.mp f
  have J:b.idxOf p=i:=by rw[<-o];show ND.Rh l A
  change te _ noX _ [some (.int (p:Nat))] _ _
  refine te_pair rfl ?_
  dsimp only[te,tes]
  have I:(M.set a (.fdc c)++ .lst ((b.take i).map fun(p:Nat)=> .tup [.int (p:Nat),.ref (M.length+1+b.idxOf p)])::((b.take i).map fun _=> .lst (natD [])):Z1).length=M.length+1+b.idxOf p:=by
   rw[J];simp[Nat.min_eq_left (Nat.le_of_lt A)];lia
  rw[I]
  have w:M.length=(M.set a (.fdc c)).length:=by simp
  refine⟨Z0 'd',Z0 'd',_,cW (Z5 (by rw[w];show Zm6)),by rw[Ag];show Z2 (by simp;lia),?_⟩
  refine P _ _ ⟨_,rfl,?_⟩
  rw[Zr f,Ai,Ai,Ar,Ih]
  rw[w,Dj _ _ (na _),Nat.sub_self]
  rfl
 .rintro g k ⟨d,rfl,rfl⟩
  have e:(natD b).length=b.length:=Z4 _
  rw[e,Dr]
  refine⟨c,Z5 (Dm x),?_⟩
  rw[Ed j]
  change bfD _ _ _ _ _
  rw[bf_dict]
  refine .inr ⟨b.map fun(p:Nat)=>((Du (p:Int),D.ref (M.length+1+b.idxOf p)):Key×D),?_,by rw[Ag];show Z2 'o',?_⟩
  .refine(cL Zm6).trans ?_
   unfold U.Yk
   rw[Ii]
   rfl
  rw[Nr l]
  have z:Kp M (M++ .lst (b.map fun(p:Nat)=> .tup [.int (p:Nat),.ref (M.length+1+b.idxOf p)])::(b.map fun _=> .lst (natD []))++[.dct (b.map fun(p:Nat)=>((Du (p:Int),D.ref (M.length+1+b.idxOf p)):Key×D))]):=⟨_,Ar _ _ _⟩
  have t:(M++ .lst (b.map fun(p:Nat)=> .tup [.int (p:Nat),.ref (M.length+1+b.idxOf p)])::(b.map fun _=> .lst (natD []))++[.dct (b.map fun(p:Nat)=>((Du (p:Int),D.ref (M.length+1+b.idxOf p)):Key×D))]:Z1)[(M++ .lst (b.map fun(p:Nat)=> .tup [.int (p:Nat),.ref (M.length+1+b.idxOf p)])::(b.map fun _=> .lst (natD [])):Z1).length]?=_:=Zb
  have H:∀p∈b,(M++ .lst (b.map fun(p:Nat)=> .tup [.int (p:Nat),.ref (M.length+1+b.idxOf p)])::(b.map fun _=> .lst (natD []))++[.dct (b.map fun(p:Nat)=>((Du (p:Int),D.ref (M.length+1+b.idxOf p)):Key×D))]:Z1)[M.length+1+b.idxOf p]?=some (.lst (natD [])):=fun p s=>by
   refine Z5 ?_
   rw[Nat.add_assoc,Di 'o',Nat.add_sub_cancel_left,Nat.add_comm 1,Dz,Aw,Aa (Dt s)]
   rfl
  have E:M.length<=(M++ .lst (b.map fun(p:Nat)=> .tup [.int (p:Nat),.ref (M.length+1+b.idxOf p)])::(b.map fun _=> .lst (natD [])):Z1).length:=by rw[Ae];lia
  generalize (M++ .lst (b.map fun(p:Nat)=> .tup [.int (p:Nat),.ref (M.length+1+b.idxOf p)])::(b.map fun _=> .lst (natD []))++[.dct (b.map fun(p:Nat)=>((Du (p:Int),D.ref (M.length+1+b.idxOf p)):Key×D))]:Z1)=M1 at z t H ⊢
  generalize (M++ .lst (b.map fun(p:Nat)=> .tup [.int (p:Nat),.ref (M.length+1+b.idxOf p)])::(b.map fun _=> .lst (natD [])):Z1).length=fr at t E ⊢
  have n:∀p∈b,∀q∈b,M.length+1+b.idxOf p=M.length+1+b.idxOf q->p=q:=fun p s v r e=>by
   have:b.idxOf p=b.idxOf v:='o'
   have B:b[b.idxOf p]'(Dt s)=b[b.idxOf v]'(Dt r):=by congr 1
   rw[Ir,Ir] at B
   show B
  have m:∀p∈b,M.length<=M.length+1+b.idxOf p:=fun p _=>by lia
  rw[tg_one]
  refine Z8 ?_
  show Z53 (at2:=fun p=>M.length+1+b.idxOf p) j F l O N z E t m n H q
end
structure CT(gf:Nat->LQ)(T0 starts R:LQ):Prop where
 nd:(T0++R).Nodup
 src:∀(i p:Nat),R[i]?=some p->p∈starts\/∃j q:Nat,j<i/\R[j]?=some q/\p∈gf q
 st:∀x∈starts,x∈T0\/x∈R
 cl:∀q∈R,∀t∈gf q,t∈T0\/t∈R
structure CI(gf:Nat->LQ)(T0 starts R L:LQ):Prop where
 nd:(T0++R).Nodup
 src:∀(i p:Nat),R[i]?=some p->p∈starts\/∃j q:Nat,j<i/\R[j]?=some q/\p∈gf q
 st:∀x∈starts,x∈T0\/x∈R\/x∈L
 cl:∀q∈R,∀t∈gf q,t∈T0\/t∈R\/t∈L
 lf:∀x∈L,x∈starts\/∃(j q:Nat),R[j]?=some q/\x∈gf q
section
variable{gf:Nat->LQ}{T0 starts R L:LQ}{p:Nat}
def CI.begin(h:T0.Nodup):CI gf T0 starts [] starts:=⟨↥h,fun i p h=>by simp at h,fun x a=> .inr (.inr a),fun q b=>by simp at b,fun x a=> .inl a⟩
def CI.fin(h:CI gf T0 starts R []):CT gf T0 starts R:=⟨h.nd,h.src,fun x a=>(h.st x a).imp id fun z=>z.elim id fun z=>by simp at z,fun q c t b=>(h.cl q c t b).imp id fun z=>z.elim id fun z=>by simp at z⟩
def CI.skip(h:CI gf T0 starts R (L++[p]))(e:p∈T0++R):CI gf T0 starts R L:=by
 have b:∀x,(x∈T0\/x∈R\/x∈L++[p])->x∈T0\/x∈R\/x∈L:=fun x a=>by
  rcases a with a | a | a
  .exact .inl a
  .exact .inr (.inl a)
  .rcases Au.mp a with a | a
   .exact .inr (.inr a)
   .rw[An] at a
    subst a
    show(Au.mp e).imp id .inl
 show⟨h.nd,h.src,fun x a=>b x (h.st x a),fun q d t c=>b t (h.cl q d t c),fun x a=>h.lf x (Dg _ a)⟩
def CI.take(h:CI gf T0 starts R (L++[p]))(o:p∉T0++R):CI gf T0 starts (R++[p]) (L++gf p):=by
 have g:∀x,(x∈T0\/x∈R\/x∈L++[p])->x∈T0\/x∈R++[p]\/x∈L++gf p:=fun x b=>by
  rcases b with b | b | b
  .exact .inl b
  .exact .inr (.inl (Dg _ b))
  .rcases Au.mp b with b | b
   .exact .inr (.inr (Dg _ b))
   .exact .inr (.inl (Dd _ b))
 have d:∀(j q:Nat),R[j]?=some q->(R++[p])[j]?=some q:=fun j q e=>by rw[Az (Ab.mp e).1];show e
 refine⟨?_,fun i x e=>?_,fun x b=>g x (h.st x b),fun q f t m=>?_,fun x b=>?_⟩
 .rw[<-Ar]
  show Dq.mpr ⟨h.nd,by simp,fun a s c n=>by rw[An] at n;subst n;show fun z=>o (z ▸ s)⟩
 .by_cases r:i<R.length
  .rw[Az r] at e
   rcases h.src i x e with z | ⟨j,q,h1,h2,h3⟩
   .exact .inl z
   .exact .inr ⟨j,q,h1,d j q h2,h3⟩
  .have l:=e
   rw[Di 'o'] at l
   have k:i=R.length:=by
    have:=(Ab.mp e).1
    simp at this;lia
   subst k
   simp at l
   subst l
   rcases h.lf p (by simp) with z | ⟨j,q,h2,h3⟩
   .exact .inl z
   .exact .inr ⟨j,q,(Ab.mp h2).1,d j q h2,h3⟩
 .rcases Au.mp f with f | f
  .exact g t (h.cl q f t m)
  .rw[An] at f
   subst f
   show .inr (.inr (Dd _ m))
 .rcases Au.mp b with b | b
  .rcases h.lf x (Dg _ b) with z | ⟨j,q,h2,h3⟩
   .exact .inl z
   .exact .inr ⟨j,q,d j q h2,h3⟩
  .exact .inr ⟨R.length,p,by simp,b⟩
end
structure Cst(M M':Z1)(tk o l:Nat)(T0 R L:LQ):Prop where
 kp:Kp M (M'.set tk (.dct (begD T0)))
 ht:M'[tk]?=some (.dct (begD (T0++R)))
 ho:M'[o]?=some (.lst (natD R))
 hl:M'[l]?=some (.lst (natD L))
 no:M.length<=o
 nl:M.length<=l
 ol:o≠l
section
variable{M M':Z1}{tk o l:Nat}{T0 R L:LQ}
def Cst.put(h:Cst M M' tk o l T0 R L)(b:tk<M.length)(a:LQ):Cst M (M'.set l (.lst (natD a))) tk o l T0 R a:=by
 have:=h.nl
 refine⟨?_,c_ne h.ht 'o',c_ne h.ho h.ol.symm,X5 h.hl,h.no,h.nl,h.ol⟩
 rw[List.set_comm _ _ 'o']
 show h.kp.set h.nl
def Cst.take(h:Cst M M' tk o l T0 R L)(a:tk<M.length)(p:Nat):Cst M ((M'.set tk (.dct (begD (T0++R++[p])))).set o (.lst (natD (R++[p])))) tk o l T0 (R++[p]) L:=by
 have:=h.nl
 have:=h.no
 refine⟨?_,?_,X5 (c_ne h.ho 'o'),c_ne (c_ne h.hl 'o') h.ol,h.no,h.nl,h.ol⟩
 .rw[List.set_comm _ _ 'o',Lf]
  show h.kp.set h.no
 .rw[<-Ar]
  show c_ne (X5 h.ht) 'o'
def Cst.app(h:Cst M M' tk o l T0 R L)(a:tk<M.length)(N:Z1):Cst M (M'++N) tk o l T0 R L:=by
 refine⟨?_,Z5 h.ht,Z5 h.ho,Z5 h.hl,h.no,h.nl,h.ol⟩
 rw[Kh _ _ (c_lt h.ht)]
 show h.kp.app N
def Cst.old{i:Nat}{c:Cell}(h:Cst M M' tk o l T0 R L)(hi:M[i]?=some c)(b:tk≠i):M'[i]?=some c:=by
 let⟨N,e⟩:=h.kp
 have a:(M'.set tk (.dct (begD T0)))[i]?=some c:=by rw[e];show Z5 hi
 rw[Dh b] at a
 show a
end
def Gj:DSp:=fun l M Q _=>∃(a j e k n:Nat) (f:KQ9) (c b d:LQ) (i:Nat->Nat) (h:Nat->LQ),l=[.ref a,.ref j,.ref e]/\M[a]?=some (.dct f)/\DLs M k f c i h/\c.Nodup/\c.length<=1000/\(∀p∈c,(h p).length<=2000/\∀t∈h p,t∈c)/\
 readL M j=some (natD b)/\b.length<=1000/\(∀x∈b,x∈c)/\M[e]?=some (.dct (begD d))/\d.Nodup/\d.length<=1000/\a≠e/\
 ∀R g r,CT h d b R->(∀p∈R,p∈c)->Kp M (g.set e (.dct (begD d)))->g[e]?=some (.dct (begD (d++R)))->g[r]?=some (.lst (natD R))->M.length<=r->Q (.ref r) g
section
variable{K:Ac}
def Y95{Γ G}:Rd K Γ G Gj G8 G5:=by
 rintro J M Q Z ⟨a,Y,l,lo,n,y0,j,b,f,w,h,rfl,ha,O,nd,hl,hh,E,x0,F,e,C,z0,P,q⟩
 have y:=c_lt e
 delta G8 G5
 rfl'
 refine⟨Z0 'd',_,Z6 E,?_⟩
 rfl'
 have V:(M++[Cell.lst []]).length=M.length+1:=by simp
 have U:Cst M (M++[.lst []]++[.lst (natD b)]) l M.length (M.length+1) f [] b:=by
  have e0:(M++[Cell.lst []]++[Cell.lst (natD b)]).set l (.dct (begD f))=M++[.lst []]++[.lst (natD b)]:=by
   have:=Ed (N:=[]) (c:= .dct (begD f)) (Z5 (Z5 e):(M++[Cell.lst []]++[Cell.lst (natD b)])[l]?=_)
   rw[Hd,Hd,Lf] at this
   show this
  refine⟨by rw[e0];show⟨_,Ar _ _ _⟩,?_,Z5 Zb,?_,na _,'o','o'⟩
  .rw[Hd];show Z5 (Z5 e)
  .rw[<-V];show Zb
 rw[V]
 generalize M++[.lst []]++[.lst (natD b)]=M1 at U ⊢
 refine⟨fun m T S=>∃R L W,m=(j.length - R.length) * 2001+L.length/\T=[↑a,↑Y,↑l,↑M.length,some (.ref (M.length+1)),W]/\Cst M S l M.length (M.length+1) f R L/\CI h f b R L/\(∀p∈R,p∈j)/\(∀p∈L,p∈j)/\L.length<=1000+2000 * R.length,⟨_,[],b,none,rfl,rfl,U,CI.begin C,by simp,F,by simp;lia⟩,?_⟩
 rintro m T S ⟨R,L,W,rfl,rfl,s,B,A,I,ll⟩
 rfl'
 refine⟨Z0 'd',?_⟩
 refine O8 (Z6 (cL s.hl)) (cL Zb) ?_
 rfl'
 have i:=s.app y [.lst []]
 generalize S++[.lst []]=M2 at i ⊢
 by_cases k:L=[]
 .subst k
  rw[nc (by simp)]
  delta Qg
  rfl'
  show q R M2 M.length B.fin A i.kp i.ht i.ho (na _)
 .obtain⟨L,p,rfl⟩:∃L' p,L=L'++[p]:=⟨L.dropLast,L.getLast k,(Ic k).symm⟩
  rw[ng (by simp)]
  delta Qe
  rfl'
  have t:p∈j:=I p (by simp)
  have lR:R.length<=j.length:=Dl (Dq.mp B.nd).2.1 A
  refine⟨Z9 (cL i.hl),_,.int (p:Nat),cW i.hl,by rw[Zv];simp,?_⟩
  rfl'
  rw[Zv,Mu]
  have g:=i.put y L
  generalize M2.set (M.length+1) (.lst (natD L))=M3 at g ⊢
  rfl'
  refine .inr (.inl ⟨begD (f++R),_,cD g.ht,rfl,?_⟩)
  rfl'
  rw[Wz]
  rw[Ae,Ay] at ll
  by_cases u:p∈f++R
  .rw[decide_eq_true u]
   try dsimp only
   rw[nc 'd']
   rfl'
   show⟨_,by rw[Ae,Ay];lia,R,L,_,rfl,rfl,g,B.skip u,A,fun x r=>I x (Dg _ r),'o'⟩
  .rw[mh u]
   try dsimp only
   rw[ng rfl]
   rfl'
   have v:∀x∈R++[p],x∈j:=fun x r=>(Au.mp r).elim (A x) fun z=>by rw[An] at z;subst z;show t
   have X:=B.take u
   have D:(R++[p]).length<=j.length:=Dl (Dq.mp X.nd).2.1 v
   rw[Ae,Ay] at D
   refine .inr ⟨begD (f++R),_,cD g.ht,rfl,by rw[Xn,Ae];show Z2 'o',?_⟩
   rfl'
   rw[Wl u]
   refine⟨Z9 (cL (c_ne g.ho 'o')),_,cW (c_ne g.ho 'o'),by rw[Z4];show Z2 'o',?_⟩
   rfl'
   rw[<-Zv]
   have o:=g.take y p
   generalize (M3.set l (.dct (begD (f++R++[p])))).set M.length (.lst (natD (R++[p])))=M4 at o ⊢
   let⟨w0,H⟩:=hh p t
   have ca:M4[w p]?=some (.lst (natD (h p))):=o.old (O.cell p t) (c_dl e (O.cell p t))
   refine⟨Z9 (cL o.hl),ix_d (cD (o.old ha P.symm)) rfl (d:= .ref (w p)) (by rw[O.eq,Jo,ng t]) ?_⟩
   rfl'
   refine⟨_,_,cW o.hl,cW ca,by rw[Z4,Z4];show Z0 'o',?_⟩
   rfl'
   rw[<-Wb]
   refine⟨_,?_,R++[p],L++h p,_,rfl,rfl,o.put y (L++h p),X,v,fun x r=>(Au.mp r).elim (fun z=>I x (Dg _ z)) (H x),by simp only[Ae,Ay];lia⟩
   simp only[Ae,Ay]
   lia
end
def but{c:Cfg}{a:DEnv}{b i j f:Nat}{xs:LQ}(hi:a[i]?=some (↑b))(n:a[j]?=some (some (.int (f:Nat))))(g:readL M b=some (natD xs))(p:xs.length<=2000)
  (q:Q (.ref M.length) (M++[.lst (natD (xs.filter (·≠f)))])):te c Z (.comp N [none,some j] [0] (.seq (.var i)) (.yes (.cmp .ne (.var 0) (.var 1))) (.var 0)) a M Q:=by
 dsimp only[te,tit]
 rw[hi]
 dsimp only[itD]
 refine⟨_,g,?_⟩
 have o:capD [none,some j] a=[none,some (.int (f:Nat))]:=by
  simp only[capD,Ch,Dp,Hk,Go,n,Hl]
 rw[o]
 refine Zn (fun i a h=>∃d,a=[d,some (.int (f:Nat))]/\h=M++[.lst (natD ((xs.take i).filter (·≠f)))]) ⟨none,rfl,rfl⟩ ?_ ?_ ?_
 .rintro i a h _ ⟨d,rfl,rfl⟩
  show Z6 g
 .rintro i r a h C m ⟨d,rfl,rfl⟩ l
  let⟨t,k,rfl⟩:=Y1 m
  rfl'
  by_cases g:t=f
  .rw[nc (by simpa using fun z:¬((t:Int)=(f:Int))=>z 'o')]
   refine l _ _ ⟨_,rfl,?_⟩
   rw[Yh _ k,nc ↥g,Hd]
  .rw[ng (by simpa using fun z:(t:Int)=(f:Int)=>g 'o')]
   rfl'
   refine⟨_,cW Zb,by rw[Z4];show Z2 (ni (Hg _ _) (by simp;lia)),?_⟩
   refine l _ _ ⟨_,rfl,?_⟩
   rw[Dj _ _ (na _),Nat.sub_self,Yh _ k,ng ↥g,Zv]
   rfl
 .rintro a h ⟨d,rfl,rfl⟩
  have e:(natD xs).length=xs.length:=Z4 _
  rw[e,Dr]
  show q
def te_call3{c:Cfg}{e d b:E}{a:DEnv}{sp:DSp}(g:c.Γ[f]?=some sp)(h:te c X e a M fun x k=>te c X d a k fun y j=>te c X b a j fun z i=>sp [x,y,z] i Q X):te c X (.call f (.cons e (.cons d (.cons b .nil)))) a M Q:=by
 simp only[te,tes,g];show h
def te_vv{c:Cfg}{f i j:Nat}{x y:D}{a:DEnv}{sp:DSp}(d:c.Γ[f]?=some sp)(hi:a[i]?=some (some x))(b:a[j]?=some (some y))(h:sp [x,y] M Q X):te c X (.call f (.cons (.var i) (.cons (.var j) .nil))) a M Q:=by
 simp only[te,tes,d,hi,b];show h
def DLs.app{M:Z1}{lo:Nat}{kvs:KQ9}{ps:LQ}{a:Nat->Nat}{h:Nat->LQ}(l:DLs M lo kvs ps a h)(N:Z1):DLs (M++N) lo kvs ps a h:=⟨l.eq,l.inj,l.lo,fun p b=>Z5 (l.cell p b)⟩
def amg(gs:List (LQ))(a:LQ)(p:Nat):LQ:=(gs.getD p []).filter (·∈a)
def Ta:DSp:=fun i M Q _=>∃(a b d f:Nat) (g:List (LQ)) (e c:LQ),i=[.ref a,.ref b,.ref d,.int (f:Nat)]/\readL M a=some (g.map fun l=> .tup (natD l))/\readL M b=some (natD e)/\e.Nodup/\e.length<=1000/\(∀p∈e,p<g.length)/\(∀l∈g,l.length<=2)/\
 readL M d=some (natD c)/\c.length<=1000/\(∀x∈c,x∈e)/\
 ∀R h r,CT (amg g (e.filter (·≠f))) [] (c.filter (·≠f)) R->(∀p∈R,p∈e/\p≠f)->Kp M h->h[r]?=some (.lst (natD R))->M.length<=r->Q (.ref r) h
section
variable{K:Ac}
def Y19{Γ G}(g4:Γ[4]?=some Nf)(g6:Γ[6]?=some Gj):Rd K Γ G Ta Sn Sh:=by
 rintro C M Q Z ⟨a,b,d,f,s,j,c,rfl,ha,hb,H,lt,O,P,B,ld,u,q⟩
 simp only[Sn,Sh,tss_cons,tss_nil]
 simp only[U.ts]
 refine but rfl rfl hb 'o' ?_
 rw[tg_one]
 refine Z8 ?_
 simp only[tss_cons,tss_nil,U.ts]
 have m:Kp M (M++[.lst (natD (j.filter (·≠f)))]):=Kp.new _ _
 have S:(M++[.lst (natD (j.filter (·≠f)))]:Z1)[M.length]?=some (.lst (natD (j.filter (·≠f)))):=Zb
 have e1:(M++[Cell.lst (natD (j.filter (·≠f)))]).length=M.length+1:=by simp
 generalize M++[.lst (natD (j.filter (·≠f)))]=M1 at m S e1 ⊢
 change te _ noX (.call _ (.cons (.call _ (.cons (.var 0) (.cons (.var 4) .nil))) (.cons (.comp _ _ _ _ _ _) (.cons .dict0 .nil)))) [↑a,↑b,↑d,some (.int (f:Nat)),↑M.length] M1 Q
 have k:∀{x:Nat} {l:LQ},x∈l.filter (·≠f)↔x∈l/\x≠f:=fun{x l}=>by rw[Hr];simp
 have T:∀l:LQ,(l.filter (·≠f)).length<=l.length:=fun l=>Hg _ _
 have l1:=T j
 have l2:=T c
 refine te_call3 g6 (te_vv g4 rfl rfl ⟨a,M.length,s,j.filter (·≠f),rfl,m.L ha,cL S,H.filter _,'o',fun p g=>O p (k.mp g).1,P,fun h r w D n lr J dl=>?_⟩)
 refine but rfl rfl (n.L (m.L B)) 'o' ?_
 have k3:Kp M (h++[.lst (natD (c.filter (·≠f)))]++[.dct []]):=((m.trans n).app _).app _
 have W:h.length< (h++[Cell.lst (natD (c.filter (·≠f)))]).length:=by simp
 have X:M1.length<=h.length:=by let⟨N,rfl⟩:=n;rw[Ae];lia
 change Gj [.ref r,.ref h.length,.ref (h++[Cell.lst (natD (c.filter (·≠f)))]).length] (h++[Cell.lst (natD (c.filter (·≠f)))]++[.dct []]) Q noX
 refine⟨r,h.length,_,_,0,w,j.filter (·≠f),c.filter (·≠f),[],D,amg s (j.filter (·≠f)),rfl,Z5 (Z5 J),(dl.app _).app _,H.filter _,'o',fun p g=>⟨?_,fun t o=>?_⟩,cL (Z5 Zb),'o',fun x I=>k.mpr ⟨u x (k.mp I).1,(k.mp I).2⟩,Zb,List.nodup_nil,by simp,fun e=>?_,fun R F V ct hR Y o y v=>?_⟩
 .refine ni (Hg _ _) ?_
  have A:=O p (k.mp g).1
  rw[Af,Aa A]
  have:=P s[p] (Hx _)
  change s[p].length<=2000
  lia
 .have:=(Hr.mp o).2
  simpa using this
 .have:=c_lt J
  lia
 .refine q R F V ct (fun p g=>k.mp (hR p g)) ?_ y ?_
  .let⟨N,e⟩:=Y
   have e2:(h++[Cell.lst (natD (c.filter (·≠f)))]).length=h.length+1:=by simp
   let⟨E,rfl⟩:=m.trans n
   have h5:F=(F.set (M++E++[Cell.lst (natD (c.filter (·≠f)))]).length (.dct (begD []))).set (M++E++[Cell.lst (natD (c.filter (·≠f)))]).length (.dct (begD ([]++R))):=by
    rw[Lf]
    refine Hm fun i=>?_
    by_cases z:(M++E++[Cell.lst (natD (c.filter (·≠f)))]).length=i
    .subst z;rw[Dm (c_lt o),o]
    .rw[Dh z]
   rw[h5,e]
   show Kp.set ⟨_,by rw[Ar,Ar,Ar]⟩ (by simp only[Ae];lia)
  .let⟨N,e⟩:=k3
   have:=congrArg List.length e
   simp only[Ae] at this v
   lia
end
def Z04{y:Nat}(h:y∈B):putD (begD B) (Du (y:Int)) (.bl true)=begD B:=by
 unfold putD
 rw[ng]
 .unfold begD
  rw[Ii]
  refine Hi fun x a=>?_
  show(if (Du (x:Int):Key)=Du (y:Int) then(Du (x:Int),D.bl true) else(Du (x:Int),D.bl true))=_
  split<;>rfl
 .exact Kt.mpr ⟨(Du (y:Int),.bl true),De.mpr ⟨y,h,rfl⟩,by simp⟩
def kept{c:Cfg}{a:DEnv}{b i j g:Nat}{xs B:LQ}(hi:a[i]?=some (↑b))(o:a[j]?=some (↑g))(f:readL M b=some (natD xs))(n:M[g]?=some (.dct (begD B)))(r:xs.length<=2000)
  (q:Q (.ref M.length) (M++[.lst (natD (xs.filter (·∈B)))])):te c Z (.comp N [none,some j] [0] (.seq (.var i)) (.yes (.cmp .isin (.var 0) (.var 1))) (.var 0)) a M Q:=by
 dsimp only[te,tit]
 rw[hi]
 dsimp only[itD]
 refine⟨_,f,?_⟩
 have p:capD [none,some j] a=[none,↑g]:=by
  simp only[capD,Ch,Dp,Hk,Go,o,Hl]
 rw[p]
 refine Zn (fun i a h=>∃d,a=[d,↑g]/\h=M++[.lst (natD ((xs.take i).filter (·∈B)))]) ⟨none,rfl,rfl⟩ ?_ ?_ ?_
 .rintro i a h _ ⟨d,rfl,rfl⟩
  show Z6 f
 .rintro i s a h C m ⟨d,rfl,rfl⟩ l
  let⟨t,k,rfl⟩:=Y1 m
  rfl'
  refine .inr (.inl ⟨begD B,_,cD (Z5 n),rfl,?_⟩)
  rfl'
  rw[Wz]
  by_cases f:t∈B
  .rw[ng ↥f]
   rfl'
   refine⟨_,cW Zb,by rw[Z4];show Z2 (ni (Hg _ _) (by simp;lia)),?_⟩
   refine l _ _ ⟨_,rfl,?_⟩
   rw[Dj _ _ (na _),Nat.sub_self,Yh _ k,ng ↥f,Zv]
   rfl
  .rw[nc ↥f]
   rfl'
   refine l _ _ ⟨_,rfl,?_⟩
   rw[Yh _ k,nc ↥f,Hd]
 .rintro a h ⟨d,rfl,rfl⟩
  have e:(natD xs).length=xs.length:=Z4 _
  rw[e,Dr]
  show q
def S6:DSp:=fun f M Q _=>∃(a b:Nat) (d:List (LQ)) (c:LQ),f=[.ref a,.ref b]/\readL M a=some (d.map fun l=> .tup (natD l))/\readL M b=some (natD c)/\c.Nodup/\c.length<=1000/\d.length<=1000/\(∀l∈d,l.length<=2)/\
 ∀(B:LQ) e r,(∀x,x∈B↔x=0\/∃p,p<d.length/\p∉c/\x∈d.getD p [])->Kp M e->e[r]?=some (.lst (natD (c.filter fun x=>decide (x∈B))))->M.length<=r->Q (.ref r) e
def Xm{n i:Nat}{d:D}(h:(Su 0 n)[i]?=some d):i<n/\d= .int (i:Nat):=by
 unfold Su at h
 rw[Aw,Ho] at h
 let⟨k,c,rfl⟩:=h
 let⟨b,a⟩:=Ab.mp c
 rw[List.getElem_range] at a
 subst a
 refine⟨↥b,?_⟩
 rw[Int.zero_add]
def Wj(n:Nat):(Su 0 n).length=n:=by unfold Su;simp
section
variable{K:Ac}
def Zw9{Γ G}:Rd K Γ G S6 O5 Py:=by
 rintro I M Q Z ⟨a,b,r,c,rfl,P,u,T,lt,lg,h,q⟩
 simp only[O5,Py,tss_cons,tss_nil]
 simp only[U.ts]
 refine among rfl u T 'o' rfl ?_
 have y:Kp M (M++[.lst (Xy c)]++[.dct (begD c)]):=(Kp.new _ _).app _
 have A:(M++[.lst (Xy c)]++[.dct (begD c)]:Z1)[M.length+1]?=some (.dct (begD c)):=by
  have:=@Zb (M++[.lst (Xy c)]) (.dct (begD c))
  rwa[show(M++[Cell.lst (Xy c)]).length=M.length+1 by simp] at this
 have N:(M++[Cell.lst (Xy c)]++[Cell.dct (begD c)]).length=M.length+2:=by simp
 generalize M++[.lst (Xy c)]++[.dct (begD c)]=M1 at y A N ⊢
 rw[tg_one]
 refine Z8 ?_
 rfl'
 refine⟨cD Zb,?_⟩
 have Y:(M1++[Cell.dct []]).set M1.length (.dct [(Du 0,.bl true)])=M1++[.dct (begD [0])]:=by
  rw[Dj _ _ (na _),Nat.sub_self];rfl
 rw[Y]
 refine Z8 ?_
 rfl'
 refine Zq (Z6 (y.L P)) ?_
 rfl'
 rw[Ag]
 refine⟨'o','o',?_⟩
 rw[Kj]
 refine Yg (fun i m o=>∃B J v,m=[↑a,↑b,some (.ref (M.length+1)),↑M1.length,J,v]/\o=M1++[.dct (begD B)]/\B.length<=1+2 * i/\∀x,x∈B↔x=0\/∃p,p<i/\p∉c/\x∈r.getD p []) ⟨[0],none,none,rfl,rfl,by simp,fun x=>by simp⟩ ?_ ?_ ?_
 .rintro i m o _ _
  trivial
 .rintro i dx m o C F ⟨B,J,v,rfl,rfl,W,E⟩ R
  let⟨X,rfl⟩:=Xm F
  rw[tg_one]
  delta Si
  rfl'
  refine .inr (.inl ⟨begD c,_,cD (Z5 A),rfl,?_⟩)
  rfl'
  rw[Wz]
  by_cases u:i∈c
  .rw[decide_eq_true u]
   try dsimp only
   rw[nc 'd']
   rfl'
   refine R _ _ ⟨B,_,_,rfl,rfl,'o',fun x=>(E x).trans (or_congr_right ⟨fun zz156=>by let⟨p,H,h,n⟩:=zz156;show⟨p,'o',h,n⟩,fun⟨p,H,h,n⟩=>⟨p,?_,h,n⟩⟩)⟩
   by_cases e:p=i
   .subst e;show absurd u h
   .lia
  .rw[mh u]
   try dsimp only
   rw[ng rfl]
   rfl'
   have O:r[i]?=some r[i]:=Aa X
   have S:r.getD i []=r[i]:=by rw[Af,O];rfl
   have l2:=h r[i] (Hx _)
   refine ix_l (k:=i) (Z6 (y.L P)) (d:= .tup (natD r[i])) (by rw[Aw,O];rfl) ?_
   rfl'
   refine Yg (fun j m o=>∃l v,m=[↑a,↑b,some (.ref (M.length+1)),↑M1.length,some (.int (i:Nat)),v]/\o=M1++[.dct (begD l)]/\l.length<=B.length+j/\∀x,x∈l↔x∈B\/x∈r[i].take j) ⟨B,_,rfl,rfl,'o',fun x=>by simp⟩ ?_ ?_ ?_
   .rintro j m o _ _
    trivial
   .rintro j dx m o C2 F ⟨l,v,rfl,rfl,w,f⟩ D
    let⟨g,s,rfl⟩:=Y1 F
    have hj:=(Ab.mp s).1
    rw[tg_one]
    delta S8
    rfl'
    refine .inr ⟨begD l,_,cD Zb,rfl,by rw[Xn];show Z2 'o',?_⟩
    rfl'
    rw[Dj _ _ (na _),Nat.sub_self]
    by_cases t:g∈l
    .rw[Z04 t]
     refine D _ _ ⟨l,_,rfl,rfl,'o',fun x=>?_⟩
     rw[f x,Zr s,Au,An]
     refine⟨fun z=>z.imp id .inl,fun z=>z.elim .inl fun z=>z.elim .inr fun z=>?_⟩
     subst z
     show(f x).mp t
    .rw[Wl t]
     refine D _ _ ⟨l++[g],_,rfl,rfl,by simp;lia,fun x=>?_⟩
     rw[Au,f x,Zr s,Au,or_assoc]
   .rintro m o ⟨l,v,rfl,rfl,w,f⟩
    rw[Z4] at w f
    refine R _ _ ⟨l,_,_,rfl,rfl,'o',fun x=>?_⟩
    rw[f x,Dr,E x,or_assoc]
    refine or_congr_right ⟨fun z=>?_,fun⟨p,H,h,n⟩=>?_⟩
    .rcases z with⟨p,H,h,n⟩ | z
     .exact⟨p,'o',h,n⟩
     .exact⟨i,'o',u,by rw[S];show z⟩
    .by_cases e:p=i
     .subst e;rw[S] at n;show .inr n
     .exact .inl ⟨p,'o',h,n⟩
 .rintro m o ⟨B,J,v,rfl,rfl,W,E⟩
  rw[Wj] at E
  refine Z8 ?_
  simp only[Se,tss_cons,tss_nil,U.ts]
  refine kept rfl rfl (Z6 (y.L u)) Zb 'o' ?_
  have V:M.length<=(M1++[Cell.dct (begD B)]).length:=by rw[Ae,N];lia
  show q B _ _ E ((y.app _).app _) Zb V
end
def Zq1:DSp:=fun e M Q _=>∃(c:Nat) (a:KQ9) (l:LQ) (b:Nat->Nat),e=[.tup (natD l),.ref c]/\Zx M c=some a/\l.length<=1000/\(∀p∈l,(valD a (Du (p:Int))).getD (.int (p:Nat))= .int (b p:Nat))/\∀d,Kp M d->Q (.tup (natD (l.map b))) d
section
variable{K:Ac}
def Yl3{Γ G}:Rd K Γ G Zq1 W5 W8:=by
 rintro h M Q Z ⟨c,f,l,o,rfl,k,r,g,q⟩
 delta W5 W8
 rfl'
 simp only[capD,Ch,Dp,Hk,Go,Ha,Dz,Hl]
 refine Zn (fun i a b=>∃d,a=[d,↑c]/\b=M++[.lst (natD ((l.take i).map o))]) ⟨none,rfl,rfl⟩ ?_ ?_ ?_
 .rintro i a b _ _
  trivial
 .rintro i s a b C m ⟨d,rfl,rfl⟩ n
  let⟨p,j,rfl⟩:=Y1 m
  rfl'
  refine⟨Z9 (Rg k),f,_,Rg k,rfl,?_⟩
  rw[g p (As j)]
  rfl'
  refine⟨_,cW Zb,by rw[Z4];show Z2 (by simp;lia),?_⟩
  refine n _ _ ⟨_,rfl,?_⟩
  rw[Dj _ _ (na _),Nat.sub_self,Zr j,Ai,Wb]
  rfl
 .rintro a b ⟨d,rfl,rfl⟩
  have e:(natD l).length=l.length:=Z4 _
  rw[e,Dr]
  rfl'
  show⟨_,cL Zb,q _ (Kp.new _ _)⟩
end
def cpy(n:Nat)(R:LQ)(p:Nat):Nat:=if p∈R then n+R.idxOf p else p
def cpyD(n:Nat)(R:LQ):KQ9:=R.map fun(p:Nat)=>((Du (p:Int),D.int ((n+R.idxOf p:Nat):Int)):Key×D)
def Nv(n:Nat)(R:LQ)(p:Nat):(valD (cpyD n R) (Du (p:Int))).getD (.int (p:Nat))= .int (cpy n R p:Nat):=by
 unfold cpyD cpy
 rw[Jo]
 split<;>rfl
def copies{c:Cfg}{d:DEnv}{a b i j:Nat}{xs:LD}(hi:d[i]?=some (↑b))(s:d[j]?=some (↑a))(t:readL M a=some xs)(m:readL M b=some (natD R))(k:R.Nodup)(A:R.length<=2000)
  (q:Q (.ref (M.length+1)) (M++[.lst (U.Yk (cpyD xs.length R))]++[.dct (cpyD xs.length R)])):
  te c Z (.bf .dict1 (.cons (.comp N [none,none,some j] [0,1] (.enm (.var i)) .no (.tup (.cons (.var 1) (.cons (.bin .add (.bf .len (.cons (.var 2) .nil)) (.var 0)) .nil)))) .nil)) d M Q:=by
 dsimp only[te,tes,tit]
 rw[hi]
 dsimp only
 refine⟨_,m,?_⟩
 have v:capD [none,none,some j] d=[none,none,↑a]:=by
  simp only[capD,Ch,Dp,Hk,Go,s,Hl]
 rw[v]
 refine Zn (fun i d g=>∃f e,d=[f,e,↑a]/\g=M++[.lst ((R.take i).map fun(p:Nat)=> .tup [.int (p:Nat),.int ((xs.length+R.idxOf p:Nat):Int)])]) ⟨none,none,rfl,rfl⟩ ?_ ?_ ?_
 .rintro i d g _ ⟨f,e,rfl,rfl⟩
  show⟨_,Z6 m,rfl⟩
 .rintro i B d g C r ⟨f,e,rfl,rfl⟩ u
  let⟨y,o,rfl⟩:=Vm r
  let⟨p,l,rfl⟩:=Y1 o
  let⟨hi,h⟩:=Ab.mp l
  have n:R.idxOf p=i:=by rw[<-h];show ND.Rh k hi
  rfl'
  refine Zq (Z6 t) ?_
  rfl'
  refine⟨Z0 'd',_,cW Zb,by rw[Ag];show Z2 (by simp;lia),?_⟩
  refine u _ _ ⟨_,_,rfl,?_⟩
  rw[Dj _ _ (na _),Nat.sub_self,Zr l,Ai,List.map_singleton,n,Kc]
  rfl
 .rintro d g ⟨f,e,rfl,rfl⟩
  rw[V5,Z4,Dr]
  change bfD _ _ _ _ _
  rw[bf_dict]
  refine .inr ⟨cpyD xs.length R,?_,by unfold cpyD;rw[Ag];show Z2 'o',?_⟩
  .refine(cL Zb).trans ?_
   unfold U.Yk cpyD
   rw[Ii]
   rfl
  .have z:S5 (cpyD xs.length R)=cpyD xs.length R:=Nr k fun p=> .int ((xs.length+R.idxOf p:Nat):Int)
   have x:(M++[Cell.lst (R.map fun(p:Nat)=> .tup [.int (p:Nat),.int ((xs.length+R.idxOf p:Nat):Int)])]).length=M.length+1:=by simp
   have w:U.Yk (cpyD xs.length R)=R.map fun(p:Nat)=> .tup [.int (p:Nat),.int ((xs.length+R.idxOf p:Nat):Int)]:=by
    unfold U.Yk cpyD
    rw[Ii]
    rfl
   rw[z,x,<-w]
   show q
def copied{c:Cfg}{f a b n i j k:Nat}{gs:List (LQ)}{o:Nat->Nat}(B:c.Γ[f]?=some Zq1)(hi:e[i]?=some (↑b))(A:e[j]?=some (↑a))(z:e[k]?=some (↑n))
  (F:readL M a=some (gs.map fun l=> .tup (natD l))) (w:readL M b=some (natD R)) (E:M[n]?=some (.dct kvs)) (G:∀p∈R,p<gs.length) (P:R.length<=2000) (I:∀l∈gs,l.length<=2) (s:∀p:Nat,(valD kvs (Du (p:Int))).getD (.int (p:Nat))= .int (o p:Nat))
  (q:∀g,Kp M g->g[M.length]?=some (.lst (R.map fun p=> .tup (natD ((gs.getD p []).map o))))->Q (.ref M.length) g):
  te c noX (.comp N [none,some j,some k] [0] (.seq (.var i)) .no (.call f (.cons (.ix (.var 1) (.var 0)) (.cons (.var 2) .nil)))) e M Q:=by
 dsimp only[te,tes,tit]
 rw[hi]
 dsimp only[itD]
 refine⟨_,w,?_⟩
 have K:capD [none,some j,some k] e=[none,↑a,↑n]:=by
  simp only[capD,Ch,Dp,Hk,Go,A,z,Hl]
 rw[K]
 refine Zn (fun i e g=>∃d,e=[d,↑a,↑n]/\Kp M g/\g[M.length]?=some (.lst ((R.take i).map fun p=> .tup (natD ((gs.getD p []).map o))))) ⟨none,rfl,Kp.new _ _,Zb⟩ ?_ ?_ ?_
 .rintro i e g _ ⟨d,rfl,h,_⟩
  show h.L w
 .rintro i S e g C y ⟨d,rfl,h,m⟩ H
  let⟨p,u,rfl⟩:=Y1 y
  have r:=G p (As u)
  have v:gs[p]?=some gs[p]:=Aa r
  have J:gs.getD p []=gs[p]:=by rw[Af,v];rfl
  have O:=I gs[p] (Hx _)
  rfl'
  refine ix_l (k:=p) (h.L F) (d:= .tup (natD gs[p])) (by rw[Aw,v];rfl) ?_
  simp only[B]
  let⟨U,rfl⟩:=h
  refine⟨n,kvs,gs[p],o,rfl,cD (Z5 E),'o',fun t _=>s t,fun V x=>?_⟩
  let⟨T,rfl⟩:=x
  refine⟨_,cW (Z5 m),by rw[Ag];show Z2 (by simp;lia),?_⟩
  refine H _ _ ⟨_,rfl,Kp.set ⟨_,Ar _ _ _⟩ (na _),?_⟩
  rw[Zr u,Ai,List.map_singleton,J]
  show X5 (Z5 m)
 .rintro e g ⟨d,rfl,h,m⟩
  rw[Z4,Dr] at m
  show q g h m
def tupD(gs:List (LQ)):LD:=gs.map fun l=> .tup (natD l)
def half(n:Nat)(us R:LQ)(gs:List (LQ))(i:Nat):List (LQ):=gs.mapIdx fun k l=>if k<i/\k∉us then l.map (cpy n R) else l
def nxt(gs:List (LQ))(us R:LQ):List (LQ):=half gs.length us R gs gs.length++R.map fun p=>(gs.getD p []).map (cpy gs.length R)
def Ni(n:Nat)(us R:LQ)(gs:List (LQ))(i:Nat):(half n us R gs i).length=gs.length:=by unfold half;simp
def Zc1(n:Nat)(us R:LQ)(gs:List (LQ)):half n us R gs 0=gs:=by
 unfold half
 refine Hm fun k=>?_
 rw[Ds]
 cases gs[k]? with
 | none=>rfl
 | some l=>simp
def Zz3{n:Nat}{gs:List (LQ)}{i:Nat}(h:i∈us):half n us R gs (i+1)=half n us R gs i:=by
 unfold half
 refine Hm fun k=>?_
 rw[Ds,Ds]
 cases gs[k]? with
 | none=>rfl
 | some l=>
  by_cases e:k=i
  .subst e;simp[h]
  .have:k<i+1↔k<i:='o'
   simp[this]
def Zo1{n:Nat}{gs:List (LQ)}{i:Nat}(h:i∉us)(hi:i<gs.length):(half n us R gs i).set i ((gs.getD i []).map (cpy n R))=half n us R gs (i+1):=by
 have a:gs[i]?=some (gs.getD i []):=by rw[Af,Aa hi];rfl
 refine Hm fun k=>?_
 by_cases e:i=k
 .subst e
  rw[Dm (by rw[Ni];show hi)]
  unfold half
  rw[Ds,a]
  simp[h]
 .rw[Dh e]
  unfold half
  rw[Ds,Ds]
  have:k<i+1↔k<i:='o'
  simp[this]
def Y27{n:Nat}{gs:List (LQ)}{i:Nat}(hi:i<gs.length):(half n us R gs i)[i]?=some (gs.getD i []):=by
 unfold half
 rw[Ds,Aa hi,Af,Aa hi]
 simp
def Zm0:DSp:=fun i M Q _=>∃(a c b f:Nat) (d:List (LQ)) (e h R:LQ),i=[.ref a,.ref c,.ref b,.ref f]/\M[a]?=some (.lst (tupD d))/\M[c]?=some (.lst (natD e))/\readL M b=some (natD h)/\readL M f=some (natD R)/\a≠c/\a≠b/\a≠f/\c≠b/\c≠f/\
 R.Nodup/\R.length<=1000/\d.length<=1000/\h.length<=1000/\e.length=d.length/\(∀p∈R,p<d.length)/\(∀l∈d,l.length<=2)/\
 ∀g,Kp M ((g.set a (.lst (tupD d))).set c (.lst (natD e)))->g[a]?=some (.lst (tupD (nxt d h R)))->g[c]?=some (.lst (natD (e++R.map fun p=>e.getD p 0)))->Q .non g
section
variable{K:Ac}
def Yi8{Γ G}(g11:Γ[11]?=some Zq1):Rd K Γ G Zm0 Sl Sa:=by
 rintro ds M Q Z ⟨a,H,b,D,f,E,m,R,rfl,A,ho,s,l,S,n2,n3,n4,n5,nd,lR,lg,lu,lo,hR,h2,q⟩
 simp only[Sl,Sa,tss_cons,tss_nil]
 simp only[U.ts]
 refine copies rfl rfl (cL A) l nd 'o' ?_
 have lt:(tupD f).length=f.length:=by unfold tupD;simp
 rw[lt]
 have T:Kp M (M++[.lst (U.Yk (cpyD f.length R))]++[.dct (cpyD f.length R)]):=(Kp.new _ _).app _
 have z:(M++[.lst (U.Yk (cpyD f.length R))]++[.dct (cpyD f.length R)]:Z1)[M.length+1]?=some (.dct (cpyD f.length R)):=by
  have:=@Zb (M++[.lst (U.Yk (cpyD f.length R))]) (.dct (cpyD f.length R))
  rwa[show(M++[Cell.lst (U.Yk (cpyD f.length R))]).length=M.length+1 by simp] at this
 have l1:(M++[Cell.lst (U.Yk (cpyD f.length R))]++[Cell.dct (cpyD f.length R)]).length=M.length+2:=by simp
 generalize M++[.lst (U.Yk (cpyD f.length R))]++[.dct (cpyD f.length R)]=M1 at T z l1 ⊢
 rw[tg_one]
 refine Z8 ?_
 simp only[tss_cons,tss_nil,U.ts]
 refine copied g11 rfl rfl rfl (T.L (cL A)) (T.L l) z hR 'o' h2 (fun p=>Nv _ _ p) fun M2 k2 hz=>?_
 rw[tg_one]
 refine Z8 ?_
 have Y:=T.trans k2
 let⟨w,rfl⟩:=Y
 have y0:(M++w)[M.length+1]?=some (.dct (cpyD f.length R)):=by let⟨N2,e⟩:=k2;rw[e];show Z5 z
 rfl'
 refine Zq (cL (Z5 A)) ?_
 rfl'
 rw[lt]
 refine⟨'o','o',?_⟩
 rw[Kj]
 have o:∀{g:Z1} {j:Nat} {c:Cell},Kp (M++w) (g.set a (.lst (tupD f)))->a≠j->(M++w)[j]?=some c->g[j]?=some c:=fun{g j c} r ne h=>by
  let⟨N,e⟩:=r
  have h1:(g.set a (.lst (tupD f)))[j]?=some c:=by rw[e];show Z5 h
  rwa[Dh ne] at h1
 have la:=c_lt A
 have e0:(M++w).set a (.lst (tupD f))=M++w:=by
  refine Hm fun i=>?_
  by_cases e:a=i
  .subst e;rw[Dm (c_lt (Z5 A)),Z5 A]
  .rw[Dh e]
 obtain⟨P,w0,J⟩:∃P,M[b]?=some P/\∀g:Z1,g[b]?=some P->readL g b=some (natD m):=by
  unfold readL at s
  cases O:M[b]? with
  | none=>rw[O] at s;cases s
  | some P=>show⟨P,rfl,fun g h=>by unfold readL;rw[h];rw[O] at s;show s⟩
 obtain⟨F,x0,x⟩:∃F,M[D]?=some F/\∀g:Z1,g[D]?=some F->readL g D=some (natD R):=by
  unfold readL at l
  cases O:M[D]? with
  | none=>rw[O] at l;cases l
  | some F=>show⟨F,rfl,fun g h=>by unfold readL;rw[h];rw[O] at l;show l⟩
 refine Yg (fun i v g=>∃d6,v=[↑a,↑H,↑b,↑D,some (.ref (M.length+1)),↑M1.length,d6]/\Kp (M++w) (g.set a (.lst (tupD f)))/\g[a]?=some (.lst (tupD (half f.length m R f i)))) ⟨none,rfl,by rw[e0];show Kp.refl _,by rw[Zc1];show Z5 A⟩ ?_ ?_ ?_
 .rintro i v g _ _
  trivial
 .rintro i dx v g C hx ⟨d6,rfl,r,u⟩ V
  let⟨hi,rfl⟩:=Xm hx
  rw[tg_one]
  delta Wt
  rfl'
  refine .inl ⟨_,J _ (o r n2 (Z5 w0)),rfl,Wa m,?_⟩
  rfl'
  rw[Ov]
  by_cases s:i∈m
  .rw[decide_eq_true s]
   try dsimp only
   rw[nc 'd']
   rfl'
   show V _ _ ⟨_,rfl,r,by rw[Zz3 s];show u⟩
  .rw[mh s]
   try dsimp only
   rw[ng rfl]
   rfl'
   have hg:(tupD (half f.length m R f i))[i]?=some (.tup (natD (f.getD i []))):=by unfold tupD;rw[Aw,Y27 hi];rfl
   have l2:(f.getD i []).length<=2:=by
    rw[Af,Aa hi]
    show h2 _ (Hx _)
   refine ix_l (k:=i) (cL u) hg ?_
   try simp only[g11]
   refine⟨_,_,f.getD i [],cpy f.length R,rfl,cD (o r 'o' y0),'o',fun t _=>Nv _ _ t,fun M3 k3=>?_⟩
   rfl'
   let⟨N3,rfl⟩:=k3
   refine .inl ⟨_,_,i,rfl,cW (Z5 u),?_,?_⟩
   .unfold ixN
    rw[ng 'o']
    have:(tupD (half f.length m R f i)).length=f.length:=by unfold tupD;rw[Ag,Ni]
    rw[this]
    simp
    lia
   rfl'
   refine V _ _ ⟨_,rfl,?_,?_⟩
   .rw[Lf,Kh _ _ (c_lt u)]
    show r.app N3
   .rw[X5 (Z5 u),<-Zo1 s hi]
    unfold tupD
    rw[List.map_set]
 .rintro v g ⟨d6,rfl,r,u⟩
  rw[Wj] at u
  refine Z8 ?_
  delta Ws
  rfl'
  have u0:M.length<=M1.length:='o'
  have v0:=o r 'o' hz
  have l3:(tupD (half f.length m R f f.length)).length=f.length:=by unfold tupD;rw[Ag,Ni]
  refine⟨Z9 (cL u),_,_,cW u,cW v0,by rw[l3,Ag];show Z0 'o',?_⟩
  have en:tupD (half f.length m R f f.length)++(R.map fun p=> .tup (natD ((f.getD p []).map (cpy f.length R))))=tupD (nxt f m R):=by
   unfold nxt tupD
   rw[Ai,Ii]
   rfl
  rw[en]
  refine Z8 ?_
  have B:(g.set a (.lst (tupD (nxt f m R))))[a]?=some (.lst (tupD (nxt f m R))):=X5 u
  have n:(g.set a (.lst (tupD (nxt f m R))))[H]?=some (.lst (natD E)):=c_ne (o r S (Z5 ho)) S
  have y:(g.set a (.lst (tupD (nxt f m R))))[D]?=some F:=c_ne (o r n3 (Z5 x0)) n3
  have I:Kp (M++w) ((g.set a (.lst (tupD (nxt f m R)))).set a (.lst (tupD f))):=by rw[Lf];show r
  generalize g.set a (.lst (tupD (nxt f m R)))=M4 at B n y I ⊢
  rfl'
  refine⟨Z9 (cL n),_,x _ y,?_⟩
  simp only[capD,Ch,Dp,Hk,Go,Ha,Dz,Hl]
  refine Zn (fun i v W=>∃d,v=[d,↑H]/\W=M4++[.lst (natD ((R.take i).map fun p=>E.getD p 0))]) ⟨none,rfl,rfl⟩ ?_ ?_ ?_
  .rintro i v W _ ⟨d,rfl,rfl⟩
   show x _ (Z5 y)
  .rintro i dx v W C hx ⟨d,rfl,rfl⟩ V
   let⟨p,hp,rfl⟩:=Y1 hx
   have l:=hR p (As hp)
   have z0:E[p]?=some (E.getD p 0):=by rw[Af,Aa 'o'];rfl
   rfl'
   refine ix_l (k:=p) (cL (Z5 n)) (d:= .int (E.getD p 0:Nat)) (by unfold natD;rw[Aw,z0];rfl) ?_
   refine⟨_,cW Zb,by rw[Z4];show Z2 (by simp;lia),?_⟩
   refine V _ _ ⟨_,rfl,?_⟩
   rw[Dj _ _ (na _),Nat.sub_self,Zr hp,Ai,Wb]
   rfl
  .rintro v W ⟨d,rfl,rfl⟩
   rw[Z4,Dr]
   rfl'
   refine⟨_,_,cW (Z5 n),cW Zb,by rw[Z4,Z4];show Z0 (by simp;lia),?_⟩
   rfl'
   rw[<-Wb]
   refine q _ ?_ (c_ne (Z5 B) S.symm) (X5 (Z5 n))
   rw[List.set_comm _ _ S.symm,Lf,Kh _ _ (c_lt B)]
   have X:=c_lt n
   rw[Kh _ _ ↥X]
   refine Kp.app ?_ _
   let⟨N4,e4⟩:=I
   rw[e4]
   have e5:(M++w++N4).set H (.lst (natD E))=M++w++N4:=by
    refine Hm fun i=>?_
    by_cases e:H=i
    .subst e;rw[Dm (c_lt (Z5 (Z5 ho))),Z5 (Z5 ho)]
    .rw[Dh e]
   rw[e5]
   show⟨_,Ar _ _ _⟩
end
def Ze6{n i:Nat}(h:i<n):(Ao n)[i]?=some i:=by rw[Ko h]
def Yg8{c:Cfg}{b:DEnv}{a f i j:Nat}{xs:LD}(hi:b[i]?=some (↑a))(n:b[j]?=some (↑f))(o:readL M a=some xs)(m:M[f]?=some (.dct (begD B)))(r:xs.length<=2000)
  (q:Q (.ref M.length) (M++[.lst (natD ((Ao xs.length).filter (·∉B)))])):te c Z (.comp N [none,some j] [0] (.rng1 (.bf .len (.cons (.var i) .nil))) (.yes (.cmp .notin (.var 0) (.var 1))) (.var 0)) b M Q:=by
 dsimp only[te,tes,tit]
 rw[hi]
 dsimp only
 refine Zq o ?_
 dsimp only
 refine⟨'o','o',?_⟩
 rw[Kj]
 have p:capD [none,some j] b=[none,↑f]:=by
  simp only[capD,Ch,Dp,Hk,Go,n,Hl]
 rw[p]
 refine Zn (fun i b g=>∃d,b=[d,↑f]/\g=M++[.lst (natD (((Ao xs.length).take i).filter (·∉B)))]) ⟨none,rfl,rfl⟩ ?_ ?_ ?_
 .rintro i b g _ _
  trivial
 .rintro i s b g C l ⟨d,rfl,rfl⟩ k
  let⟨hi,rfl⟩:=Xm l
  have h:=Ze6 hi
  rfl'
  refine .inr (.inl ⟨begD B,_,cD (Z5 m),rfl,?_⟩)
  rfl'
  rw[Wz]
  by_cases e:i∈B
  .rw[decide_eq_true e]
   try dsimp only
   rw[nc 'd']
   rfl'
   refine k _ _ ⟨_,rfl,?_⟩
   rw[Yh _ h,nc ↥e,Hd]
  .rw[mh e]
   try dsimp only
   rw[ng rfl]
   rfl'
   refine⟨_,cW Zb,by rw[Z4];show Z2 (ni (Hg _ _) (by simp;lia)),?_⟩
   refine k _ _ ⟨_,rfl,?_⟩
   rw[Dj _ _ (na _),Nat.sub_self,Yh _ h,ng ↥e,Zv]
   rfl
 .rintro b g ⟨d,rfl,rfl⟩
  rw[Wj,List.take_of_length_le (by simp)]
  show q
inductive Sq (h:Nat->LQ):LQ->LQ->Prop where
 | nil:Sq h [] []
 | snoc {o T R:LQ} {x:Nat}:Sq h o T->CT h T [x] R->R.length<=1->Sq h (o++[x]) (T++R)
def Zc(gs:List (LQ))(B:LQ):LQ:=(Ao gs.length).filter (·∉B)
def Qt:DSp:=fun h M Q _=>∃(a f:Nat) (b:List (LQ)) (B:LQ),h=[.ref a,.ref f]/\readL M a=some (b.map fun l=> .tup (natD l))/\M[f]?=some (.dct (begD B))/\b.length<=1000/\(∀l∈b,l.length<=2)/\
 ∀d,ND.Ends (gR b.length (Zc b B) (amg b (Zc b B))) b.length (d++[b.length])->
  (∀e x g T R,d.reverse=e++x::g->Sq (into (amg b (Zc b B)) (Zc b B)) e T->CT (into (amg b (Zc b B)) (Zc b B)) T [x] R->(∀p∈R,p∈Zc b B)->1<R.length->R.length<64/\∀S c r,S.Perm R->S.Pairwise (·<=·)->Kp M c->c[r]?=some (.lst (natD S))->M.length<=r->Q (.ref r) c)/\
  ∀T c,Sq (into (amg b (Zc b B)) (Zc b B)) d.reverse T->Kp M c->Q .non c
def te_v1{c:Cfg}{f i:Nat}{x:D}{a:DEnv}{sp:DSp}(b:c.Γ[f]?=some sp)(hi:a[i]?=some (some x))(h:te c X e a M fun y d=>sp [x,y] d Q X):te c X (.call f (.cons (.var i) (.cons e .nil))) a M Q:=by
 simp only[te,tes,b,hi];show h
def te_v{c:Cfg}{f i:Nat}{x:D}{a:DEnv}{sp:DSp}(b:c.Γ[f]?=some sp)(hi:a[i]?=some (some x))(h:sp [x] M Q X):te c X (.call f (.cons (.var i) .nil)) a M Q:=by
 simp only[te,tes,b,hi];show h
def Zs2{c:List Int}(h:c.Perm (R.map fun(x:Nat)=>(x:Int)))(f:c.Pairwise (·<=·)):∃S:LQ,c.map D.int=natD S/\S.Perm R/\S.Pairwise (·<=·):=by
 have e:(c.map Ue).map (fun(x:Nat)=>(x:Int))=c:=by
  rw[Ii]
  refine(Hi (g:=id) fun x d=>?_).trans (List.map_id _)
  let⟨y,_,rfl⟩:=De.mp (h.mem_iff.mp d)
  simp
 refine⟨c.map Ue,?_,?_,?_⟩
 .unfold natD
  conv=>lhs;rw[<-e]
  rw[Ii]
  rfl
 .have:=h.map Ue
  rw[Ii] at this
  have i:R.map (Ue ∘ fun(x:Nat)=>(x:Int))=R:=(Hi (g:=id) fun x _=>by simp).trans (List.map_id _)
  rw[i] at this
  show this
 .exact Mh.map _ (fun a b h=>by lia) f
def Zq7(gs:List (LQ))(B:LQ):(Zc gs B).Nodup:=Ma.filter _
def Rm(gs:List (LQ))(B:LQ):(Zc gs B).length<=gs.length:=ni (Hg _ _) (by simp)
def Bg{gs:List (LQ)}{p:Nat}(h:p∈Zc gs B):p<gs.length:=He.mp (Hr.mp h).1
def Y72{gs:List (LQ)}(b:∀l∈gs,l.length<=2)(ps:LQ)(p:Nat):(amg gs ps p).length<=2/\∀t∈amg gs ps p,t∈ps:=by
 refine⟨ni (Hg _ _) ?_,fun t a=>by simpa using (Hr.mp a).2⟩
 rw[Af]
 cases e:gs[p]? with
 | none=>simp
 | some l=>show b l (As e)
def Xj{n:Nat}{xs:LD}(h:Zw M n=some xs):M[n]?=some (.lst xs):=by
 unfold Zw at h
 split at h
 .rename_i e;cases h;show e
 .cases h
def Eh{M:Z1}{a:Nat}{c:Cell}(h:M[a]?=some c):M.set a c=M:=by
 refine Hm fun i=>?_
 by_cases e:a=i
 .subst e;rw[Dm (c_lt h),h]
 .rw[Dh e]
def Zo2{M a:Z1}{tk:Nat}{c c':Cell}(h:Kp M (a.set tk c))(b:M.length<=tk)(d:a[tk]?=some c'):Kp M a:=by
 have:=Kp.set (c:=c') h b
 rw[Lf,Eh d] at this
 show this
def C5{n:Nat}{S:Nat->Prop}{d:LQ}(c:Wf n starts S gf)(h:ND.Ends (gR n starts gf) n (d++[n])):∀x∈d,S x:=by
 intro x a
 have f:=h.facts.1
 let⟨k,b,e⟩:=h
 have g:gR n starts gf n=starts:=by unfold gR;rw[ng rfl]
 rw[g] at e
 have i:=Yd1 c k
 rw[e] at i
 refine(i.d x (Dg _ a)).resolve_left fun z=>?_
 show(Dq.mp f).2.2 x a n (by simp) z
def Zj5{g t:Nat}(a:t∈into h ps g):t∈ps:=by
 unfold into at a
 let⟨p,b,c⟩:=List.mem_flatMap.mp a
 let⟨_,_,rfl⟩:=De.mp c
 show b
section
variable{K:Ac}
def Yj6{Γ G}(g2:Γ[2]?=some Vj)(g4:Γ[4]?=some Nf)(g5:Γ[5]?=some Ow)(g6:Γ[6]?=some Gj):Rd K Γ G Qt Pz Oa:=by
 rintro ds M Q Z ⟨a,dn,b,B,rfl,ha,u0,lg,h2,q⟩
 have ln:=Rm b B
 have nd:=Zq7 b B
 have tw:=Y72 h2 (Zc b B)
 simp only[Pz,Oa,tss_cons,tss_nil]
 simp only[U.ts]
 refine te_v1 g4 rfl (Yg8 rfl rfl ha u0 (by simp;lia) ?_)
 rw[Ag]
 refine⟨a,M.length,b,Zc b B,rfl,Z6 ha,cL Zb,nd,'o',fun p l=>Bg l,h2,fun M1 r1 k Y k1 m0 X dl=>?_⟩
 dsimp only
 rw[tg_one]
 refine Z8 ?_
 simp only[tss_cons,tss_nil,U.ts]
 refine te_v g5 rfl ⟨r1,_,k,Zc b B,Y,amg b (Zc b B),rfl,X,dl,nd,'o',fun p _=>tw p,fun f r2 n E k2 n0 A r0=>?_⟩
 dsimp only
 rw[tg_one]
 refine Z8 ?_
 rfl'
 have k0:Kp M (f++[.dct []]):=(((Kp.new _ _).trans k1).trans k2).app _
 have u:f[r1]?=some (.dct k):=by let⟨N,rfl⟩:=k2;show Z5 X
 refine⟨k,cD (Z5 u),?_⟩
 have ek:Xz k=natD (Zc b B):=by rw[dl.eq];show Fh _ _
 have q0:DLs (f++[.dct []]++[.lst (Xz k)]) (M++[Cell.lst (natD (Zc b B))]).length k (Zc b B) Y (amg b (Zc b B)):=by
  let⟨N,rfl⟩:=k2
  show((dl.app N).app _).app _
 have wf:Wf b.length (Zc b B) (·∈Zc b B) (amg b (Zc b B)):=⟨fun p l=>Bg l,'o',fun x hx=>hx,fun p _=>(tw p).1,fun p _=>(tw p).2⟩
 refine⟨r1,_,b.length,Zc b B,(·∈Zc b B),amg b (Zc b B),rfl,by rw[<-ek];show cL Zb,q0.ga (Z5 (Z5 u)),wf,fun d v r3 en k3 V o0=>?_⟩
 let⟨q1,q2⟩:=q d en
 have dm:=C5 wf en
 have D:=Xj V
 have r:v[f.length]?=some (.dct (begD [])):=by
  let⟨N,rfl⟩:=k3
  show Z5 (Z5 Zb)
 have lr:r3≠f.length:=fun e=>by rw[e,r] at D;cases D
 have L:Kp M v:=(k0.app _).trans k3
 have I:M.length<=f.length:=by
  let⟨N,e⟩:=k0
  have:=congrArg List.length e
  have l2:=c_lt A
  let⟨N2,rfl⟩:=k2
  let⟨N1,rfl⟩:=k1
  simp only[Ae];lia
 have W:v[r2]?=some (.dct n):=by let⟨N,rfl⟩:=k3;show Z5 (Z5 (Z5 A))
 have l2:=c_lt A
 have m:DLs v M1.length n (Zc b B) E (into (amg b (Zc b B)) (Zc b B)):=by
  let⟨N,rfl⟩:=k3
  show((r0.app _).app _).app N
 dsimp only[itD]
 refine⟨_,Rz V,?_⟩
 have w:∀{g:Z1} {j:Nat} {c:Cell},Kp v (g.set f.length (.dct (begD [])))->f.length≠j->v[j]?=some c->g[j]?=some c:=fun{g j c} o ne h=>by
  let⟨N,e⟩:=o
  have h1:(g.set f.length (.dct (begD [])))[j]?=some c:=by rw[e];show Z5 h
  rwa[Dh ne] at h1
 refine Yg (fun i σ g=>∃d5 d6 T,σ=[↑a,↑dn,↑r1,↑r2,↑f.length,d5,d6]/\Kp v (g.set f.length (.dct (begD [])))/\g[f.length]?=some (.dct (begD T))/\Sq (into (amg b (Zc b B)) (Zc b B)) (d.reverse.take i) T/\T.Nodup/\∀p∈T,p∈Zc b B)
  ⟨none,none,[],rfl,by rw[Eh r];show Kp.refl _,r,.nil,List.nodup_nil,fun p l=>by simp at l⟩ ?_ ?_ ?_
 .rintro i σ g _ ⟨d5,d6,T,rfl,o,_,_⟩
  show cL (w o lr.symm D)
 .rintro i dx σ g C hx ⟨d5,d6,T,rfl,o,hT,F,H,s⟩ hC
  let⟨x,z,rfl⟩:=Y1 hx
  have w0:x∈Zc b B:=dm x (Dw.mp (As z))
  have lT:T.length<=(Zc b B).length:=Dl H s
  rw[tg_one]
  delta Sf
  rfl'
  have s0:DLs (g++[.lst [.int (x:Nat)]]) M1.length n (Zc b B) E (into (amg b (Zc b B)) (Zc b B)):=⟨m.eq,m.inj,m.lo,fun p l=>Z5 (w o (c_dl r (m.cell p l)) (m.cell p l))⟩
  refine⟨Z0 'd',r2,g.length,f.length,M1.length,0,n,Zc b B,[x],T,E,into (amg b (Zc b B)) (Zc b B),rfl,Z5 (w o 'o' W),s0,nd,'o',fun p l=>⟨ni (Oy fun p _=>(tw p).1) 'o',fun t ht=>Zj5 ht⟩,cL Zb,by simp,fun y hy=>by rw[An] at hy;subst hy;show w0,Z5 hT,H,'o','o',fun R M5 r5 ct hR x0 O P p0=>?_⟩
  dsimp only
  refine Z8 ?_
  have J:Kp v (M5.set f.length (.dct (begD []))):=by
   let⟨N,e⟩:=x0
   have e6:M5.set f.length (.dct (begD []))=g.set f.length (.dct (begD []))++([.lst [.int (x:Nat)]]++N):=by
    rw[<-Lf (a:= .dct (begD T)),e,Ar,Kh _ _ (c_lt hT)]
   rw[e6]
   show o.app _
  have z0:d.reverse=d.reverse.take i++x::d.reverse.drop (i+1):=by
   let⟨hi,v0⟩:=Ab.mp z
   rw[<-v0,<-Im hi,List.take_append_drop]
  rfl'
  refine Zq (cL P) ?_
  rfl'
  rw[Z4]
  by_cases h1:1<R.length
  .rw[ng 'o']
   rfl'
   let⟨y0,t0⟩:=q1 _ x _ T R z0 F ct hR h1
   refine⟨R.map fun(x:Nat)=>(x:Int),?_,by rw[Ag];show y0,fun ms p1 p2=>?_⟩
   .rw[cL P,Ii]
    rfl
   .let⟨S,e,s1,s2⟩:=Zs2 p1 p2
    rw[e]
    have k5:Kp M M5:=Zo2 (L.trans J) I O
    show t0 S _ _ s1 s2 (k5.app _) Zb (by let⟨N,rfl⟩:=k5;simp)
  .rw[nc 'o']
   rfl'
   refine hC _ _ ⟨_,_,T++R,rfl,J,O,?_,ct.nd,fun p l=>(Au.mp l).elim (s p) (hR p)⟩
   rw[Zr z]
   show .snoc F ct 'o'
 .rintro σ g ⟨d5,d6,T,rfl,o,hT,F,_⟩
  rw[Z4,Dr] at F
  refine Z8 ?_
  delta S7
  rfl'
  show q2 T g F (Zo2 (L.trans o) I hT)
end
def gsOf(nds:List Nd):List (LQ):=nds.map fun d=>d.gs.reverse
def Z41{c:Cfg}{b:DEnv}{f a i:Nat}(k:c.Γ[f]?=some Sg)(hi:b[i]?=some (↑a))(j:readL M a=some (nds.map Nd.d))(n:nds.length<=2000)
  (q:Q (.ref M.length) (M++[.lst (tupD (gsOf nds))])):te c Z (.comp N [none] [0] (.seq (.var i)) .no (.call f (.cons (.var 0) .nil))) b M Q:=by
 dsimp only[te,tes,tit]
 rw[hi]
 dsimp only[itD]
 refine⟨_,j,?_⟩
 refine Zn (fun i b g=>∃d,b=[d]/\g=M++[.lst (tupD (gsOf (nds.take i)))]) ⟨none,rfl,rfl⟩ ?_ ?_ ?_
 .rintro i b g _ ⟨d,rfl,rfl⟩
  show Z6 j
 .rintro i o b g C h ⟨d,rfl,rfl⟩ m
  rw[Aw,Ho] at h
  let⟨e,l,rfl⟩:=h
  rfl'
  try simp only[k]
  refine⟨e,rfl,?_⟩
  rfl'
  refine⟨_,cW Zb,by unfold tupD gsOf;rw[Ag,Ag];show Z2 (by simp;lia),?_⟩
  refine m _ _ ⟨_,rfl,?_⟩
  rw[Dj _ _ (na _),Nat.sub_self,Zr l]
  unfold tupD gsOf
  rw[Ai,Ai]
  rfl
 .rintro b g ⟨d,rfl,rfl⟩
  rw[Ag,Dr]
  show q
def Wu:DSp:=fun c M Q _=>∃(a:Nat) (b:List Nd),c=[.ref a]/\readL M a=some (b.map Nd.d)/\b.length<=2000/\Q (.ref M.length) (M++[.lst (tupD (gsOf b))])
section
variable{K:Ac}
def Zw4{Γ G}(g0:Γ[0]?=some Sg):Rd K Γ G Wu O3 Pl:=by
 rintro b M Q Z ⟨a,c,rfl,e,d,q⟩
 simp only[O3,Pl,tss_cons,tss_nil,U.ts]
 show Z41 g0 rfl e d q
end
def Rp{l:LQ}(h:l.Nodup):l.reverse.Nodup:=by rw[List.Nodup,List.pairwise_reverse];show h.imp fun h=>h.symm
abbrev gof(gs:List (LQ)):Nat->LQ:=fun p=>gs.getD p []
def Cd(gs:List (LQ)):Prop:=∀p,p<gs.length->∀y∈gof gs p,y<gs.length
def Yn{gs:List (LQ)}{p:Nat}:p∈Zc gs B↔p<gs.length/\p∉B:=by
 unfold Zc;simp
def Za8{gs:List (LQ)}{L:LQ}{x y:Nat}:y∈amg gs L x↔y∈gof gs x/\y∈L:=by
 unfold amg;simp
def Et{L:LQ}{y g:Nat}:y∈into h L g↔y∈L/\g∈h y:=by
 unfold into
 rw[List.mem_flatMap]
 constructor
 .rintro⟨p,a,d⟩
  let⟨z,b,rfl⟩:=De.mp d
  have:=Hr.mp b
  simp only[decide_eq_true_eq] at this
  show⟨a,this.2 ▸ this.1⟩
 .rintro⟨a,c⟩
  show⟨y,a,De.mpr ⟨g,Hr.mpr ⟨c,by simp⟩,rfl⟩⟩
section
variable{gs:List (LQ)}{B:LQ}
abbrev RL(gs:List (LQ))(B:LQ):Nat->Nat->Prop:=KS.Rc (DB.lk gs.length (gof gs) B)
def Zf2(cd:Cd gs){x y:Nat}:y∈DB.lk gs.length (gof gs) B x↔x∈Zc gs B/\y∈amg gs (Zc gs B) x:=by
 rw[DB.mem_lk,Yn,Za8,Yn]
 constructor
 .rintro⟨b,a,c⟩;show⟨b,a,cd x b.1 y a,c⟩
 .rintro⟨b,a,_,c⟩;show⟨b,a,c⟩
def Yb4{g:Nat->LQ}{z:Nat}{P:Nat->Prop}(h0:P z)(k:∀a b,b∈g a->KS.Rc g b z->P b->P a){x:Nat}(h:KS.Rc g x z):P x:=by
 have c:∀y,KS.Rc g x y->(KS.Rc g y z)->P y->P x:=by
  intro y i
  induction i with
  | here=>show fun _ h=>h
  | @step a b _ e f=>show fun d j=>f ((KS.Rc.one e).trans d) (k a b e d j)
 show c z h .here h0
def Y04(cd:Cd gs){x y:Nat}(h:KS.Rc (gR gs.length (Zc gs B) (amg gs (Zc gs B))) x y)(j:x∈Zc gs B):RL gs B x y/\y∈Zc gs B:=by
 induction h with
 | here=>show⟨.here,j⟩
 | @step a b _ e g=>
  let⟨i,c⟩:=g
  have f:a≠gs.length:=by have:=(Yn.mp c).1;lia
  have d:b∈amg gs (Zc gs B) a:=by
   unfold gR at e
   rw[nc f] at e
   show Dw.mp e
  show⟨.step i ((Zf2 cd).mpr ⟨c,d⟩),(Za8.mp d).2⟩
def Zt0{T R:LQ}{x y:Nat}(cd:Cd gs)(f:CT (into (amg gs (Zc gs B)) (Zc gs B)) T [x] R)(l:x∉T)(h:RL gs B y x)(c:∀z,RL gs B y z->RL gs B z x->z∉T):y∈R:=by
 have:RL gs B y y->y∈R:=by
  refine Yb4 (P:=fun a=>RL gs B y a->a∈R) ?_ ?_ h
  .exact fun _=>(f.st x (by simp)).resolve_left l
  .intro a b e m j d
   have k:RL gs B y b:= .step d e
   have n:=j k
   let⟨i,g⟩:=(Zf2 cd).mp e
   show(f.cl b n a (Et.mpr ⟨i,g⟩)).resolve_left (c a d ((KS.Rc.one e).trans m))
 show this .here
def Yj2{T R:LQ}{x:Nat}(cd:Cd gs)(m:CT (into (amg gs (Zc gs B)) (Zc gs B)) T [x] R)(S:Nat->Prop)(l:∀y∈R,S y):∀(i y:Nat),R[i]?=some y->KS.Wy (gR gs.length (Zc gs B) (amg gs (Zc gs B))) S x y/\RL gs B y x:=by
 intro i
 induction i using Nat.strongRecOn with
 | _ i k=>
  intro y d
  have a:=l y (As d)
  rcases m.src i y d with h | ⟨j,q,hj,hq,h⟩
  .rw[An] at h
   subst h
   show⟨.here a,.here⟩
  .let⟨f,e⟩:=k j hj q hq
   let⟨c,b⟩:=Et.mp h
   have g:y≠gs.length:=by have:=(Yn.mp c).1;lia
   refine⟨.step a ?_ f,(KS.Rc.one ((Zf2 cd).mpr ⟨c,b⟩)).trans e⟩
   unfold gR
   rw[nc g]
   show Dw.mpr b
def Zt4(cd:Cd gs){o T:LQ}(h:Sq (into (amg gs (Zc gs B)) (Zc gs B)) o T):o.Nodup->T=o/\∀w∈o,∀z,RL gs B z w->RL gs B w z->z=w:=by
 induction h with
 | nil=>show fun _=>⟨rfl,fun w a=>by simp at a⟩
 | @snoc o T R x _ j s r=>
  intro n
  let⟨q,_,p⟩:=Dq.mp n
  let⟨e,d⟩:=r q
  have b:x∉T:=fun z=>p x (e ▸ z) x (by simp) rfl
  have k:x∈R:=(j.st x (by simp)).resolve_left b
  have i:R=[x]:=by
   match R,s,k with
   | [y],_,h=>rw[An] at h;subst h;rfl
   | _::_::_,h,_=>simp at h
  refine⟨by rw[i,e],fun w a z g f=>?_⟩
  rcases Au.mp a with a | a
  .exact d w a z g f
  .rw[An] at a
   subst a
   have:z∈R:=Zt0 cd j b g fun u m l c=>by
    have:=d u (e ▸ c) w (f.trans m) l
    subst this
    show b c
   rw[i,An] at this
   show this
def C9{d:LQ}(cd:Cd gs)(e:ND.Ends (gR gs.length (Zc gs B) (amg gs (Zc gs B))) gs.length (d++[gs.length])):d.Nodup/\∀x∈Zc gs B,x∈d:=by
 let⟨c,b,_⟩:=e.facts
 refine⟨(Dq.mp c).1,fun x a=>?_⟩
 have:x∈d++[gs.length]:=b gs.length (by simp) x (by unfold gR;rw[ng rfl];show a)
 rcases Au.mp this with h | h
 .exact h
 .rw[An] at h
  have:=(Yn.mp a).1
  lia
def Zb4{d m b T R:LQ}{x:Nat}(cd:Cd gs)(A:ND.Ends (gR gs.length (Zc gs B) (amg gs (Zc gs B))) gs.length (d++[gs.length]))(w:d.reverse=m++x::b)(L:Sq (into (amg gs (Zc gs B)) (Zc gs B)) m T)
  (k:CT (into (amg gs (Zc gs B)) (Zc gs B)) T [x] R) (r:∀p∈R,p∈Zc gs B) (X:1<R.length):DB.Scc gs.length (gof gs) B R:=by
 let⟨P,Y⟩:=C9 cd A
 have n:(m++x::b).Nodup:=by rw[<-w];show Rp P
 let⟨S,Z,Q⟩:=Dq.mp n
 let⟨e,l⟩:=Zt4 cd L S
 subst e
 have q:x∉T:=fun z=>Q x z x (by simp) rfl
 have G:x∈R:=(k.st x (by simp)).resolve_left q
 have F:=r x G
 have s:d=b.reverse++[x]++T.reverse:=by
  have:=congrArg List.reverse w
  rw[List.reverse_reverse] at this
  rw[this];simp
 have f:=Dq.mp k.nd
 have o:∀y∈R,∃i,i<=b.length/\(d++[gs.length])[i]?=some y:=by
  intro y g
  have v:=Y y (r y g)
  have E:y∉T:=fun z=>f.2.2 y z y g rfl
  rw[s] at v
  have:y∈b.reverse++[x]:=(Au.mp v).resolve_right fun z=>E (Dw.mp z)
  let⟨i,j⟩:=Iu this
  have U:i<b.length+1:=by simpa using (Ab.mp j).1
  refine⟨i,'o',?_⟩
  rw[s,Ar,Az ↥U]
  show j
 have O:(d++[gs.length])[b.length]?=some x:=by
  rw[s,Ar,Ar,Di (by simp),Ht,Nat.sub_self]
  rfl
 have a:∀y∈R,RL gs B x y/\RL gs B y x:=by
  intro y g
  let⟨i,j⟩:=Iu g
  let⟨I,H⟩:=Yj2 cd k _ o i y j
  show⟨(Y04 cd (KS.sound A O I) F).1,H⟩
 refine⟨f.2.1,fun t c=>Yn.mp (r t c),X,fun t c u h=>(a t c).2.trans (a u h).1,fun t c z W V N M=>?_⟩
 have D:RL gs B z x:=M.trans (a t c).2
 have C:RL gs B x z:=(a t c).1.trans N
 refine Zt0 cd k q D fun u K J h=>?_
 have:=l u h x (C.trans K) J
 subst this
 show q h
def Co{n:Nat}{D T S:LQ}(h:DB.Scc n g D T)(p:S.Perm T):DB.Scc n g D S:=
 ⟨p.nodup_iff.mpr h.nd,fun t a=>h.lt t (p.mem_iff.mp a),by rw[p.length_eq];show h.two,fun t a u d=>h.mu t (p.mem_iff.mp a) u (p.mem_iff.mp d),fun t a x f e c b=>p.mem_iff.mpr (h.all t (p.mem_iff.mp a) x f e c b)⟩
end
def Yj8{n:Nat}{D a:LQ}(b:∀x,x<n->g x=g' x)(c:∀x,x∈D↔x∈a):DB.lk n g D=DB.lk n g' a:=by
 funext x
 unfold DB.lk
 by_cases h:x<n
 .rw[b x h]
  simp only[c]
 .rw[nc (fun z=>h z.1),nc (fun z=>h z.1)]
def Zv9{n:Nat}{D a:LQ}(b:∀x,x∈D↔x∈a):DB.cnt n D f=DB.cnt n a f:=by
 funext c
 unfold DB.cnt
 simp only[b]
def Zs8{n:Nat}{D a:LQ}(b:∀x,x∈D↔x∈a):DB.wt n D f m=DB.wt n a f m:=by
 unfold DB.wt
 rw[Zv9 b]
def Ye(gs:List (LQ))(S R:LQ):(nxt gs S R).length=gs.length+R.length:=by
 unfold nxt half;simp
def W3{gs:List (LQ)}{S R:LQ}{x:Nat}(h:x<gs.length+R.length):gof (nxt gs S R) x=DB.nx gs.length (gof gs) S R x:=by
 unfold DB.nx
 show(nxt gs S R).getD x []=_
 unfold nxt
 rw[Af]
 by_cases e:x<gs.length
 .rw[ng e,Az (by unfold half;simpa using e)]
  unfold half
  rw[Ds,Aa e]
  have b:gs[x]=gof gs x:=by change _=gs.getD x [];rw[Af,Aa e];rfl
  by_cases t:x∈S
  .rw[ng t]
   simp[t,b]
  .rw[nc t]
   simp only[Option.map_some,Ms,b,e,t,not_false_eq_true,and_self,if_true]
   rfl
 .rw[nc e,Di (by unfold half;simp;lia)]
  have c:(half gs.length S R gs gs.length).length=gs.length:=by unfold half;simp
  rw[c,Aw]
  have a:x - gs.length<R.length:='o'
  rw[Aa a]
  unfold DB.pj
  rw[nc e,Af,Aa a]
  rfl
structure Dstep(gs:List (LQ))(B S:LQ)(hd:Nat)(R:LQ):Prop where
 sc:DB.Scc gs.length (gof gs) B S
 hS:hd∈S
 ct:∃doors:LQ,(∀x,x∈doors↔x∈S/\(x=0\/∃p,p<gs.length/\p∉S/\x∈gof gs p))/\CT (amg gs (S.filter (·≠hd))) [] (doors.filter (·≠hd)) R
 sub:∀p∈R,p∈S/\p≠hd
def Dstep.sp{gs:List (LQ)}{B S R:LQ}{b:Nat}(cd:Cd gs)(h:Dstep gs B S b R):DB.Sp gs.length (gof gs) B S b R:=by
 let⟨a,_,c⟩:=h.ct
 show⟨cd,h.sc,h.hS,↥c.nd,h.sub⟩
def Dstep.door{gs:List (LQ)}{B S R:LQ}{d p u:Nat}(h:Dstep gs B S d R)(g:p∈S)(b:p≠d)(f:u<gs.length)(a:u∉S)(e:p∈gof gs u):p∈R:=by
 let⟨c,i,j⟩:=h.ct
 refine(j.st p (Hr.mpr ⟨(i p).mpr ⟨g,.inr ⟨u,f,a,e⟩⟩,↥b⟩)).resolve_left (by simp)
structure DI(g0 gs:List (LQ))(os B:LQ):Prop where
 cd:Cd gs
 two:∀l∈gs,l.length<=2
 pos:0<gs.length
 ol:os.length=gs.length
 bn:B.Nodup
 bl:∀x∈B,x<gs.length
 o0:os.getD 0 0=0
 olt:∀x,x<gs.length->os.getD x 0<g0.length
 ov:∀x,x<gs.length->(gof gs x).map (fun y=>os.getD y 0)=gof g0 (os.getD x 0)
def DI.begin(cd:Cd g0)(b:∀l∈g0,l.length<=2)(pos:0<g0.length):DI g0 g0 (Ao g0.length) []:=by
 have a:∀x,x<g0.length->(Ao g0.length).getD x 0=x:=fun x h=>by
  rw[Af,Ko h];rfl
 refine⟨cd,b,pos,by simp,List.nodup_nil,fun x d=>by simp at d,a 0 pos,fun x h=>by rw[a x h];show h,fun x h=>?_⟩
 rw[a x h]
 show(Hi (g:=id) fun y c=>a y (cd x h y c)).trans (List.map_id _)
section
variable{g0 gs:List (LQ)}{os B S R:LQ}{hd:Nat}
def Gi(i:DI g0 gs os B){x:Nat}(h:x<gs.length+R.length):(os++R.map fun p=>os.getD p 0).getD x 0=os.getD (DB.pj gs.length R x) 0:=by
 unfold DB.pj
 rw[Af]
 by_cases e:x<gs.length
 .rw[ng e,Az (by rw[i.ol];show e),<-Af]
 .rw[nc e,Di (by rw[i.ol];lia),i.ol,Aw,Aa 'o',Af (l:=R),Aa 'o']
  rfl
def DI.step(i:DI g0 gs os B)(h:Dstep gs B S hd R):DI g0 (nxt gs S R) (os++R.map fun p=>os.getD p 0) (B++[hd]):=by
 have s:=h.sp i.cd
 have m:=h.sc.lt hd h.hS
 refine⟨fun x c y f=>?_,fun l o=>?_,by rw[Ye];have:=i.pos;lia,by rw[Ye,Ae,Ag,i.ol],?_,fun x c=>?_,?_,fun x c=>?_,fun x c=>?_⟩
 .rw[Ye] at c ⊢
  rw[W3 c] at f
  show s.cl' c y f
 .have d:∀p,(gof gs p).length<=2:=fun p=>by
   show(gs.getD p []).length<=2
   rw[Af]
   cases e:gs[p]? with
   | none=>simp
   | some l=>show i.two l (As e)
  let⟨k,j⟩:=Iu o
  have g:=(Ab.mp j).1
  rw[Ye] at g
  have e:l=gof (nxt gs S R) k:=by change l=(nxt gs S R).getD k [];rw[Af,j];rfl
  rw[e,W3 g]
  unfold DB.nx
  split
  .split
   .exact d _
   .rw[Ag];show d _
  .rw[Ag];show d _
 .refine Dq.mpr ⟨i.bn,by simp,fun a q b n=>?_⟩
  rw[An] at n
  subst n
  show fun z=>m.2 (z ▸ q)
 .rw[Ye]
  rcases Au.mp c with c | c
  .have:=i.bl x c;lia
  .rw[An] at c;subst c;have:=m.1;lia
 .have p:=i.pos
  rw[Gi i 'o',DB.pj_old p]
  show i.o0
 .rw[Ye] at c
  rw[Gi i c]
  show i.olt _ (s.pj_lt c)
 .rw[Ye] at c
  rw[Gi i c,<-i.ov _ (s.pj_lt c),<-s.over c,W3 c,Ii]
  show Hi fun y f=>Gi i (s.cl' c y f)
def J7(i:DI g0 gs os B)(h:Dstep gs B S hd R){x y:Nat}(a:x<gs.length+R.length)(r:KS.Rc (gof gs) (DB.pj gs.length R x) y):∃b,b<gs.length+R.length/\KS.Rc (gof (nxt gs S R)) x b/\DB.pj gs.length R b=y:=by
 have s:=h.sp i.cd
 refine DB.lift (g':=gof (nxt gs S R)) (fun x a y c=>?_) (fun x a=>?_) a r
 .rw[W3 a] at c;show s.cl' a y c
 .rw[W3 a];show s.over a
def Tw(gs:List (LQ))(os:LQ):Prop:=∃x y,x≠y/\x<gs.length/\y<gs.length/\KS.Rc (gof gs) 0 x/\KS.Rc (gof gs) 0 y/\os.getD x 0=os.getD y 0
def Tw.step(t:Tw gs os)(i:DI g0 gs os B)(h:Dstep gs B S hd R):Tw (nxt gs S R) (os++R.map fun p=>os.getD p 0):=by
 let⟨x,y,l,q,o,k,j,e⟩:=t
 have p:=i.pos
 let⟨g,d,n,c⟩:=J7 i h (x:=0) 'o' (by rw[DB.pj_old p];show k)
 let⟨f,b,m,a⟩:=J7 i h (x:=0) 'o' (by rw[DB.pj_old p];show j)
 refine⟨g,f,fun z=>l (by rw[<-c,<-a,z]),by rw[Ye];show d,by rw[Ye];show b,n,m,?_⟩
 rw[Gi i d,Gi i b,c,a,e]
def Tw.first(i:DI g0 gs os B)(h:Dstep gs B S hd R)(T:B=[])(E:∀x,x<gs.length->KS.Rc (gof gs) 0 x){p u:Nat}(g:p∈S)(j:p≠hd)(n:u<gs.length)(c:u∉S)(e:p∈gof gs u):Tw (nxt gs S R) (os++R.map fun p=>os.getD p 0):=by
 have s:=h.sp i.cd
 have G:=i.pos
 have k:=h.door g j n c e
 have f:∀{d x:Nat},d<gs.length+R.length->x∉R->DB.pj gs.length R d=x->d=x:=by
  intro d x l m z
  by_cases L:d<gs.length
  .rw[DB.pj_old L] at z;show z
  .exact(m (z ▸ DB.pj_new 'o' l)).elim
 have q:∀x,x<gs.length->x∉R->KS.Rc (gof (nxt gs S R)) 0 x:=by
  intro x K m
  let⟨d,Q,A,P⟩:=J7 i h (x:=0) 'o' (by rw[DB.pj_old G];show E x K)
  rw[f Q m P] at A
  show A
 have C:u∉R:=fun z=>c (h.sub u z).1
 have N:hd∉R:=fun z=>(h.sub hd z).2 rfl
 have M:=h.sc.lt hd h.hS
 have t:=(h.sc.lt p g).1
 have v:R.idxOf p<R.length:=Dt k
 refine⟨p,gs.length+R.idxOf p,'o',by rw[Ye];lia,by rw[Ye];lia,?_,?_,?_⟩
 .have D:=h.sc.mu hd h.hS p g
  have:KS.Rc (DB.lk gs.length (gof gs) B) p hd->KS.Rc (gof (nxt gs S R)) hd p/\p∈S:=by
   clear e j k v t g
   induction D with
   | here=>show fun _=>⟨.here,h.hS⟩
   | @step a b F o H=>
    intro r
    let⟨J,I⟩:=H ((KS.Rc.one o).trans r)
    let⟨⟨y,U⟩,w,O⟩:=DB.mem_lk.mp o
    refine⟨.step J ?_,h.sc.all hd h.hS b (i.cd a y b w) O (.step F o) r⟩
    change b∈gof (nxt gs S R) a
    rw[W3 'o']
    unfold DB.nx
    rw[ng y,ng I]
    show w
  show(q hd M.1 N).trans (this (h.sc.mu p g hd h.hS)).1
 .refine .step (q u n C) ?_
  change _∈gof (nxt gs S R) u
  rw[W3 'o']
  unfold DB.nx
  rw[ng n,nc c]
  refine De.mpr ⟨p,e,?_⟩
  unfold DB.cp
  rw[ng k]
 .rw[Gi i 'o',Gi i 'o',DB.pj_old t]
  unfold DB.pj
  rw[nc 'o',Nat.add_sub_cancel_left,Af (l:=R),Aa v,Ms,Ir]
end
def Al(gs:List (LQ))(B:LQ):Prop:=∀a∈Zc gs B,∀b,RL gs B b a->RL gs B a b->b=a
def F1{gs:List (LQ)}{B d T:LQ}(cd:Cd gs)(k:ND.Ends (gR gs.length (Zc gs B) (amg gs (Zc gs B))) gs.length (d++[gs.length]))(f:Sq (into (amg gs (Zc gs B)) (Zc gs B)) d.reverse T):Al gs B:=by
 let⟨g,l⟩:=C9 cd k
 let⟨e,c⟩:=Zt4 cd f (Rp g)
 show fun a h b j i=>c a (Dw.mpr (l a h)) b j i
structure Dst(M M':Z1)(gs:List (LQ))(os B:LQ)(t:D):Prop where
 kp:Kp M M'
 hg:M'[M.length]?=some (.lst (tupD gs))
 ho:M'[M.length+1]?=some (.lst (natD os))
 hd:M'[M.length+2]?=some (.dct (begD B))
 tg:(t= .non/\Al gs B)\/∃r S,t= .ref r/\M.length+3<=r/\M'[r]?=some (.lst (natD S))/\DB.Scc gs.length (gof gs) B S
def kp_c{M a:Z1}{i:Nat}{c:Cell}(k:Kp M a)(h:M[i]?=some c):a[i]?=some c:=by let⟨N,rfl⟩:=k;show Z5 h
def Ya0{gs:List (LQ)}{B T R s:LQ}(b:CT h T s R)(a:∀p∈R,p∈Zc gs B):R.length<=gs.length:=
 ni (Dl (Dq.mp b.nd).2.1 a) (Rm gs B)
def Yc6{Z:DX}{M a:Z1}{gs:List (LQ)}{os B:LQ}{Q:DK}(i:Kp M a)
  (g:a[M.length]?=some (.lst (tupD gs))) (j:a[M.length+1]?=some (.lst (natD os))) (b:a[M.length+2]?=some (.dct (begD B))) (cd:Cd gs) (e:∀l∈gs,l.length<=2) (y:gs.length<64)
  (q:∀t c,Dst M c gs os B t->Q t c):Qt [.ref M.length,.ref (M.length+2)] a Q Z:=by
 have A:=c_lt b
 refine⟨_,_,gs,B,rfl,cL g,b,'o',e,fun d n=>⟨fun w x v T R h f o m u=>⟨?_,fun S c r p _ k s z=>?_⟩,fun T c f k=>?_⟩⟩
 .have:=Ya0 o m
  lia
 .exact q _ _ ⟨i.trans k,kp_c k g,kp_c k j,kp_c k b,.inr ⟨r,S,rfl,'o',s,Co (Zb4 cd n h f o m u) p⟩⟩
 .exact q _ _ ⟨i.trans k,kp_c k g,kp_c k j,kp_c k b,.inl ⟨rfl,F1 cd n f⟩⟩
def te_vvv{c:Cfg}{f i j k:Nat}{x y z:D}{a:DEnv}{sp:DSp}(e:c.Γ[f]?=some sp)(hi:a[i]?=some (some x))(d:a[j]?=some (some y))(b:a[k]?=some (some z))(h:sp [x,y,z] M Q X):te c X (.call f (.cons (.var i) (.cons (.var j) (.cons (.var k) .nil)))) a M Q:=by
 simp only[te,tes,e,hi,d,b];show h
def te_vvvv{c:Cfg}{f i j k l:Nat}{x y z u:D}{a:DEnv}{sp:DSp}(g:c.Γ[f]?=some sp)(hi:a[i]?=some (some x))(e:a[j]?=some (some y))(d:a[k]?=some (some z))(b:a[l]?=some (some u))(h:sp [x,y,z,u] M Q X):te c X (.call f (.cons (.var i) (.cons (.var j) (.cons (.var k) (.cons (.var l) .nil))))) a M Q:=by
 simp only[te,tes,g,hi,e,d,b];show h
def te_vvve{c:Cfg}{f i j k:Nat}{x y z:D}{a:DEnv}{sp:DSp}(g:c.Γ[f]?=some sp)(hi:a[i]?=some (some x))(d:a[j]?=some (some y))(b:a[k]?=some (some z))(h:te c X e a M fun u l=>sp [x,y,z,u] l Q X):te c X (.call f (.cons (.var i) (.cons (.var j) (.cons (.var k) (.cons e .nil))))) a M Q:=by
 simp only[te,tes,g,hi,d,b];show h
def Y93{M a:Z1}(h:Kq M a):Kp M a:=by
 refine⟨a.drop M.length,?_⟩
 refine Hm fun i=>?_
 by_cases e:i<M.length
 .rw[Az e]
  have:=h i _ (Aa e)
  rw[this,Aa e]
 .rw[Di 'o',List.getElem?_drop]
  congr 1
  lia
def Zy1(l:LQ):natD l=(l.map fun(x:Nat)=>(x:Int)).map D.int:=by unfold natD;rw[Ii];rfl
section
variable{K:Ac}
def Zl2{Γ G}{M o:Z1}{a r:Nat}{g0 gs:List (LQ)}{os B S:LQ}
  (g7:Γ[7]?=some Qt) (g8:Γ[8]?=some S6) (g9:Γ[9]?=some Ta) (g10:Γ[10]?=some (Z39 Ta)) (g12:Γ[12]?=some Zm0)
  (i:DI g0 gs os B) (lt:gs.length<64) (f:DB.Scc gs.length (gof gs) B S) (kp:Kp M o) (hg:o[M.length]?=some (.lst (tupD gs))) (ho:o[M.length+1]?=some (.lst (natD os))) (hd:o[M.length+2]?=some (.dct (begD B))) (lr:M.length+3<=r) (hr:o[r]?=some (.lst (natD S)))
  (q:∀h R,Dstep gs B S h R->(nxt gs S R).length<64/\∀H t d5 d6,Dst M H (nxt gs S R) (os++R.map fun p=>os.getD p 0) (B++[h]) t->C [↑a,↑M.length,some (.ref (M.length+1)),some (.ref (M.length+2)),some t,d5,d6,d7,d8] H):
  tss ⟨K,Γ,G⟩ Z V1 {nx:=C,rt:=RQ,bk:=bk,ct:=C} [↑a,↑M.length,some (.ref (M.length+1)),some (.ref (M.length+2)),↑r,d5,d6,d7,d8] o:=by
 have lS:S.length<=gs.length:=ni (Dl f.nd fun x v=>Yn.mpr (f.lt x v)) (Rm gs B)
 have L:∀p∈S,p<gs.length:=fun p w=>(f.lt p w).1
 simp only[V1,tss_cons,tss_nil,U.ts]
 refine te_vv g8 rfl rfl ⟨_,_,gs,S,rfl,cL hg,cL hr,f.nd,'o','o',i.two,fun J M1 r1 z0 u h1 l1=>?_⟩
 have n:=kp_c u hg
 have W:=kp_c u ho
 have F:=kp_c u hd
 have g:=kp_c u hr
 have c:∀x∈S.filter (fun x=>decide (x∈J)),x∈S:=fun x v=>(Hr.mp v).1
 have d:(S.filter (fun x=>decide (x∈J))).length<=1000:=ni (Hg _ _) 'o'
 have k:∀x,x∈S.filter (fun x=>decide (x∈J))↔x∈S/\(x=0\/∃p,p<gs.length/\p∉S/\x∈gof gs p):=fun x=>by
  rw[Hr,decide_eq_true_eq,z0]
 generalize S.filter (fun x=>decide (x∈J))=doors at h1 c d k
 try dsimp only
 rw[tg_one]
 refine Z8 ?_
 simp only[tss_cons,tss_nil,U.ts]
 refine te_vvv g10 rfl rfl rfl ⟨_,_,_,S.map fun(x:Nat)=>(x:Int),rfl,by rw[<-Zy1];show cL g,by rw[Ag];have:=f.two;lia,fun H b x v=>?_,fun m hm H b=>?_⟩
 .let⟨y,hy,rfl⟩:=De.mp v
  refine⟨_,_,_,y,gs,S,doors,rfl,cL (b _ _ n),cL (b _ _ g),f.nd,'o',L,i.two,cL (b _ _ h1),d,c,fun R M3 r3 _ _ l h3 _=>⟨⟨_,_,rfl,cL h3⟩,fun j I e=>kp_c l e⟩⟩
 let⟨h,hh,rfl⟩:=De.mp hm
 have Q:=Y93 b
 try dsimp only
 rw[tg_one]
 refine Z8 ?_
 simp only[tss_cons,tss_nil,U.ts]
 refine te_vvve g12 rfl rfl rfl (te_vvvv g9 rfl rfl rfl rfl ?_)
 refine⟨_,_,_,h,gs,S,doors,rfl,cL (b _ _ n),cL (b _ _ g),f.nd,'o',L,i.two,cL (b _ _ h1),d,c,fun R M3 r3 ct hR l h3 l3=>?_⟩
 have st:Dstep gs B S h R:=⟨f,hh,⟨doors,k,ct⟩,hR⟩
 let⟨s,y0⟩:=q h R st
 have i2:=i.step st
 have X:=kp_c l (b _ _ n)
 have V:=kp_c l (b _ _ W)
 have Y:=kp_c l (b _ _ F)
 have T:=kp_c l (b _ _ g)
 have x0:M.length+3<=H.length:=by have:=c_lt (b _ _ F);lia
 have nR:R.Nodup:=by simpa using ct.nd
 have lR:R.length<=gs.length:=by rw[Ye] at s;show ni (Dl nR fun p w=>(hR p w).1) lS
 refine⟨M.length,M.length+1,r,r3,gs,os,S,R,rfl,X,V,cL T,cL h3,'o','o','o','o','o',nR,'o','o','o',i.ol,fun p w=>L p (hR p w).1,i.two,fun M4 k4 A z=>?_⟩
 have N:∀j I,M.length≠j->M.length+1≠j->M3[j]?=some I->M4[j]?=some I:=fun j I n1 n2 e=>by
  have:=kp_c k4 e
  rw[Dh n2,Dh n1] at this
  show this
 have E:=N _ _ 'o' 'o' Y
 have P:Kp M M3:=((kp.trans u).trans Q).trans l
 have O:Kp M M4:=by
  have a1:=P.trans k4
  have a2:=Zo2 a1 'o' (c':= .lst (natD (os++R.map fun p=>os.getD p 0))) (by rw[Dh 'o'];show z)
  show Zo2 a2 (na _) A
 refine Z8 ?_
 have hB:h∉B:=(f.lt h hh).2
 have lB:B.length<=gs.length:=ND.Yi _ _ i.bn i.bl
 rfl'
 refine .inr ⟨begD B,_,cD E,rfl,by rw[Xn];show Z2 'o',?_⟩
 rfl'
 rw[Wl hB]
 refine Yc6 (Kp.set O 'o') (c_ne A 'o') (c_ne z 'o') (X5 E) i2.cd i2.two s fun t M5 ds=>?_
 rfl'
 show y0 _ _ _ _ ds
end
def nodN(nds:List Nd)(gs:List (LQ))(os:LQ):List Nd:=os.mapIdx fun k o=>(nds.getD o .fin).wt (gof gs k)
def Vg(j:Uh):DSp:=fun k M Q Z=>∃(a:Nat) (e:List Nd) (I:Nat->List (LQ)->LQ->LQ->Prop),k=[.ref a]/\readL M a=some (e.map Nd.d)/\(∃m,I m (gsOf e) (Ao e.length) [])/\
 (∀m b c B,I m b c B->b.length<64/\DI (gsOf e) b c B)/\
 (∀m b c B S h R,I m b c B->b.length<=40->Dstep b B S h R->∃i,i<m/\I i (nxt b S R) (c++R.map fun p=>c.getD p 0) (B++[h]))/\
 (∀m b c B f,I m b c B->40<b.length->Kp M f->Z j .non f)/\
 ∀m b c B d f r g,I m b c B->b.length<=40->Al b B->ND.Ends (gR b.length [0] (gof b)) b.length (d++[b.length])->Kp M f->f[r]?=some (.lst ((gra (nodN e b c) d.reverse).map Nd.d))->f[g]?=some (.lst (natD (d.reverse.map fun x=>c.getD x 0)))->Q (.tup [.ref r,.ref g]) f
def Zn1(n:Nat):Su 0 n=natD (Ao n):=by
 unfold Su natD
 show Hi fun x _=>by rw[Int.zero_add]
def Y88{o:Nat}(h:o<nds.length):gof (gsOf nds) o=(nds.getD o .fin).gs.reverse:=by
 show(gsOf nds).getD o []=_
 unfold gsOf
 rw[Af,Af,Aw,Aa h]
 rfl
def Nz(nds:List Nd)(gs:List (LQ))(os:LQ):(nodN nds gs os).length=os.length:=by unfold nodN;simp
def Z49{nds:List Nd}{gs:List (LQ)}{os:LQ}{k o:Nat}(h:os[k]?=some o):(nodN nds gs os)[k]?=some ((nds.getD o .fin).wt (gof gs k)):=by
 unfold nodN
 rw[Ds,h]
 rfl
section
variable{nds:List Nd}{gs:List (LQ)}{os B:LQ}
def DI.o(a:DI (gsOf nds) gs os B){k:Nat}(h:k<gs.length):os[k]?=some (os.getD k 0)/\os.getD k 0<nds.length/\(gof gs k).length=(nds.getD (os.getD k 0) .fin).gs.length:=by
 have l:=a.olt k h
 have b:(gsOf nds).length=nds.length:=by unfold gsOf;simp
 rw[b] at l
 refine⟨by rw[Af,Aa (by rw[a.ol];show h)];rfl,l,?_⟩
 have:=congrArg List.length (a.ov k h)
 rw[Ag,Y88 l,Ht] at this
 show this
def DI.w(c:DI (gsOf nds) gs os B){k:Nat}(h:k<gs.length):wy (nodN nds gs os) k=(gof gs k).reverse:=by
 let⟨b,d,a⟩:=c.o h
 have:=congrArg List.reverse (Nd.wt_gs _ a)
 rw[List.reverse_reverse] at this
 rw[Qw (Z49 b),this]
def Om{n:Nat}{d:LQ}(a:Wf n [0] (· <n) gf)(e:ND.Ends (gR n [0] gf) n (d++[n])):d.Nodup/\(∀x∈d,x<n)/\∀x∈d,∀t∈gf x,t∈d:=by
 have f:=C5 a e
 let⟨i,h,_⟩:=e.facts
 refine⟨(Dq.mp i).1,f,fun x b t c=>?_⟩
 have g:=f x b
 have:t∈d++[n]:=h x (Dg _ b) t (by unfold gR;rw[nc 'o'];show Dw.mpr c)
 refine(Au.mp this).resolve_right fun z=>?_
 rw[An] at z
 have:=a.cl x g t c
 lia
end
section
variable{K:Ac}
def Zb0{Γ G}{V:Uh}{Z:DX}{M s:Z1}{a:Nat}{t:D}{d5 d6:Option D}{nds:List Nd}{gs:List (LQ)}{os B:LQ}{Q:DK}{nx bk ct:DEnv->Z1->Prop}(h9:G[9]?=some (.int 40))(h5:G[5]?=some (.cls V))(g1:Γ[1]?=some Sc)(g2:Γ[2]?=some Vj)(g3:Γ[3]?=some Wm)
  (f:DI (gsOf nds) gs os B) (ha:readL M a=some (nds.map Nd.d)) (kp:Kp M s) (P:s[M.length]?=some (.lst (tupD gs))) (ho:s[M.length+1]?=some (.lst (natD os))) (q1:40<gs.length->Z V .non s)
  (q2:gs.length<=40->∀d j r W,ND.Ends (gR gs.length [0] (gof gs)) gs.length (d++[gs.length])->Kp M j->j[r]?=some (.lst ((gra (nodN nds gs os) d.reverse).map Nd.d))->j[W]?=some (.lst (natD (d.reverse.map fun x=>os.getD x 0)))->Q (.tup [.ref r,.ref W]) j):
  tss ⟨K,Γ,G⟩ Z V3 {nx:=nx,rt:=Q,bk:=bk,ct:=ct} [↑a,↑M.length,some (.ref (M.length+1)),some (.ref (M.length+2)),some t,d5,d6,none,none] s:=by
 have lg:(tupD gs).length=gs.length:=by unfold tupD;simp
 delta V3
 rfl'
 refine Zq (cL P) ?_
 try simp only[h9]
 rfl'
 rw[lg]
 by_cases h:40<gs.length
 .rw[ng (by simpa using by lia)]
  rfl'
  simp only[h5]
  show q1 h
 rw[nc (by simpa using by lia)]
 replace q2:=q2 'o'
 have U:Wf gs.length [0] (· <gs.length) (gof gs):=⟨fun p h=>h,'o',fun x b=>by rw[An] at b;rw[b];show f.pos,fun p hp=>by rw[(f.o hp).2.2];show Nd.gs_two _,f.cd⟩
 delta Q6
 rfl'
 refine⟨Z0 'd',_,_,gs.length,[0],(· <gs.length),gof gs,rfl,cL Zb,Y20 (cL (Z5 P)),U,fun d M1 r1 en F h1 l1=>?_⟩
 let⟨T,q,dc⟩:=Om U en
 have n:=Xj h1
 have k:=kp_c F (Z5 ho)
 have O:=kp_c F (Z5 P)
 have l:Kp M M1:=(kp.app _).trans F
 have R:=l.L ha
 rfl'
 refine⟨_,cL k,?_⟩
 simp only[capD,Ch,Dp,Hk,Go,Ha,Dz,Hl]
 refine Zn (fun i c j=>∃g v,c=[g,v,↑a,↑M.length]/\j=M1++[.lst (((nodN nds gs os).take i).map Nd.d)]) ⟨none,none,rfl,rfl⟩ ?_ ?_ ?_
 .rintro i c j _ ⟨g,v,rfl,rfl⟩
  show⟨_,cL (Z5 k),rfl⟩
 .rintro i dx c j C b ⟨g,v,rfl,rfl⟩ S
  let⟨y,u,rfl⟩:=Vm b
  let⟨o,e,rfl⟩:=Y1 u
  have J:i<gs.length:=by rw[<-f.ol];show(Ab.mp e).1
  let⟨o1,Y,X⟩:=f.o J
  have eo:os.getD i 0=o:=by rw[o1] at e;show Hb e
  rw[eo] at Y X
  have hn:nds[o]?=some (nds.getD o .fin):=by rw[Af,Aa Y];rfl
  have N:(tupD gs)[i]?=some (.tup (natD (gof gs i))):=by
   unfold tupD
   rw[Aw,Aa J]
   change _=some (D.tup (natD (gs.getD i [])))
   rw[Af,Aa J]
   rfl
  rfl'
  refine ix_l (Z6 R) (Jx hn) (ix_l (cL (Z5 O)) N ?_)
  rfl'
  try simp only[g1]
  refine⟨_,gof gs i,_,rfl,X,.inr rfl,?_⟩
  rfl'
  refine⟨_,cW Zb,by rw[Ag,Hu,Nz];show Z2 (by have:=f.ol;lia),?_⟩
  refine S _ _ ⟨_,_,rfl,?_⟩
  rw[Dj _ _ (na _),Nat.sub_self,Zr (Z49 e),Ai]
  rfl
 rintro c j ⟨g,v,rfl,rfl⟩
 rw[V5,Z4,<-Nz nds gs os,Dr]
 rfl'
 refine⟨_,_,nodN nds gs os,d.reverse,rfl,cL Zb,cL (Z5 n),Rp T,?_,fun x b=>?_,fun x b t ht=>?_,fun M3 r3 E h3 l3=>?_⟩
 .rw[Ht]
  have:=ND.Yi _ _ T q
  lia
 .rw[Nz,f.ol]
  show q x (Dw.mp b)
 .have b:=Dw.mp b
  rw[f.w (q x b)] at ht
  show Dw.mpr (dc x b t (Dw.mp ht))
 have m:=kp_c E (Z5 n)
 have I:=kp_c E (Z5 k)
 have A:Kp M M3:=(l.app _).trans E
 try dsimp only
 refine⟨_,cL m,?_⟩
 simp only[capD,Ch,Dp,Hk,Go,Ha,Dz,Hl]
 refine Zn (fun i c z=>∃g,c=[g,some (.ref (M.length+1))]/\z=M3++[.lst (natD ((d.reverse.take i).map fun x=>os.getD x 0))]) ⟨none,rfl,rfl⟩ ?_ ?_ ?_
 .rintro i c z _ ⟨g,rfl,rfl⟩
  show cL (Z5 m)
 .rintro i dx c z C b ⟨g,rfl,rfl⟩ S
  let⟨y,u,rfl⟩:=Y1 b
  have ly:=q y (Dw.mp (As u))
  have H:(natD os)[y]?=some (.int ((os.getD y 0:Nat):Int)):=by
   unfold natD
   rw[Aw,(f.o ly).1]
   rfl
  rfl'
  refine ix_l (cL (Z5 I)) H ?_
  rfl'
  have ld:d.length<=40:=by have:=ND.Yi _ _ T q;lia
  refine⟨_,cW Zb,by rw[Z4,Ag,Hu,Ht];show Z2 'o',?_⟩
  refine S _ _ ⟨_,rfl,?_⟩
  rw[Dj _ _ (na _),Nat.sub_self,Zr u,Ai,Ch,Dp,Zv]
  rfl
 rintro c z ⟨g,rfl,rfl⟩
 rw[Z4,Dr]
 show⟨Z0 'd',q2 d _ _ _ en (A.app _) (Z5 (Xj h3)) Zb⟩
def Zd2{Γ G}(h9:G[9]?=some (.int 40))(h5:G[5]?=some (.cls tg))(g0:Γ[0]?=some Sg)(g1:Γ[1]?=some Sc)(g2:Γ[2]?=some Vj)(g3:Γ[3]?=some Wm)(g7:Γ[7]?=some Qt)(g8:Γ[8]?=some S6)(g9:Γ[9]?=some Ta)(g10:Γ[10]?=some (Z39 Ta))(g12:Γ[12]?=some Zm0):
  ∀ds M Q Z,Vg tg ds M Q Z->tss ⟨K,Γ,G⟩ Z G4 {nx:=fun _ M=>Q .non M,rt:=Q} (start0 Js ds) M:=by
 rintro ds M Q Z ⟨a,nds,I,rfl,ha,⟨m0,i0⟩,bd,stp,over,fin⟩
 let⟨l0,di0⟩:=bd _ _ _ _ i0
 have el:(gsOf nds).length=nds.length:=by unfold gsOf;simp
 simp only[G4,Js,tss_cons,tss_nil]
 simp only[U.ts]
 refine Z41 g0 rfl ha 'o' ?_
 try dsimp only
 rw[tg_one]
 refine Z8 ?_
 simp only[tss_cons,tss_nil]
 rfl'
 refine Zq (Z6 ha) ?_
 try dsimp only[N6]
 refine⟨'o',by rw[Ag];lia,?_⟩
 rw[Ag,Kj,Zn1]
 rfl'
 simp only[Ae,Ex,Ik,Nat.zero_add]
 refine Yc6 (gs:=gsOf nds) (os:=Ao nds.length) (B:=[]) (((Kp.new _ _).app _).app _) (Z5 (Z5 Zb)) (Z5 ?_) ?_ di0.cd di0.two l0 fun t M1 ds=>?_
 .have:=Zb (M:=M++[Cell.lst (tupD (gsOf nds))]) (c:= .lst (natD (Ao nds.length)))
  simpa using this
 .have:=Zb (M:=M++[Cell.lst (tupD (gsOf nds))]++[.lst (natD (Ao nds.length))]) (c:= .dct (begD []))
  simpa[begD] using this
 rfl'
 refine⟨fun m σ M2=>∃gs os B t d5 d6,σ=[↑a,↑M.length,some (.ref (M.length+1)),some (.ref (M.length+2)),some t,d5,d6,none,none]/\I m gs os B/\Dst M M2 gs os B t,⟨m0,_,_,_,_,_,_,rfl,i0,ds⟩,?_⟩
 clear ds
 rintro m σ M2 ⟨gs,os,B,t,d5,d6,rfl,im,ds⟩
 let⟨lt,di⟩:=bd _ _ _ _ im
 rcases ds.tg with⟨rfl,al⟩ | ⟨r,S,rfl,lr,hr,sc⟩
 .rfl'
  refine Z8 ?_
  show Zb0 h9 h5 g1 g2 g3 di ha ds.kp ds.hg ds.ho (fun h=>over _ _ _ _ _ im h ds.kp) fun h d M3 r r2 en k=>fin _ _ _ _ _ _ _ _ im h al en k
 rfl'
 refine Zq (cL ds.hg) ?_
 try simp only[h9]
 have lg:(tupD gs).length=gs.length:=by unfold tupD;simp
 rw[lg]
 rfl'
 by_cases h:gs.length<=40
 .rw[ng 'o']
  show Zl2 g7 g8 g9 g10 g12 di lt sc ds.kp ds.hg ds.ho ds.hd lr hr fun hd R st=>by
   let⟨m',lm,i'⟩:=stp _ _ _ _ _ _ _ im h st
   show⟨(bd _ _ _ _ i').1,fun M3 t d5 d6 ds3=>⟨m',lm,_,_,_,_,_,_,rfl,i',ds3⟩⟩
 .rw[nc 'o']
  refine Z8 ?_
  show Zb0 h9 h5 g1 g2 g3 di ha ds.kp ds.hg ds.ho (fun h=>over _ _ _ _ _ im h ds.kp) fun h'=>absurd h' h
end
def Nd.xs:Nd->LD
 | .sum x a c b t=>[.str "sum",.str x,a.d,.str c,b.d,.int t]
 | .test a c b y n=>[.str "test",a.d,.str c,b.d,.int y,.int n]
 | .fin=>[.str "end"]
 | .spin=>[.str "spin"]
def Nd.d_xs(n:Nd):n.d= .tup n.xs:=by cases n<;>rfl
def Opd.flat(o:Opd):(∃i,o.d= .int i)\/∃s,o.d= .str s:=by
 cases o with
 | nm x=>show .inr ⟨_,rfl⟩
 | no i=>show .inl ⟨_,rfl⟩
def Nd.xs_flat(n:Nd):∀x∈n.xs,(∃i,x= .int i)\/∃s,x= .str s:=by
 intro x a
 cases n<;>simp only[Nd.xs,Aq,Hy,or_false] at a
 .rcases a with rfl | rfl | rfl | rfl | rfl | rfl
  .exact .inr ⟨_,rfl⟩
  .exact .inr ⟨_,rfl⟩
  .exact Opd.flat _
  .exact .inr ⟨_,rfl⟩
  .exact Opd.flat _
  .exact .inl ⟨_,rfl⟩
 .rcases a with rfl | rfl | rfl | rfl | rfl | rfl
  .exact .inr ⟨_,rfl⟩
  .exact Opd.flat _
  .exact .inr ⟨_,rfl⟩
  .exact Opd.flat _
  .exact .inl ⟨_,rfl⟩
  .exact .inl ⟨_,rfl⟩
 .subst a;show .inr ⟨_,rfl⟩
 .subst a;show .inr ⟨_,rfl⟩
def Nd.xs_len(n:Nd):n.xs.length<=6:=by cases n<;>simp[Nd.xs]
def Xv:Str:=Str.empty++("way":Str)++(toString (0:Int):String)
def Zg2:DSp:=fun e M Q _=>∃(a:Nat) (b:List Nd),e=[.ref a]/\readL M a=some (b.map Nd.d)/\b.length<=100/\(∀n∈b,D.str Xv∉n.xs)/\∀c,Kp M c->Q (.str Xv) c
def Zs0(m:KQ9)(k:Key)(v:D):(putD m k v).length<=m.length+1:=by
 unfold putD
 split<;>simp
def Y33{k z:Key}{v:D}(h:∀p∈m,p.1≠z)(c:k≠z):∀p∈putD m k v,p.1≠z:=by
 intro p a
 unfold putD at a
 split at a
 .let⟨q,b,rfl⟩:=De.mp a
  split
  .exact h q b
  .exact h q b
 .rcases Au.mp a with a | a
  .exact h p a
  .rw[An] at a;subst a;show c
def Zw8{z:Key}(h:∀p∈m,p.1≠z):valD m z=none:=by
 unfold valD
 have:m.find? (fun a=>decide (a.1=z))=none:=by
  rw[List.find?_eq_none]
  intro a b e
  show h a b ↥e
 rw[this]
 rfl
section
variable{K:Ac}
def te_wname{c:Cfg}{a:DEnv}(h:a[4]?=some (some (.int 0)))(q:Q Xv M):tfs c X (.cons (.str "way") (.cons (.var 4) .nil)) Str.empty a M Q:=by
 simp only[te,tfs,h]
 show⟨Z0 'k',Z0 'k','k',Z0 'k',Z0 'k',q⟩
def Ya3{Γ G}:Rd K Γ G Zg2 Ru Q2:=by
 rintro ds M Q Z ⟨a,nds,rfl,ha,hl,hn,q⟩
 delta Ru Q2
 rfl'
 refine⟨_,Z6 ha,?_⟩
 refine Yg (fun i σ M'=>∃kvs d2 d3,σ=[↑a,↑M.length,d2,d3,none]/\Kp M M'/\M'[M.length]?=some (.dct kvs)/\kvs.length<=6 * i/\∀p∈kvs,p.1≠Mx Xv)
  ⟨[],none,none,rfl,Kp.new _ _,Zb,by simp,fun p hp=>by simp at hp⟩ ?_ ?_ ?_
 .rintro i σ M' _ ⟨kvs,d2,d3,rfl,kp,_⟩
  show kp.L ha
 .rintro i dx σ M' C hx ⟨kvs,d2,d3,rfl,kp,hk,lk,nk⟩ hC
  rw[Aw,Ho] at hx
  let⟨n,hn1,rfl⟩:=hx
  have hi:i<nds.length:=(Ab.mp hn1).1
  have nx:=hn n (As hn1)
  have nf:=n.xs_flat
  have nl:=n.xs_len
  rw[n.d_xs]
  rfl'
  delta Vp
  rfl'
  refine Yg (fun j σ M2=>∃kvs d3,σ=[↑a,↑M.length,some (.tup n.xs),d3,none]/\Kp M M2/\M2[M.length]?=some (.dct kvs)/\kvs.length<=6 * i+j/\∀p∈kvs,p.1≠Mx Xv)
   ⟨kvs,d3,rfl,kp,hk,'o',nk⟩ (fun _ _ _ _ _=>trivial) ?_ ?_
  .rintro j dx σ M2 C2 hx ⟨kvs,d3,rfl,kp,hk,lk,nk⟩ hC2
   have hj:=(Ab.mp hx).1
   have hm:=As hx
   have sz:kvs.length<1000:='o'
   have fin:∀key,key≠Mx Xv->C2 [↑a,↑M.length,some (.tup n.xs),some dx,none] (M2.set M.length (.dct (putD kvs key (.bl true)))):=fun key ne=>
    hC2 _ _ ⟨_,_,rfl,Kp.set kp (na _),X5 hk,by have:=Zs0 kvs key (.bl true);lia,Y33 nk ne⟩
   delta Vi
   rcases nf dx hm with⟨v,rfl⟩ | ⟨v,rfl⟩
   .rfl'
    refine .inr ⟨kvs,_,cD hk,rfl,Z2 'o',?_⟩
    rfl'
    show fin _ (fun z=>by cases z)
   .rfl'
    refine .inr ⟨kvs,_,cD hk,rfl,Z2 'o',?_⟩
    rfl'
    show fin _ (fun z=>nx (by cases z;show hm))
  .rintro σ M2 ⟨kvs,d3,rfl,kp,hk,lk,nk⟩
   try refine Z8 ?_
   rfl'
   show hC _ _ ⟨kvs,_,_,rfl,kp,hk,'o',nk⟩
 .rintro σ M' ⟨kvs,d2,d3,rfl,kp,hk,lk,nk⟩
  try refine Z8 ?_
  delta V6
  rfl'
  refine⟨fun _ σ M2=>σ=[↑a,↑M.length,d2,d3,some (.int 0)]/\M2=M',⟨0,rfl,rfl⟩,?_⟩
  rintro _ σ M2 ⟨rfl,rfl⟩
  refine te_wname rfl ?_
  try dsimp only[Ha,Dz]
  refine .inr (.inl ⟨kvs,_,cD hk,rfl,?_⟩)
  rw[Zw8 nk]
  try dsimp only
  rw[nc 'd']
  refine Z8 ?_
  delta Vu
  rfl'
  show te_wname rfl (q _ kp)
end
def Ka(a:Nat)(M b:Z1):Prop:=∀(j:Nat) c,a≠j->M[j]?=some c->b[j]?=some c
def Ka.refl(a:Nat)(M:Z1):Ka a M M:=fun _ _ _ h=>h
def Ka.trans{a:Nat}{M d b:Z1}(h:Ka a M d)(k:Ka a d b):Ka a M b:=fun j c n e=>k j c n (h j c n e)
def Ka.app{a:Nat}{M b:Z1}(h:Ka a M b)(N:Z1):Ka a M (b++N):=fun j c n e=>Z5 (h j c n e)
def Ka.set{a i:Nat}{c:Cell}{M b:Z1}(h:Ka a M b)(hi:M.length<=i):Ka a M (b.set i c):=fun j c n e=>c_ne (h j c n e) (by have:=c_lt e;lia)
def Ka.seta{a:Nat}{c:Cell}{M b:Z1}(h:Ka a M b):Ka a M (b.set a c):=fun j c n e=>c_ne (h j c n e) n
def Kp.ka{a:Nat}{M b:Z1}(h:Kp M b):Ka a M b:=fun j c _ e=>kp_c h e
def Ka.readL{a b:Nat}{M d:Z1}{xs:LD}(h:Ka a M d)(n:a≠b)(e:U.readL M b=some xs):U.readL d b=some xs:=by
 unfold U.readL at e ⊢
 cases q:M[b]? with
 | none=>rw[q] at e;cases e
 | some c=>rw[q] at e;rw[h b c n q];show e
def smz(nm:Str)(f k:Nat):List Nd:=(Ao k).map fun c=>Nd.sum nm (.no ((c:Nat):Int)) "+" (.no 0) f
def Zr8(nm:Str)(f k:Nat):smz nm f (k+1)=smz nm f k++[Nd.sum nm (.no ((k:Nat):Int)) "+" (.no 0) f]:=by
 unfold smz;rw[Il,Ai];rfl
def Wx(nm:Str)(f k:Nat):(smz nm f k).length=k:=by unfold smz;simp
def Z76{n i p:Nat}{R:LQ}(d:R.Nodup)(h:R[i]?=some p):putD (cpyD n (R.take i)) (Du (p:Int)) (.int ((n+i:Nat):Int))=cpyD n (R.take (i+1)):=by
 let⟨m,f⟩:=Ab.mp h
 have r:R.idxOf p=i:=by rw[<-f];show ND.Rh d m
 have c:p∉R.take i:=fun z=>by
  let⟨j,s,e⟩:=List.mem_take_iff_getElem.mp z
  have:=(List.getElem_inj d).mp (e.trans f.symm)
  lia
 have a:∀q∈R.take i,(R.take (i+1)).idxOf q=(R.take i).idxOf q:=fun q b=>by
  rw[Zr h,List.idxOf_append,ng b]
 unfold putD
 rw[nc]
 .rw[Zr h]
  unfold cpyD
  rw[Ai]
  congr 1
  .refine Hi fun q b=>?_
   rw[<-Zr h,a q b]
  .rw[List.map_singleton,List.idxOf_append,nc c]
   simp
   lia
 .intro z
  let⟨o,k,g⟩:=Kt.mp z
  unfold cpyD at k
  let⟨x,l,rfl⟩:=De.mp k
  rw[decide_eq_true_eq] at g
  have:=My g
  show c ((show x=p by lia) ▸ l)
def Z62:DSp:=fun i M Q _=>∃(a b f:Nat) (h:Str) (e:List Nd) (c:LQ),i=[.ref a,.str h,.ref b,.int (f:Nat)]/\M[a]?=some (.lst (e.map Nd.d))/\readL M b=some (natD c)/\a≠b/\c.Nodup/\c.length<=100/\e.length<=500/\
 ∀g r,Ka a M g->g[a]?=some (.lst ((e++smz h f c.length).map Nd.d))->g[r]?=some (.dct (cpyD e.length c))->M.length<=r->Q (.ref r) g
section
variable{K:Ac}
def Yc8{Γ G}:Rd K Γ G Z62 Oh Pd:=by
 rintro r M Q Z ⟨a,b,f,k,c,g,rfl,v,u,w,x,E,D,q⟩
 have F:=c_lt v
 delta Oh Pd
 rfl'
 refine⟨_,Z6 u,?_⟩
 refine Yg (fun i m j=>∃o n,m=[↑a,some (.str k),↑b,some (.int (f:Nat)),↑M.length,o,n]/\Ka a M j/\j[a]?=some (.lst ((c++smz k f i).map Nd.d))/\j[M.length]?=some (.dct (cpyD c.length (g.take i))))
  ⟨none,none,rfl,Ka.app (Ka.refl _ _) _,by rw[show smz k f 0=[] from rfl,Hd];show Z5 v,Zb⟩ ?_ ?_ ?_
 .rintro i m j _ ⟨o,n,rfl,l,_⟩
  show⟨_,l.readL w u,rfl⟩
 .rintro i I m j C A ⟨o,n,rfl,l,e,h⟩ B
  let⟨y,z,rfl⟩:=Vm A
  let⟨p,t,rfl⟩:=Y1 z
  have H:=(Ab.mp t).1
  have s:((c++smz k f i).map Nd.d).length=c.length+i:=by rw[Ag,Ae,Wx]
  delta Sb
  rfl'
  refine Zq (cL e) ?_
  rw[s]
  rfl'
  refine .inr ⟨_,_,cD h,rfl,by unfold cpyD;rw[Ag,Hu];show Z2 'o',?_⟩
  rfl'
  rw[Z76 x t]
  refine⟨Z9 (cL (c_ne e 'o')),Z0 'd',_,cW (c_ne e 'o'),by rw[s];show Z2 'o',?_⟩
  rfl'
  refine B _ _ ⟨_,_,rfl,(l.set (na _)).seta,?_,c_ne (X5 h) 'o'⟩
  rw[Zr8,<-Ar,Ai (l₁:=c++smz k f i)]
  show X5 (c_ne e 'o')
 .rintro m j ⟨o,n,rfl,l,e,h⟩
  rw[V5,Z4] at e h
  rw[Dr] at h
  try refine Z8 ?_
  delta Sk
  rfl'
  show q _ _ l e h (na _)
end
def tsr(nm:Str)(f:Nat)(a:LQ)(k:Nat):List Nd:=(Ao k).map fun c=>Nd.test (.nm nm) "=" (.no ((c:Nat):Int)) (a.getD c 0) (f+c+1)
def tsz(nm:Str)(f:Nat)(a:LQ):List Nd:=(Ao (a.length - 1)).map fun c=>Nd.test (.nm nm) "=" (.no ((c:Nat):Int)) (a.getD c 0) (if c+2=a.length then a.getD (c+1) 0 else f+c+1)
def Cv(nm:Str)(f:Nat)(a:LQ)(k:Nat):tsr nm f a (k+1)=tsr nm f a k++[Nd.test (.nm nm) "=" (.no ((k:Nat):Int)) (a.getD k 0) (f+k+1)]:=by
 unfold tsr;rw[Il,Ai];rfl
def J6(nm:Str)(f:Nat)(a:LQ)(k:Nat):(tsr nm f a k).length=k:=by unfold tsr;simp
def X8(nm:Str)(f:Nat)(a:LQ):(tsz nm f a).length=a.length - 1:=by unfold tsz;simp
def Y98(nm:Str)(f k:Nat)(a:LQ)(h:a.length=k+2):tsz nm f a=tsr nm f a k++[Nd.test (.nm nm) "=" (.no ((k:Nat):Int)) (a.getD k 0) (a.getD (k+1) 0)]:=by
 unfold tsz tsr
 rw[h,show k+2 - 1=k+1 by lia,Il,Ai]
 congr 1
 .refine Hi fun c b=>?_
  have:=He.mp b
  rw[nc 'o']
 .simp
def Fz:DSp:=fun g M Q _=>∃(b f:Nat) (e:Str) (a:LQ),g=[.str e,.ref b,.int (f:Nat)]/\readL M b=some (natD a)/\2<=a.length/\a.length<=100/\
 ∀c r,Kp M c->c[r]?=some (.lst ((tsz e f a).map Nd.d))->M.length<=r->Q (.ref r) c
def Zp7{a:Type}(xs:List a){k:Nat}(h:xs.length=k+2):U.cutD xs none (some (-1))=xs.take (k+1):=by
 have c:HT.sIx xs.length 0 none=0:=rfl
 have b:HT.sIx xs.length xs.length (some (-1))=k+1:=by
  rw[h]
  simp only[HT.sIx]
  rw[ng 'o']
  lia
 unfold U.cutD
 rw[c,b]
 rfl
def Zh2{a:Type}{xs:List a}{n j:Nat}{d:a}(c:0<n)(h:xs.length=j+n)(b:xs[j]?=some d):atI xs (-(n:Int))=some d:=by
 have e:ixN xs.length (-(n:Int))=some j:=by
  unfold ixN
  rw[nc 'o',ng 'o']
  congr 1
  lia
 unfold atI
 rw[e]
 show b
section
variable{K:Ac}
def Zw6{Γ G}(g1:Γ[1]?=some Sc):Rd K Γ G Fz Q7 Rw:=by
 rintro t M Q Z ⟨b,f,c,a,rfl,v,J,I,q⟩
 obtain⟨k,s⟩:∃k,a.length=k+2:=⟨a.length - 2,'o'⟩
 delta Q7 Rw
 rfl'
 refine⟨_,v,?_⟩
 rw[Zp7 (natD a) (k:=k) (by rw[Z4];show s)]
 have F:(natD a).take (k+1)=natD (a.take (k+1)):=by unfold natD;rw[List.map_take]
 rw[F]
 refine⟨_,cL Zb,?_⟩
 have o:Kp M (M++[.lst (natD (a.take (k+1)))]):=Kp.new _ _
 have w:(M++[.lst (natD (a.take (k+1)))]:Z1)[M.length]?=some (.lst (natD (a.take (k+1)))):=Zb
 have z:(M++[Cell.lst (natD (a.take (k+1)))]).length=M.length+1:=by simp
 generalize M++[.lst (natD (a.take (k+1)))]=M1 at o w z ⊢
 simp only[capD,Ch,Dp,Hk,Go,Ha,Dz,Hl]
 refine Zn (fun i g m=>∃l h,g=[l,h,some (.str c),some (.int (f:Nat))]/\m=M1++[.lst ((tsr c f a i).map Nd.d)]) ⟨none,none,rfl,rfl⟩ ?_ ?_ ?_
 .rintro i g m _ ⟨l,h,rfl,rfl⟩
  show⟨_,cL (Z5 w),rfl⟩
 .rintro i N g m C B ⟨l,h,rfl,rfl⟩ E
  let⟨y,A,rfl⟩:=Vm B
  let⟨p,r,rfl⟩:=Y1 A
  have D:i<k+1:=by have:=(Ab.mp r).1;simp at this;lia
  have H:a.getD i 0=p:=by
   rw[List.getElem?_take_of_lt D] at r
   rw[Af,r]
   rfl
  rfl'
  refine⟨Z0 'd',_,cW Zb,by rw[Ag,J6];show Z2 'o',?_⟩
  refine E _ _ ⟨_,_,rfl,?_⟩
  rw[Dj _ _ (na _),Nat.sub_self,Cv,Ai,<-H]
  rfl
 rintro g m ⟨l,h,rfl,rfl⟩
 rw[V5,Z4,Hu,Nat.min_eq_left 'o']
 rfl'
 have x:∀j,j<a.length->(natD a)[j]?=some (.int ((a.getD j 0:Nat):Int)):=fun j u=>by
  unfold natD
  rw[Aw,Aa u,Af,Aa u]
  rfl
 rw[Cv,Ai,List.map_singleton]
 have e:readL (M1++[Cell.lst ((tsr c f a k).map Nd.d++[(Nd.test (.nm c) "=" (.no ((k:Nat):Int)) (a.getD k 0) (f+k+1)).d])]) b=some (natD a):=Z6 (o.L v)
 refine Y48 (cL Zb) (J9 _ _) (Y48 e (Zh2 (n:=2) (j:=k) 'o' (by rw[Z4];show s) (x k 'o')) (Y48 e (Zh2 (n:=1) (j:=k+1) 'o' (by rw[Z4];lia) (x (k+1) 'o')) ⟨Z0 'd',?_⟩))
 refine⟨_,[a.getD k 0,a.getD (k+1) 0],_,rfl,rfl,.inr rfl,.inl ⟨_,_,k,rfl,cW Zb,?_,?_⟩⟩
 .rw[Ae,Ag,J6,Ay]
  unfold ixN
  rw[nc 'o',ng 'o']
  congr 1
  lia
 refine Z8 ?_
 rfl'
 rw[Dj _ _ (na _),Nat.sub_self,Dj _ _ (by rw[Ag,J6];show na _),Ag,J6,Nat.sub_self]
 refine q _ _ (o.app _) ?_ 'o'
 rw[Y98 c f k a s,Ai]
 show Zb
end
def gto(n:Nat)(us a:LQ)(k:Nat):Nat->Nat:=if k∈us then cpy (n+2 * a.length - 1) a else cpy (n+a.length - 1) a
def Xl(nds:List Nd)(us a:LQ)(i:Nat):List Nd:=nds.mapIdx fun k b=>if k<i then b.to (gto nds.length us a k) else b
def Wq(nm:Str)(n:Nat)(a:LQ):List Nd:=tsz nm n a++smz nm n a.length++smz nm n a.length
def nxg(nm:Str)(nds:List Nd)(us a:LQ):List Nd:=Xl nds us a nds.length++Wq nm nds.length a
def Yo(nds:List Nd)(us a:LQ)(i:Nat):(Xl nds us a i).length=nds.length:=by unfold Xl;simp
def Z10(nds:List Nd)(us a:LQ):Xl nds us a 0=nds:=by
 unfold Xl
 refine Hm fun k=>?_
 rw[Ds]
 cases nds[k]? with
 | none=>rfl
 | some l=>simp
def Zl3{us a:LQ}{i:Nat}{b:Nd}(h:nds[i]?=some b):(Xl nds us a i)[i]?=some b:=by
 unfold Xl
 rw[Ds,h]
 simp
def Za6{us a:LQ}{i:Nat}{b:Nd}(h:nds[i]?=some b):(Xl nds us a i).set i (b.to (gto nds.length us a i))=Xl nds us a (i+1):=by
 have c:=(Ab.mp h).1
 refine Hm fun k=>?_
 by_cases e:i=k
 .subst e
  rw[Dm (by rw[Yo];show c)]
  unfold Xl
  rw[Ds,h]
  simp
 .rw[Dh e]
  unfold Xl
  rw[Ds,Ds]
  have:k<i+1↔k<i:='o'
  simp[this]
def R6:DSp:=fun j M Q _=>∃(a b f:Nat) (i:Str) (e:List Nd) (h c:LQ),j=[.ref a,.str i,.ref b,.ref f]/\M[a]?=some (.lst (e.map Nd.d))/\readL M b=some (natD h)/\readL M f=some (natD c)/\a≠b/\a≠f/\c.Nodup/\2<=c.length/\c.length<=100/\e.length<=200/\
 ∀g,Ka a M g->g[a]?=some (.lst ((nxg i e h c).map Nd.d))->Q .non g
section
variable{K:Ac}
def Ji{c:Cfg}{a i m h:Nat}{xs:LD}{b:LQ}{x:Nd}(g0:c.Γ[0]?=some Sg)(g1:c.Γ[1]?=some Sc)(o:f[0]?=some (↑a))(n:f[7]?=some (some (.int (i:Nat))))(l:f[8]?=some (↑h))
  (k:readL M a=some xs) (hi:xs[i]?=some x.d) (g:M[h]?=some (.dct (cpyD m b))) (q:Q (x.to (cpy m b)).d (M++[.lst (natD (x.gs.reverse.map (cpy m b)))])):
  te c X (.call 1 (.cons (.ix (.var 0) (.var 7)) (.cons (.comp ["goal","sums"] [none,(some 8)] [0] (.seq (.call 0 (.cons (.ix (.var 0) (.var 7)) .nil))) .no (.mt .get2 (.var 1) (.cons (.var 0) (.cons (.var 0) .nil)))) .nil))) f M Q:=by
 have v:=x.gs_two
 simp only[te,tes,tit,o,n,g0,g1]
 refine ix_l k hi (ix_l k hi ⟨x,rfl,?_⟩)
 rfl'
 have u:capD [none,some 8] f=[none,↑h]:=by
  simp only[capD,Ch,Dp,Hk,Go,l,Hl]
 rw[u]
 refine Zn (fun i f j=>∃d,f=[d,↑h]/\j=M++[.lst (natD ((x.gs.reverse.take i).map (cpy m b)))]) ⟨none,rfl,rfl⟩ ?_ ?_ ?_
 .rintro i f j _ _
  trivial
 .rintro i w f j C r ⟨d,rfl,rfl⟩ t
  let⟨p,s,rfl⟩:=Y1 r
  rfl'
  refine⟨Z9 (cD (Z5 g)),_,_,cD (Z5 g),rfl,?_⟩
  rw[Nv]
  rfl'
  refine⟨_,cW Zb,by rw[Z4];show Z2 (by simp;lia),?_⟩
  refine t _ _ ⟨_,rfl,?_⟩
  rw[Dj _ _ (na _),Nat.sub_self,Zr s,Ai,Wb]
  rfl
 .rintro f j ⟨d,rfl,rfl⟩
  have e:(natD x.gs.reverse).length=x.gs.reverse.length:=Z4 _
  rw[e,Dr]
  refine⟨x,_,_,rfl,by simp,.inl ⟨_,rfl,cL Zb⟩,?_⟩
  rw[Nd.wt_to]
  show q
def Zr0{Γ G}(g0:Γ[0]?=some Sg)(g1:Γ[1]?=some Sc)(g16:Γ[16]?=some Z62)(g17:Γ[17]?=some Fz):Rd K Γ G R6 S9 Sj:=by
 rintro T M Q Z ⟨a,b,H,g,f,h,c,rfl,L,hb,o,n1,t,nd,l2,O,ln,q⟩
 have la:=c_lt L
 delta S9 Sj
 rfl'
 refine Zq (cL L) ?_
 rw[Ag]
 rfl'
 refine⟨Z9 (cL L),H,f.length,g,c,rfl,o,l2,O,fun Y r1 k1 h1 x0=>?_⟩
 have z:=kp_c k1 L
 rfl'
 refine⟨_,_,cW z,cW h1,by rw[Ag,Ag,X8];show Z0 'o',?_⟩
 have j:Ka a M (Y.set a (.lst (f.map Nd.d++(tsz g f.length c).map Nd.d))):=k1.ka.seta
 have l:(Y.set a (.lst (f.map Nd.d++(tsz g f.length c).map Nd.d)))[a]?=some (.lst ((f++tsz g f.length c).map Nd.d)):=by rw[Ai];show X5 z
 generalize Y.set a (.lst (f.map Nd.d++(tsz g f.length c).map Nd.d))=M2 at j l ⊢
 have v0:=c_lt l
 have S:(f++tsz g f.length c).length=f.length+c.length - 1:=by rw[Ae,X8];lia
 rfl'
 refine⟨a,H,f.length,g,_,c,rfl,l,j.readL t o,t,nd,O,'o',fun M3 r3 w p k y0=>?_⟩
 rw[S] at k
 have e3:(f++tsz g f.length c++smz g f.length c.length).length=f.length+2 * c.length - 1:=by rw[Ae,S,Wx];lia
 rfl'
 refine⟨a,H,f.length,g,_,c,rfl,p,w.readL t (j.readL t o),t,nd,O,'o',fun X r4 v E A z0=>?_⟩
 rw[e3] at A
 have k:=v _ _ 'o' k
 have u:Ka a M X:=(j.trans w).trans v
 have w0:=c_lt p
 have D:X[a]?=some (.lst ((Xl f h c 0++Wq g f.length c).map Nd.d)):=by
  rw[Z10]
  unfold Wq
  rw[<-Ar,<-Ar]
  show E
 have lt:(Wq g f.length c).length<=300:=by unfold Wq;rw[Ae,Ae,X8,Wx];lia
 clear E p l S e3
 rfl'
 refine⟨'o','o',?_⟩
 rw[Kj]
 refine Yg (fun i I s=>∃W V,I=[↑a,some (.str g),↑b,↑H,some (.int (f.length:Nat)),↑r3,↑r4,W,V]/\Ka a X s/\s[a]?=some (.lst ((Xl f h c i++Wq g f.length c).map Nd.d)))
  ⟨none,none,rfl,Ka.refl _ _,D⟩ ?_ ?_ ?_
 .rintro i I s _ _
  trivial
 .rintro i dx I s C hx ⟨W,V,rfl,r,n⟩ hC
  let⟨R,rfl⟩:=Xm hx
  have P:f[i]?=some f[i]:=Aa R
  generalize f[i]=x at P
  have B:((Xl f h c i++Wq g f.length c).map Nd.d)[i]?=some x.d:=by
   rw[Aw,Az (by rw[Yo];show R),Zl3 P]
   rfl
  have x2:=x.gs_two
  delta Wr
  rfl'
  refine .inl ⟨_,(u.trans r).readL n1 hb,rfl,Wa h,?_⟩
  rfl'
  rw[Ov]
  have y:ixN ((Xl f h c i++Wq g f.length c).map Nd.d).length (i:Int)=some i:=by
   rw[Ag,Ae,Yo]
   unfold ixN
   rw[ng 'o',ng 'o']
   rfl
  have F:∀(m rs:Nat) (N:Z1),gto f.length h c i=cpy m c->C [↑a,some (.str g),↑b,↑H,some (.int (f.length:Nat)),↑r3,↑r4,some (.int (i:Nat)),↑rs] ((s++N).set a (.lst (((Xl f h c i++Wq g f.length c).map Nd.d).set i (x.to (cpy m c)).d))):=by
   intro m rs N eg
   refine hC _ _ ⟨_,_,rfl,(r.app _).seta,?_⟩
   have e:((Xl f h c i++Wq g f.length c).map Nd.d).set i (x.to (cpy m c)).d=(Xl f h c (i+1)++Wq g f.length c).map Nd.d:=by
    rw[<-eg,Ai,Kh _ _ (by rw[Ag,Yo];show R),<-List.map_set,Za6 P,<-Ai]
   rw[e]
   show X5 (Z5 n)
  by_cases J:i∈h
  .rw[decide_eq_true J]
   try dsimp only
   rw[ng rfl]
   refine Z8 ?_
   simp only[tss_cons,tss_nil,U.ts]
   refine Ji g0 g1 rfl rfl rfl (cL n) B (r _ _ 'o' A) ?_
   rfl'
   show .inl ⟨_,_,i,rfl,cW (Z5 n),y,Z8 (F _ _ _ (by unfold gto;rw[ng J]))⟩
  .rw[mh J]
   try dsimp only
   rw[nc 'd']
   refine Z8 ?_
   simp only[tss_cons,tss_nil,U.ts]
   refine Ji g0 g1 rfl rfl rfl (cL n) B (r _ _ 'o' k) ?_
   rfl'
   show .inl ⟨_,_,i,rfl,cW (Z5 n),y,Z8 (F _ _ _ (by unfold gto;rw[nc J]))⟩
 .rintro I s ⟨W,V,rfl,r,n⟩
  rw[Wj] at n
  try refine Z8 ?_
  rfl'
  show q _ (u.trans r) n
end
structure Gstep(gs:List (LQ))(B S doors:LQ):Prop where
 sc:DB.Scc gs.length (gof gs) B S
 nd:doors.Nodup
 mem:∀x,x∈doors↔x∈S/\(x=0\/∃p,p<gs.length/\p∉S/\x∈gof gs p)
def gnx(nds:List Nd)(S a:LQ):List Nd:=if 1<a.length then nxg Xv nds S a else nds
def Nt(h:Uh):DSp:=fun i M Q Z=>∃(a:Nat) (e:List Nd) (I:Nat->List Nd->LQ->Prop),i=[.ref a]/\readL M a=some (e.map Nd.d)/\e.length<=100/\(∀n∈e,D.str Xv∉n.xs)/\(∃m,I m e [])/\
 (∀m b B,I m b B->b.length<=200/\Cd (gsOf b)/\B.length<=200/\∀S,DB.Scc b.length (gof (gsOf b)) B S->S.length<64)/\
 (∀m b B S c,I m b B->Gstep (gsOf b) B S c->∃f,f<m/\I f (gnx b S c) (B++c))/\
 ∀m b B g,I m b B->Al (gsOf b) B->Kp M g->40<b.length/\Z h .non g
structure Gst(M M':Z1)(nds:List Nd)(B:LQ)(t:D):Prop where
 kp:Kp M M'
 hn:M'[M.length]?=some (.lst (nds.map Nd.d))
 hd:M'[M.length+1]?=some (.dct (begD B))
 tg:(t= .non/\Al (gsOf nds) B)\/∃r S,t= .ref r/\M.length+2<=r/\M'[r]?=some (.lst (natD S))/\DB.Scc nds.length (gof (gsOf nds)) B S
def Yc(nds:List Nd):(gsOf nds).length=nds.length:=by unfold gsOf;simp
def Sz(nds:List Nd):∀l∈gsOf nds,l.length<=2:=by
 intro l a
 unfold gsOf at a
 let⟨d,_,rfl⟩:=De.mp a
 rw[Ht]
 show d.gs_two
def g_sp{M c:Z1}(i:Kp M c)
  (g:c[M.length]?=some (.lst (nds.map Nd.d))) (a:c[M.length+1]?=some (.dct (begD B))) (A:nds.length<=200) (cd:Cd (gsOf nds)) (l:∀S,DB.Scc nds.length (gof (gsOf nds)) B S->S.length<64)
  (q:∀t b,Gst M b nds B t->Q t b):Wu [.ref M.length] c (fun d w=>Qt [d,.ref (M.length+1)] w Q Z) Z:=by
 have C:=c_lt a
 have u:=Yc nds
 refine⟨_,nds,rfl,cL g,'o',?_⟩
 refine⟨_,_,gsOf nds,B,rfl,cL Zb,Z5 a,'o',Sz nds,fun d j=>⟨fun z x y T R h e v p s=>?_,fun T b e k=>?_⟩⟩
 .have f:=Zb4 cd j h e v p s
  rw[u] at f
  show⟨l _ f,fun S b r m _ k o n=>q _ _ ⟨(i.app _).trans k,kp_c k (Z5 g),kp_c k (Z5 a),.inr ⟨r,S,rfl,by simp at n;lia,o,Co f m⟩⟩⟩
 .exact q _ _ ⟨(i.app _).trans k,kp_c k (Z5 g),kp_c k (Z5 a),.inl ⟨rfl,F1 cd j e⟩⟩
def te_gs{c:Cfg}{a:DEnv}{x y:D}(g7:c.Γ[7]?=some Qt)(g15:c.Γ[15]?=some Wu)(e:a[2]?=some (some x))(b:a[3]?=some (some y))(h:Wu [x] M (fun d f=>Qt [d,y] f Q Z) Z):te c Z (.call 7 (.cons (.call 15 (.cons (.var 2) .nil)) (.cons (.var 3) .nil))) a M Q:=by
 simp only[te,tes,g7,g15,e,b]
 show h
def te_upd{c:Cfg}{a:DEnv}{i n:Nat}(hi:a[i]?=some (↑n))(b:(Zx M n).isSome=true)(h:te c X e a M fun x d=>mtD .upd (.ref n) [x] d Q):te c X (.mt .upd (.var i) (.cons e .nil)) a M Q:=by
 simp only[te,tes,hi]
 show⟨b,h⟩
def Y39{B a:LQ}(d:a.Nodup)(c:∀x∈a,x∉B):(begD a).foldl (fun m p=>putD m p.1 p.2) (begD B)=begD (B++a):=by
 induction a generalizing B with
 | nil=>rw[Hd];rfl
 | cons x r h=>
  let⟨g,f⟩:=Hj.mp d
  have e:begD (x::r)=(Du (x:Int),D.bl true)::begD r:=rfl
  rw[e,Li,Wl (c x Db),h f fun y b=>?_,Ar]
  .rfl
  .rw[Au,not_or,An]
   show⟨c y (Aj _ b),fun z=>g (z ▸ b)⟩
section
variable{K:Ac}
def Zx4{Γ G}{M v:Z1}{a r:Nat}{L J:Option D}{B S:LQ}{W:DK}{C T:DEnv->Z1->Prop}(g7:Γ[7]?=some Qt)(g8:Γ[8]?=some S6)(g15:Γ[15]?=some Wu)(g18:Γ[18]?=some R6)
  (ln:nds.length<=200) (lB:B.length<=200) (w:DB.Scc nds.length (gof (gsOf nds)) B S) (X:S.length<64) (kp:Kp M v) (Q:v[M.length]?=some (.lst (nds.map Nd.d))) (R:v[M.length+1]?=some (.dct (begD B))) (lr:M.length+2<=r) (P:v[r]?=some (.lst (natD S)))
  (q:∀b,Gstep (gsOf nds) B S b->(gnx nds S b).length<=200/\Cd (gsOf (gnx nds S b))/\(∀V,DB.Scc (gnx nds S b).length (gof (gsOf (gnx nds S b))) (B++b) V->V.length<64)/\∀f t L,Gst M f (gnx nds S b) (B++b) t->C [↑a,some (.str Xv),↑M.length,some (.ref (M.length+1)),some t,L,J] f):
  tss ⟨K,Γ,G⟩ Z S4 {nx:=C,rt:=W,bk:=T,ct:=C} [↑a,some (.str Xv),↑M.length,some (.ref (M.length+1)),↑r,L,J] v:=by
 have el:=Yc nds
 delta S4
 rfl'
 refine⟨_,nds,rfl,cL Q,'o',?_⟩
 refine⟨_,_,gsOf nds,S,rfl,cL Zb,cL (Z5 P),w.nd,'o','o',Sz nds,fun N M1 O F y s l1=>?_⟩
 have o:=kp_c y (Z5 Q)
 have p:=kp_c y (Z5 R)
 have A:=kp_c y (Z5 P)
 have n:Kp M M1:=(kp.app _).trans y
 have m:Gstep (gsOf nds) B S (S.filter fun x=>decide (x∈N)):=⟨by rw[el];show w,w.nd.filter _,fun x=>by rw[Hr,decide_eq_true_eq,F]⟩
 have u:(S.filter (fun x=>decide (x∈N))).length<64:=Nat.lt_of_le_of_lt (Hg _ _) X
 generalize S.filter (fun x=>decide (x∈N))=b at s m u
 let⟨q1,q2,Y,I⟩:=q b m
 have lM:=c_lt R
 simp only[Ae,Ex,Ik] at l1
 rfl'
 refine Zq (cL s) ?_
 rw[Z4]
 rfl'
 have i:∀f,Kp M f->f[M.length]?=some (.lst ((gnx nds S b).map Nd.d))->f[M.length+1]?=some (.dct (begD B))->f[O]?=some (.lst (natD b))->
   tss ⟨K,Γ,G⟩ Z Tq {nx:=C,rt:=W,bk:=T,ct:=C} [↑a,some (.str Xv),↑M.length,some (.ref (M.length+1)),↑r,↑O,J] f:=by
  intro f k l g h2
  have l2:=c_lt g
  have E:∀x∈b,x∉B:=fun x hx=>(w.lt x ((m.mem x).mp hx).1).2
  simp only[Tq,tss_cons,tss_nil,U.ts]
  refine te_upd rfl (Z9 (cD g)) ?_
  refine among (js:=[none]) rfl (cL h2) m.nd 'o' rfl ?_
  try dsimp only
  refine⟨begD B,begD b,cD (Z5 (Z5 g)),cD (by have:=Zb (M:=f++[.lst (Xy b)]) (c:= .dct (begD b));simpa using this),'o',by rw[Xn,Xn];show Z0 'o',?_⟩
  rw[Y39 m.nd E]
  refine Z8 ?_
  simp only[tss_cons,tss_nil,U.ts]
  refine te_gs g7 g15 rfl rfl (g_sp (Kp.set ((k.app _).app _) 'o') (c_ne (Z5 (Z5 l)) 'o') (X5 (Z5 (Z5 g))) q1 q2 Y fun t M3 H=>?_)
  rfl'
  show I _ _ _ H
 by_cases h:1<b.length
 .rw[ng 'o']
  refine⟨_,_,_,Xv,nds,S,b,rfl,o,cL A,cL s,'o','o',m.nd,'o','o',ln,fun f z l=>?_⟩
  refine Z8 ?_
  rfl'
  have k:Kp M f:=Y93 fun j cc e=>z _ _ (by have:=c_lt e;lia) (kp_c n e)
  refine i _ k ?_ (z _ _ 'o' p) (z _ _ 'o' s)
  unfold gnx
  rw[ng h]
  show l
 .rw[nc 'o']
  refine Z8 ?_
  refine i _ n ?_ p s
  unfold gnx
  rw[nc h]
  show o
def Zn6{Γ G}(J:G[9]?=some (.int 40))(N:G[5]?=some (.cls q))(g7:Γ[7]?=some Qt)(g8:Γ[8]?=some S6)(g14:Γ[14]?=some Zg2)(g15:Γ[15]?=some Wu)(g18:Γ[18]?=some R6):
  ∀j M Q Z,Nt q j M Q Z->tss ⟨K,Γ,G⟩ Z Ba {nx:=fun _ M=>Q .non M,rt:=Q} (start0 Cj j) M:=by
 rintro j M0 Q Z ⟨a,e,I,rfl,x,F,O,⟨A,v⟩,n,g,i⟩
 delta Ba Cj
 rfl'
 refine⟨a,e,rfl,x,F,O,fun M u=>?_⟩
 let⟨b1,b2,b3,Y⟩:=n _ _ _ v
 rfl'
 refine⟨_,u.L x,?_⟩
 rfl'
 simp only[Ae,Ex,Ik,Nat.zero_add]
 refine g_sp (nds:=e) (B:=[]) ((Kp.new _ _).app _) (Z5 Zb) ?_ b1 b2 Y fun t M1 b=>?_
 .have:=Zb (M:=M++[Cell.lst (e.map Nd.d)]) (c:= .dct (begD []))
  simpa[begD] using this
 rfl'
 refine⟨fun m p o=>∃f B t l,p=[↑a,some (.str Xv),↑M.length,some (.ref (M.length+1)),some t,l,none]/\I m f B/\Gst M o f B t,⟨A,_,_,_,_,rfl,v,b⟩,?_⟩
 clear b
 rintro m p o ⟨f,B,t,l,rfl,h,b⟩
 let⟨W,e2,V,U⟩:=n _ _ _ h
 rfl'
 rcases b.tg with⟨rfl,al⟩ | ⟨r,S,rfl,D,H,s⟩
 .rfl'
  refine Z8 ?_
  let⟨X,y⟩:=i _ _ _ o h al (u.trans b.kp)
  delta Od
  rfl'
  refine Zq (cL b.hn) ?_
  try simp only[J]
  rw[Ag]
  rfl'
  rw[ng 'o']
  rfl'
  simp only[N]
  show y
 .rfl'
  show Zx4 g7 g8 g15 g18 W V s (U S s) b.kp b.hn b.hd D H fun k z=>by
   let⟨C,E,w⟩:=g _ _ _ _ _ h z
   let⟨T,R,f3,P⟩:=n _ _ _ w
   show⟨T,R,P,fun M3 t l g3=>⟨C,E,_,_,_,_,rfl,w,g3⟩⟩
end
def Zb6{x:Nat}{a:Nd}(h:nds[x]?=some a):gof (gsOf nds) x=a.gs.reverse:=by
 show(gsOf nds).getD x []=_
 unfold gsOf
 rw[Af,Aw,h]
 rfl
section
variable{nm:PySem.Str}{nds:List Nd}{us doors:LQ}
def Z79(n:Nat)(a:2<=doors.length):(Wq nm n doors).length=3 * doors.length - 1:=by
 unfold Wq
 rw[Ae,Ae,X8,Wx]
 lia
def Zd4(a:2<=doors.length):(nxg nm nds us doors).length=nds.length+3 * doors.length - 1:=by
 unfold nxg
 rw[Ae,Yo,Z79 _ a]
 lia
def Eb{x:Nat}(h:x<nds.length):gof (gsOf (nxg nm nds us doors)) x=(gof (gsOf nds) x).map (gto nds.length us doors x):=by
 have a:nds[x]?=some nds[x]:=Aa h
 rw[Zb6 a]
 have:(nxg nm nds us doors)[x]?=some (nds[x].to (gto nds.length us doors x)):=by
  unfold nxg
  rw[Az (by rw[Yo];show h)]
  unfold Xl
  rw[Ds,a]
  simp[h]
 rw[Zb6 this,Nd.gs_to,List.map_reverse]
def Bb{i:Nat}:(nxg nm nds us doors)[nds.length+i]?=(Wq nm nds.length doors)[i]?:=by
 unfold nxg
 rw[Di (by rw[Yo];lia),Yo,Nat.add_sub_cancel_left]
def Vh{c:Nat}(h:c+1<doors.length):gof (gsOf (nxg nm nds us doors)) (nds.length+c)=[doors.getD c 0,if c+2=doors.length then doors.getD (c+1) 0 else nds.length+c+1]:=by
 have:(nxg nm nds us doors)[nds.length+c]?=some (Nd.test (.nm nm) "=" (.no ((c:Nat):Int)) (doors.getD c 0) (if c+2=doors.length then doors.getD (c+1) 0 else nds.length+c+1)):=by
  rw[Bb]
  unfold Wq
  rw[Ar,Az (by rw[X8];lia)]
  unfold tsz
  rw[Aw,Ko 'o']
  rfl
 rw[Zb6 this]
 rfl
def Fi{i:Nat}(d:doors.length - 1<=i)(c:i<3 * doors.length - 1):gof (gsOf (nxg nm nds us doors)) (nds.length+i)=[nds.length]:=by
 have a:∀k,k<doors.length->(smz nm nds.length doors.length)[k]?=some (Nd.sum nm (.no ((k:Nat):Int)) "+" (.no 0) nds.length):=fun k b=>by
  unfold smz
  rw[Aw,Ko b]
  rfl
 have:∃k:Nat,(nxg nm nds us doors)[nds.length+i]?=some (Nd.sum nm (.no ((k:Nat):Int)) "+" (.no 0) nds.length):=by
  rw[Bb]
  unfold Wq
  by_cases h:i<2 * doors.length - 1
  .rw[Az (by rw[Ae,X8,Wx];lia),Di (by rw[X8];lia),X8]
   show⟨_,a _ 'o'⟩
  .rw[Di (by rw[Ae,X8,Wx];lia),Ae,X8,Wx]
   show⟨_,a _ 'o'⟩
 let⟨k,b⟩:=this
 rw[Zb6 b]
 rfl
def Nu{n k z:Nat}(h:z∉doors):gto n us doors k z=z:=by
 unfold gto cpy
 split<;>(dsimp only;rw[nc h])
def Zt5{n k z:Nat}(h:z∈doors):∃i,doors.length - 1<=i/\i<3 * doors.length - 1/\gto n us doors k z=n+i:=by
 have l:=Dt h
 unfold gto cpy
 split
 .exact⟨2 * doors.length - 1+doors.idxOf z,'o','o',by dsimp only;rw[ng h];lia⟩
 .exact⟨doors.length - 1+doors.idxOf z,'o','o',by dsimp only;rw[ng h];lia⟩
end
structure GI(N:Nat)(nds:List Nd)(B:LQ):Prop where
 pos:0<N
 cd:Cd (gsOf nds)
 len:N<=nds.length
 few:nds.length<=N+3 * B.length
 bn:B.Nodup
 bl:∀x∈B,x<N
 rk:∃rk:Nat->Nat,∀x,N<=x->x<nds.length->∀y∈gof (gsOf nds) x,y∈B\/(N<=y/\rk y<rk x)
 re:∀x,x<N->KS.Rc (gof (gsOf nds)) 0 x
section
variable{N:Nat}{nds:List Nd}{B S doors:LQ}
def GI.bf(h:GI N nds B):B.length<=N:=ND.Yi _ _ h.bn h.bl
def GI.old(h:GI N nds B)(d:DB.Scc (gsOf nds).length (gof (gsOf nds)) B S):∀x∈S,x<N:=by
 intro x g
 by_cases o:x<N
 .exact o
 exfalso
 let⟨f,m⟩:=h.rk
 have u:=Yc nds
 have c:∀{a z:Nat},N<=a->RL (gsOf nds) B a z->z=a\/(N<=z/\f z<f a):=by
  intro a z t r
  induction r with
  | here=>show .inl rfl
  | @step b e _ p l=>
   let⟨⟨w,v⟩,s,q⟩:=DB.mem_lk.mp p
   have n:N<=b/\f b<=f a:=by rcases l with rfl | ⟨i1,i2⟩<;>lia
   rcases m b n.1 'o' e s with z | ⟨z1,z2⟩
   .exact(q z).elim
   .exact .inr ⟨z1,'o'⟩
 obtain⟨y,j,i⟩:∃y∈S,y≠x:=by
  match S,d.two,d.nd,g with
  | a::b::r,_,k,_=>
   by_cases e:a=x
   .refine⟨b,by simp,fun z=>?_⟩
    have:=(Hj.mp k).1
    show this (by simp[e,z])
   .exact⟨a,by simp,e⟩
 rcases c 'o' (d.mu x g y j) with z | ⟨z1,z2⟩
 .exact i z
 .rcases c z1 (d.mu y j x g) with z | ⟨_,z3⟩
  .exact i z.symm
  .lia
def GI.some(h:GI N nds B)(st:Gstep (gsOf nds) B S doors):0<doors.length:=by
 have i:=Yc nds
 have j:=h.pos
 have k:=h.len
 obtain⟨s,f⟩:∃s,s∈S:=by
  have:=st.sc.two
  cases S with
  | nil=>simp at this
  | cons a r=>show⟨a,by simp⟩
 have r:=h.re s (h.old st.sc s f)
 have c:∀{z:Nat},KS.Rc (gof (gsOf nds)) 0 z->z<nds.length/\(z∈S->∃x,x∈doors):=by
  intro z r
  induction r with
  | here=>show⟨'o',fun l=>⟨0,(st.mem 0).mpr ⟨l,.inl rfl⟩⟩⟩
  | @step a b _ e d=>
   refine⟨by have:=h.cd a (by rw[i];show d.1) b e;lia,fun n=>?_⟩
   by_cases g:a∈S
   .exact d.2 g
   .exact⟨b,(st.mem b).mpr ⟨n,.inr ⟨a,by rw[i];show d.1,g,e⟩⟩⟩
 let⟨x,m⟩:=(c r).2 f
 show Ld m
def GI.dis(h:GI N nds B)(st:Gstep (gsOf nds) B S doors):(B++doors).Nodup/\(∀x∈B++doors,x<N)/\(∀x∈doors,x∉B):=by
 have d:∀x∈doors,x∉B:=fun x c=>(st.sc.lt x ((st.mem x).mp c).1).2
 refine⟨Dq.mpr ⟨h.bn,st.nd,fun a g b f e=>d b f (e ▸ g)⟩,fun x c=>?_,d⟩
 rcases Au.mp c with c | c
 .exact h.bl x c
 .exact h.old st.sc x ((st.mem x).mp c).1
def GI.one(h:GI N nds B)(st:Gstep (gsOf nds) B S doors):GI N nds (B++doors):=by
 let⟨g,f,_⟩:=h.dis st
 let⟨a,c⟩:=h.rk
 show⟨h.pos,h.cd,h.len,by have:=h.few;rw[Ae];lia,g,f,⟨a,fun x e d y b=>(c x e d y b).imp (fun z=>Dg _ z) id⟩,h.re⟩
def GI.two(h:GI N nds B)(st:Gstep (gsOf nds) B S doors)(l2:2<=doors.length){nm:PySem.Str}:GI N (nxg nm nds S doors) (B++doors):=by
 let⟨d1,d2,d3⟩:=h.dis st
 let⟨rk,hr⟩:=h.rk
 have el:=Yc nds
 have len:=h.len
 have el2:=Yc (nxg nm nds S doors)
 have ln:=Zd4 (nm:=nm) (nds:=nds) (us:=S) l2
 have dN:∀x∈doors,x<N:=fun x hx=>d2 x (Dd _ hx)
 have dg:∀c,c<doors.length->doors.getD c 0∈doors:=fun c hc=>by
  rw[Af,Aa hc]
  show Hx _
 have cases3:∀x,x<nds.length+3 * doors.length - 1->x<nds.length\/(∃c,c+1<doors.length/\x=nds.length+c)\/∃i,doors.length - 1<=i/\i<3 * doors.length - 1/\x=nds.length+i:=by
  intro x hx
  by_cases e1:x<nds.length
  .exact .inl e1
  .by_cases e2:x<nds.length+doors.length - 1
   .exact .inr (.inl ⟨x - nds.length,'o','o'⟩)
   .exact .inr (.inr ⟨x - nds.length,'o','o','o'⟩)
 refine⟨h.pos,fun x hx y hy=>?_,'o',by have:=h.few;rw[Ae];lia,d1,d2,?_,?_⟩
 .rw[el2,ln] at hx ⊢
  rcases cases3 x hx with e | ⟨c,hc,rfl⟩ | ⟨i,i1,i2,rfl⟩
  .rw[Eb e] at hy
   let⟨z,hz,rfl⟩:=De.mp hy
   have:=h.cd x 'o' z hz
   by_cases zd:z∈doors
   .let⟨i,_,i2,e⟩:=Zt5 (n:=nds.length) (us:=S) (k:=x) zd
    rw[e];lia
   .rw[Nu zd];lia
  .rw[Vh hc] at hy
   simp only[Aq,Hy,or_false] at hy
   rcases hy with rfl | rfl
   .have:=dN _ (dg c 'o');lia
   .split
    .have:=dN _ (dg (c+1) 'o');lia
    .lia
  .rw[Fi i1 i2] at hy
   simp only[Aq,Hy,or_false] at hy
   lia
 .refine⟨fun x=>if x<nds.length then rk x else if x<nds.length+doors.length - 1 then nds.length+doors.length - 1 - x else doors.length,fun x h1 h2 y hy=>?_⟩
  rw[ln] at h2
  rcases cases3 x h2 with e | ⟨c,hc,rfl⟩ | ⟨i,i1,i2,rfl⟩
  .rw[Eb e] at hy
   let⟨z,hz,rfl⟩:=De.mp hy
   have hzn:=h.cd x 'o' z hz
   rcases hr x h1 e z hz with zb | ⟨z1,z2⟩
   .rw[Nu fun zd=>d3 z zd zb]
    show .inl (Dg _ zb)
   .rw[Nu fun zd=>by have:=dN z zd;lia]
    refine .inr ⟨z1,?_⟩
    dsimp only
    rw[ng 'o',ng e]
    show z2
  .rw[Vh hc] at hy
   simp only[Aq,Hy,or_false] at hy
   rcases hy with rfl | rfl
   .exact .inl (Dd _ (dg c 'o'))
   .split
    .exact .inl (Dd _ (dg (c+1) 'o'))
    .refine .inr ⟨'o',?_⟩
     dsimp only
     rw[nc 'o',ng 'o',nc 'o',ng 'o']
     lia
  .rw[Fi i1 i2] at hy
   simp only[Aq,Hy,or_false] at hy
   subst hy
   refine .inr ⟨'o',?_⟩
   dsimp only
   rw[nc 'o',ng 'o',nc 'o',nc 'o']
   lia
 .have tst:∀c,c+1<doors.length->KS.Rc (gof (gsOf (nxg nm nds S doors))) nds.length (nds.length+c):=by
   intro c
   induction c with
   | zero=>show fun _=> .here
   | succ c ih=>
    intro hc
    refine .step (ih 'o') ?_
    change _∈gof _ _
    rw[Vh 'o',nc 'o']
    simp[Nat.add_assoc]
  have dor:∀z∈doors,KS.Rc (gof (gsOf (nxg nm nds S doors))) nds.length z:=by
   intro z hz
   let⟨j,hj⟩:=Iu hz
   have lj:=(Ab.mp hj).1
   have ez:doors.getD j 0=z:=by rw[Af,hj];rfl
   by_cases e:j+1<doors.length
   .refine .step (tst j e) ?_
    change _∈gof _ _
    rw[Vh e,ez]
    simp
   .refine .step (tst (j - 1) 'o') ?_
    change _∈gof _ _
    rw[Vh 'o',ng 'o',show j - 1+1=j by lia,ez]
    simp
  have key:∀{z:Nat},KS.Rc (gof (gsOf nds)) 0 z->z<nds.length/\KS.Rc (gof (gsOf (nxg nm nds S doors))) 0 z:=by
   intro z r
   have pos:=h.pos
   induction r with
   | here=>show⟨'o',.here⟩
   | @step a b _ e ih=>
    refine⟨by have:=h.cd a (by rw[el];show ih.1) b e;lia,?_⟩
    have m:gto nds.length S doors a b∈gof (gsOf (nxg nm nds S doors)) a:=by
     rw[Eb ih.1]
     show De.mpr ⟨b,e,rfl⟩
    by_cases bd:b∈doors
    .let⟨i,i1,i2,eq⟩:=Zt5 (n:=nds.length) (us:=S) (k:=a) bd
     rw[eq] at m
     have m2:nds.length∈gof (gsOf (nxg nm nds S doors)) (nds.length+i):=by rw[Fi i1 i2];simp
     show((KS.Rc.trans ih.2 (KS.Rc.one m)).trans (KS.Rc.one m2)).trans (dor b bd)
    .rw[Nu bd] at m
     show .step ih.2 m
  show fun x hx=>(key (h.re x hx)).2
end
def R0:DSp:=fun a M Q _=>∃d:Nd,a=[d.d]/\Q (.ref M.length) (M++[.lst (natD d.gs)])
def Fy:DSp:=fun e M Q _=>∃(a:Nat) (b:List Nd),e=[.ref a]/\readL M a=some (b.map Nd.d)/\0<b.length/\b.length<=1000/\(∀d∈b,∀t∈d.gs,t<b.length)/\
 ∀O c r,GT.Ord (wy b) b.length O->Kp M c->Zw c r=some (natD O)->M.length<=r->Q (.ref r) c
def Fx:DSp:=fun e M Q _=>∃(a:Nat) (b:List Nd),e=[.ref a]/\readL M a=some (b.map Nd.d)/\0<b.length/\b.length<=1000/\(∀d∈b,∀t∈d.gs,t<b.length)/\
 ∀(O:LQ) c r,GT.Ord (wy b) b.length O->Kp M c->Zw c r=some ((gra b O).map Nd.d)->M.length<=r->Q (.ref r) c
section
variable{K:Ac}
def Zk5{Γ G}:Rd K Γ G R0 Er Ci:=by
 rintro c M Q Z ⟨d,rfl,q⟩
 delta Er Ci
 cases d with
 | sum x a e b t=>
  simp only[Nd.d]
  symm
  refine⟨_,rfl,?_⟩
  symm
  first | show⟨_,rfl,Z0 'd',q⟩ | (refine⟨_,rfl,?_⟩;symm;show⟨Z0 'd',q⟩)
 | test a e b y n=>
  simp only[Nd.d]
  symm
  refine⟨_,rfl,?_⟩
  symm
  rw[nc 'k']
  symm
  delta Wp
  symm
  refine⟨_,rfl,?_⟩
  symm
  show⟨_,rfl,_,rfl,Z0 'd',q⟩
 | fin=>
  simp only[Nd.d]
  symm
  refine⟨_,rfl,?_⟩
  symm
  rw[nc 'k']
  symm
  delta Wp
  symm
  refine⟨_,rfl,?_⟩
  symm
  rw[nc 'k']
  symm
  delta Tp
  symm
  show⟨Z0 'd',q⟩
 | spin=>
  simp only[Nd.d]
  symm
  refine⟨_,rfl,?_⟩
  symm
  rw[nc 'k']
  symm
  delta Wp
  symm
  refine⟨_,rfl,?_⟩
  symm
  rw[nc 'k']
  symm
  delta Tp
  symm
  show⟨Z0 'd',q⟩
def trD(T:List (Nat×Nat)):LD:=T.map fun p=>D.tup [.int (p.1:Nat),.int (p.2:Nat)]
def Za9(T U:List (Nat×Nat)):trD (T++U)=trD T++trD U:=by unfold trD;rw[Ai]
def B7(T:List (Nat×Nat))(h s:Nat):trD (T++[(h,s)])=trD T++[.tup [.int (h:Nat),.int (s:Nat)]]:=Za9 _ _
def Zg1(T:List (Nat×Nat)):(trD T).length=T.length:=by unfold trD;simp
def trP(T:List (Nat×Nat)):List PyData:=T.map fun p=>PyData.tuple [.int (p.1:Nat),.int (p.2:Nat)]
def Zt9:∀T:List (Nat×Nat),PDs M (trP T) (trD T)
 | []=>rfl
 | p::r=>⟨_,_,rfl,⟨_,rfl,⟨_,_,rfl,rfl,⟨_,_,rfl,rfl,rfl⟩⟩⟩,Zt9 r⟩
def Z52:∀T:List (Nat×Nat),PyData.canLayAll0 (trP T)=true
 | []=>rfl
 | p::r=>by
  change PyData.canLayAll0 (PyData.tuple [.int (p.1:Nat),.int (p.2:Nat)]::trP r)=true
  unfold PyData.canLayAll0
  rw[Z52 r]
  rfl
def Zh6{x y:Nat}{T:List (Nat×Nat)}(b:readL M x=some (trD T))(a:readL M y=some [])(q:B T.isEmpty):eqD M (.ref x) (.ref y) B:=by
 refine .inl ⟨.list (trP T),.list [],⟨x,_,rfl,b,Zt9 T⟩,⟨y,_,rfl,a,rfl⟩,Z52 T,rfl,?_,?_⟩
 .exact ni (Nat.min_le_right _ _) 'd'
 .cases T with
  | nil=>show q
  | cons p r=>show q
def Z36{Γ G}(g22:Γ[22]?=some R0){a h s:Nat}{c:List Nd}(X:readL M a=some (c.map Nd.d))(h1:c.length<=1000)(Z:∀d∈c,∀t∈d.gs,t<c.length){T:List (Nat×Nat)}{x v u:Option D}
  (w:GT.Wk (wy c) c.length B (T++[(h,s)]) F) (N:Z1)
  (q:∀E A R N2 x v u,GT.wkM c.length E A<GT.wkM c.length B (T++[(h,s)])->GT.Wk (wy c) c.length E A R->C [↑a,↑M.length,some (.ref (M.length+1)),some (.ref (M.length+2)),x,v,u] (M++(.lst (natD E):: .lst (trD A):: .lst (natD R)::N2))):
  tss ⟨K,Γ,G⟩ noX Td {nx:=C,rt:=Q,bk:=bk,ct:=C} [↑a,↑M.length,some (.ref (M.length+1)),some (.ref (M.length+2)),x,v,u] (M++(.lst (natD B):: .lst (trD (T++[(h,s)])):: .lst (natD F)::N)):=by
 have hB:h∈B:=(w.mem h).mpr (.inl ⟨s,by simp⟩)
 have Y:=w.bl h hB
 obtain⟨d,p⟩:∃d,c[h]?=some d:=⟨_,Aa Y⟩
 have m:wy c h=d.gs:=Qw p
 have o:=w.steps h s (by simp)
 rw[m] at o
 have U:=d.gs_two
 have i:=w.small
 rw[Ae] at i
 have J:=w.room
 have P:trD (T++[(h,s)])=trD T++[.tup [.int h,.int s]]:=Za9 _ _
 delta Td
 symm
 refine⟨Z9 (by rw[Yl];rfl),_,.tup [.int h,.int s],by rw[We];rfl,by rw[P];simp,?_⟩
 symm
 rw[Vn,P,Mu]
 symm
 refine ix_l (Z6 X) (Jx p) ?_
 symm
 try simp only[g22]
 refine⟨d,rfl,?_⟩
 symm
 rw[Ar]
 simp only[Ih]
 have el:(M++ .lst (natD B):: .lst (trD T):: .lst (natD F)::N).length=M.length+(N.length+3):=by simp
 rw[el]
 have l:∀b t f,readL (M++ .lst b:: .lst t:: .lst f::(N++[.lst (natD d.gs)])) (M.length+(N.length+3))=some (natD d.gs):=by
  intro b t f
  rw[Yl]
  show Xh N _ []
 have O:∀b g,readL (M++ .lst b::g) M.length=some b:=fun b g=>Xh M _ _
 have L:∀b t g,readL (M++ .lst b:: .lst t::g) (M.length+1)=some t:=fun b t g=>by rw[Yl];rfl
 have W:∀b t f g,readL (M++ .lst b:: .lst t:: .lst f::g) (M.length+2)=some f:=fun b t f g=>by rw[Yl];rfl
 have H:∀b t g,Zw (M++ .lst b:: .lst t::g) (M.length+1)=some t:=fun b t g=>by rw[We];rfl
 have S:∀b t f g,Zw (M++ .lst b:: .lst t:: .lst f::g) (M.length+2)=some f:=fun b t f g=>by rw[We];rfl
 generalize M.length+(N.length+3)=gp at l
 refine Zq (l _ _ _) ?_
 symm
 rw[Z4]
 simp only[Ex,Ik] at i
 split
 .rename_i e
  have r:s=d.gs.length:='o'
  refine⟨Z9 (W _ _ _ _),_,S _ _ _ _,by rw[Z4];show Z2 'o',?_⟩
  symm
  rw[Vn]
  symm
  rw[<-Zv]
  show q _ _ _ _ _ _ _ (GT.Zc3 'o') (w.close (by rw[m];show r))
 .rename_i e
  have r:s<d.gs.length:='o'
  obtain⟨y,k⟩:∃y,d.gs[s]?=some y:=⟨_,Aa r⟩
  have n:y<c.length:=Z d (As p) y (As k)
  refine⟨Z9 (L _ _ _),Z0 'd',_,H _ _ _,by rw[Zg1];show Z2 'o',?_⟩
  symm
  rw[Vn]
  symm
  refine ix_l (l _ _ _) (Yu k) ?_
  symm
  refine Y74 (O _ _) ?_
  symm
  have e1:trD T++[.tup [.int h,.int ((s:Int)+1)]]=trD (T++[(h,s+1)]):=(B7 T h (s+1)).symm
  rw[e1]
  by_cases j:y∈B
  .rw[nc (fun z=>z j)]
   symm
   show q _ _ _ _ _ _ _ (GT.Zi9 'o') (w.pass (by rw[m];show k) j)
  .rw[ng j]
   symm
   have I:=w.open (by rw[m];show k) n j
   have V:=I.room
   rw[Ae,Ay] at V
   refine⟨Z9 (O _ _),ix_l (l _ _ _) (Yu k) ⟨_,Yp M _ _,by rw[Z4];show Z2 'o',?_⟩⟩
   symm
   rw[Rl]
   refine⟨Z9 (L _ _ _),ix_l (l _ _ _) (Yu k) ⟨Z0 'd',_,H _ _ _,by rw[Zg1,Ae,Ay];show Z2 'o',?_⟩⟩
   symm
   rw[Vn]
   symm
   have e2:trD (T++[(h,s+1)])++[.tup [.int y,.int 0]]=trD (T++[(h,s+1),(y,0)]):=by
    rw[show T++[(h,s+1),(y,0)]=(T++[(h,s+1)])++[(y,0)] by simp,B7 (T++[(h,s+1)])]
    rfl
   rw[<-Zv,e2]
   show q _ _ _ _ _ _ _ (GT.Zl7 'o' 'o') I
def Zq3{Γ G}(g22:Γ[22]?=some R0):Rd K Γ G Fy B6 C3:=by
 rintro g M Q Z ⟨a,b,rfl,u,y,x,v,q⟩
 delta B6 C3
 symm
 refine⟨Z0 'd',Z0 'd',Z0 'd',Z0 'd',?_⟩
 symm
 simp only[Ae,Ex,Ik,Ar,Ih,Lj,Nat.zero_add,Nat.add_assoc,Nat.reduceAdd]
 refine⟨fun m i n=>∃B T F N f e d,m=GT.wkM b.length B T/\i=[↑a,↑M.length,some (.ref (M.length+1)),some (.ref (M.length+2)),f,e,d]/\n=M++(.lst (natD B):: .lst (trD T):: .lst (natD F)::N)/\GT.Wk (wy b) b.length B T F,
  ⟨_,[0],[(0,0)],[],[],none,none,none,rfl,rfl,rfl,GT.Wk.begin _ y⟩,?_⟩
 rintro m i n ⟨B,T,F,N,f,e,d,rfl,rfl,rfl,w⟩
 symm
 refine⟨Z0 'd',?_⟩
 symm
 rw[Ar]
 simp only[Ih]
 have r:∀l:Z1,readL (M++ .lst (natD B):: .lst (trD T):: .lst (natD F)::l) (M.length+1)=some (trD T):=fun l=>by rw[Yl];rfl
 refine Zh6 (r _) (by rw[show M++ .lst (natD B):: .lst (trD T):: .lst (natD F)::(N++[.lst []])=(M++ .lst (natD B):: .lst (trD T):: .lst (natD F)::N)++[.lst []] by simp];show Xh _ _ []) ?_
 symm
 cases j:T.isEmpty with
 | true=>
  rw[nc 'd']
  symm
  have z:T=[]:=List.isEmpty_iff.mp j
  subst z
  delta Ps
  symm
  refine⟨natD F,by rw[Yl];rfl,?_⟩
  symm
  refine q F.reverse _ _ w.ord (((Kp.new M _)).app _) ?_ ?_
  .rw[show natD F.reverse=(natD F).reverse by unfold natD;rw[List.map_reverse]]
   show Yp _ _ []
  .rw[Ae];lia
 | false=>
  rw[ng rfl]
  symm
  have c:T≠[]:=by rintro rfl;cases j
  obtain⟨k,⟨h,s⟩,rfl⟩:∃k p,T=k++[p]:=⟨T.dropLast,T.getLast c,(Ic c).symm⟩
  refine Z36 g22 u x v w _ fun E A D C f e d t o=>⟨_,t,E,A,D,C,f,e,d,rfl,rfl,rfl,o⟩
end
section
variable{K:Ac}
def Q0{M:Z1}{P:Nat->Prop}{a x:Nat}{O:LQ}(h:readL M a=some (natD O))(e:x∈O)(q:P (O.idxOf x)):
  ∃xs k z,readL M a=some xs/\Y2 (.int (x:Nat))=true/\xs.all Y2=true/\xs[k]?=some z/\eqF z (.int (x:Nat))=true/\(∀(j:Nat) u,j<k->xs[j]?=some u->eqF u (.int (x:Nat))=false)/\P k:=by
 have d:O.idxOf x<O.length:=Dt e
 refine⟨natD O,O.idxOf x,.int (x:Nat),h,rfl,Wa O,Yu ?_,by simp[eqF],fun j u g c=>?_,q⟩
 .rw[Aa d,Ir d]
 .have b:j<O.length:='o'
  rw[Yu (Aa b)] at c
  cases c
  have f:O[j]≠x:=by
   have:=List.not_of_lt_findIdx (p:=(·==x)) (xs:=O) (i:=j) g
   simpa using this
  show(((O[j]:Nat):Int)==((x:Nat):Int))=false
  rw[beq_eq_false_iff_ne]
  lia
def Zk0{Γ G}(g23:Γ[23]?=some Fy):Rd K Γ G Fx B8 Ek:=by
 rintro ds M Q Z ⟨a,raw,rfl,hr,h0,h1,hg,q⟩
 delta B8 Ek
 symm
 try simp only[g23]
 refine⟨a,raw,rfl,hr,h0,h1,hg,fun O M1 ro ord kp hO hro=>?_⟩
 symm
 have hOL:=Rz hO
 have aL:=kp.L hr
 have ol:=ord.le
 symm
 refine⟨Z0 'd',_,Z6 hOL,?_⟩
 symm
 refine Yg (fun i σ M'=>∃d3 d4,σ=[↑a,↑ro,↑M1.length,d3,d4]/\M'=M1++[.lst (((gra raw O).take i).map Nd.d)]) ⟨none,none,rfl,rfl⟩ ?_ ?_ ?_
 .rintro i σ M' _ ⟨d3,d4,rfl,rfl⟩
  show Z6 hOL
 .rintro i dx σ M' C hx ⟨d3,d4,rfl,rfl⟩ hC
  have hi:i<O.length:=by have:=(Ab.mp hx).1;rwa[Z4] at this
  rw[Yu (Aa hi)] at hx
  cases hx
  have hxi:O[i]?=some O[i]:=Aa hi
  generalize O[i]=x at hxi
  have hxn:x<raw.length:=ord.lt x (As hxi)
  obtain⟨d,hd⟩:∃d,raw[x]?=some d:=⟨_,Aa hxn⟩
  have cl:∀y∈d.gs,y∈O:=fun y hy=>ord.cl x (As hxi) y (by rw[Qw hd];show hy)
  have fin:∀d3 d4,C [↑a,↑ro,↑M1.length,d3,d4] (M1++[.lst (((gra raw O).take i).map Nd.d++[(d.to fun y=>O.idxOf y).d])]):=by
   intro d3 d4
   refine hC _ _ ⟨d3,d4,rfl,?_⟩
   symm
   rw[V7 (Fn hxi hd),Ai]
   rfl
  have len:(((gra raw O).take i).map Nd.d).length<sizeLine:=by
   rw[Ag,Hu,W9]
   show Z2 'o'
  delta Pv
  symm
  refine ix_l (Z6 aL) (Jx hd) ?_
  symm
  have last:∀d3 v bk,v=(d.to fun y=>O.idxOf y).d->tss ⟨K,Γ,G⟩ noX Te {nx:=C,rt:=Q,bk:=bk,ct:=C} [↑a,↑ro,↑M1.length,d3,some v] (M1++[.lst (((gra raw O).take i).map Nd.d)]):=by
   rintro d3 v bk rfl
   delta Te
   symm
   refine⟨Z9 (Xh _ _ []),_,Yp _ _ [],len,?_⟩
   symm
   rw[Rl]
   show fin _ _
  cases d with
  | sum nm o1 sg o2 t=>
   simp only[Nd.d]
   symm
   refine⟨_,rfl,?_⟩
   symm
   rw[show U.cutD [.str "sum",.str nm,o1.d,.str sg,o2.d,.int t] none (some 5)=[.str "sum",.str nm,o1.d,.str sg,o2.d] from rfl]
   refine⟨'d',Z9 (Z6 hOL),_,rfl,Q0 (Z6 hOL) (cl t (by simp[Nd.gs])) ?_⟩
   symm
   refine⟨Z0 'd',by simp,Z0 (by simp),?_⟩
   symm
   delta Xd
   symm
   refine⟨_,rfl,?_⟩
   symm
   rw[nc 'k']
   symm
   show last _ _ _ rfl
  | test o1 sg o2 y n=>
   simp only[Nd.d]
   symm
   refine⟨_,rfl,?_⟩
   symm
   rw[nc 'k']
   symm
   delta Xd
   symm
   refine⟨_,rfl,?_⟩
   symm
   rw[show U.cutD [.str "test",o1.d,.str sg,o2.d,.int y,.int n] none (some 4)=[.str "test",o1.d,.str sg,o2.d] from rfl]
   refine⟨'d',Z9 (Z6 hOL),_,rfl,Q0 (Z6 hOL) (cl y (by simp[Nd.gs])) ?_⟩
   symm
   refine⟨Z9 (Z6 hOL),_,rfl,Q0 (Z6 hOL) (cl n (by simp[Nd.gs])) ?_⟩
   symm
   refine⟨Z0 'd',by simp,Z0 (by simp),?_⟩
   symm
   show last _ _ _ rfl
  | fin=>
   simp only[Nd.d]
   symm
   refine⟨_,rfl,?_⟩
   symm
   rw[nc 'k']
   symm
   delta Xd
   symm
   refine⟨_,rfl,?_⟩
   symm
   rw[nc 'k']
   symm
   show last _ _ _ rfl
  | spin=>
   simp only[Nd.d]
   symm
   refine⟨_,rfl,?_⟩
   symm
   rw[nc 'k']
   symm
   delta Xd
   symm
   refine⟨_,rfl,?_⟩
   symm
   rw[nc 'k']
   symm
   show last _ _ _ rfl
 .rintro σ M' ⟨d3,d4,rfl,rfl⟩
  delta Ob
  symm
  refine q O _ _ ord (kp.app _) ?_ ?_
  .rw[show(natD O).length=(gra raw O).length by rw[Z4,W9],Dr]
   show Yp _ _ []
  .let⟨L,rfl⟩:=kp;rw[Ae];lia
end
structure Raw(g:Nat->LQ)(N a s sec:Nat):Prop where
 two:2<=s
 big:a+s+2<=N
 nx:∀x,x+1<N->x+1∈g x
 bk:a+1∈g (a+s)
 hi:∀x,∀y∈g x,y<N
 out:∀x,(x<=a\/a+s<x)->∀y∈g x,x<y
 rin:∀x,a<x->x<=a+s->∀y∈g x,a<y
 d2:sec∈g a
 s1:a+1<sec
 s2:sec<=a+s
def fr(a s x:Nat):Nat:=if a<x/\x<=a+s then a+1 else x
section
variable{g:Nat->LQ}{N a s sec:Nat}
def Raw.edge(r:Raw g N a s sec){x y:Nat}(h:y∈g x):fr a s x<=fr a s y/\((x<=a\/a+s<x)->fr a s x<fr a s y):=by
 unfold fr
 by_cases e:x<=a\/a+s<x
 .have:=r.out x e y h
  rw[nc 'o']
  split<;>lia
 .have:=r.rin x 'o' 'o' y h
  rw[ng 'o']
  refine⟨?_,fun z=>absurd z e⟩
  split<;>lia
def Raw.mono(r:Raw g N a s sec){x y:Nat}(h:KS.Rc g x y):fr a s x<=fr a s y/\(x=y\/((x<=a\/a+s<x)->fr a s x<fr a s y)):=by
 induction h with
 | here=>show⟨na _,.inl rfl⟩
 | @step b c _ e f=>
  let⟨k,i⟩:=r.edge e
  let⟨j,d⟩:=f
  refine⟨'o',.inr fun z=>?_⟩
  rcases d with rfl | d
  .exact i z
  .have:=d z;lia
def Raw.both(r:Raw g N a s sec){x y:Nat}(h:KS.Rc g x y)(k:KS.Rc g y x):fr a s x=fr a s y/\(x=y\/((a<x/\x<=a+s)/\a<y/\y<=a+s)):=by
 let⟨j,c⟩:=r.mono h
 let⟨i,b⟩:=r.mono k
 refine⟨'o',?_⟩
 by_cases e:x=y
 .exact .inl e
 .right
  have c:=c.resolve_left e
  have b:=b.resolve_left fun z=>e z.symm
  by_cases f:x<=a\/a+s<x
  .have:=c f;lia
  .by_cases d:y<=a\/a+s<y
   .have:=b d;lia
   .lia
def Raw.onw(r:Raw g N a s sec){x y:Nat}(h:x<=y)(c:y<N):KS.Rc g x y:=by
 induction y with
 | zero=>
  have:x=0:='o'
  subst this
  show .here
 | succ y b=>
  by_cases e:x=y+1
  .subst e;show .here
  .exact .step (b 'o' 'o') (r.nx y c)
def Raw.ring(r:Raw g N a s sec){x y:Nat}(f:a<x)(b:x<=a+s)(e:a<y)(d:y<=a+s):KS.Rc g x y:=by
 have c:=r.big
 show((r.onw b 'o').trans (KS.Rc.one r.bk)).trans (r.onw 'o' 'o')
end
def Y91{a s N:Nat}(r:a+s+2<=N)(t:2<=s)(c:Nat):((Ao N).filter fun x=>decide (fr a s x=c)).length=if c=a+1 then s else if a+1<c/\c<=a+s\/N<=c then 0 else 1:=by
 rw[<-Kg]
 obtain⟨b,rfl⟩:∃b,N=a+1+s+b:=⟨N - (a+1+s),'o'⟩
 have e:Ao (a+1+s+b)=Ao (a+1)++(Ao s).map (a+1+·)++(Ao b).map (a+1+s+·):=by
  rw[List.range_add,List.range_add]
 rw[e,Mn,Mn,List.countP_map,List.countP_map]
 have f:∀(n k:Nat),(Ao n).countP (fun x=>decide (x=k))=if k<n then 1 else 0:=by
  intro n k
  induction n with
  | zero=>simp
  | succ n q=>
   rw[Il,Mn,q]
   by_cases i:n=k
   .subst i;simp
   .by_cases g:k<n
    .simp[g,show k<n+1 by lia,i]
    .simp[g,show ¬k<n+1 by lia,i]
 have p:(Ao (a+1)).countP (fun x=>decide (fr a s x=c))=if c<a+1 then 1 else 0:=by
  rw[<-f]
  refine Kz fun x d=>?_
  have:=He.mp d
  unfold fr
  rw[nc 'o']
 have o:(Ao s).countP ((fun x=>decide (fr a s x=c)) ∘ (a+1+·))=if c=a+1 then s else 0:=by
  by_cases e:c=a+1
  .rw[ng e]
   have:(Ao s).countP ((fun x=>decide (fr a s x=c)) ∘ (a+1+·))=(Ao s).length:=by
    rw[List.countP_eq_length]
    intro x d
    have:=He.mp d
    simp only[Function.comp,decide_eq_true_eq]
    unfold fr
    rw[ng 'o',e]
   rw[this,Ky]
  .rw[nc e,List.countP_eq_zero]
   intro x d
   have:=He.mp d
   simp only[Function.comp,decide_eq_true_eq]
   unfold fr
   rw[ng 'o']
   show fun z=>e z.symm
 have m:(Ao b).countP ((fun x=>decide (fr a s x=c)) ∘ (a+1+s+·))=if a+1+s<=c/\c<a+1+s+b then 1 else 0:=by
  by_cases e:a+1+s<=c
  .have:(Ao b).countP ((fun x=>decide (fr a s x=c)) ∘ (a+1+s+·))=(Ao b).countP fun x=>decide (x=c - (a+1+s)):=by
    refine Kz fun x d=>?_
    simp only[Function.comp,decide_eq_true_eq]
    unfold fr
    rw[nc 'o']
    lia
   rw[this,f]
   by_cases g:c<a+1+s+b
   .rw[ng 'o',ng ⟨e,g⟩]
   .rw[nc 'o',nc 'o']
  .rw[nc 'o',List.countP_eq_zero]
   intro x d
   simp only[Function.comp,decide_eq_true_eq]
   unfold fr
   rw[nc 'o']
   lia
 rw[p,o,m]
 by_cases h:c=a+1
 .rw[ng h,nc 'o',nc 'o']
  rw[ng h];lia
 .rw[nc h,nc h]
  by_cases l:a+1<c/\c<=a+s\/a+1+s+b<=c
  .rw[ng l,nc 'o',nc 'o']
  .rw[nc l]
   by_cases j:c<a+1
   .rw[ng j,nc 'o']
   .rw[nc j,ng 'o']
def Yj5{a s N:Nat}(g:a+s+2<=N)(k:2<=s):((Ao N).map fun c=>2 ^ ((Ao N).filter fun x=>decide (fr a s x=c)).length - 1).sum=N - s+(2 ^ s - 1):=by
 have e:∀c,c<N->2 ^ ((Ao N).filter fun x=>decide (fr a s x=c)).length - 1=if c=a+1 then 2 ^ s - 1 else if a+1<c/\c<=a+s then 0 else 1:=by
  intro c h
  rw[Y91 g k]
  by_cases b:c=a+1
  .rw[ng b,ng b]
  .rw[nc b,nc b]
   by_cases d:a+1<c/\c<=a+s
   .rw[ng (.inl d),ng d]
   .rw[nc 'o',nc d]
 rw[Hi fun c h=>e c (He.mp h)]
 clear e
 have f:∀n,((Ao n).map fun c=>if c=a+1 then 2 ^ s - 1 else if a+1<c/\c<=a+s then 0 else 1).sum=(min n (a+1))+(if a+1<n then 2 ^ s - 1 else 0)+(n - (a+1+s)):=by
  intro n
  induction n with
  | zero=>simp
  | succ n j=>
   rw[Il,Ai,Kk,j]
   simp only[Ch,Dp,Ln,Mq,Nat.add_zero]
   generalize 2 ^ s - 1=W
   by_cases b:n=a+1
   .rw[ng b,nc 'o',ng 'o']
    lia
   .rw[nc b]
    by_cases d:a+1<n/\n<=a+s
    .rw[ng d,ng 'o',ng 'o']
     lia
    .rw[nc d]
     by_cases i:a+1<n
     .rw[ng i,ng 'o']
      lia
     .rw[nc i,nc 'o']
      lia
 rw[f,ng 'o']
 lia
structure Tr(g:Nat->LQ)(N:Nat)(O:LQ)(gs:List (LQ)):Prop where
 len:gs.length=N
 nd:O.Nodup
 lt:∀x,x∈O↔x<N
 z:O[0]?=some 0
 ways:∀(k x:Nat),O[k]?=some x->gof gs k=((g x).map fun y=>O.idxOf y).reverse
 hi:∀x,∀y∈g x,y<N
structure Kn(gs:List (LQ))(w s:Nat):Prop where
 cd:Cd gs
 pos:0<gs.length
 re:∀x,x<gs.length->KS.Rc (gof gs) 0 x
 cl:∃f m,(∀x,x<gs.length->f x<m)/\DB.Cl gs.length (gof gs) [] f/\DB.wt gs.length [] f m<=w
 nal:∃x y,x≠y/\x<gs.length/\RL gs [] y x/\RL gs [] x y
 dr:∀S,DB.Scc gs.length (gof gs) [] S->S.length<=s/\∃u p q,u<gs.length/\u∉S/\p∈S/\q∈S/\p≠q/\p∈gof gs u/\q∈gof gs u
section
variable{g:Nat->LQ}{N a s sec:Nat}{O:LQ}{gs:List (LQ)}
def Tr.perm(t:Tr g N O gs):O.Perm (Ao N):=(List.perm_ext_iff_of_nodup t.nd Ma).mpr fun x=>by rw[t.lt,He]
def Tr.ol(t:Tr g N O gs):O.length=N:=by rw[t.perm.length_eq,Ky]
def Tr.at(t:Tr g N O gs){x:Nat}(h:x<N):O[O.idxOf x]?=some x/\O.idxOf x<N:=by
 have m:=(t.lt x).mpr h
 have l:=Dt m
 show⟨by rw[Aa l,Ir l],by rw[<-t.ol];show l⟩
def Tr.idx(t:Tr g N O gs){k x:Nat}(h:O[k]?=some x):O.idxOf x=k/\x<N/\k<N:=by
 let⟨b,e⟩:=Ab.mp h
 refine⟨by rw[<-e];show ND.Rh t.nd b,(t.lt x).mp (As h),by rw[<-t.ol];show b⟩
def Tr.get(t:Tr g N O gs){k:Nat}(h:k<N):∃x,O[k]?=some x:=⟨_,Aa (by rw[t.ol];show h)⟩
def Tr.cd(t:Tr g N O gs):Cd gs:=by
 intro k c y b
 rw[t.len] at c ⊢
 let⟨x,e⟩:=t.get c
 rw[t.ways k x e,Dw] at b
 let⟨z,d,rfl⟩:=De.mp b
 show(t.at (t.hi x z d)).2
def Tr.up(t:Tr g N O gs){x y:Nat}(h:KS.Rc g x y)(j:x<N):y<N/\RL gs [] (O.idxOf x) (O.idxOf y):=by
 induction h with
 | here=>show⟨j,.here⟩
 | @step b c _ e f=>
  let⟨d,i⟩:=f
  refine⟨t.hi b c e,.step i (DB.mem_lk.mpr ⟨⟨by rw[t.len];show(t.at d).2,by simp⟩,?_,by simp⟩)⟩
  rw[t.ways _ b (t.at d).1,Dw]
  show De.mpr ⟨c,e,rfl⟩
def Tr.down(t:Tr g N O gs){k l x:Nat}(h:RL gs [] k l)(m:O[k]?=some x):∃y,O[l]?=some y/\KS.Rc g x y:=by
 induction h with
 | here=>show⟨x,m,.here⟩
 | @step b c _ e i=>
  let⟨y,j,r⟩:=i
  let⟨_,f,_⟩:=DB.mem_lk.mp e
  rw[t.ways _ y j,Dw] at f
  let⟨z,d,rfl⟩:=De.mp f
  show⟨z,(t.at (t.hi y z d)).1,.step r d⟩
def Ya8{gs:List (LQ)}{x y:Nat}(h:RL gs B x y):KS.Rc (gof gs) x y:=by
 induction h with
 | here=>show .here
 | step _ e b=>show .step b (DB.mem_lk.mp e).2.1
def Kn.of(r:Raw g N a s sec)(t:Tr g N O gs):Kn gs (N - s+(2 ^ s - 1)) s:=by
 have G:=r.big
 have B:=r.two
 have s1:=r.s1
 have R:=r.s2
 have P:=t.idx t.z
 refine⟨t.cd,by rw[t.len];lia,fun k d=>?_,?_,?_,fun S n=>?_⟩
 .rw[t.len] at d
  let⟨x,b⟩:=t.get d
  have:=(t.up (r.onw (nq x) (t.idx b).2.1) 'o').2
  rw[P.1,(t.idx b).1] at this
  show Ya8 this
 .refine⟨fun k=>fr a s (O.getD k 0),N,fun k d=>?_,fun k l d q _ _ U T=>?_,?_⟩
  .rw[t.len] at d
   let⟨x,b⟩:=t.get d
   change fr a s (O.getD k 0)<N
   rw[Af,b]
   have:=(t.idx b).2.1
   change fr a s x<N
   unfold fr
   split<;>lia
  .rw[t.len] at d q
   let⟨x,b⟩:=t.get d
   let⟨y,m,D⟩:=t.down U b
   let⟨Q,j,C⟩:=t.down T m
   rw[b] at j
   cases j
   change fr a s (O.getD k 0)=fr a s (O.getD l 0)
   rw[Af,Af,b,m]
   show(r.both D C).1
  .refine Nat.le_of_eq ?_
   rw[<-Yj5 G B,t.len]
   unfold DB.wt
   congr 1
   refine Hi fun c _=>?_
   congr 2
   unfold DB.cnt
   rw[<-Kg,<-Kg]
   have e:(Ao N).map (fun k=>O.getD k 0)=O:=by
    refine Hm fun i=>?_
    rw[Aw]
    by_cases M:i<N
    .let⟨x,b⟩:=t.get M
     rw[Ko M,b,Option.map_some,Af,b]
     rfl
    .rw[Iq (by simp;lia),Iq (by rw[t.ol];lia)]
     rfl
   have:(Ao N).countP (fun x=>decide (fr a s x=c))=O.countP (fun x=>decide (fr a s x=c)):=(t.perm.countP_eq _).symm
   rw[this]
   conv=>rhs;rw[<-e]
   rw[List.countP_map]
   refine Kz fun x _=>?_
   simp
 .refine⟨O.idxOf (a+1),O.idxOf (a+2),fun e=>?_,by rw[t.len];show(t.at 'o').2,(t.up (r.ring 'o' 'o' 'o' 'o') 'o').2,(t.up (r.ring 'o' 'o' 'o' 'o') 'o').2⟩
  have F:=(t.at (x:=a+1) 'o').1
  have p:=(t.at (x:=a+2) 'o').1
  rw[<-e,F] at p
  have:=Hb p
  lia
 .have f:∀k∈S,∃x,O[k]?=some x/\a<x/\x<=a+s:=by
   intro k d
   have L:=(n.lt k d).1
   rw[t.len] at L
   let⟨x,b⟩:=t.get L
   refine⟨x,b,?_⟩
   obtain⟨l,q,V⟩:∃l∈S,l≠k:=by
    match S,n.two,n.nd,d with
    | u::v::w,_,W,_=>
     by_cases e:u=k
     .refine⟨v,by simp,fun z=>?_⟩
      have:=(Hj.mp W).1
      show this (by simp[e,z])
     .exact⟨u,by simp,e⟩
   let⟨y,m,D⟩:=t.down (n.mu k d l q) b
   let⟨Q,j,C⟩:=t.down (n.mu l q k d) m
   rw[b] at j
   cases j
   rcases(r.both D C).2 with rfl | h
   .exact absurd ((t.idx m).1.symm.trans (t.idx b).1) V
   .exact h.1
  have o:∀x,a<x->x<=a+s->O.idxOf x∈S:=by
   intro x A E
   obtain⟨k,d⟩:∃k,k∈S:=by
    have:=n.two
    cases S with
    | nil=>simp at this
    | cons u w=>show⟨u,by simp⟩
   let⟨y,m,I,H⟩:=f k d
   have K:=(t.up (r.ring I H A E) 'o').2
   have J:=(t.up (r.ring A E I H) 'o').2
   rw[(t.idx m).1] at K J
   show n.all k d _ (by rw[t.len];show(t.at 'o').2) (by simp) K J
  refine⟨?_,O.idxOf a,O.idxOf (a+1),O.idxOf sec,by rw[t.len];show(t.at 'o').2,fun z=>?_,o _ 'o' 'o',o _ 'o' R,fun e=>?_,?_,?_⟩
  .have X:(S.map fun k=>O.getD k 0).length<=((Ao s).map (a+1+·)).length:=by
    refine Dl ?_ fun x b=>?_
    .refine Mh.map _ (fun u v h=>h) ?_
     refine Mh.imp_of_mem (fun{u v} Z Y h e=>?_) n.nd
     let⟨x,b,_⟩:=f u Z
     let⟨y,m,_⟩:=f v Y
     rw[Af,Af,b,m] at e
     have e:x=y:=e
     subst e
     show h ((t.idx b).1.symm.trans (t.idx m).1)
    .let⟨k,d,rfl⟩:=De.mp b
     let⟨x,b,A,E⟩:=f k d
     rw[Af,b]
     show De.mpr ⟨x - (a+1),He.mpr 'o',by change _=x;lia⟩
   simpa using X
  .let⟨x,b,A,_⟩:=f _ z
   have:=(t.at (x:=a) 'o').1
   rw[b] at this
   have:=Hb this
   lia
  .have F:=(t.at (x:=a+1) 'o').1
   have p:=(t.at (x:=sec) 'o').1
   rw[<-e,F] at p
   have:=Hb p
   lia
  .rw[t.ways _ a (t.at 'o').1,Dw]
   show De.mpr ⟨a+1,r.nx a 'o',rfl⟩
  .rw[t.ways _ a (t.at 'o').1,Dw]
   show De.mpr ⟨sec,r.d2,rfl⟩
end
def sms(st k:Nat):List Nd:=(Ao k).map fun c=>Nd.sum "x" (.nm "x") "+" (.no ((c:Nat):Int)) (st+c+1)
def Zj6(st k:Nat):sms st (k+1)=sms st k++[Nd.sum "x" (.nm "x") "+" (.no ((k:Nat):Int)) (st+k+1)]:=by
 unfold sms;rw[Il,Ai];rfl
def Y8(st k:Nat):(sms st k).length=k:=by unfold sms;simp
def rgt(ns:List Int)(st sz k:Nat):Nd:=Nd.test (.nm "y") "=" (.no (Y0 ns (4+k) % 10 ^ 18)) (if k+1=sz then st+sz else st+(mix (Y0 ns (4+k)) (k:Nat) % (sz:Nat)).toNat) (if k+1=sz then st else st+k+1)
def rgs(ns:List Int)(st sz k:Nat):List Nd:=(Ao k).map (rgt ns st sz)
def Zn9(ns:List Int)(st sz k:Nat):rgs ns st sz (k+1)=rgs ns st sz k++[rgt ns st sz k]:=by
 unfold rgs;rw[Il,Ai];rfl
def X7(ns:List Int)(st sz k:Nat):(rgs ns st sz k).length=k:=by unfold rgs;simp
def Fm:DSp:=fun b M Q _=>∃a k:Nat,b=[.int (a:Nat),.int (k:Nat)]/\k<=100/\Q (.ref M.length) (M++[.lst ((sms a k).map Nd.d)])
def Fj:DSp:=fun f M Q _=>∃(a c b:Nat) (e:List Int),f=[.ref a,.int (c:Nat),.int (b:Nat)]/\readL M a=some (e.map .int)/\0<b/\b<=100/\Q (.ref M.length) (M++[.lst ((rgs e c b b).map Nd.d)])
section
variable{K:Ac}
def Zw1{Γ G}:Rd K Γ G Fm Z74 Z38:=by
 rintro c M Q Z ⟨f,k,rfl,j,q⟩
 delta Z74 Z38
 rfl'
 refine⟨'o','o',?_⟩
 rw[Kj]
 simp only[capD,Ch,Dp,Hk,Go,Ha,Dz,Hl]
 refine Zn (fun i a b=>∃e,a=[e,some (.int (f:Nat))]/\b=M++[.lst ((sms f i).map Nd.d)]) ⟨none,rfl,rfl⟩ ?_ ?_ ?_
 .rintro i a b _ _
  trivial
 .rintro i m a b C g ⟨e,rfl,rfl⟩ h
  let⟨l,rfl⟩:=Xm g
  rfl'
  refine⟨Z0 'd',_,cW Zb,by rw[Ag,Y8];show Z2 'o',?_⟩
  refine h _ _ ⟨_,rfl,?_⟩
  rw[Dj _ _ (na _),Nat.sub_self,Zj6,Ai]
  rfl
 .rintro a b ⟨e,rfl,rfl⟩
  rw[Wj]
  rfl'
  show q
def Zz4{Γ G}(g20:Γ[20]?=some Jh)(g21:Γ[21]?=some Ro):Rd K Γ G Fj Z80 Z96:=by
 rintro m M Q Z ⟨a,c,b,f,rfl,w,D,A,q⟩
 delta Z80 Z96
 rfl'
 refine⟨Z0 'd','o','o',?_⟩
 rw[Kj]
 refine Yg (fun i k h=>∃s r p o,k=[↑a,some (.int (c:Nat)),some (.int (b:Nat)),↑M.length,s,r,p,o]/\h=M++[.lst ((rgs f c b i).map Nd.d)]) ⟨none,none,none,none,rfl,rfl⟩ ?_ ?_ ?_
 .rintro i k h _ _
  trivial
 .rintro i E k h C v ⟨s,r,p,o,rfl,rfl⟩ z
  let⟨B,rfl⟩:=Xm v
  delta F6
  rfl'
  refine⟨a,f,4+i,by rw[Kc];rfl,Z6 w,?_⟩
  rfl'
  refine⟨Y0 f (4+i),(i:Nat),rfl,'o','o',?_⟩
  rfl'
  refine⟨'o',?_⟩
  have g:∀(y n:Nat),Nd.test (.nm "y") "=" (.no (Y0 f (4+i) % 10 ^ 18)) y n=rgt f c b i->∀(u:DEnv->Z1->Prop) (t:DEnv->Z1->Prop),tss ⟨K,Γ,G⟩ noX Ry {nx:=C,rt:=Q,bk:=u,ct:=t} [↑a,some (.int (c:Nat)),some (.int (b:Nat)),↑M.length,some (.int (i:Nat)),some (.int (Y0 f (4+i))),some (.int (y:Nat)),some (.int (n:Nat))] (M++[.lst ((rgs f c b i).map Nd.d)]):=by
   intro y n e u t
   delta Ry
   rfl'
   refine⟨Z9 (cL Zb),⟨'d','d','d'⟩,'d',Z0 'd',_,cW Zb,by rw[Ag,X7];show Z2 'o',?_⟩
   refine Z8 ?_
   rfl'
   refine z _ _ ⟨_,_,_,_,rfl,?_⟩
   rw[Dj _ _ (na _),Nat.sub_self,Zn9,Ai,<-e,qm 'd']
   rfl
  have l:0<=mix (Y0 f (4+i)) (i:Nat) % (b:Nat):=Kl _ 'o'
  rw[qm 'o']
  rfl'
  by_cases e:i+1=b
  .rw[ng 'o']
   rfl'
   have:=g (c+b) c (by unfold rgt;rw[ng e,ng e]) (fun j h=>tss ⟨K,Γ,G⟩ noX Vv {nx:=fun x M=>Q .non M,rt:=Q} j h) C
   rw[Kc] at this
   show this
  .rw[nc 'o']
   rfl'
   have:=g (c+(mix (Y0 f (4+i)) (i:Nat) % (b:Nat)).toNat) (c+i+1) (by unfold rgt;rw[nc e,nc e]) (fun j h=>tss ⟨K,Γ,G⟩ noX Vv {nx:=fun x M=>Q .non M,rt:=Q} j h) C
   rw[Kc,Int.toNat_of_nonneg l,Kc,Kc] at this
   show this
 .rintro k h ⟨s,r,p,o,rfl,rfl⟩
  rw[Wj]
  try refine Z8 ?_
  delta Vv
  rfl'
  show q
end
def ksec(ns:List Int)(ah sz:Nat):Nat:=ah+2+(mix (Y0 ns 2) 2 % ((sz:Nat) - 1)).toNat
def Xc(ns:List Int)(ah sz:Nat):Nd:=if Y0 ns 3 % 2=1 then Nd.test (.nm "x") "<" (.no (Y0 ns 3 % 10 ^ 18)) (ksec ns ah sz) (ah+1) else Nd.test (.nm "x") "<" (.no (Y0 ns 3 % 10 ^ 18)) (ah+1) (ksec ns ah sz)
def kraw(ns:List Int)(ah sz be:Nat):List Nd:=sms 0 ah++[Xc ns ah sz]++rgs ns (ah+1) sz sz++sms (ah+1+sz) be++[Nd.fin]
def Zh1:DSp:=fun h M Q _=>∃(a e b c:Nat) (f:List Int),h=[.ref a,.int (e:Nat),.int (b:Nat),.int (c:Nat)]/\readL M a=some (f.map .int)/\2<=b/\b<=10/\e<=40/\c<=40/\
 ∀O g r,GT.Ord (wy (kraw f e b c)) (kraw f e b c).length O->Kp M g->Zw g r=some ((gra (kraw f e b c) O).map Nd.d)->M.length<=r->Q (.ref r) g
def Ra(ns:List Int)(ah sz be:Nat):(kraw ns ah sz be).length=ah+sz+be+2:=by
 unfold kraw
 simp only[Ae,Y8,X7,Ay]
 lia
def Y37(ns:List Int)(ah:Nat)(h:2<=sz):ah+1<ksec ns ah sz/\ksec ns ah sz<=ah+sz:=by
 unfold ksec
 have b:=Kl (mix (Y0 ns 2) 2) (show((sz:Nat):Int) - 1≠0 by lia)
 have a:=Le (mix (Y0 ns 2) 2) (show(0:Int)< ((sz:Nat):Int) - 1 by lia)
 lia
def Zv7{st k c:Nat}(h:c<k):(sms st k)[c]?=some (Nd.sum "x" (.nm "x") "+" (.no ((c:Nat):Int)) (st+c+1)):=by
 unfold sms
 rw[Aw,Ko h]
 rfl
def Y77(ns:List Int){st sz k c:Nat}(h:c<k):(rgs ns st sz k)[c]?=some (rgt ns st sz c):=by
 unfold rgs
 rw[Aw,Ko h]
 rfl
section
variable{ns:List Int}{ah sz be:Nat}
def kw0{c:Nat}(h:c<ah):wy (kraw ns ah sz be) c=[c+1]:=by
 have:(kraw ns ah sz be)[c]?=some (Nd.sum "x" (.nm "x") "+" (.no ((c:Nat):Int)) (0+c+1)):=by
  unfold kraw
  rw[Ar,Ar,Ar,Az (by rw[Y8];show h)]
  show Zv7 h
 rw[Qw this]
 simp[Nd.gs]
def kw1:wy (kraw ns ah sz be) ah=[ksec ns ah sz,ah+1]\/wy (kraw ns ah sz be) ah=[ah+1,ksec ns ah sz]:=by
 have:(kraw ns ah sz be)[ah]?=some (Xc ns ah sz):=by
  unfold kraw
  rw[Ar,Ar,Ar,Di (by rw[Y8];show na _),Y8,Nat.sub_self]
  rfl
 rw[Qw this]
 unfold Xc
 split
 .exact .inr rfl
 .exact .inl rfl
def kw2{c:Nat}(h:c<sz):wy (kraw ns ah sz be) (ah+1+c)=(rgt ns (ah+1) sz c).gs:=by
 have:(kraw ns ah sz be)[ah+1+c]?=some (rgt ns (ah+1) sz c):=by
  unfold kraw
  rw[Ar,Ar,Di (by rw[Ae,Y8,Ay];lia),Ae,Y8,Ay,show ah+1+c - (ah+1)=c by lia,Az (by rw[X7];show h)]
  show Y77 ns h
 rw[Qw this]
def kw3{c:Nat}(h:c<be):wy (kraw ns ah sz be) (ah+1+sz+c)=[ah+1+sz+c+1]:=by
 have:(kraw ns ah sz be)[ah+1+sz+c]?=some (Nd.sum "x" (.nm "x") "+" (.no ((c:Nat):Int)) (ah+1+sz+c+1)):=by
  unfold kraw
  rw[Ar,Di (by rw[Ae,Ae,Y8,X7,Ay];lia),Ae,Ae,Y8,X7,Ay,show ah+1+sz+c - (ah+1+sz)=c by lia,Az (by rw[Y8];show h)]
  show Zv7 h
 rw[Qw this]
 rfl
def kw4{x:Nat}(h:ah+1+sz+be<=x):wy (kraw ns ah sz be) x=[]:=by
 unfold wy
 by_cases e:x=ah+1+sz+be
 .have:(kraw ns ah sz be)[x]?=some Nd.fin:=by
   unfold kraw
   rw[Di (by simp only[Ae,Y8,X7,Ay];lia)]
   simp only[Ae,Y8,X7,Ay]
   rw[show x - (ah+1+sz+be)=0 by lia]
   rfl
  rw[this]
  rfl
 .rw[Iq (by rw[Ra];lia)]
def Zi2{st c:Nat}:(rgt ns st sz c).gs=[if c+1=sz then st else st+c+1,if c+1=sz then st+sz else st+(mix (Y0 ns (4+c)) (c:Nat) % (sz:Nat)).toNat]:=rfl
def Y63(d:2<=sz):Raw (wy (kraw ns ah sz be)) (ah+sz+be+2) ah sz (ksec ns ah sz):=by
 let⟨i,h⟩:=Y37 ns ah d
 have f:∀x,x<ah\/x=ah\/(∃c,c<sz/\x=ah+1+c)\/(∃c,c<be/\x=ah+1+sz+c)\/ah+1+sz+be<=x:=by
  intro x
  by_cases m:x<ah
  .exact .inl m
  .by_cases l:x=ah
   .exact .inr (.inl l)
   .by_cases p:x<ah+1+sz
    .exact .inr (.inr (.inl ⟨x - (ah+1),'o','o'⟩))
    .by_cases o:x<ah+1+sz+be
     .exact .inr (.inr (.inr (.inl ⟨x - (ah+1+sz),'o','o'⟩)))
     .exact .inr (.inr (.inr (.inr 'o')))
 have g:∀c,c<sz->∀y∈(rgt ns (ah+1) sz c).gs,ah<y/\y<=ah+1+sz:=by
  intro c b y a
  rw[Zi2] at a
  simp only[Aq,Hy,or_false] at a
  have k:=Kl (mix (Y0 ns (4+c)) (c:Nat)) (show((sz:Nat):Int)≠0 by lia)
  have d:=Le (mix (Y0 ns (4+c)) (c:Nat)) (show(0:Int)< ((sz:Nat):Int) by lia)
  rcases a with rfl | rfl
  .split<;>lia
  .split<;>lia
 refine⟨d,'o',fun x j=>?_,?_,fun x y a=>?_,fun x j y a=>?_,fun x k n y a=>?_,?_,i,h⟩
 .rcases f x with e | rfl | ⟨c,b,rfl⟩ | ⟨c,b,rfl⟩ | e
  .rw[kw0 e];simp
  .rcases kw1 (ns:=ns) (ah:=x) (sz:=sz) (be:=be) with e | e<;>rw[e]<;>simp
  .rw[kw2 b,Zi2]
   by_cases e:c+1=sz
   .rw[ng e,ng e]
    simp
    lia
   .rw[nc e]
    simp
  .rw[kw3 b];simp
  .lia
 .have:=kw2 (ns:=ns) (ah:=ah) (sz:=sz) (be:=be) (c:=sz - 1) 'o'
  rw[show ah+1+(sz - 1)=ah+sz by lia] at this
  rw[this,Zi2,ng 'o']
  simp
 .rcases f x with e | rfl | ⟨c,b,rfl⟩ | ⟨c,b,rfl⟩ | e
  .rw[kw0 e] at a
   simp at a
   lia
  .rcases kw1 (ns:=ns) (ah:=x) (sz:=sz) (be:=be) with e | e<;>rw[e] at a<;>simp at a<;>lia
  .rw[kw2 b] at a
   have:=g c b y a
   lia
  .rw[kw3 b] at a
   simp at a
   lia
  .rw[kw4 e] at a
   simp at a
 .rcases f x with e | rfl | ⟨c,b,rfl⟩ | ⟨c,b,rfl⟩ | e
  .rw[kw0 e] at a
   simp at a
   lia
  .rcases kw1 (ns:=ns) (ah:=x) (sz:=sz) (be:=be) with e | e<;>rw[e] at a<;>simp at a<;>lia
  .lia
  .rw[kw3 b] at a
   simp at a
   lia
  .rw[kw4 e] at a
   simp at a
 .obtain⟨c,b,rfl⟩:∃c,c<sz/\x=ah+1+c:=⟨x - (ah+1),'o','o'⟩
  rw[kw2 b] at a
  show(g c b y a).1
 .rcases kw1 (ns:=ns) (ah:=ah) (sz:=sz) (be:=be) with e | e<;>rw[e]<;>simp
def k_tr(l:2<=sz)(o:GT.Ord (wy (kraw ns ah sz be)) (kraw ns ah sz be).length O):Tr (wy (kraw ns ah sz be)) (ah+sz+be+2) O (gsOf (gra (kraw ns ah sz be) O)):=by
 have r:=Y63 (ns:=ns) (ah:=ah) (be:=be) l
 have d:∀x,x<ah+sz+be+2->x∈O:=by
  intro x a
  have:KS.Rc (wy (kraw ns ah sz be)) 0 x:=r.onw (nq _) a
  clear a
  induction this with
  | here=>show As o.z
  | step _ e j=>show o.cl _ j _ e
 have b:∀x,x∈O↔x<ah+sz+be+2:=fun x=>⟨fun h=>by have:=o.lt x h;rw[Ra] at this;show this,d x⟩
 have i:O.length=ah+sz+be+2:=by
  have:O.Perm (Ao (ah+sz+be+2)):=(List.perm_ext_iff_of_nodup o.nd Ma).mpr fun x=>by rw[b,He]
  rw[this.length_eq,Ky]
 refine⟨by rw[Yc,W9];show i,o.nd,b,o.z,fun k x a=>?_,r.hi⟩
 have c:=(b x).mp (As a)
 obtain⟨f,g⟩:∃f,(kraw ns ah sz be)[x]?=some f:=⟨_,Aa (by rw[Ra];show c)⟩
 rw[Zb6 (Fn a g),Qw g,Nd.gs_to]
def k_kn(a:2<=sz)(o:GT.Ord (wy (kraw ns ah sz be)) (kraw ns ah sz be).length O):Kn (gsOf (gra (kraw ns ah sz be) O)) (ah+be+2+(2 ^ sz - 1)) sz/\(gra (kraw ns ah sz be) O).length=ah+sz+be+2:=by
 have t:=k_tr a o
 have:=Kn.of (Y63 (ns:=ns) (ah:=ah) (be:=be) a) t
 rw[show ah+sz+be+2 - sz=ah+be+2 by lia] at this
 show⟨this,by have:=t.len;rw[Yc] at this;show this⟩
end
section
variable{K:Ac}
def Zy7{Γ G}(g20:Γ[20]?=some Jh)(g21:Γ[21]?=some Ro)(g24:Γ[24]?=some Fx)(g27:Γ[27]?=some Fj)(g11:Γ[28]?=some Fm):Rd K Γ G Zh1 Z83 Zd6:=by
 rintro ds M Q Z ⟨a,ah,sz,be,ns,rfl,ha,h2,hz,hah,hbe,q⟩
 have r:=Y63 (ns:=ns) (ah:=ah) (be:=be) h2
 delta Z83 Zd6
 rfl'
 refine⟨a,ns,2,rfl,ha,?_⟩
 rfl'
 refine⟨Y0 ns 2,2,rfl,'o','o',?_⟩
 rfl'
 refine⟨'o',?_⟩
 rw[qm 'o']
 have es:(ah:Int)+2+mix (Y0 ns 2) 2 % ((sz:Nat) - 1)=((ksec ns ah sz:Nat):Int):=by
  unfold ksec
  have h1:=Kl (mix (Y0 ns 2) 2) (show((sz:Nat):Int) - 1≠0 by lia)
  lia
 rw[es]
 rfl'
 refine⟨0,ah,rfl,'o',?_⟩
 rfl'
 refine⟨Z0 'd',?_⟩
 rfl'
 refine⟨a,ns,3,rfl,Z6 ha,?_⟩
 rfl'
 try (refine⟨'d',?_⟩)
 rw[qm 'd']
 rfl'
 have k1:Kp M (M++[.lst ((sms 0 ah).map Nd.d)]):=Kp.new _ _
 have h1:(M++[.lst ((sms 0 ah).map Nd.d)]:Z1)[M.length]?=some (.lst ((sms 0 ah).map Nd.d)):=Zb
 have l1:(M++[Cell.lst ((sms 0 ah).map Nd.d)]).length=M.length+1:=by simp
 generalize M++[.lst ((sms 0 ah).map Nd.d)]=M1 at k1 h1 l1 ⊢
 have rest:∀(y n:Nat),(Nd.test (.nm "x") "<" (.no (Y0 ns 3 % 10 ^ 18)) y n)=Xc ns ah sz->tss ⟨K,Γ,G⟩ noX Qh {nx:=fun _ M=>Q .non M,rt:=Q} [↑a,some (.int (ah:Nat)),some (.int (sz:Nat)),some (.int (be:Nat)),some (.int (ksec ns ah sz:Nat)),↑M.length,some (.tup [.int (y:Nat),.int (n:Nat)])] M1:=by
  intro y n e
  delta Qh
  rfl'
  refine⟨a,ns,3,rfl,k1.L ha,⟨'d','d','d'⟩,?_⟩
  rfl'
  refine⟨'d',Z0 'd',by simp,Z0 'd',Z0 'd',_,_,cW (Z5 h1),cW Zb,by rw[Ag,Y8];show Z0 (by simp;lia),?_⟩
  rw[qm 'd']
  have e1:(sms 0 ah).map Nd.d++[D.tup [.str "test",.str "x",.str "<",.int (Y0 ns 3 % 10 ^ Ue 18),.int (y:Nat),.int (n:Nat)]]=(sms 0 ah++[Xc ns ah sz]).map Nd.d:=by
   rw[<-e,Ai]
   rfl
  rw[e1]
  have kP:Kp M (M1++[.lst [.tup [.str "test",.str "x",.str "<",.int (Y0 ns 3 % 10 ^ Ue 18),.int (y:Nat),.int (n:Nat)]]]):=k1.app _
  generalize M1++[.lst [.tup [.str "test",.str "x",.str "<",.int (Y0 ns 3 % 10 ^ Ue 18),.int (y:Nat),.int (n:Nat)]]]=P at kP ⊢
  clear e1 e h1 l1 k1
  have k2:Kp M (P++[.lst ((sms 0 ah++[Xc ns ah sz]).map Nd.d)]):=kP.app _
  have h2':(P++[.lst ((sms 0 ah++[Xc ns ah sz]).map Nd.d)]:Z1)[P.length]?=some (.lst ((sms 0 ah++[Xc ns ah sz]).map Nd.d)):=Zb
  generalize P++[.lst ((sms 0 ah++[Xc ns ah sz]).map Nd.d)]=M2 at k2 h2' ⊢
  generalize P.length=p2 at h2' ⊢
  rfl'
  refine⟨a,ah+1,sz,ns,rfl,k2.L ha,'o','o',?_⟩
  rfl'
  refine⟨_,_,cW (Z5 h2'),cW Zb,Z0 (by simp only[Ag,Ae,Y8,X7,Ay];lia),?_⟩
  rw[<-Ai]
  have k3:Kp M (M2++[.lst ((rgs ns (ah+1) sz sz).map Nd.d)]):=k2.app _
  generalize M2++[.lst ((rgs ns (ah+1) sz sz).map Nd.d)]=M3 at k3 ⊢
  have k4:Kp M (M3++[.lst ((sms 0 ah++[Xc ns ah sz]++rgs ns (ah+1) sz sz).map Nd.d)]):=k3.app _
  have h4:(M3++[.lst ((sms 0 ah++[Xc ns ah sz]++rgs ns (ah+1) sz sz).map Nd.d)]:Z1)[M3.length]?=some (.lst ((sms 0 ah++[Xc ns ah sz]++rgs ns (ah+1) sz sz).map Nd.d)):=Zb
  generalize M3++[.lst ((sms 0 ah++[Xc ns ah sz]++rgs ns (ah+1) sz sz).map Nd.d)]=M4 at k4 h4 ⊢
  generalize M3.length=p4 at h4 ⊢
  rfl'
  refine⟨ah+1+sz,be,by rw[Kc,Kc];rfl,'o',?_⟩
  rfl'
  refine⟨_,_,cW (Z5 h4),cW Zb,Z0 (by simp only[Ag,Ae,Y8,X7,Ay];lia),?_⟩
  rw[<-Ai]
  have k5:Kp M (M4++[.lst ((sms (ah+1+sz) be).map Nd.d)]):=k4.app _
  generalize M4++[.lst ((sms (ah+1+sz) be).map Nd.d)]=M5 at k5 ⊢
  have k6:Kp M (M5++[.lst ((sms 0 ah++[Xc ns ah sz]++rgs ns (ah+1) sz sz++sms (ah+1+sz) be).map Nd.d)]):=k5.app _
  have h6:(M5++[.lst ((sms 0 ah++[Xc ns ah sz]++rgs ns (ah+1) sz sz++sms (ah+1+sz) be).map Nd.d)]:Z1)[M5.length]?=some (.lst ((sms 0 ah++[Xc ns ah sz]++rgs ns (ah+1) sz sz++sms (ah+1+sz) be).map Nd.d)):=Zb
  generalize M5++[.lst ((sms 0 ah++[Xc ns ah sz]++rgs ns (ah+1) sz sz++sms (ah+1+sz) be).map Nd.d)]=M6 at k6 h6 ⊢
  generalize M5.length=p6 at h6 ⊢
  rfl'
  refine⟨Z0 'd',Z0 'd',_,_,cW (Z5 h6),cW Zb,Z0 (by simp only[Ag,Ae,Y8,X7,Ay];lia),?_⟩
  have e7:(sms 0 ah++[Xc ns ah sz]++rgs ns (ah+1) sz sz++sms (ah+1+sz) be).map Nd.d++[D.tup [.str "end"]]=(kraw ns ah sz be).map Nd.d:=by
   unfold kraw
   rw[Ai (l₂:=[Nd.fin])]
   rfl
  rw[e7]
  have len:=Ra ns ah sz be
  have k7:Kp M (M6++[.lst [.tup [.str "end"]]]):=k6.app _
  generalize M6++[.lst [.tup [.str "end"]]]=M7 at k7 ⊢
  refine⟨_,kraw ns ah sz be,rfl,cL Zb,'o','o',fun d hd t ht=>?_,fun O M8 r8 o k8 h8 l8=>q O M8 r8 o ((k7.app _).trans k8) h8 ?_⟩
  .let⟨j,hj⟩:=Iu hd
   rw[len]
   show r.hi j t (by rw[Qw hj];show ht)
  .let⟨N,rfl⟩:=k7
   simp only[Ae] at l8
   lia
 by_cases e:Y0 ns 3 % 2=1
 .rw[ng e]
  refine⟨Z0 'd',?_⟩
  refine Z8 ?_
  rfl'
  have:=rest (ksec ns ah sz) (ah+1) (by unfold Xc;rw[ng e])
  rw[Kc] at this
  show this
 .rw[nc e]
  refine Z8 ?_
  have:=rest (ah+1) (ksec ns ah sz) (by unfold Xc;rw[nc e])
  rw[Kc] at this
  show this
end
section
variable{g0 gs:List (LQ)}{os B S R:LQ}{w s h:Nat}
def Kn.first(k:Kn g0 w s)(st:Dstep g0 [] S h R):0<R.length/\R.length<=s/\∃p u,p∈S/\p≠h/\u<g0.length/\u∉S/\p∈gof g0 u:=by
 let⟨l,u,p,q,f,a,m,j,i,o,n⟩:=k.dr S st.sc
 obtain⟨x,c,b,g⟩:∃x,x∈S/\x≠h/\x∈gof g0 u:=by
  by_cases e:p=h
  .exact⟨q,j,fun z=>i (e.trans z.symm),n⟩
  .exact⟨p,m,e,o⟩
 refine⟨Ld (st.door c b f a g),?_,x,u,c,b,f,a,g⟩
 let⟨d,_,r⟩:=st.ct
 have:R.length<=S.length:=Dl ↥r.nd fun x c=>(st.sub x c).1
 lia
def Kn.not(k:Kn g0 w s):¬Al g0 []:=by
 let⟨x,y,c,d,b,a⟩:=k.nal
 show fun e=>c (e x (Yn.mpr ⟨d,by simp⟩) y b a).symm
def IA(g0:List (LQ))(m:Nat)(gs:List (LQ))(os B:LQ):Prop:=DI g0 gs os B/\gs.length<64/\((m=1/\gs=g0/\B=[])\/(m=0/\40<gs.length))
def IA.begin(k:Kn g0 w s)(a:∀l∈g0,l.length<=2)(b:g0.length=40):IA g0 1 g0 (Ao g0.length) []:=⟨DI.begin k.cd a k.pos,'o',.inl ⟨rfl,rfl,rfl⟩⟩
def IA.step(k:Kn g0 w s)(f:s<=10)(b:g0.length=40){m:Nat}(i:IA g0 m gs os B)(l:gs.length<=40)(st:Dstep gs B S h R):∃a,a<m/\IA g0 a (nxt gs S R) (os++R.map fun p=>os.getD p 0) (B++[h]):=by
 obtain⟨c,_,⟨rfl,rfl,rfl⟩ | ⟨_,z⟩⟩:=i
 .let⟨e,d,_⟩:=k.first st
  show⟨0,'o',c.step st,by rw[Ye];lia,.inr ⟨rfl,by rw[Ye];lia⟩⟩
 .lia
def IA.fin(k:Kn g0 w s)(i:IA g0 m gs os B)(l:gs.length<=40)(a:Al gs B):False:=by
 obtain⟨_,_,⟨_,rfl,rfl⟩ | ⟨_,z⟩⟩:=i
 .exact k.not a
 .lia
def IB(g0:List (LQ))(m:Nat)(gs:List (LQ))(os B:LQ):Prop:=DI g0 gs os B/\(∃f M,(∀x,x<gs.length->f x<M)/\DB.Cl gs.length (gof gs) B f/\B.length+DB.wt gs.length B f M<=40/\DB.wt gs.length B f M=m)/\((gs=g0/\B=[])\/Tw gs os)
def IB.few(i:IB g0 m gs os B):gs.length<=40:=by
 let⟨_,⟨f,M,a,_,b,_⟩,_⟩:=i
 have:=DB.many (D:=B) a
 lia
def IB.begin(k:Kn g0 w s)(a:∀l∈g0,l.length<=2)(d:w<=40):∃m,IB g0 m g0 (Ao g0.length) []:=by
 let⟨f,M,c,b,e⟩:=k.cl
 show⟨_,DI.begin k.cd a k.pos,⟨f,M,c,b,by rw[Ik];lia,rfl⟩,.inl ⟨rfl,rfl⟩⟩
def IB.step(k:Kn g0 w s){m:Nat}(i:IB g0 m gs os B)(st:Dstep gs B S h R):∃A,A<m/\IB g0 A (nxt gs S R) (os++R.map fun p=>os.getD p 0) (B++[h]):=by
 let⟨b,⟨f,M,E,D,K,rfl⟩,d⟩:=i
 have v:=st.sp b.cd
 have a:∀x,x∈B++[h]↔x∈h::B:=fun x=>by simp[or_comm]
 have J:=v.weight D E b.bl
 have r:=v.clus D M
 have t:=Ye gs S R
 refine⟨DB.wt (nxt gs S R).length (B++[h]) (DB.up gs.length M f) (M+1),?_,b.step st,⟨DB.up gs.length M f,M+1,fun x _=>?_,?_,?_,rfl⟩,.inr ?_⟩
 .rw[t,Zs8 a]
  lia
 .show(if x<gs.length then f x else M)<M+1
  split
  .have:=E x (by assumption);lia
  .lia
 .intro x y c C I H l j
  have e:=Yj8 (n:=gs.length+R.length) (g:=gof (nxt gs S R)) (g':=DB.nx gs.length (gof gs) S R) (fun x c=>W3 c) a
  rw[t] at c C l j
  rw[e] at l j
  show r x y c C (fun z=>I ((a x).mpr z)) (fun z=>H ((a y).mpr z)) l j
 .rw[t,Zs8 a,Ae,Ay]
  lia
 .rcases d with⟨rfl,rfl⟩ | d
  .let⟨_,_,p,u,G,q,F,o,e⟩:=k.first st
   show Tw.first b st rfl k.re G q F o e
  .exact d.step b st
def IB.fin(k:Kn g0 w s){d:LQ}(i:IB g0 m gs os B)(L:Al gs B)(I:d.Nodup)(J:∀x∈d,x<gs.length)(H:0∈d)(K:∀x∈d,∀t∈gof gs x,t∈d):g0.length<d.length/\d.length<=40/\∀x,x<g0.length->x∈d.map fun y=>os.getD y 0:=by
 have o:=i.few
 let⟨f,_,C⟩:=i
 have l:∀{x:Nat},KS.Rc (gof gs) 0 x->x∈d:=by
  intro x r
  induction r with
  | here=>show H
  | step _ e F=>show K _ F _ e
 have p:∀x,x<g0.length->∃y,y<gs.length/\KS.Rc (gof gs) 0 y/\os.getD y 0=x:=fun x c=>by
  have:=DB.lift (g:=gof g0) (g':=gof gs) (n':=gs.length) (π:=fun y=>os.getD y 0) f.cd f.ov (x':=0) f.pos (y:=x) (by change KS.Rc _ (os.getD 0 0) x;rw[f.o0];show k.re x c)
  show this
 have a:∀x,x<g0.length->x∈d.map fun y=>os.getD y 0:=fun x c=>by
  let⟨y,_,j,e⟩:=p x c
  show De.mpr ⟨y,l j,e⟩
 refine⟨?_,ni (ND.Yi _ _ I J) o,a⟩
 rcases C with⟨rfl,rfl⟩ | ⟨x,y,E,c,M,D,j,e⟩
 .exact(k.not L).elim
 .have q:=l D
  have A:=l j
  have:Ao g0.length ⊆ (d.erase x).map fun y=>os.getD y 0:=fun z n=>by
   have n:=He.mp n
   let⟨v,G,u⟩:=De.mp (a z n)
   by_cases b:v=x
   .subst b
    show De.mpr ⟨y,(List.mem_erase_of_ne (Ia E)).mpr A,e.symm.trans u⟩
   .exact De.mpr ⟨v,(List.mem_erase_of_ne b).mpr G,u⟩
  have:=Dl Ma this
  rw[Ky,Ag,List.length_erase_of_mem q] at this
  have:=Ld q
  lia
end
section
variable{gr nds:List Nd}{B S doors:LQ}{w s:Nat}
def IG(gr:List Nd)(m:Nat)(nds:List Nd)(B:LQ):Prop:=GI 40 nds B/\m=40 - B.length/\((nds=gr/\B=[])\/40<nds.length)
def IG.begin(k:Kn (gsOf gr) w s)(b:gr.length=40):IG gr 40 gr []:=by
 have e:=Yc gr
 refine⟨⟨'o',k.cd,'o',by rw[Ik];lia,List.nodup_nil,fun x a=>by simp at a,⟨fun _=>0,fun x d c=>by lia⟩,fun x a=>k.re x 'o'⟩,rfl,.inl ⟨rfl,rfl⟩⟩
def IG.bounds(i:IG gr m nds B):nds.length<=200/\Cd (gsOf nds)/\B.length<=200/\∀S,DB.Scc nds.length (gof (gsOf nds)) B S->S.length<64:=by
 let⟨g,_,_⟩:=i
 have c:=g.bf
 have b:=g.few
 refine⟨'o',g.cd,'o',fun S a=>?_⟩
 rw[<-Yc] at a
 have:=ND.Yi 40 S a.nd (g.old a)
 lia
def IG.step(k:Kn (gsOf gr) w s){m:Nat}(i:IG gr m nds B)(st:Gstep (gsOf nds) B S doors):∃e,e<m/\IG gr e (gnx nds S doors) (B++doors):=by
 let⟨g,rfl,c⟩:=i
 have v:=g.some st
 have g1:=g.one st
 have t:=g1.bf
 rw[Ae] at t
 refine⟨40 - (B++doors).length,by rw[Ae];lia,?_⟩
 by_cases h:1<doors.length
 .unfold gnx
  rw[ng h]
  refine⟨g.two st h,rfl,.inr ?_⟩
  rw[Zd4 h]
  have:=g.len
  lia
 .unfold gnx
  rw[nc h]
  refine⟨g1,rfl,.inr ?_⟩
  rcases c with⟨rfl,rfl⟩ | c
  .exfalso
   let⟨_,u,p,q,f,d,n,l,j,r,o⟩:=k.dr S st.sc
   have a:=(st.mem p).mpr ⟨n,.inr ⟨u,f,d,r⟩⟩
   have b:=(st.mem q).mpr ⟨l,.inr ⟨u,f,d,o⟩⟩
   match doors,h,a,b with
   | [x],_,a,b=>
    rw[An] at a b
    show j (a.trans b.symm)
   | [],_,a,_=>simp at a
   | _::_::_,h,_,_=>simp at h
  .exact c
def IG.fin(k:Kn (gsOf gr) w s)(i:IG gr m nds B)(a:Al (gsOf nds) B):40<nds.length:=by
 obtain⟨_,_,⟨rfl,rfl⟩ | c⟩:=i
 .exact(k.not a).elim
 .exact c
end
def Na(C:Uh):DSp:=fun c M Q _=>∃(e b:Uh),c=[.exn e C b .non]/\∀a,Kp M a->Q (.bl true) a
def free(a:List Nd):Prop:=∀n∈a,D.str Xv∉n.xs
def Qk:DSp:=fun f M Q _=>∃(a w s:Nat) (b:Bool) (c:List Nd),f=[.ref a,.bl b]/\readL M a=some (c.map Nd.d)/\Kn (gsOf c) w s/\s<=10/\c.length=40/\free c/\∀e,Kp M e->Q (.bl true) e
section
variable{K:Ac}
def Sd{e f C c:Uh}{b:Bool}(d:ExcIs K C)(a:Df K (.ref C) (.ref c)=some b)(q:B b):isD K M (.exn e C f r) (.cls c) B:=by
 change ∃b,ExcIs K C/\Df K (.ref C) (.ref c)=some b/\B b
 show⟨b,d,a,q⟩
def Zv8{e d C:Uh}{t:Ty}{b:Bool}(c:ExcIs K C)(a:Df K (.ref C) (.type (Yj t))=some b)(q:B b):isD K M (.exn e C d r) (.ty (Yj t)) B:=by
 change ∃b,ExcIs K C/\Df K (.ref C) (.type (Yj t))=some b/\B b
 show⟨b,c,a,q⟩
section
variable{J C c1 c2 c3 c4 c6 c7 c8:Uh}(hI:ExcIs K C)(hca:Catch K C J true)(hg:ExcGet K C "row")(kC:Df K (.ref C) (.ref C)=some true)(kv:Df K (.ref C) (.type "ValueError")=some true)
 (k1:Df K (.ref C) (.ref c1)=some false) (k2:Df K (.ref C) (.ref c2)=some false) (k3:Df K (.ref C) (.ref c3)=some false) (k4:Df K (.ref C) (.ref c4)=some false)
 (k6:Df K (.ref C) (.ref c6)=some false) (k7:Df K (.ref C) (.ref c7)=some false) (k8:Df K (.ref C) (.ref c8)=some false)
include hI hg kC kv k1 k2 k3 k4 k6 k7 k8 in
theorem Cp{Γ}:∀a M Q Z,Na C a M Q Z->tss ⟨K,Γ,[.cls J,.cls c1,.cls c2,.cls c3,.cls c4,.cls C,.cls c6,.cls c7,.cls c8,.int 40]⟩ noX Ox {nx:=fun _ M=>Q .non M,rt:=Q} (start0 R7 a) M:=by
 rintro a M Q Z ⟨e,c,rfl,q⟩
 delta Ox R7
 rfl'
 refine Sd hI k2 ?_
 rfl'
 refine Sd hI k3 ?_
 rfl'
 refine Sd hI k4 ?_
 rfl'
 refine Sd hI k8 ?_
 rfl'
 refine⟨Z0 'd',?_⟩
 rfl'
 refine Sd hI k6 ?_
 rfl'
 refine Sd hI k7 ?_
 rfl'
 refine Sd hI k1 ?_
 rfl'
 refine⟨Z0 'd',_,_,cW (Z5 Zb),cW Zb,Z0 'd',?_⟩
 have b:Kp M (M++[.lst [.bl false,.bl false,.bl false,.bl false]]++[.lst [.bl false,.bl false,.bl false]]):=(Kp.new _ _).app _
 generalize M++[.lst [.bl false,.bl false,.bl false,.bl false]]++[.lst [.bl false,.bl false,.bl false]]=M1 at b ⊢
 rfl'
 refine Sd hI kC ?_
 rfl'
 try rw[ng rfl]
 refine Zv8 hI kv ?_
 rfl'
 try rw[ng rfl]
 refine .inl ⟨_,cL Zb,rfl,rfl,?_⟩
 rfl'
 rw[ng 'k']
 refine⟨rfl,hg,?_⟩
 rfl'
 show q _ (b.app _)
include hca in
theorem Z07{Γ}(g13:Γ[13]?=some (Vg C))(g19:Γ[19]?=some (Nt C))(g25:Γ[25]?=some (Na C)):∀v M Q Z,Qk v M Q Z->tss ⟨K,Γ,[.cls J,.cls c1,.cls c2,.cls c3,.cls c4,.cls C,.cls c6,.cls c7,.cls c8,.int 40]⟩ noX Tj {nx:=fun _ M=>Q .non M,rt:=Q} (start0 Wn v) M:=by
 rintro v M Q Z ⟨a,w,s,b,f,rfl,z,c,D,p,E,q⟩
 have F:=Yc f
 delta Tj Wn
 rfl'
 cases b with
 | true=>
  rfl'
  refine⟨a,f,IG f,rfl,z,'o',E,⟨_,IG.begin c p⟩,fun m g B i=>i.bounds,fun m g B S x i j=>i.step c j,fun m g B A i y o=>⟨i.fin c y,hca,fun e u=>⟨e,u,rfl,fun G n=>?_⟩⟩⟩
  refine Z8 ?_
  rfl'
  try refine Z8 ?_
  delta W4
  rfl'
  show q _ (o.trans n)
 | false=>
  rfl'
  refine⟨a,f,IA (gsOf f),rfl,z,⟨1,by have:=IA.begin c (Sz f) 'o';rw[F] at this;show this⟩,fun m t k B i=>⟨i.2.1,i.1⟩,fun m t k B S h R i l j=>i.step c D 'o' l j,fun m t k B A i l o=>⟨hca,fun e u=>⟨e,u,rfl,fun G n=>?_⟩⟩,fun m t k B d A r H i l y=>(i.fin c l y).elim⟩
  refine Z8 ?_
  rfl'
  try refine Z8 ?_
  delta W4
  rfl'
  show q _ (o.trans n)
end
end
def Nh:DSp:=fun e M Q _=>∃(a r d:Nat) (c b:LD) (l:LQ),e=[.ref a,.tup [.ref r,.ref d]]/\readL M a=some c/\M[r]?=some (.lst b)/\M[d]?=some (.lst (natD l))/\b.length=l.length/\c.length<b.length/\b.length<=40/\(∀k,k<c.length->k∈l)/\Q (.bl true) M
section
variable{K:Ac}
theorem Z68{Γ G}:Rd K Γ G Nh Ju F0:=by
 rintro f M Q Z ⟨a,r,k,t,s,l,rfl,j,e,b,p,v,u,d,q⟩
 delta Ju F0
 rfl'
 rw[nc 'd']
 refine Z8 ?_
 delta Rb
 rfl'
 rw[Zu3 (cW e)]
 rfl'
 rw[Zu3 (cW b)]
 rfl'
 refine Zq (cL e) (Zq (cL b) ?_)
 rw[Z4,p]
 rfl'
 try rw[nc (by simp)]
 try refine Z8 ?_
 delta Rs
 rfl'
 refine Zq j ?_
 rfl'
 refine⟨'o','o',?_⟩
 rw[Kj]
 refine Yg (fun i c h=>∃g,c=[↑a,some (.tup [.ref r,.ref k]),g]/\h=M) ⟨none,rfl,rfl⟩ (fun _ _ _ _ _=>trivial) ?_ ?_
 .rintro i w c h C m ⟨g,rfl,rfl⟩ o
  let⟨n,rfl⟩:=Xm m
  delta Qs
  rfl'
  refine .inl ⟨_,cL b,rfl,Wa l,?_⟩
  rfl'
  rw[Ov,decide_eq_true (d i n)]
  try dsimp only
  rw[nc 'd']
  rfl'
  try refine Z8 ?_
  rfl'
  show o _ _ ⟨_,rfl,rfl⟩
 .rintro c h ⟨g,rfl,rfl⟩
  try refine Z8 ?_
  delta Qb
  rfl'
  refine Zq j (Zq (cL e) ?_)
  rfl'
  rw[ng 'o',decide_eq_true 'o']
  show q
theorem Y00{c:Nd}(h:D.str Xv∉c.xs):D.str Xv∉(c.to f).xs:=by
 cases c with
 | sum x a d b t=>simpa[Nd.xs,Nd.to] using h
 | test a d b y n=>simpa[Nd.xs,Nd.to] using h
 | fin=>show h
 | spin=>show h
theorem X6{x:Str}(h:(x==Xv)=false):¬D.str Xv=D.str x:=by
 intro z
 cases z
 simp at h
theorem Zm3(ns:List Int)(ah sz be:Nat)(O:LQ):free (gra (kraw ns ah sz be) O):=by
 intro n l
 unfold gra at l
 let⟨x,_,rfl⟩:=De.mp l
 refine Y00 ?_
 have i:=X6 (x:="sum") 'k'
 have g:=X6 (x:="test") 'k'
 have k:=X6 (x:="end") 'k'
 have b:=X6 (x:="x") 'k'
 have m:=X6 (x:="y") 'k'
 have j:=X6 (x:="+") 'k'
 have p:=X6 (x:="<") 'k'
 have o:=X6 (x:="=") 'k'
 have f:∀a∈kraw ns ah sz be,D.str Xv∉a.xs:=by
  intro a h
  unfold kraw at h
  simp only[Au,An] at h
  rcases h with((((h | h) | h) | h) | h)
  .unfold sms at h
   let⟨c,_,rfl⟩:=De.mp h
   simp[Nd.xs,Opd.d,i,b,j]
  .subst h
   unfold Xc
   split<;>simp[Nd.xs,Opd.d,g,b,p]
  .unfold rgs at h
   let⟨c,_,rfl⟩:=De.mp h
   simp[rgt,Nd.xs,Opd.d,g,m,o]
  .unfold sms at h
   let⟨c,_,rfl⟩:=De.mp h
   simp[Nd.xs,Opd.d,i,b,j]
  .subst h
   simp[Nd.xs,k]
 rw[Af]
 cases e:(kraw ns ah sz be)[x]? with
 | none=>simp[Nd.xs,k]
 | some a=>show f a (As e)
theorem Yl5{Γ G}{C:Uh}(g13:Γ[13]?=some (Vg C))(g20:Γ[20]?=some Jh)(g21:Γ[21]?=some Ro)(g26:Γ[26]?=some Qk)(g11:Γ[29]?=some Zh1)(g12:Γ[30]?=some Nh):Rd K Γ G Zf3 Y02 Zk6:=by
 rintro ds M Q Z ⟨ns,rfl,rfl,hl,hb,q⟩
 have hs:readL [Cell.frz (ns.map D.int)] 0=some (ns.map .int):=rfl
 delta Y02 Zk6
 rfl'
 refine⟨0,ns,0,rfl,hs,?_⟩
 rfl'
 refine⟨Y0 ns 0,0,rfl,'o','o',?_⟩
 rfl'
 obtain⟨nu,hnu⟩:∃nu:Nat,mix (Y0 ns 0) 0=(nu:Nat):=⟨_,(Int.toNat_of_nonneg (Y87 _ _)).symm⟩
 rw[hnu]
 try (refine⟨'d',?_⟩)
 rw[qm 'd']
 by_cases h0:nu % 3=0
 .rw[ng 'o']
  rfl'
  refine⟨N7 'd' 'd',?_⟩
  rw[qm (show(0:Int)<9 by decide),qd (show(0:Int)<3 by decide)]
  obtain⟨sz,hz1,hz2,ez⟩:∃sz:Nat,2<=sz/\sz<=10/\2+(nu:Int) / 3 % 9=(sz:Nat):=⟨2+nu / 3 % 9,'o','o','o'⟩
  rw[ez]
  rfl'
  refine⟨0,ns,1,rfl,hs,?_⟩
  rfl'
  refine⟨Y0 ns 1,1,rfl,'o','o',?_⟩
  rfl'
  refine⟨'o',?_⟩
  rw[qm (show(0:Int)<39 - (sz:Nat) by lia)]
  obtain⟨ah,ha,ea⟩:∃ah:Nat,ah<=38 - sz/\mix (Y0 ns 1) 1 % (39 - (sz:Nat))=(ah:Nat):=by
   have h1:=Kl (mix (Y0 ns 1) 1) (show(39:Int) - (sz:Nat)≠0 by lia)
   have h2:=Le (mix (Y0 ns 1) 1) (show(0:Int)<39 - (sz:Nat) by lia)
   show⟨(mix (Y0 ns 1) 1 % (39 - (sz:Nat))).toNat,'o','o'⟩
  rw[ea]
  rfl'
  refine⟨0,ah,sz,38 - sz - ah,ns,by rw[show((38 - sz - ah:Nat):Int)=38 - (sz:Int) - (ah:Int) by lia],hs,hz1,hz2,'o','o',fun O M1 r1 o k1 h1 l1=>?_⟩
  let⟨kn,len⟩:=k_kn hz1 o
  have fr:=Zm3 ns ah sz (38 - sz - ah) O
  have hc1:=Xj h1
  generalize gra (kraw ns ah sz (38 - sz - ah)) O=gr at kn len fr hc1
  rfl'
  refine⟨_,cL hc1,?_⟩
  refine⟨_,_,_,false,gr,rfl,cL Zb,kn,hz2,'o',fr,fun M2 k2=>?_⟩
  have hc2:=kp_c k2 (Z5 hc1)
  rfl'
  try rw[ng rfl]
  refine⟨_,cL hc2,?_⟩
  refine⟨_,_,_,true,gr,rfl,cL Zb,kn,hz2,'o',fr,fun M3 k3=>?_⟩
  show q _
 .rw[nc 'o']
  rfl'
  delta Z92
  rfl'
  refine⟨N7 'd' 'd',?_⟩
  rw[qm (show(0:Int)<4 by decide),qd (show(0:Int)<3 by decide)]
  obtain⟨sz,hz1,hz2,ez⟩:∃sz:Nat,2<=sz/\sz<=5/\2+(nu:Int) / 3 % 4=(sz:Nat):=⟨2+nu / 3 % 4,'o','o','o'⟩
  rw[ez]
  rfl'
  have p2:4<=2 ^ sz/\2 ^ sz<=32/\([.int 4,.int 8,.int 16,.int 32]:LD)[sz - 2]?=some (.int ((2 ^ sz:Nat):Int)):=by
   rcases(show sz=2\/sz=3\/sz=4\/sz=5 by lia) with rfl | rfl | rfl | rfl<;>show⟨'d','d',rfl⟩
  let⟨p4,p5,p6⟩:=p2
  refine⟨Z0 'd',?_⟩
  rw[show(sz:Int) - 2=((sz - 2:Nat):Int) by lia]
  refine ix_l rfl p6 ?_
  have pw:(2 ^ sz - 1:Nat)+1=2 ^ sz:='o'
  have ef:(39:Int) - ((2 ^ sz:Nat):Int)=((39 - 2 ^ sz:Nat):Int):='o'
  have rest:∀fr:Nat,fr+2 ^ sz<=39->tss ⟨K,Γ,G⟩ noX E5 {nx:=fun x M=>Q .non M,rt:=Q} [↑0,some (.int (nu:Nat)),some (.int (sz:Nat)),none,none,some (.int (fr:Nat))] [Cell.frz (ns.map D.int),Cell.lst [.int 4,.int 8,.int 16,.int 32]]:=by
   intro fr hfr
   have hs:readL [Cell.frz (ns.map D.int),Cell.lst [.int 4,.int 8,.int 16,.int 32]] 0=some (ns.map .int):=rfl
   generalize [Cell.frz (ns.map D.int),Cell.lst [.int 4,.int 8,.int 16,.int 32]]=M0 at hs ⊢
   delta E5
   rfl'
   refine⟨0,ns,1,rfl,hs,?_⟩
   rfl'
   refine⟨Y0 ns 1,1,rfl,'o','o',?_⟩
   rfl'
   refine⟨'o',?_⟩
   rw[qm (show(0:Int)< (fr:Nat)+1 by lia)]
   obtain⟨ah,ha,ea⟩:∃ah:Nat,ah<=fr/\mix (Y0 ns 1) 1 % ((fr:Nat)+1)=(ah:Nat):=by
    have h1:=Kl (mix (Y0 ns 1) 1) (show((fr:Nat):Int)+1≠0 by lia)
    have h2:=Le (mix (Y0 ns 1) 1) (show(0:Int)< ((fr:Nat):Int)+1 by lia)
    show⟨(mix (Y0 ns 1) 1 % ((fr:Nat)+1)).toNat,'o','o'⟩
   rw[ea]
   rfl'
   refine⟨0,ah,sz,fr - ah,ns,by rw[show((fr - ah:Nat):Int)=(fr:Int) - (ah:Int) by lia],hs,hz1,'o','o','o',fun O M1 r1 o k1 h1 l1=>?_⟩
   let⟨kn,len⟩:=k_kn hz1 o
   have hc1:=Xj h1
   generalize gra (kraw ns ah sz (fr - ah)) O=gr at kn len hc1
   have el:=Yc gr
   rfl'
   refine⟨_,cL hc1,?_⟩
   refine⟨_,gr,IB (gsOf gr),rfl,cL Zb,by have:=IB.begin kn (Sz gr) 'o';rw[el] at this;show this,fun m gs os B i=>⟨by have:=i.few;lia,i.1⟩,fun m gs os B S h R i l st=>i.step kn st,fun m gs os B M2 i l k2=>absurd i.few 'o',fun m gs os B d M2 r r2 i l al en k2 hr hr2=>?_⟩
   have di:=i.1
   have wf:Wf gs.length [0] (· <gs.length) (gof gs):=⟨fun p h=>h,'o',fun x hx=>by rw[An] at hx;rw[hx];show di.pos,fun p hp=>by rw[(di.o hp).2.2];show Nd.gs_two _,di.cd⟩
   let⟨dn,dl,dc⟩:=Om wf en
   have dz:0∈d:=by
    have:0∈d++[gs.length]:=en.facts.2.1 gs.length (by simp) 0 (by unfold gR;rw[ng rfl];simp)
    refine(Au.mp this).resolve_right fun z=>?_
    rw[An] at z
    have:=di.pos
    lia
   let⟨f1,f2,f3⟩:=i.fin kn al dn dl dz dc
   rfl'
   refine⟨r1,r,r2,gr.map Nd.d,_,_,rfl,cL (kp_c k2 (Z5 hc1)),hr,hr2,?_,?_,?_,fun k hk=>?_,q _⟩
   .rw[Ag,W9,Ag]
   .rw[Ag,Ag,W9,Ht]
    lia
   .rw[Ag,W9,Ht]
    lia
   .rw[Ag] at hk
    let⟨y,hy,e⟩:=De.mp (f3 k 'o')
    show De.mpr ⟨y,Dw.mpr hy,e⟩
  rfl'
  rw[ef,qm (show(0:Int)<3 by decide)]
  by_cases h1:nu % 3=1
  .rw[ng 'o']
   refine⟨N7 'd' 'd','o',?_⟩
   rw[qm (show(0:Int)< ((39 - 2 ^ sz:Nat):Int)+1 by lia),qd (show(0:Int)<12 by decide)]
   refine Z8 ?_
   rfl'
   obtain⟨fr,hf,e⟩:∃fr:Nat,fr<=39 - 2 ^ sz/\(nu:Int) / 12 % (((39 - 2 ^ sz:Nat):Int)+1)=(fr:Nat):=by
    have h1:=Kl ((nu:Int) / 12) (show((39 - 2 ^ sz:Nat):Int)+1≠0 by lia)
    have h2:=Le ((nu:Int) / 12) (show(0:Int)< ((39 - 2 ^ sz:Nat):Int)+1 by lia)
    show⟨((nu:Int) / 12 % (((39 - 2 ^ sz:Nat):Int)+1)).toNat,'o','o'⟩
   rw[e]
   show rest fr 'o'
  .rw[nc 'o']
   refine Z8 ?_
   show rest _ 'o'
end
structure DW(K:Ac)(mg:Str->Option Uf)(n:Str)(st:Stmt)(ps:LS) where
 mk::
 a:Uh
 d:FuncData
 F:Fun K n n st a d
 g:mg n=↑a
 k:Dv K (.ref a)=true
 b:Y9 K d ps []
def DW.of{K:Ac}{h:Uk}{mg:Str->Option Uf}{n:Str}{st:Stmt}{ps:LS}{f:Uh}{oc kV dc pm cd ct:Uf}{od an:Option Uh}{sl:Array (Option Uf)}(X:K.In h)(G:h.Ns mainGlobals mg)(a:Ix K mainGlobals n=some (↑f))
  (l:K.lookup f=some ⟨oc,od,.func (Ke n n (Xb st) (Zh st) (Z3 st) .none kV dc pm an cd ct),sl⟩) (c:Lv K cd n=true) (k:Dv K (.ref f)=true) (b:∀kV dc pm an cd ct,Y9 K (Ke n n (Xb st) (Zh st) (Z3 st) .none kV dc pm an cd ct) ps []:=by intro _ _ _ _ _ _;refine .all ?_;repeat first | show U.Zt2 rfl | refine U.Z61 fun _=>?_):DW K mg n st ps:=
 ⟨f,_,Yc5 (st:=st) l c k,Iy X G a,k,b _ _ _ _ _ _⟩
theorem DW.en{K:Ac}{mg:Str->Option Uf}{n:Str}{st:Stmt}{ps:LS}(T:DW K mg n st ps):Ent K mg n:=⟨_,_,_,T.g,T.k,T.b⟩
structure EX(K:Ac)(mg:Str->Option Uf) where
 mk::
 J:Uh
 B:Uh
 e0:Uh
 e1:Uh
 e2:Uh
 e3:Uh
 e4:Uh
 e5:Uh
 e6:Uh
 I:Uh
 d:FuncData
 gJ:mg "JumpError"=↑J
 gB:mg "TooGreat"=↑B
 ge0:mg "ByNought"=↑e0
 ge1:mg "NoRow"=↑e1
 ge2:mg "NoJump"=↑e2
 ge3:mg "NoEnd"=↑e3
 ge4:mg "NoForm"=↑e4
 ge5:mg "TwoWays"=↑e5
 ge6:mg "NoWay"=↑e6
 mB:ExcMk K B I
 sB:ExcSet K B "row"
 gt:ExcGet K B "row"
 is:ExcIs K B
 ca:Catch K B J true
 co:Catch K B B true
 kC:Df K (.ref B) (.ref B)=some true
 kv:Df K (.ref B) (.type "ValueError")=some true
 k0:Df K (.ref B) (.ref e0)=some false
 k1:Df K (.ref B) (.ref e1)=some false
 k2:Df K (.ref B) (.ref e2)=some false
 k3:Df K (.ref B) (.ref e3)=some false
 k4:Df K (.ref B) (.ref e4)=some false
 k5:Df K (.ref B) (.ref e5)=some false
 k6:Df K (.ref B) (.ref e6)=some false
 ok:∀(P:Ui) (w:Uj) (mg:Str->Option Uf) (base:Uk),FnOk P w K mg base CX0 1 I d ["self","row"] (Ol K)
 b1:Y9 K d ["self","row"] [.none]
 b0:Y9 K d ["self","row"] []
def EX.of{K:Ac}{h:Uk}{mg:Str->Option Uf}{J B e0 e1 e2 e3 e4 e5 e6 N fi Ti:Uh}{kV dc pm cd ct oc o2:Uf}{an od dd o3:Option Uh}{sl s2:Array (Option Uf)}{nm q:Str}{bs sub:LW}{sn:LS}{ab:Bool}{col:Option Bool}{ka kb kc kd ke:Option Uf}{nT:Nat}(X:K.In h)(G:h.Ns mainGlobals mg)(n0:Ix K mainGlobals "JumpError"=some (↑J))(n1:Ix K mainGlobals "TooGreat"=some (↑B))
  (m0:Ix K mainGlobals "ByNought"=some (↑e0)) (m1:Ix K mainGlobals "NoRow"=some (↑e1)) (m2:Ix K mainGlobals "NoJump"=some (↑e2)) (m3:Ix K mainGlobals "NoEnd"=some (↑e3)) (m4:Ix K mainGlobals "NoForm"=some (↑e4)) (m5:Ix K mainGlobals "TwoWays"=some (↑e5)) (m6:Ix K mainGlobals "NoWay"=some (↑e6))
  (xl:K.lookup B=some (excClassObj nm q B N bs (.ref J::vs4) true sn sub ab col dd ka kb kc kd ke "ValueError.__new__")) (xa:Hs K (.ref B) "__init__"=some (↑fi)) (xb:PySem.W.isFn K (.ref fi)=true) (xc:Dv K (.ref B)=true) (xd:Hs K (.ref B) "row"=some none) (xe:Hs K (.ref B) "__setattr__"=some (some (.builtin "object.__setattr__"))) (xf:Hs K (.ref B) "__getattribute__"=some (some (.builtin "BaseException.__getattribute__"))) (xg:Hs K (.ref B) "__getattr__"=some none) (xh:Ll K B (.type "BaseException")=some true) (xi:Hs K (.ref B) "__class__"=some (some (.builtin "object.__class__"))) (xj:Ll K B (.type "object")=some true) (xk:Ll K B (.ref J)=some true) (xm:PySem.W.typeIn K (.ref B)=some (.type "type")) (xn:PySem.W.isClsIn K B=true) (xo:Ll K B (.ref B)=some true)
  (y:Df K (.ref B) (.ref B)=some true) (yv:Df K (.ref B) (.type "ValueError")=some true) (y0:Df K (.ref B) (.ref e0)=some false) (y1:Df K (.ref B) (.ref e1)=some false) (y2:Df K (.ref B) (.ref e2)=some false) (y3:Df K (.ref B) (.ref e3)=some false) (y4:Df K (.ref B) (.ref e4)=some false) (y5:Df K (.ref B) (.ref e5)=some false) (y6:Df K (.ref B) (.ref e6)=some false)
  (w0:PySem.W.specialIn K (.builtin "object.__class__") "__get__"=some (some (.builtin "getset_descriptor.__get__"))) (w1:PySem.W.takesIn K (.builtin "object.__class__")=some true) (w2:PySem.W.typeIn K (.ref J)=some (.type "type")) (w3:PySem.W.isClsIn K J=true) (w4:Ll K J (.type "BaseException")=some true)
  (il:K.lookup fi=some ⟨oc,od,.func (Ke "__init__" "JumpError.__init__" (Xb Jq) (Zh Jq) (Z3 Jq) (.ref Ti) kV dc pm an cd ct),sl⟩) (ic:Lv K cd "JumpError.__init__"=true) (it:K.lookup Ti=some ⟨o2,o3,.seq #[.none] nT,s2⟩):EX K mg:=
 ⟨J,B,e0,e1,e2,e3,e4,e5,e6,fi,_,Iy X G n0,Iy X G n1,Iy X G m0,Iy X G m1,Iy X G m2,Iy X G m3,Iy X G m4,Iy X G m5,Iy X G m6,Zp3 xl xa xb xc,Z54 xl xd xe,⟨(mro4 xl).imp fun _ h=>⟨h.1,h.2.1⟩,xd,xf,xg,xh⟩,⟨(mro4 xl).imp fun _ h=>⟨h.1,h.2.1⟩,xf,xg,xh,xi,w0,w1,xj⟩,⟨w2,w3,w4,xk⟩,⟨xm,xn,xh,xo⟩,y,yv,y0,y1,y2,y3,y4,y5,y6,fun P w mg base=>Y09 il ic Y44 Y29 rfl rfl,Y17 (n:=1) (fun s KX=>Zu6 fun _=>PySem.W.binds_K KX rfl it rfl rfl rfl) rfl,Zp9 (n:=2) (fun s KX=>Ya4 fun _ _=>PySem.W.binds_K KX rfl it rfl rfl rfl) rfl⟩
theorem EX.pr{K:Ac}{mg:Str->Option Uf}(X:EX K mg){P:Ui}{w:Uj}{base:Uk}{c:Cfg}{n lv:Nat}(hn:c.G[n]?=some (.cls X.B))(h:2<=lv):PrgR P w K mg base c [n] lv:= .one hn X.mB (X.ok _ _ _ _) h X.b1 X.b0 X.sB
theorem ad{P:Ui}{w:Uj}{K:Ac}{mg:Str->Option Uf}{base:Uk}{Γ:List DSp}{G:LD}{FN GN BN:LS}{lv:Nat}{x:Str}{st:Stmt}{ps N:LS}{b:Ss}{sp:DSp}(Pr:Prg P w K mg base ⟨K,Γ,G⟩ FN GN BN lv)(n:Nat)(T:DW K mg x st ps)(r:Rd K Γ G sp b N)(S:FnScope N ps (Z3 st):=by show⟨rfl,rfl,rfl,'k',rfl,'k','k'⟩)(hc:Xa (ck0 N st FN GN BN) b (Zh st)=true:=by decide+kernel)
  (hl:∀ds M Q Z,sp ds M Q Z->ds.length=ps.length:=by intro _ _ _ _ h;repeat (first | (let⟨rfl,_⟩:=h;rfl;done) | (let⟨_,h⟩:=h))) (hx:FN[n]?=some x:=by rfl):Prg P w K mg base ⟨K,Γ.set n sp,G⟩ FN GN BN (lv+1):=Pr.add n hx (fn0 Pr T.F S hc hl r) (na _) (mm _) T.g T.k T.b
theorem ad1{P:Ui}{w:Uj}{K:Ac}{mg:Str->Option Uf}{base:Uk}{Γ:List DSp}{G:LD}{FN GN BN:LS}{lv:Nat}{x:Str}{st:Stmt}{ps N:LS}{b:Ss}{sp:DSp}(Pr:Prg P w K mg base ⟨K,Γ,G⟩ FN GN BN lv)(n:Nat)(T:DW K mg x st ps){rs:LQ}(R:PrgR P w K mg base ⟨K,Γ,G⟩ rs lv)(r:∀ds M Q Z,sp ds M Q Z->tss ⟨K,Γ,G⟩ Z b {nx:=fun _ M=>Q .non M,rt:=Q} (start0 N ds) M)(S:FnScope N ps (Z3 st):=by show⟨rfl,rfl,rfl,'k',rfl,'k','k'⟩)(hc:Xa (ck1 rs N st FN GN BN) b (Zh st)=true:=by decide+kernel)
  (hl:∀ds M Q Z,sp ds M Q Z->ds.length=ps.length:=by intro _ _ _ _ h;repeat (first | (let⟨rfl,_⟩:=h;rfl;done) | (let⟨_,h⟩:=h))) (hx:FN[n]?=some x:=by rfl):Prg P w K mg base ⟨K,Γ.set n sp,G⟩ FN GN BN (lv+1):=Pr.add n hx (fn1 Pr R T.F S hc hl r) (na _) (mm _) T.g T.k T.b
theorem adR{P:Ui}{w:Uj}{K:Ac}{mg:Str->Option Uf}{base:Uk}{Γ:List DSp}{G:LD}{FN GN BN:LS}{lv:Nat}{x:Str}{st:Stmt}{ps N:LS}{b:Ss}{sp:DSp}(Pr:Prg P w K mg base ⟨K,Γ,G⟩ FN GN BN lv)(n:Nat)(T:DW K mg x st ps){y:Str}{sty:Stmt}{psy Ny:LS}{by_:Ss}{spy:DSp}(m:Nat)(Ty:DW K mg y sty psy)(ry:Rd K Γ G spy by_ Ny)(Sy:FnScope Ny psy (Z3 sty))(hcy:Xa (ckH Ny sty FN GN BN) by_ (Zh sty)=true)(hly:∀ds M Q Z,spy ds M Q Z->ds.length=psy.length)(hm:FN[m]?=some y)(hgm:Γ[m]?=some spy)(r:Rd K Γ G sp b N)(S:FnScope N ps (Z3 st))(hc:Xa (ckR [m] N st FN GN BN) b (Zh st)=true)
  (hl:∀ds M Q Z,sp ds M Q Z->ds.length=ps.length) (hx:FN[n]?=some x):Prg P w K mg base ⟨K,Γ.set n sp,G⟩ FN GN BN (lv+2):=by
 have F:=fnH Pr Ty.F Sy hcy hly ry
 have Ph:PrgH P w K mg base ⟨K,Γ,G⟩ FN [m] (lv+1):=fun f z s h1 h2 h3=>by
  have e:f=m:=by simpa using h1
  subst e
  rw[hm] at h2
  cases h2
  rw[show(⟨K,Γ,G⟩:Cfg).Γ=Γ from rfl,hgm] at h3
  cases h3
  show⟨_,_,_,_,F,na _,Ty.g,Ty.k,Ty.b⟩
 show(Pr.up (mm _)).add n hx (fnR (Pr.up (mm _)) Ph T.F S hc hl r) (na _) (mm _) T.g T.k T.b
section
variable{K:Ac}{mg:Str->Option Uf}(T0:DW K mg "ways" Yc4 ["node"])(T1:DW K mg "with_ways" Fo ["node","goals"])(T2:DW K mg "walked" Zk8 ["goals","starts"])(T3:DW K mg "numbered" Z11 ["nodes","order"])(T4:DW K mg "links_among" Oz ["goals","places"])(T5:DW K mg "turned" Zs3 ["links"])(T6:DW K mg "come_to" Zg7 ["links","starts","taken"])(T7:DW K mg "set_left" Z06 ["goals","done"])(T8:DW K mg "doors_of" Z32 ["goals","together"])(T9:DW K mg "come_round" Jt ["goals","together","doors","head"])(T10:DW K mg "chosen_head" Oo ["goals","together","doors"])(T11:DW K mg "led_to_copies" Re ["places","copies"])(T12:DW K mg "put_copies" Gd ["goals","origins","together","places"])(T13:DW K mg "doubled" Zh8 ["graph"])(T14:DW K mg "free_name" E6 ["graph"])(T15:DW K mg "goals_of" Bv ["nodes"])(T16:DW K mg "put_sums" Bq ["nodes","name","doors","first"])(T17:DW K mg "tests_for" E8 ["name","doors","first"])(T18:DW K mg "put_guides" Jv ["nodes","name","together","doors"])(T19:DW K mg "guided" Zn5 ["graph"])(T20:DW K mg "_law_cell" Zx8 ["_law_script","_law_k"])(T21:DW K mg "_law_mixed" Zm8 ["_law_cell_here","_law_k"])(T22:DW K mg "_law_goals" Zr2 ["_law_node"])(T23:DW K mg "_law_order" Zq5 ["_law_raw"])(T24:DW K mg "_law_graph" Zn4 ["_law_raw"])(T25:DW K mg "_law_kinds" R8 ["_law_error"])(T26:DW K mg "_law_refused" Wh ["_law_graph_here","_law_by_name"])(T27:DW K mg "_law_ring" Y32 ["_law_script","_law_start","_law_size"])(T28:DW K mg "_law_sums" Y18 ["_law_start","_law_many"])(T29:DW K mg "_law_knot" Y21 ["_law_script","_law_ahead","_law_size","_law_behind"])(T30:DW K mg "_law_counts" Zc7 ["_law_graph_here","_law_found"])(X:EX K mg)
include T0 T1 T2 T3 T4 T5 T6 T7 T8 T9 T10 T11 T12 T13 T14 T15 T16 T17 T18 T19 T20 T21 T22 T23 T24 T25 T26 T27 T28 T29 T30 X
theorem Ye3{P:Ui}{w:Uj}{base:Uk}(T31:DW K mg "law" Fg ["_law_script"]){ch TH:Uh}(KX:K.In base)(GB:base.Ns mainGlobals mg)(BB:Bs K mg base)(hT:PySem.W.tabIn K "chosen_head"=some (ch,TH))(Q_MOST_NODES:∃tk,mg "MOST_NODES"=some (.int 40 tk))(hz:∀x∈BN,mg x=none):FnOk P w K mg base (CX1 P w) 37 T31.a T31.d ["_law_script"] (spF K Zf3):=by
 have PZ:Prg P w K mg base ⟨K,[bot,bot,bot,bot,bot,bot,bot,bot,bot,bot,bot,bot,bot,bot,bot,bot,bot,bot,bot,bot,bot,bot,bot,bot,bot,bot,bot,bot,bot,bot,bot,bot],[.cls X.J,.cls X.e0,.cls X.e1,.cls X.e2,.cls X.e3,.cls X.B,.cls X.e4,.cls X.e5,.cls X.e6,.int 40]⟩ FN GN BN 0:=Prg.zero (all_cons T0.en (all_cons T1.en (all_cons T2.en (all_cons T3.en (all_cons T4.en (all_cons T5.en (all_cons T6.en (all_cons T7.en (all_cons T8.en (all_cons T9.en (all_cons T10.en (all_cons T11.en (all_cons T12.en (all_cons T13.en (all_cons T14.en (all_cons T15.en (all_cons T16.en (all_cons T17.en (all_cons T18.en (all_cons T19.en (all_cons T20.en (all_cons T21.en (all_cons T22.en (all_cons T23.en (all_cons T24.en (all_cons T25.en (all_cons T26.en (all_cons T27.en (all_cons T28.en (all_cons T29.en (all_cons T30.en (all_cons T31.en (Zh0))))))))))))))))))))))))))))))))) rfl (by intro sp h;simp only[Aq,Hy,or_false,or_self] at h;show h) (fun g x d h1 h2=>match g,h1,h2 with | 0,h1,h2=>by cases h1;cases h2;show⟨.ref _,.ref _,X.gJ,rfl,fun w _=>Xf.mpr rfl⟩ | 1,h1,h2=>by cases h1;cases h2;show⟨.ref _,.ref _,X.ge0,rfl,fun w _=>Xf.mpr rfl⟩ | 2,h1,h2=>by cases h1;cases h2;show⟨.ref _,.ref _,X.ge1,rfl,fun w _=>Xf.mpr rfl⟩ | 3,h1,h2=>by cases h1;cases h2;show⟨.ref _,.ref _,X.ge2,rfl,fun w _=>Xf.mpr rfl⟩ | 4,h1,h2=>by cases h1;cases h2;show⟨.ref _,.ref _,X.ge3,rfl,fun w _=>Xf.mpr rfl⟩ | 5,h1,h2=>by cases h1;cases h2;show⟨.ref _,.ref _,X.gB,rfl,fun w _=>Xf.mpr rfl⟩ | 6,h1,h2=>by cases h1;cases h2;show⟨.ref _,.ref _,X.ge4,rfl,fun w _=>Xf.mpr rfl⟩ | 7,h1,h2=>by cases h1;cases h2;show⟨.ref _,.ref _,X.ge5,rfl,fun w _=>Xf.mpr rfl⟩ | 8,h1,h2=>by cases h1;cases h2;show⟨.ref _,.ref _,X.ge6,rfl,fun w _=>Xf.mpr rfl⟩ | 9,h1,h2=>by cases h1;cases h2;let⟨tk,e⟩:=Q_MOST_NODES;show⟨.int 40,_,e,⟨tk,rfl⟩,fun w _=>Za.mpr rfl⟩ | n+10,h1,h2=>by cases h2) hz
 have P0:=PZ.up (show 0<=2 by decide)
 have P1:=ad P0 0 T0 (sp:=Sg) Yg4
 have P2:=ad P1 1 T1 (sp:=Sc) Y79
 have P3:=ad P2 2 T2 (sp:=Vj) Zj1
 have P4:=ad P3 3 T3 (sp:=Wm) (Z19 rfl rfl)
 have P5:=ad P4 4 T4 (sp:=Nf) Zw0
 have P6:=ad P5 5 T5 (sp:=Ow) Zl1
 have P7:=ad P6 6 T6 (sp:=Gj) Y95
 have P8:Prg P w K mg base ⟨K,[_,_,_,_,_,_,_,_,_,_,_,_,_,_,_,_,_,_,_,_,_,_,_,_,_,_,_,_,_,_,_,_],_⟩ FN GN BN _:=ad P7 7 T7 (sp:=Qt) (Yj6 rfl rfl rfl rfl)
 have P9:=ad P8 8 T8 (sp:=S6) Zw9
 have P10:=ad P9 9 T9 (sp:=Ta) (Y19 rfl rfl)
 have F10:=fnC P10 KX GB BB hT T10.g T10.F rfl rfl ⟨rfl,rfl,rfl,'k',rfl,'k','k'⟩ 'k' 'k' (n:=9) rfl rfl
 have P11:=P10.add 10 (x:="chosen_head") rfl F10 (na _) (by omega) T10.g T10.k T10.b
 have P12:=ad P11 11 T11 (sp:=Zq1) Yl3
 have P13:=ad P12 12 T12 (sp:=Zm0) (Yi8 rfl)
 have P14:=ad1 P13 13 T13 (X.pr (n:=5) rfl 'd') (sp:=Vg X.B) (Zd2 rfl rfl rfl rfl rfl rfl rfl rfl rfl rfl rfl)
 have P15:=ad P14 14 T14 (sp:=Zg2) Ya3
 have P16:Prg P w K mg base ⟨K,[_,_,_,_,_,_,_,_,_,_,_,_,_,_,_,_,_,_,_,_,_,_,_,_,_,_,_,_,_,_,_,_],_⟩ FN GN BN _:=ad P15 15 T15 (sp:=Wu) (Zw4 rfl)
 have P17:=ad P16 16 T16 (sp:=Z62) Yc8
 have P18:=ad P17 17 T17 (sp:=Fz) (Zw6 rfl)
 have P19:=ad P18 18 T18 (sp:=R6) (Zr0 rfl rfl rfl rfl)
 have P20:=ad1 P19 19 T19 (X.pr (n:=5) rfl 'd') (sp:=Nt X.B) (Zn6 rfl rfl rfl rfl rfl rfl rfl)
 have P21:=ad P20 20 T20 (sp:=Jh) Y61
 have P22:=ad P21 21 T21 (sp:=Ro) Zk9
 have P23:=ad P22 22 T22 (sp:=R0) Zk5
 have P24:Prg P w K mg base ⟨K,[_,_,_,_,_,_,_,_,_,_,_,_,_,_,_,_,_,_,_,_,_,_,_,_,_,_,_,_,_,_,_,_],_⟩ FN GN BN _:=ad P23 23 T23 (sp:=Fy) (Zq3 rfl)
 have P25:=ad P24 24 T24 (sp:=Fx) (Zk0 rfl)
 have P26:=ad P25 25 T25 (sp:=(Na X.B)) (Cp X.is X.gt X.kC X.kv X.k0 X.k1 X.k2 X.k3 X.k4 X.k5 X.k6)
 have P27:=adR P26 26 T26 25 T25 (spy:=(Na X.B)) (Cp X.is X.gt X.kC X.kv X.k0 X.k1 X.k2 X.k3 X.k4 X.k5 X.k6) Z78 Z75 (by rintro _ _ _ _ ⟨_,_,rfl,_⟩;rfl) rfl rfl (sp:=Qk) (Z07 X.ca rfl rfl rfl) Fe Z23 (by rintro _ _ _ _ ⟨_,_,_,_,_,rfl,_⟩;rfl) rfl
 have P28:=ad P27 27 T27 (sp:=Fj) (Zz4 rfl rfl)
 have P29:=ad P28 28 T28 (sp:=Fm) Zw1
 have P30:=ad P29 29 T29 (sp:=Zh1) (Zy7 rfl rfl rfl rfl rfl)
 have P31:=ad P30 30 T30 (sp:=Nh) Z68
 show fn0 P31 T31.F Y81 Yj4 (sp:=Zf3) (by rintro _ _ _ _ ⟨_,rfl,_⟩;rfl) (Yl5 rfl rfl rfl rfl rfl rfl)
theorem Y70{l:PySem.W.OpenLaw}{w:Uj}{fa f:Uh}{h:Uk}{oc kV dc pm cd ct:Uf}{od an:Option Uh}{sl:Array (Option Uf)}{ch TH:Uh}(hT:PySem.W.tabIn K "chosen_head"=some (ch,TH))(hfa:mg "law"=↑fa)(X0:K.In h)(G:h.Ns mainGlobals mg)
  (a:Ix K mainGlobals "law"=some (↑f)) (l0:K.lookup f=some ⟨oc,od,.func (Ke "law" "law" (Xb Fg) (Zh Fg) (Z3 Fg) .none kV dc pm an cd ct),sl⟩) (c:Lv K cd "law"=true) (k:Dv K (.ref f)=true) {tq0:Tok} (q0:Ix K mainGlobals "MOST_NODES"=some (some (.int 40 tq0))) (hz:∀x∈BN,Ix K mainGlobals x=some none)
  :∃fd:FuncData,(∀(s:Ug) (v:Uf),BindsTo s fd ⟨[v],[]⟩ [("_law_script",v)])/\∀base:Uk,K.In base->base.Ns mainGlobals mg->Bs K mg base->FnOk l.prog w K mg base (CX1 l.prog w) 37 fa fd ["_law_script"] (spF K Zf3):=by
 have e2:=hfa.symm.trans (Iy X0 G a)
 cases e2
 show⟨_,fun s v=> .of_eq rfl,fun base kx gb bb=>Ye3 T0 T1 T2 T3 T4 T5 T6 T7 T8 T9 T10 T11 T12 T13 T14 T15 T16 T17 T18 T19 T20 T21 T22 T23 T24 T25 T26 T27 T28 T29 T30 X (DW.of X0 G a l0 c k) kx gb bb hT ⟨_,Iy X0 G q0⟩ fun x hx=>PySem.W.mg_none_of X0 G (hz x hx)⟩
end
end K44
open PySem PySem.W PyProof.Rows
set_option maxRecDepth 100000 in
theorem PySem.Challenge.cw_unjump_k44_too_great_holds : PySem.Challenge.rw_unjump_k44_too_great.Holds := by
 w_on;refine holds_law Hand.wS fun said=>?_;refine holds_open (q:=Hand.qH) (loose:=Hand.lH) (Xt:=fun s=>xlAt Hand.qH [] s&&recOk [] s) (XP:=XL Hand.qH []) (Yf:=Hook.obs (kmHook Hand.KH Hand.aH Hand.eH [191])) (Ya:=Hook.val (kmHook Hand.KH Hand.aH Hand.eH [191])) (YP:=Hook.says (kmHook Hand.KH Hand.aH Hand.eH [191])) (N:=6004) Hand.hlH (Hook.of _) (Hook.keeps _) (fun s e=>xl_of s (Bool.and_eq_true_iff.mp e).1) XL.keeps (by rfl) (by rfl) (by rfl) (fun s e=>recFacts_of (Bool.and_eq_true_iff.mp e).2) (by rfl) (by first | assumption | decide+kernel) 'k' ⟨rfl,rfl,rfl,rfl,rfl,'k'⟩ ?hw ?hc;(case hw=>w_witness2)
 k_fill
 refine' U.Zi0 (l:=PySem.Challenge.rw_unjump_k44_too_great) (k:=37) (x:="_law_script") (c0:=195) (T:=191) rfl rfl ⟨rfl,'d','d'⟩ (fun w h Y=>PySem.W.km_in_of Y) (fun w h Y=>PySem.W.km_tabs_of Y _ Db) ?TT ?F
 case TT=>show fun w h KX=>⟨by kernel_rfl,by kernel_rfl,by kernel_rfl⟩
 case F=>
  intro w mg fa h KX G hmg
  refine' K44.Y70 (.of KX G _ _ _ _) (.of KX G _ _ _ _) (.of KX G _ _ _ _) (.of KX G _ _ _ _) (.of KX G _ _ _ _) (.of KX G _ _ _ _) (.of KX G _ _ _ _) (.of KX G _ _ _ _) (.of KX G _ _ _ _) (.of KX G _ _ _ _) (.of KX G _ _ _ _) (.of KX G _ _ _ _) (.of KX G _ _ _ _) (.of KX G _ _ _ _) (.of KX G _ _ _ _) (.of KX G _ _ _ _) (.of KX G _ _ _ _) (.of KX G _ _ _ _) (.of KX G _ _ _ _) (.of KX G _ _ _ _) (.of KX G _ _ _ _) (.of KX G _ _ _ _) (.of KX G _ _ _ _) (.of KX G _ _ _ _) (.of KX G _ _ _ _) (.of KX G _ _ _ _) (.of KX G _ _ _ _) (.of KX G _ _ _ _) (.of KX G _ _ _ _) (.of KX G _ _ _ _) (.of KX G _ _ _ _) (.of KX G _ _ _ _ _ _ _ _ _ _ _ _ _ _ _ _ _ _ _ _ _ _ _ _ _ _ _ _ _ _ _ _ _ _ _ _ _ _ _ _ _) (ch:=195) (TH:=191) ?hT hmg KX G _ _ _ _ _ (U.all_cons _ (U.all_cons _ (U.all_cons _ (U.all_cons _ (U.all_cons _ (U.all_cons _ (U.all_cons _ (U.all_cons _ (U.all_cons _ (U.all_cons _ (U.Zh0)))))))))))
  (case hT=>kernel_rfl)
  all_goals (try k_is)
  all_goals kernel_rfl
