import PyProof.Rows.All
import Wide.All
import OpenK.AllK
import Wide.FinOn
import Lean
import PyProof.EqAt
import PyProof.EqKinds
import PyProof.TupleCall
import PySem.Challenge.RW_sumcraft_k53_what_terms_are_worth
set_option Elab.async false
set_option linter.all false
set_option maxRecDepth 100000
set_option maxHeartbeats 4000000
namespace My
open PySem PySem.Spec PyProof.Rows PySem.W
def top (i : Nat) : Stmt := PySem.Challenge.pw_sumcraft_k53_what_terms_are_worth.main.body.getD i (.Pass ⟨0, 0, 0, 0⟩)
def inCls (s : Stmt) (j : Nat) : Stmt := match s with
  | .ClassDef _ _ _ b _ _ _ _ _ _ _ => b.getD j (.Pass ⟨0, 0, 0, 0⟩)
  | _ => .Pass ⟨0, 0, 0, 0⟩
abbrev s_divisor : Stmt := top 13
abbrev s_ratio : Stmt := top 14
abbrev s_form_value : Stmt := top 17
abbrev s_raised : Stmt := top 18
abbrev s_low_forms : Stmt := top 20
abbrev s_power_of : Stmt := top 21
abbrev s_run_product : Stmt := top 22
abbrev s_choices : Stmt := top 23
abbrev s_within : Stmt := top 34
abbrev s_check_choose : Stmt := top 35
abbrev s_check_base : Stmt := top 36
abbrev s_piece_of : Stmt := top 37
abbrev s_product : Stmt := top 38
abbrev s__law_cell_at : Stmt := top 41
abbrev s__law_number : Stmt := top 42
abbrev s__law_whole : Stmt := top 43
abbrev s__law_divisor : Stmt := top 44
abbrev s__law_mixed : Stmt := top 45
abbrev s__law_forms : Stmt := top 46
abbrev s__law_ratio : Stmt := top 47
abbrev s__law_part : Stmt := top 48
abbrev s__law_parts : Stmt := top 49
abbrev s__law_at : Stmt := top 50
abbrev s__law_power : Stmt := top 51
abbrev s__law_ways : Stmt := top 52
abbrev s__law_worth : Stmt := top 53
abbrev s__law_alike : Stmt := top 54
abbrev s__law_made : Stmt := top 55
abbrev s__law_point : Stmt := top 56
abbrev s__law_far : Stmt := top 57
abbrev s_law : Stmt := top 58
abbrev s_Part_worth : Stmt := inCls (top 24) 0
abbrev s_Choose___init__ : Stmt := inCls (top 25) 0
abbrev s_Choose_lifted : Stmt := inCls (top 25) 1
abbrev s_Choose_worth : Stmt := inCls (top 25) 2
abbrev s_Choose_floor : Stmt := inCls (top 25) 6
abbrev s_Weight___init__ : Stmt := inCls (top 26) 0
abbrev s_Weight_worth : Stmt := inCls (top 26) 1
abbrev s_Power___init__ : Stmt := inCls (top 27) 0
abbrev s_Power_worth : Stmt := inCls (top 27) 1
abbrev s_Growth___init__ : Stmt := inCls (top 28) 0
abbrev s_Growth_worth : Stmt := inCls (top 28) 1
abbrev s_Term___init__ : Stmt := inCls (top 39) 0
abbrev s_Term_told : Stmt := inCls (top 39) 1
abbrev s_Term_worth : Stmt := inCls (top 39) 2
def kE (P : Params) (x : String) (n : Nat) (v : Value) : DictEntry := ⟨PyData.keyHash P (Str.ofString x), .str (Str.ofString x) n, v⟩
def kM (x q : Str) (s : Stmt) (m : Str) (k c : Nat) : Obj := match s with
  | .FunctionDef _ a b _ _ _ sc _ _ _ => ⟨.type "function", none, .func (fnOf x q a b sc .none .none .none (.str m k) none (.ref c) .none), #[]⟩
  | _ => ⟨.none, none, .plain, #[]⟩
def kN (x q : Str) (s : Stmt) : Obj := match s with
  | .FunctionDef _ a b _ _ _ sc _ _ _ => ⟨.none, none, .func { name := x, qualname := q, params := a, body := .stmts b, scope := sc, globals := 0, closure := [], defaults := .none, kwdefaults := .none }, #[]⟩
  | _ => ⟨.none, none, .plain, #[]⟩
def oT (x : Array Value) : Obj := { cls := .type "tuple", data := Data.seq x }
def oF (x : Array Value) : Obj := { cls := .none, data := Data.fields x }
def oK (x : Array Value) : Obj := { cls := .type "code", data := Data.fields x }
def oB (x : Array Value) : Obj := { cls := .type "builtin_function_or_method", data := Data.fields x }
def cp (n : Nat) : Value := .str "/claim/cut.py" n
def ob11 : Obj := oT #[]
def ob12 : Obj := oF #[]
def ob13 : Obj := oK #[.str "<module>" 182, .str "<module>" 183, cp 184, .int 1 0, .int 0 0, .int 0 0, .int 0 0, .int 0 0, .ref 11, .bool false, .int 181 0, .ref 12, .none, .none, .none, .none, .int 185 0, .int 1 0, cp 186]
def ob14 : Obj := { cls := .type "frame", slots := #[some (.ref 13), some (.ref 3), some (.ref 3), none, some (.str "__main__" 164), none, some (.ref 0)] }
def ob3 (P : Params) : Obj := { cls := .type "dict", data := Data.dict #[kE P "__name__" 165 (.str "sumcraft.parts" 321), kE P "__doc__" 166 (.none), kE P "__package__" 167 (.none), kE P "__loader__" 168 (.builtin "__main__.__loader__#opaque"), kE P "__spec__" 169 (.none), kE P "__annotations__" 170 (.ref 6), kE P "__builtins__" 171 (.ref 4), kE P "__file__" 173 (cp 172), kE P "__cached__" 174 (.none), kE P "SumError" 206 (.ref 24), kE P "NoNumber" 222 (.ref 37), kE P "NoTerm" 238 (.ref 49), kE P "bare" 246 (.ref 56), kE P "pair_times" 260 (.ref 63), kE P "pair_of_form" 267 (.ref 70), kE P "pair_product" 276 (.ref 77), kE P "LONG" 280 (.int 4000 279), kE P "WINDOW" 282 (.int 300 281), kE P "shortened" 299 (.ref 84), kE P "divisor" 311 (.ref 91), kE P "ratio" 320 (.ref 98), kE P "FEW" 324 (.int 16 323), kE P "form_value" 333 (.ref 105), kE P "raised" 341 (.ref 112), kE P "raised_from" 347 (.ref 117), kE P "low_forms" 355 (.ref 124), kE P "power_of" 365 (.ref 131), kE P "run_product" 376 (.ref 138), kE P "choices" 385 (.ref 145), kE P "Part" 449 (.ref 190)] 30 }
def ob12' : Obj := oF #[.int 2 0, .int 0 0, .ref 20, .int 4 0, .int 0 0, .ref 33, .int 6 0, .int 0 0, .ref 45, .int 9 0, .int 0 0, .ref 55, .int 11 0, .int 0 0, .ref 62, .int 18 0, .int 0 0, .ref 69, .int 20 0, .int 0 0, .ref 76, .int 28 0, .int 0 0, .ref 83, .int 44 0, .int 0 0, .ref 90, .int 56 0, .int 0 0, .ref 97, .int 65 0, .int 0 0, .ref 104, .int 67 0, .int 0 0, .ref 111, .int 69 0, .int 0 0, .ref 116, .int 71 0, .int 0 0, .ref 123, .int 73 0, .int 0 0, .ref 130, .int 78 0, .int 0 0, .ref 137, .int 86 0, .int 0 0, .ref 144, .int 89 0, .int 0 0, .ref 151]
def ob15 : Obj := oT #[.type "ValueError"]
def ob16 : Obj := oB #[.builtin "type.__prepare__", .type "type"]
def ob17 (P : Params) : Obj := { cls := .type "dict", data := Data.dict #[kE P "__module__" 196 (.str "sumcraft.errors" 187), kE P "__qualname__" 198 (.str "SumError" 197), kE P "__firstlineno__" 200 (.int 2 199), kE P "__static_attributes__" 201 (.ref 22)] 4 }
def ob18 : Obj := oT #[]
def ob19 : Obj := oF #[]
def ob20 : Obj := oK #[.str "SumError" 191, .str "SumError" 192, cp 193, .int 2 0, .int 0 0, .int 0 0, .int 0 0, .int 0 0, .ref 18, .bool false, .int 181 0, .ref 19, .none, .none, .none, .none, .int 194 0, .int 2 0, cp 195]
def ob21 : Obj := { cls := .type "frame", slots := #[some (.ref 20), some (.ref 3), some (.ref 17), none, some (.str "sumcraft.errors" 187), none, some (.ref 0)] }
def ob22 : Obj := oT #[]
def ob23 (P : Params) : Obj := { cls := .type "dict", data := Data.dict #[kE P "__module__" 196 (.str "sumcraft.errors" 187), kE P "__firstlineno__" 200 (.int 2 199), kE P "__static_attributes__" 201 (.ref 22), kE P "__weakref__" 203 (.ref 25), kE P "__doc__" 204 (.none)] 3 }
def ob24 : Obj := { cls := .type "type", data := Data.cls { name := "SumError", bases := [.type "ValueError"], mro := [.ref 24, .type "ValueError", .type "Exception", .type "BaseException", .type "object"], ns := 23, qualname := "SumError", subclasses := [.ref 37, .ref 49] }, slots := #[some (.ref 15), none, some (.str "SumError" 189), some (.str "SumError" 197), some (.builtin "ValueError.__new__"), some (.bool true)] }
def ob25 : Obj := { cls := .type "getset_descriptor", data := Data.fields #[.str "__weakref__" 202, .ref 24, .builtin "ExceptionGroup.__weakref__", .none] }
def ob26 : Obj := { cls := .type "super", data := Data.fields #[.ref 24, .ref 24, .ref 24] }
def ob27 : Obj := oB #[.builtin "object.__init_subclass__", .ref 24]
def ob28 : Obj := oT #[.ref 24]
def ob29 : Obj := oB #[.builtin "type.__prepare__", .type "type"]
def ob30 (P : Params) : Obj := { cls := .type "dict", data := Data.dict #[kE P "__module__" 214 (.str "sumcraft.errors" 187), kE P "__qualname__" 216 (.str "NoNumber" 215), kE P "__firstlineno__" 218 (.int 4 217), kE P "__static_attributes__" 219 (.ref 35)] 4 }
def ob31 : Obj := oT #[]
def ob32 : Obj := oF #[]
def ob33 : Obj := oK #[.str "NoNumber" 209, .str "NoNumber" 210, cp 211, .int 4 0, .int 0 0, .int 0 0, .int 0 0, .int 0 0, .ref 31, .bool false, .int 181 0, .ref 32, .none, .none, .none, .none, .int 212 0, .int 4 0, cp 213]
def ob34 : Obj := { cls := .type "frame", slots := #[some (.ref 33), some (.ref 3), some (.ref 30), none, some (.str "sumcraft.errors" 187), none, some (.ref 0)] }
def ob35 : Obj := oT #[]
def ob36 (P : Params) : Obj := { cls := .type "dict", data := Data.dict #[kE P "__module__" 214 (.str "sumcraft.errors" 187), kE P "__firstlineno__" 218 (.int 4 217), kE P "__static_attributes__" 219 (.ref 35), kE P "__doc__" 220 (.none)] 2 }
def ob37 : Obj := { cls := .type "type", data := Data.cls { name := "NoNumber", bases := [.ref 24], mro := [.ref 37, .ref 24, .type "ValueError", .type "Exception", .type "BaseException", .type "object"], ns := 36, qualname := "NoNumber" }, slots := #[some (.ref 28), none, some (.str "NoNumber" 207), some (.str "NoNumber" 215), some (.builtin "ValueError.__new__"), some (.bool true)] }
def ob38 : Obj := { cls := .type "super", data := Data.fields #[.ref 37, .ref 37, .ref 37] }
def ob39 : Obj := oB #[.builtin "object.__init_subclass__", .ref 37]
def ob40 : Obj := oT #[.ref 24]
def ob41 : Obj := oB #[.builtin "type.__prepare__", .type "type"]
def ob42 (P : Params) : Obj := { cls := .type "dict", data := Data.dict #[kE P "__module__" 230 (.str "sumcraft.errors" 187), kE P "__qualname__" 232 (.str "NoTerm" 231), kE P "__firstlineno__" 234 (.int 6 233), kE P "__static_attributes__" 235 (.ref 47)] 4 }
def ob43 : Obj := oT #[]
def ob44 : Obj := oF #[]
def ob45 : Obj := oK #[.str "NoTerm" 225, .str "NoTerm" 226, cp 227, .int 6 0, .int 0 0, .int 0 0, .int 0 0, .int 0 0, .ref 43, .bool false, .int 181 0, .ref 44, .none, .none, .none, .none, .int 228 0, .int 6 0, cp 229]
def ob46 : Obj := { cls := .type "frame", slots := #[some (.ref 45), some (.ref 3), some (.ref 42), none, some (.str "sumcraft.errors" 187), none, some (.ref 0)] }
def ob47 : Obj := oT #[]
def ob48 (P : Params) : Obj := { cls := .type "dict", data := Data.dict #[kE P "__module__" 230 (.str "sumcraft.errors" 187), kE P "__firstlineno__" 234 (.int 6 233), kE P "__static_attributes__" 235 (.ref 47), kE P "__doc__" 236 (.none)] 2 }
def ob49 : Obj := { cls := .type "type", data := Data.cls { name := "NoTerm", bases := [.ref 24], mro := [.ref 49, .ref 24, .type "ValueError", .type "Exception", .type "BaseException", .type "object"], ns := 48, qualname := "NoTerm" }, slots := #[some (.ref 40), none, some (.str "NoTerm" 223), some (.str "NoTerm" 231), some (.builtin "ValueError.__new__"), some (.bool true)] }
def ob50 : Obj := { cls := .type "super", data := Data.fields #[.ref 49, .ref 49, .ref 49] }
def ob51 : Obj := oB #[.builtin "object.__init_subclass__", .ref 49]
def ob52 : Obj := oT #[]
def ob53 : Obj := oF #[]
def ob54 : Obj := kN "bare" "bare" (top 5)
def ob55 : Obj := oK #[.str "bare" 241, .str "bare" 242, cp 243, .int 9 0, .int 1 0, .int 0 0, .int 0 0, .int 3 0, .ref 52, .bool true, .int 181 0, .ref 53, .none, .none, .none, .ref 54, .int 244 0, .int 9 0, cp 245]
def ob56 : Obj := kM "bare" "bare" (top 5) "sumcraft.pairs" 239 55
def ob57 : Obj := oT #[]
def ob58 : Obj := oF #[]
def ob59 : Obj := oT #[.str "one" 250, .str "other" 251, .str "answer" 252, .str "low" 253, .str "number" 254, .str "high" 255, .str "factor" 256, .str "powers" 257]
def ob60 : Obj := oT #[]
def ob61 : Obj := kN "pair_times" "pair_times" (top 6)
def ob62 : Obj := oK #[.str "pair_times" 247, .str "pair_times" 248, cp 249, .int 11 0, .int 2 0, .int 0 0, .int 0 0, .int 3 0, .ref 57, .bool true, .int 181 0, .ref 58, .none, .ref 59, .ref 60, .ref 61, .int 258 0, .int 11 0, cp 259]
def ob63 : Obj := kM "pair_times" "pair_times" (top 6) "sumcraft.pairs" 239 62
def ob64 : Obj := oT #[]
def ob65 : Obj := oF #[]
def ob66 : Obj := oT #[.str "form" 264]
def ob67 : Obj := oT #[]
def ob68 : Obj := kN "pair_of_form" "pair_of_form" (top 7)
def ob69 : Obj := oK #[.str "pair_of_form" 261, .str "pair_of_form" 262, cp 263, .int 18 0, .int 1 0, .int 0 0, .int 0 0, .int 3 0, .ref 64, .bool true, .int 181 0, .ref 65, .none, .ref 66, .ref 67, .ref 68, .int 265 0, .int 18 0, cp 266]
def ob70 : Obj := kM "pair_of_form" "pair_of_form" (top 7) "sumcraft.pairs" 239 69
def ob71 : Obj := oT #[]
def ob72 : Obj := oF #[]
def ob73 : Obj := oT #[.str "pairs" 271, .str "answer" 272, .str "pair" 273]
def ob74 : Obj := oT #[]
def ob75 : Obj := kN "pair_product" "pair_product" (top 8)
def ob76 : Obj := oK #[.str "pair_product" 268, .str "pair_product" 269, cp 270, .int 20 0, .int 1 0, .int 0 0, .int 0 0, .int 3 0, .ref 71, .bool true, .int 181 0, .ref 72, .none, .ref 73, .ref 74, .ref 75, .int 274 0, .int 20 0, cp 275]
def ob77 : Obj := kM "pair_product" "pair_product" (top 8) "sumcraft.pairs" 239 76
def ob78 : Obj := oT #[]
def ob79 : Obj := oF #[]
def ob80 : Obj := oT #[.str "big" 286, .str "small" 287, .str "cut" 288, .str "ahead" 289, .str "behind" 290, .str "half" 291, .str "upper" 292, .str "lower" 293, .str "times" 294, .str "rest" 295, .str "further" 296]
def ob81 : Obj := oT #[]
def ob82 : Obj := kN "shortened" "shortened" (top 12)
def ob83 : Obj := oK #[.str "shortened" 283, .str "shortened" 284, cp 285, .int 28 0, .int 2 0, .int 0 0, .int 0 0, .int 3 0, .ref 78, .bool true, .int 181 0, .ref 79, .none, .ref 80, .ref 81, .ref 82, .int 297 0, .int 28 0, cp 298]
def ob84 : Obj := kM "shortened" "shortened" (top 12) "sumcraft.ratios" 277 83
def ob85 : Obj := oT #[]
def ob86 : Obj := oF #[]
def ob87 : Obj := oT #[.str "one" 303, .str "other" 304, .str "big" 305, .str "small" 306, .str "pair" 307, .str "rest" 308]
def ob88 : Obj := oT #[]
def ob89 : Obj := kN "divisor" "divisor" (top 13)
def ob90 : Obj := oK #[.str "divisor" 300, .str "divisor" 301, cp 302, .int 44 0, .int 2 0, .int 0 0, .int 0 0, .int 3 0, .ref 85, .bool true, .int 181 0, .ref 86, .none, .ref 87, .ref 88, .ref 89, .int 309 0, .int 44 0, cp 310]
def ob91 : Obj := kM "divisor" "divisor" (top 13) "sumcraft.ratios" 277 90
def ob92 : Obj := oT #[]
def ob93 : Obj := oF #[]
def ob94 : Obj := oT #[.str "top" 315, .str "bottom" 316, .str "shared" 317]
def ob95 : Obj := oT #[]
def ob96 : Obj := kN "ratio" "ratio" (top 14)
def ob97 : Obj := oK #[.str "ratio" 312, .str "ratio" 313, cp 314, .int 56 0, .int 2 0, .int 0 0, .int 0 0, .int 3 0, .ref 92, .bool true, .int 181 0, .ref 93, .none, .ref 94, .ref 95, .ref 96, .int 318 0, .int 56 0, cp 319]
def ob98 : Obj := kM "ratio" "ratio" (top 14) "sumcraft.ratios" 277 97
def ob99 : Obj := oT #[]
def ob100 : Obj := oF #[]
def ob101 : Obj := oT #[.str "form" 328, .str "n" 329, .str "k" 330]
def ob102 : Obj := oT #[]
def ob103 : Obj := kN "form_value" "form_value" (top 17)
def ob104 : Obj := oK #[.str "form_value" 325, .str "form_value" 326, cp 327, .int 65 0, .int 3 0, .int 0 0, .int 0 0, .int 3 0, .ref 99, .bool true, .int 181 0, .ref 100, .none, .ref 101, .ref 102, .ref 103, .int 331 0, .int 65 0, cp 332]
def ob105 : Obj := kM "form_value" "form_value" (top 17) "sumcraft.parts" 321 104
def ob106 : Obj := oT #[]
def ob107 : Obj := oF #[]
def ob108 : Obj := oT #[.str "form" 337, .str "by" 338]
def ob109 : Obj := oT #[]
def ob110 : Obj := kN "raised" "raised" (top 18)
def ob111 : Obj := oK #[.str "raised" 334, .str "raised" 335, cp 336, .int 67 0, .int 2 0, .int 0 0, .int 0 0, .int 3 0, .ref 106, .bool true, .int 181 0, .ref 107, .none, .ref 108, .ref 109, .ref 110, .int 339 0, .int 67 0, cp 340]
def ob112 : Obj := kM "raised" "raised" (top 18) "sumcraft.parts" 321 111
def ob113 : Obj := oT #[]
def ob114 : Obj := oF #[]
def ob115 : Obj := kN "raised_from" "raised_from" (top 19)
def ob116 : Obj := oK #[.str "raised_from" 342, .str "raised_from" 343, cp 344, .int 69 0, .int 3 0, .int 0 0, .int 0 0, .int 3 0, .ref 113, .bool true, .int 181 0, .ref 114, .none, .none, .none, .ref 115, .int 345 0, .int 69 0, cp 346]
def ob117 : Obj := kM "raised_from" "raised_from" (top 19) "sumcraft.parts" 321 116
def ob118 : Obj := oT #[]
def ob119 : Obj := oF #[]
def ob120 : Obj := oT #[.str "upper" 351, .str "lower" 352]
def ob121 : Obj := oT #[]
def ob122 : Obj := kN "low_forms" "low_forms" (top 20)
def ob123 : Obj := oK #[.str "low_forms" 348, .str "low_forms" 349, cp 350, .int 71 0, .int 2 0, .int 0 0, .int 0 0, .int 3 0, .ref 118, .bool true, .int 181 0, .ref 119, .none, .ref 120, .ref 121, .ref 122, .int 353 0, .int 71 0, cp 354]
def ob124 : Obj := kM "low_forms" "low_forms" (top 20) "sumcraft.parts" 321 123
def ob125 : Obj := oT #[]
def ob126 : Obj := oF #[]
def ob127 : Obj := oT #[.str "number" 359, .str "exponent" 360, .str "answer" 361, .str "step" 362]
def ob128 : Obj := oT #[]
def ob129 : Obj := kN "power_of" "power_of" (top 21)
def ob130 : Obj := oK #[.str "power_of" 356, .str "power_of" 357, cp 358, .int 73 0, .int 2 0, .int 0 0, .int 0 0, .int 3 0, .ref 125, .bool true, .int 181 0, .ref 126, .none, .ref 127, .ref 128, .ref 129, .int 363 0, .int 73 0, cp 364]
def ob131 : Obj := kM "power_of" "power_of" (top 21) "sumcraft.parts" 321 130
def ob132 : Obj := oT #[]
def ob133 : Obj := oF #[]
def ob134 : Obj := oT #[.str "low" 369, .str "high" 370, .str "answer" 371, .str "number" 372, .str "middle" 373]
def ob135 : Obj := oT #[]
def ob136 : Obj := kN "run_product" "run_product" (top 22)
def ob137 : Obj := oK #[.str "run_product" 366, .str "run_product" 367, cp 368, .int 78 0, .int 2 0, .int 0 0, .int 0 0, .int 3 0, .ref 132, .bool true, .int 181 0, .ref 133, .none, .ref 134, .ref 135, .ref 136, .int 374 0, .int 78 0, cp 375]
def ob138 : Obj := kM "run_product" "run_product" (top 22) "sumcraft.parts" 321 137
def ob139 : Obj := oT #[]
def ob140 : Obj := oF #[]
def ob141 : Obj := oT #[.str "one" 380, .str "other" 381, .str "few" 382]
def ob142 : Obj := oT #[]
def ob143 : Obj := kN "choices" "choices" (top 23)
def ob144 : Obj := oK #[.str "choices" 377, .str "choices" 378, cp 379, .int 86 0, .int 2 0, .int 0 0, .int 0 0, .int 3 0, .ref 139, .bool true, .int 181 0, .ref 140, .none, .ref 141, .ref 142, .ref 143, .int 383 0, .int 86 0, cp 384]
def ob145 : Obj := kM "choices" "choices" (top 23) "sumcraft.parts" 321 144
def ob146 : Obj := oT #[]
def ob147 : Obj := oB #[.builtin "type.__prepare__", .type "type"]
def ob148 (P : Params) : Obj := { cls := .type "dict", data := Data.dict #[kE P "__module__" 393 (.str "sumcraft.parts" 321), kE P "__qualname__" 395 (.str "Part" 394), kE P "__firstlineno__" 397 (.int 89 396), kE P "worth" 406 (.ref 159), kE P "step" 415 (.ref 166), kE P "up" 423 (.ref 173), kE P "down" 431 (.ref 180), kE P "floor" 441 (.ref 187), kE P "__static_attributes__" 442 (.ref 188)] 9 }
def ob149 : Obj := oT #[]
def ob150 : Obj := oF #[.int 91 0, .int 4 0, .ref 158, .int 94 0, .int 4 0, .ref 165, .int 97 0, .int 4 0, .ref 172, .int 100 0, .int 4 0, .ref 179, .int 103 0, .int 4 0, .ref 186]
def ob151 : Obj := oK #[.str "Part" 388, .str "Part" 389, cp 390, .int 89 0, .int 0 0, .int 0 0, .int 0 0, .int 0 0, .ref 149, .bool false, .int 181 0, .ref 150, .none, .none, .none, .none, .int 391 0, .int 89 0, cp 392]
def ob152 : Obj := { cls := .type "frame", slots := #[some (.ref 151), some (.ref 3), some (.ref 148), none, some (.str "sumcraft.parts" 321), none, some (.ref 0)] }
def ob153 : Obj := oT #[]
def ob154 : Obj := oF #[]
def ob155 : Obj := oT #[.str "self" 401, .str "n" 402, .str "k" 403]
def ob156 : Obj := oT #[]
def ob157 : Obj := kN "worth" "Part.worth" (inCls (top 24) 0)
def ob158 : Obj := oK #[.str "worth" 398, .str "Part.worth" 399, cp 400, .int 91 0, .int 3 0, .int 0 0, .int 0 0, .int 3 0, .ref 153, .bool true, .int 181 0, .ref 154, .none, .ref 155, .ref 156, .ref 157, .int 404 0, .int 91 0, cp 405]
def ob159 : Obj := kM "worth" "Part.worth" (inCls (top 24) 0) "sumcraft.parts" 321 158
def ob160 : Obj := oT #[]
def ob161 : Obj := oF #[]
def ob162 : Obj := oT #[.str "self" 410, .str "i" 411, .str "far" 412]
def ob163 : Obj := oT #[]
def ob164 : Obj := kN "step" "Part.step" (inCls (top 24) 1)
def ob165 : Obj := oK #[.str "step" 407, .str "Part.step" 408, cp 409, .int 94 0, .int 3 0, .int 0 0, .int 0 0, .int 3 0, .ref 160, .bool true, .int 181 0, .ref 161, .none, .ref 162, .ref 163, .ref 164, .int 413 0, .int 94 0, cp 414]
def ob166 : Obj := kM "step" "Part.step" (inCls (top 24) 1) "sumcraft.parts" 321 165
def ob167 : Obj := oT #[]
def ob168 : Obj := oF #[]
def ob169 : Obj := oT #[.str "self" 419, .str "far" 420]
def ob170 : Obj := oT #[]
def ob171 : Obj := kN "up" "Part.up" (inCls (top 24) 2)
def ob172 : Obj := oK #[.str "up" 416, .str "Part.up" 417, cp 418, .int 97 0, .int 2 0, .int 0 0, .int 0 0, .int 3 0, .ref 167, .bool true, .int 181 0, .ref 168, .none, .ref 169, .ref 170, .ref 171, .int 421 0, .int 97 0, cp 422]
def ob173 : Obj := kM "up" "Part.up" (inCls (top 24) 2) "sumcraft.parts" 321 172
def ob174 : Obj := oT #[]
def ob175 : Obj := oF #[]
def ob176 : Obj := oT #[.str "self" 427, .str "far" 428]
def ob177 : Obj := oT #[]
def ob178 : Obj := kN "down" "Part.down" (inCls (top 24) 3)
def ob179 : Obj := oK #[.str "down" 424, .str "Part.down" 425, cp 426, .int 100 0, .int 2 0, .int 0 0, .int 0 0, .int 3 0, .ref 174, .bool true, .int 181 0, .ref 175, .none, .ref 176, .ref 177, .ref 178, .int 429 0, .int 100 0, cp 430]
def ob180 : Obj := kM "down" "Part.down" (inCls (top 24) 3) "sumcraft.parts" 321 179
def ob181 : Obj := oT #[]
def ob182 : Obj := oF #[]
def ob183 : Obj := oT #[.str "self" 435, .str "n" 436, .str "k" 437, .str "far" 438]
def ob184 : Obj := oT #[]
def ob185 : Obj := kN "floor" "Part.floor" (inCls (top 24) 4)
def ob186 : Obj := oK #[.str "floor" 432, .str "Part.floor" 433, cp 434, .int 103 0, .int 4 0, .int 0 0, .int 0 0, .int 3 0, .ref 181, .bool true, .int 181 0, .ref 182, .none, .ref 183, .ref 184, .ref 185, .int 439 0, .int 103 0, cp 440]
def ob187 : Obj := kM "floor" "Part.floor" (inCls (top 24) 4) "sumcraft.parts" 321 186
def ob188 : Obj := oT #[]
def ob189 (P : Params) : Obj := { cls := .type "dict", data := Data.dict #[kE P "__module__" 393 (.str "sumcraft.parts" 321), kE P "__firstlineno__" 397 (.int 89 396), kE P "worth" 406 (.ref 159), kE P "step" 415 (.ref 166), kE P "up" 423 (.ref 173), kE P "down" 431 (.ref 180), kE P "floor" 441 (.ref 187), kE P "__static_attributes__" 442 (.ref 188), kE P "__dict__" 444 (.ref 191), kE P "__weakref__" 446 (.ref 192), kE P "__doc__" 447 (.none)] 4 }
def ob190 : Obj := { cls := .type "type", data := Data.cls { name := "Part", bases := [.type "object"], mro := [.ref 190, .type "object"], ns := 189, qualname := "Part" }, slots := #[none, none, some (.str "Part" 386), some (.str "Part" 394), some (.builtin "object.__new__"), some (.bool true)] }
def ob191 : Obj := { cls := .type "getset_descriptor", data := Data.fields #[.str "__dict__" 443, .ref 190, .builtin "function.__dict__", .builtin "function.__dict__#set"] }
def ob192 : Obj := { cls := .type "getset_descriptor", data := Data.fields #[.str "__weakref__" 445, .ref 190, .builtin "ExceptionGroup.__weakref__", .none] }
def ob193 : Obj := { cls := .type "super", data := Data.fields #[.ref 190, .ref 190, .ref 190] }
def ob194 : Obj := oB #[.builtin "object.__init_subclass__", .ref 190]
def ob3' (P : Params) : Obj := { cls := .type "dict", data := Data.dict #[kE P "__name__" 165 (.str "sumcraft.parts" 321), kE P "__doc__" 166 (.none), kE P "__package__" 167 (.none), kE P "__loader__" 168 (.builtin "__main__.__loader__#opaque"), kE P "__spec__" 169 (.none), kE P "__annotations__" 170 (.ref 6), kE P "__builtins__" 171 (.ref 4), kE P "__file__" 173 (cp 172), kE P "__cached__" 174 (.none), kE P "SumError" 206 (.ref 24), kE P "NoNumber" 222 (.ref 37), kE P "NoTerm" 238 (.ref 49), kE P "bare" 246 (.ref 56), kE P "pair_times" 260 (.ref 63), kE P "pair_of_form" 267 (.ref 70), kE P "pair_product" 276 (.ref 77), kE P "LONG" 280 (.int 4000 279), kE P "WINDOW" 282 (.int 300 281), kE P "shortened" 299 (.ref 84), kE P "divisor" 311 (.ref 91), kE P "ratio" 320 (.ref 98), kE P "FEW" 324 (.int 16 323), kE P "form_value" 333 (.ref 105), kE P "raised" 341 (.ref 112), kE P "raised_from" 347 (.ref 117), kE P "low_forms" 355 (.ref 124), kE P "power_of" 365 (.ref 131), kE P "run_product" 376 (.ref 138), kE P "choices" 385 (.ref 145), kE P "Part" 449 (.ref 190), kE P "Choose" 528 (.ref 249), kE P "Weight" 571 (.ref 282), kE P "Power" 631 (.ref 329), kE P "Growth" 684 (.ref 369)] 34 }
def ob12'' : Obj := oF #[.int 2 0, .int 0 0, .ref 20, .int 4 0, .int 0 0, .ref 33, .int 6 0, .int 0 0, .ref 45, .int 9 0, .int 0 0, .ref 55, .int 11 0, .int 0 0, .ref 62, .int 18 0, .int 0 0, .ref 69, .int 20 0, .int 0 0, .ref 76, .int 28 0, .int 0 0, .ref 83, .int 44 0, .int 0 0, .ref 90, .int 56 0, .int 0 0, .ref 97, .int 65 0, .int 0 0, .ref 104, .int 67 0, .int 0 0, .ref 111, .int 69 0, .int 0 0, .ref 116, .int 71 0, .int 0 0, .ref 123, .int 73 0, .int 0 0, .ref 130, .int 78 0, .int 0 0, .ref 137, .int 86 0, .int 0 0, .ref 144, .int 89 0, .int 0 0, .ref 151, .int 105 0, .int 0 0, .ref 200, .int 141 0, .int 0 0, .ref 257, .int 151 0, .int 0 0, .ref 290, .int 167 0, .int 0 0, .ref 337]
def ob190' : Obj := { cls := .type "type", data := Data.cls { name := "Part", bases := [.type "object"], mro := [.ref 190, .type "object"], ns := 189, qualname := "Part", subclasses := [.ref 249, .ref 282, .ref 329, .ref 369] }, slots := #[none, none, some (.str "Part" 386), some (.str "Part" 394), some (.builtin "object.__new__"), some (.bool true)] }
def ob195 : Obj := oT #[.ref 190]
def ob196 : Obj := oB #[.builtin "type.__prepare__", .type "type"]
def ob197 (P : Params) : Obj := { cls := .type "dict", data := Data.dict #[kE P "__module__" 457 (.str "sumcraft.parts" 321), kE P "__qualname__" 459 (.str "Choose" 458), kE P "__firstlineno__" 461 (.int 105 460), kE P "__init__" 470 (.ref 208), kE P "lifted" 476 (.ref 213), kE P "worth" 485 (.ref 220), kE P "step" 496 (.ref 227), kE P "up" 506 (.ref 234), kE P "down" 516 (.ref 241), kE P "floor" 522 (.ref 246), kE P "__static_attributes__" 525 (.ref 247)] 11 }
def ob198 : Obj := oT #[]
def ob199 : Obj := oF #[.int 107 0, .int 4 0, .ref 207, .int 111 0, .int 4 0, .ref 212, .int 114 0, .int 4 0, .ref 219, .int 117 0, .int 4 0, .ref 226, .int 123 0, .int 4 0, .ref 233, .int 129 0, .int 4 0, .ref 240, .int 135 0, .int 4 0, .ref 245]
def ob200 : Obj := oK #[.str "Choose" 452, .str "Choose" 453, cp 454, .int 105 0, .int 0 0, .int 0 0, .int 0 0, .int 0 0, .ref 198, .bool false, .int 181 0, .ref 199, .none, .none, .none, .none, .int 455 0, .int 105 0, cp 456]
def ob201 : Obj := { cls := .type "frame", slots := #[some (.ref 200), some (.ref 3), some (.ref 197), none, some (.str "sumcraft.parts" 321), none, some (.ref 0)] }
def ob202 : Obj := oT #[]
def ob203 : Obj := oF #[]
def ob204 : Obj := oT #[.str "self" 465, .str "upper" 466, .str "lower" 467]
def ob205 : Obj := oT #[]
def ob206 : Obj := kN "__init__" "Choose.__init__" (inCls (top 25) 0)
def ob207 : Obj := oK #[.str "__init__" 462, .str "Choose.__init__" 463, cp 464, .int 107 0, .int 3 0, .int 0 0, .int 0 0, .int 3 0, .ref 202, .bool true, .int 181 0, .ref 203, .none, .ref 204, .ref 205, .ref 206, .int 468 0, .int 107 0, cp 469]
def ob208 : Obj := kM "__init__" "Choose.__init__" (inCls (top 25) 0) "sumcraft.parts" 321 207
def ob209 : Obj := oT #[]
def ob210 : Obj := oF #[]
def ob211 : Obj := kN "lifted" "Choose.lifted" (inCls (top 25) 1)
def ob212 : Obj := oK #[.str "lifted" 471, .str "Choose.lifted" 472, cp 473, .int 111 0, .int 2 0, .int 0 0, .int 0 0, .int 3 0, .ref 209, .bool true, .int 181 0, .ref 210, .none, .none, .none, .ref 211, .int 474 0, .int 111 0, cp 475]
def ob213 : Obj := kM "lifted" "Choose.lifted" (inCls (top 25) 1) "sumcraft.parts" 321 212
def ob214 : Obj := oT #[]
def ob215 : Obj := oF #[]
def ob216 : Obj := oT #[.str "self" 480, .str "n" 481, .str "k" 482]
def ob217 : Obj := oT #[]
def ob218 : Obj := kN "worth" "Choose.worth" (inCls (top 25) 2)
def ob219 : Obj := oK #[.str "worth" 477, .str "Choose.worth" 478, cp 479, .int 114 0, .int 3 0, .int 0 0, .int 0 0, .int 3 0, .ref 214, .bool true, .int 181 0, .ref 215, .none, .ref 216, .ref 217, .ref 218, .int 483 0, .int 114 0, cp 484]
def ob220 : Obj := kM "worth" "Choose.worth" (inCls (top 25) 2) "sumcraft.parts" 321 219
def ob221 : Obj := oT #[]
def ob222 : Obj := oF #[]
def ob223 : Obj := oT #[.str "self" 489, .str "i" 490, .str "far" 491, .str "factors" 492, .str "low" 493]
def ob224 : Obj := oT #[]
def ob225 : Obj := kN "step" "Choose.step" (inCls (top 25) 3)
def ob226 : Obj := oK #[.str "step" 486, .str "Choose.step" 487, cp 488, .int 117 0, .int 3 0, .int 0 0, .int 0 0, .int 3 0, .ref 221, .bool true, .int 181 0, .ref 222, .none, .ref 223, .ref 224, .ref 225, .int 494 0, .int 117 0, cp 495]
def ob227 : Obj := kM "step" "Choose.step" (inCls (top 25) 3) "sumcraft.parts" 321 226
def ob228 : Obj := oT #[]
def ob229 : Obj := oF #[]
def ob230 : Obj := oT #[.str "self" 500, .str "far" 501, .str "factors" 502, .str "low" 503]
def ob231 : Obj := oT #[]
def ob232 : Obj := kN "up" "Choose.up" (inCls (top 25) 4)
def ob233 : Obj := oK #[.str "up" 497, .str "Choose.up" 498, cp 499, .int 123 0, .int 2 0, .int 0 0, .int 0 0, .int 3 0, .ref 228, .bool true, .int 181 0, .ref 229, .none, .ref 230, .ref 231, .ref 232, .int 504 0, .int 123 0, cp 505]
def ob234 : Obj := kM "up" "Choose.up" (inCls (top 25) 4) "sumcraft.parts" 321 233
def ob235 : Obj := oT #[]
def ob236 : Obj := oF #[]
def ob237 : Obj := oT #[.str "self" 510, .str "far" 511, .str "factors" 512, .str "low" 513]
def ob238 : Obj := oT #[]
def ob239 : Obj := kN "down" "Choose.down" (inCls (top 25) 5)
def ob240 : Obj := oK #[.str "down" 507, .str "Choose.down" 508, cp 509, .int 129 0, .int 2 0, .int 0 0, .int 0 0, .int 3 0, .ref 235, .bool true, .int 181 0, .ref 236, .none, .ref 237, .ref 238, .ref 239, .int 514 0, .int 129 0, cp 515]
def ob241 : Obj := kM "down" "Choose.down" (inCls (top 25) 5) "sumcraft.parts" 321 240
def ob242 : Obj := oT #[]
def ob243 : Obj := oF #[]
def ob244 : Obj := kN "floor" "Choose.floor" (inCls (top 25) 6)
def ob245 : Obj := oK #[.str "floor" 517, .str "Choose.floor" 518, cp 519, .int 135 0, .int 4 0, .int 0 0, .int 0 0, .int 3 0, .ref 242, .bool true, .int 181 0, .ref 243, .none, .none, .none, .ref 244, .int 520 0, .int 135 0, cp 521]
def ob246 : Obj := kM "floor" "Choose.floor" (inCls (top 25) 6) "sumcraft.parts" 321 245
def ob247 : Obj := oT #[.str "above" 523, .str "lows" 524]
def ob248 (P : Params) : Obj := { cls := .type "dict", data := Data.dict #[kE P "__module__" 457 (.str "sumcraft.parts" 321), kE P "__firstlineno__" 461 (.int 105 460), kE P "__init__" 470 (.ref 208), kE P "lifted" 476 (.ref 213), kE P "worth" 485 (.ref 220), kE P "step" 496 (.ref 227), kE P "up" 506 (.ref 234), kE P "down" 516 (.ref 241), kE P "floor" 522 (.ref 246), kE P "__static_attributes__" 525 (.ref 247), kE P "__doc__" 526 (.none)] 2 }
def ob249 : Obj := { cls := .type "type", data := Data.cls { name := "Choose", bases := [.ref 190], mro := [.ref 249, .ref 190, .type "object"], ns := 248, qualname := "Choose" }, slots := #[some (.ref 195), none, some (.str "Choose" 450), some (.str "Choose" 458), some (.builtin "object.__new__"), some (.bool true)] }
def ob250 : Obj := { cls := .type "super", data := Data.fields #[.ref 249, .ref 249, .ref 249] }
def ob251 : Obj := oB #[.builtin "object.__init_subclass__", .ref 249]
def ob252 : Obj := oT #[.ref 190]
def ob253 : Obj := oB #[.builtin "type.__prepare__", .type "type"]
def ob254 (P : Params) : Obj := { cls := .type "dict", data := Data.dict #[kE P "__module__" 536 (.str "sumcraft.parts" 321), kE P "__qualname__" 538 (.str "Weight" 537), kE P "__firstlineno__" 540 (.int 141 539), kE P "__init__" 548 (.ref 265), kE P "worth" 557 (.ref 272), kE P "step" 566 (.ref 279), kE P "__static_attributes__" 568 (.ref 280)] 7 }
def ob255 : Obj := oT #[]
def ob256 : Obj := oF #[.int 143 0, .int 4 0, .ref 264, .int 146 0, .int 4 0, .ref 271, .int 149 0, .int 4 0, .ref 278]
def ob257 : Obj := oK #[.str "Weight" 531, .str "Weight" 532, cp 533, .int 141 0, .int 0 0, .int 0 0, .int 0 0, .int 0 0, .ref 255, .bool false, .int 181 0, .ref 256, .none, .none, .none, .none, .int 534 0, .int 141 0, cp 535]
def ob258 : Obj := { cls := .type "frame", slots := #[some (.ref 257), some (.ref 3), some (.ref 254), none, some (.str "sumcraft.parts" 321), none, some (.ref 0)] }
def ob259 : Obj := oT #[]
def ob260 : Obj := oF #[]
def ob261 : Obj := oT #[.str "self" 544, .str "form" 545]
def ob262 : Obj := oT #[]
def ob263 : Obj := kN "__init__" "Weight.__init__" (inCls (top 26) 0)
def ob264 : Obj := oK #[.str "__init__" 541, .str "Weight.__init__" 542, cp 543, .int 143 0, .int 2 0, .int 0 0, .int 0 0, .int 3 0, .ref 259, .bool true, .int 181 0, .ref 260, .none, .ref 261, .ref 262, .ref 263, .int 546 0, .int 143 0, cp 547]
def ob265 : Obj := kM "__init__" "Weight.__init__" (inCls (top 26) 0) "sumcraft.parts" 321 264
def ob266 : Obj := oT #[]
def ob267 : Obj := oF #[]
def ob268 : Obj := oT #[.str "self" 552, .str "n" 553, .str "k" 554]
def ob269 : Obj := oT #[]
def ob270 : Obj := kN "worth" "Weight.worth" (inCls (top 26) 1)
def ob271 : Obj := oK #[.str "worth" 549, .str "Weight.worth" 550, cp 551, .int 146 0, .int 3 0, .int 0 0, .int 0 0, .int 3 0, .ref 266, .bool true, .int 181 0, .ref 267, .none, .ref 268, .ref 269, .ref 270, .int 555 0, .int 146 0, cp 556]
def ob272 : Obj := kM "worth" "Weight.worth" (inCls (top 26) 1) "sumcraft.parts" 321 271
def ob273 : Obj := oT #[]
def ob274 : Obj := oF #[]
def ob275 : Obj := oT #[.str "self" 561, .str "i" 562, .str "far" 563]
def ob276 : Obj := oT #[]
def ob277 : Obj := kN "step" "Weight.step" (inCls (top 26) 2)
def ob278 : Obj := oK #[.str "step" 558, .str "Weight.step" 559, cp 560, .int 149 0, .int 3 0, .int 0 0, .int 0 0, .int 3 0, .ref 273, .bool true, .int 181 0, .ref 274, .none, .ref 275, .ref 276, .ref 277, .int 564 0, .int 149 0, cp 565]
def ob279 : Obj := kM "step" "Weight.step" (inCls (top 26) 2) "sumcraft.parts" 321 278
def ob280 : Obj := oT #[.str "form" 567]
def ob281 (P : Params) : Obj := { cls := .type "dict", data := Data.dict #[kE P "__module__" 536 (.str "sumcraft.parts" 321), kE P "__firstlineno__" 540 (.int 141 539), kE P "__init__" 548 (.ref 265), kE P "worth" 557 (.ref 272), kE P "step" 566 (.ref 279), kE P "__static_attributes__" 568 (.ref 280), kE P "__doc__" 569 (.none)] 2 }
def ob282 : Obj := { cls := .type "type", data := Data.cls { name := "Weight", bases := [.ref 190], mro := [.ref 282, .ref 190, .type "object"], ns := 281, qualname := "Weight" }, slots := #[some (.ref 252), none, some (.str "Weight" 529), some (.str "Weight" 537), some (.builtin "object.__new__"), some (.bool true)] }
def ob283 : Obj := { cls := .type "super", data := Data.fields #[.ref 282, .ref 282, .ref 282] }
def ob284 : Obj := oB #[.builtin "object.__init_subclass__", .ref 282]
def ob285 : Obj := oT #[.ref 190]
def ob286 : Obj := oB #[.builtin "type.__prepare__", .type "type"]
def ob287 (P : Params) : Obj := { cls := .type "dict", data := Data.dict #[kE P "__module__" 579 (.str "sumcraft.parts" 321), kE P "__qualname__" 581 (.str "Power" 580), kE P "__firstlineno__" 583 (.int 151 582), kE P "__init__" 591 (.ref 298), kE P "worth" 600 (.ref 305), kE P "up" 608 (.ref 312), kE P "down" 616 (.ref 319), kE P "floor" 626 (.ref 326), kE P "__static_attributes__" 628 (.ref 327)] 9 }
def ob288 : Obj := oT #[]
def ob289 : Obj := oF #[.int 153 0, .int 4 0, .ref 297, .int 156 0, .int 4 0, .ref 304, .int 159 0, .int 4 0, .ref 311, .int 162 0, .int 4 0, .ref 318, .int 165 0, .int 4 0, .ref 325]
def ob290 : Obj := oK #[.str "Power" 574, .str "Power" 575, cp 576, .int 151 0, .int 0 0, .int 0 0, .int 0 0, .int 0 0, .ref 288, .bool false, .int 181 0, .ref 289, .none, .none, .none, .none, .int 577 0, .int 151 0, cp 578]
def ob291 : Obj := { cls := .type "frame", slots := #[some (.ref 290), some (.ref 3), some (.ref 287), none, some (.str "sumcraft.parts" 321), none, some (.ref 0)] }
def ob292 : Obj := oT #[]
def ob293 : Obj := oF #[]
def ob294 : Obj := oT #[.str "self" 587, .str "fraction" 588]
def ob295 : Obj := oT #[]
def ob296 : Obj := kN "__init__" "Power.__init__" (inCls (top 27) 0)
def ob297 : Obj := oK #[.str "__init__" 584, .str "Power.__init__" 585, cp 586, .int 153 0, .int 2 0, .int 0 0, .int 0 0, .int 3 0, .ref 292, .bool true, .int 181 0, .ref 293, .none, .ref 294, .ref 295, .ref 296, .int 589 0, .int 153 0, cp 590]
def ob298 : Obj := kM "__init__" "Power.__init__" (inCls (top 27) 0) "sumcraft.parts" 321 297
def ob299 : Obj := oT #[]
def ob300 : Obj := oF #[]
def ob301 : Obj := oT #[.str "self" 595, .str "n" 596, .str "k" 597]
def ob302 : Obj := oT #[]
def ob303 : Obj := kN "worth" "Power.worth" (inCls (top 27) 1)
def ob304 : Obj := oK #[.str "worth" 592, .str "Power.worth" 593, cp 594, .int 156 0, .int 3 0, .int 0 0, .int 0 0, .int 3 0, .ref 299, .bool true, .int 181 0, .ref 300, .none, .ref 301, .ref 302, .ref 303, .int 598 0, .int 156 0, cp 599]
def ob305 : Obj := kM "worth" "Power.worth" (inCls (top 27) 1) "sumcraft.parts" 321 304
def ob306 : Obj := oT #[]
def ob307 : Obj := oF #[]
def ob308 : Obj := oT #[.str "self" 604, .str "far" 605]
def ob309 : Obj := oT #[]
def ob310 : Obj := kN "up" "Power.up" (inCls (top 27) 2)
def ob311 : Obj := oK #[.str "up" 601, .str "Power.up" 602, cp 603, .int 159 0, .int 2 0, .int 0 0, .int 0 0, .int 3 0, .ref 306, .bool true, .int 181 0, .ref 307, .none, .ref 308, .ref 309, .ref 310, .int 606 0, .int 159 0, cp 607]
def ob312 : Obj := kM "up" "Power.up" (inCls (top 27) 2) "sumcraft.parts" 321 311
def ob313 : Obj := oT #[]
def ob314 : Obj := oF #[]
def ob315 : Obj := oT #[.str "self" 612, .str "far" 613]
def ob316 : Obj := oT #[]
def ob317 : Obj := kN "down" "Power.down" (inCls (top 27) 3)
def ob318 : Obj := oK #[.str "down" 609, .str "Power.down" 610, cp 611, .int 162 0, .int 2 0, .int 0 0, .int 0 0, .int 3 0, .ref 313, .bool true, .int 181 0, .ref 314, .none, .ref 315, .ref 316, .ref 317, .int 614 0, .int 162 0, cp 615]
def ob319 : Obj := kM "down" "Power.down" (inCls (top 27) 3) "sumcraft.parts" 321 318
def ob320 : Obj := oT #[]
def ob321 : Obj := oF #[]
def ob322 : Obj := oT #[.str "self" 620, .str "n" 621, .str "k" 622, .str "far" 623]
def ob323 : Obj := oT #[]
def ob324 : Obj := kN "floor" "Power.floor" (inCls (top 27) 4)
def ob325 : Obj := oK #[.str "floor" 617, .str "Power.floor" 618, cp 619, .int 165 0, .int 4 0, .int 0 0, .int 0 0, .int 3 0, .ref 320, .bool true, .int 181 0, .ref 321, .none, .ref 322, .ref 323, .ref 324, .int 624 0, .int 165 0, cp 625]
def ob326 : Obj := kM "floor" "Power.floor" (inCls (top 27) 4) "sumcraft.parts" 321 325
def ob327 : Obj := oT #[.str "fraction" 627]
def ob328 (P : Params) : Obj := { cls := .type "dict", data := Data.dict #[kE P "__module__" 579 (.str "sumcraft.parts" 321), kE P "__firstlineno__" 583 (.int 151 582), kE P "__init__" 591 (.ref 298), kE P "worth" 600 (.ref 305), kE P "up" 608 (.ref 312), kE P "down" 616 (.ref 319), kE P "floor" 626 (.ref 326), kE P "__static_attributes__" 628 (.ref 327), kE P "__doc__" 629 (.none)] 2 }
def ob329 : Obj := { cls := .type "type", data := Data.cls { name := "Power", bases := [.ref 190], mro := [.ref 329, .ref 190, .type "object"], ns := 328, qualname := "Power" }, slots := #[some (.ref 285), none, some (.str "Power" 572), some (.str "Power" 580), some (.builtin "object.__new__"), some (.bool true)] }
def ob330 : Obj := { cls := .type "super", data := Data.fields #[.ref 329, .ref 329, .ref 329] }
def ob331 : Obj := oB #[.builtin "object.__init_subclass__", .ref 329]
def ob332 : Obj := oT #[.ref 190]
def ob333 : Obj := oB #[.builtin "type.__prepare__", .type "type"]
def ob334 (P : Params) : Obj := { cls := .type "dict", data := Data.dict #[kE P "__module__" 639 (.str "sumcraft.parts" 321), kE P "__qualname__" 641 (.str "Growth" 640), kE P "__firstlineno__" 643 (.int 167 642), kE P "__init__" 651 (.ref 345), kE P "worth" 660 (.ref 352), kE P "step" 669 (.ref 359), kE P "floor" 679 (.ref 366), kE P "__static_attributes__" 681 (.ref 367)] 8 }
def ob335 : Obj := oT #[]
def ob336 : Obj := oF #[.int 169 0, .int 4 0, .ref 344, .int 172 0, .int 4 0, .ref 351, .int 175 0, .int 4 0, .ref 358, .int 178 0, .int 4 0, .ref 365]
def ob337 : Obj := oK #[.str "Growth" 634, .str "Growth" 635, cp 636, .int 167 0, .int 0 0, .int 0 0, .int 0 0, .int 0 0, .ref 335, .bool false, .int 181 0, .ref 336, .none, .none, .none, .none, .int 637 0, .int 167 0, cp 638]
def ob338 : Obj := { cls := .type "frame", slots := #[some (.ref 337), some (.ref 3), some (.ref 334), none, some (.str "sumcraft.parts" 321), none, some (.ref 0)] }
def ob339 : Obj := oT #[]
def ob340 : Obj := oF #[]
def ob341 : Obj := oT #[.str "self" 647, .str "fraction" 648]
def ob342 : Obj := oT #[]
def ob343 : Obj := kN "__init__" "Growth.__init__" (inCls (top 28) 0)
def ob344 : Obj := oK #[.str "__init__" 644, .str "Growth.__init__" 645, cp 646, .int 169 0, .int 2 0, .int 0 0, .int 0 0, .int 3 0, .ref 339, .bool true, .int 181 0, .ref 340, .none, .ref 341, .ref 342, .ref 343, .int 649 0, .int 169 0, cp 650]
def ob345 : Obj := kM "__init__" "Growth.__init__" (inCls (top 28) 0) "sumcraft.parts" 321 344
def ob346 : Obj := oT #[]
def ob347 : Obj := oF #[]
def ob348 : Obj := oT #[.str "self" 655, .str "n" 656, .str "k" 657]
def ob349 : Obj := oT #[]
def ob350 : Obj := kN "worth" "Growth.worth" (inCls (top 28) 1)
def ob351 : Obj := oK #[.str "worth" 652, .str "Growth.worth" 653, cp 654, .int 172 0, .int 3 0, .int 0 0, .int 0 0, .int 3 0, .ref 346, .bool true, .int 181 0, .ref 347, .none, .ref 348, .ref 349, .ref 350, .int 658 0, .int 172 0, cp 659]
def ob352 : Obj := kM "worth" "Growth.worth" (inCls (top 28) 1) "sumcraft.parts" 321 351
def ob353 : Obj := oT #[]
def ob354 : Obj := oF #[]
def ob355 : Obj := oT #[.str "self" 664, .str "i" 665, .str "far" 666]
def ob356 : Obj := oT #[]
def ob357 : Obj := kN "step" "Growth.step" (inCls (top 28) 2)
def ob358 : Obj := oK #[.str "step" 661, .str "Growth.step" 662, cp 663, .int 175 0, .int 3 0, .int 0 0, .int 0 0, .int 3 0, .ref 353, .bool true, .int 181 0, .ref 354, .none, .ref 355, .ref 356, .ref 357, .int 667 0, .int 175 0, cp 668]
def ob359 : Obj := kM "step" "Growth.step" (inCls (top 28) 2) "sumcraft.parts" 321 358
def ob360 : Obj := oT #[]
def ob361 : Obj := oF #[]
def ob362 : Obj := oT #[.str "self" 673, .str "n" 674, .str "k" 675, .str "far" 676]
def ob363 : Obj := oT #[]
def ob364 : Obj := kN "floor" "Growth.floor" (inCls (top 28) 3)
def ob365 : Obj := oK #[.str "floor" 670, .str "Growth.floor" 671, cp 672, .int 178 0, .int 4 0, .int 0 0, .int 0 0, .int 3 0, .ref 360, .bool true, .int 181 0, .ref 361, .none, .ref 362, .ref 363, .ref 364, .int 677 0, .int 178 0, cp 678]
def ob366 : Obj := kM "floor" "Growth.floor" (inCls (top 28) 3) "sumcraft.parts" 321 365
def ob367 : Obj := oT #[.str "fraction" 680]
def ob368 (P : Params) : Obj := { cls := .type "dict", data := Data.dict #[kE P "__module__" 639 (.str "sumcraft.parts" 321), kE P "__firstlineno__" 643 (.int 167 642), kE P "__init__" 651 (.ref 345), kE P "worth" 660 (.ref 352), kE P "step" 669 (.ref 359), kE P "floor" 679 (.ref 366), kE P "__static_attributes__" 681 (.ref 367), kE P "__doc__" 682 (.none)] 2 }
def ob369 : Obj := { cls := .type "type", data := Data.cls { name := "Growth", bases := [.ref 190], mro := [.ref 369, .ref 190, .type "object"], ns := 368, qualname := "Growth" }, slots := #[some (.ref 332), none, some (.str "Growth" 632), some (.str "Growth" 640), some (.builtin "object.__new__"), some (.bool true)] }
def ob370 : Obj := { cls := .type "super", data := Data.fields #[.ref 369, .ref 369, .ref 369] }
def ob371 : Obj := oB #[.builtin "object.__init_subclass__", .ref 369]
def ob3'' (P : Params) : Obj := { cls := .type "dict", data := Data.dict #[kE P "__name__" 165 (.str "law_sumcraft_k53_what_terms_are_worth" 798), kE P "__doc__" 166 (.none), kE P "__package__" 167 (.none), kE P "__loader__" 168 (.builtin "__main__.__loader__#opaque"), kE P "__spec__" 169 (.none), kE P "__annotations__" 170 (.ref 6), kE P "__builtins__" 171 (.ref 4), kE P "__file__" 173 (cp 172), kE P "__cached__" 174 (.none), kE P "SumError" 206 (.ref 24), kE P "NoNumber" 222 (.ref 37), kE P "NoTerm" 238 (.ref 49), kE P "bare" 246 (.ref 56), kE P "pair_times" 260 (.ref 63), kE P "pair_of_form" 267 (.ref 70), kE P "pair_product" 276 (.ref 77), kE P "LONG" 280 (.int 4000 279), kE P "WINDOW" 282 (.int 300 281), kE P "shortened" 299 (.ref 84), kE P "divisor" 311 (.ref 91), kE P "ratio" 320 (.ref 98), kE P "FEW" 324 (.int 16 323), kE P "form_value" 333 (.ref 105), kE P "raised" 341 (.ref 112), kE P "raised_from" 347 (.ref 117), kE P "low_forms" 355 (.ref 124), kE P "power_of" 365 (.ref 131), kE P "run_product" 376 (.ref 138), kE P "choices" 385 (.ref 145), kE P "Part" 449 (.ref 190), kE P "Choose" 528 (.ref 249), kE P "Weight" 571 (.ref 282), kE P "Power" 631 (.ref 329), kE P "Growth" 684 (.ref 369), kE P "MOST_PARTS" 688 (.int 6 687), kE P "UPPER_LEAST" 692 (.ref 372), kE P "LOWER_LEAST" 699 (.ref 373), kE P "GREATEST" 703 (.ref 374), kE P "within" 709 (.ref 379), kE P "check_choose" 718 (.ref 386), kE P "check_base" 725 (.ref 393), kE P "piece_of" 732 (.ref 400), kE P "product" 744 (.ref 407), kE P "Term" 797 (.ref 444), kE P "_law_cell_at" 807 (.ref 455), kE P "_law_number" 815 (.ref 462), kE P "_law_whole" 822 (.ref 469), kE P "_law_divisor" 831 (.ref 476), kE P "_law_mixed" 841 (.ref 483), kE P "_law_forms" 852 (.ref 490), kE P "_law_ratio" 864 (.ref 497), kE P "_law_part" 870 (.ref 502), kE P "_law_parts" 876 (.ref 507), kE P "_law_at" 885 (.ref 514), kE P "_law_power" 896 (.ref 521), kE P "_law_ways" 906 (.ref 528), kE P "_law_worth" 916 (.ref 535), kE P "_law_alike" 924 (.ref 542), kE P "_law_made" 931 (.ref 549), kE P "_law_point" 946 (.ref 556), kE P "_law_far" 952 (.ref 561), kE P "law" 958 (.ref 566)] 62 }
def ob12''' : Obj := oF #[.int 2 0, .int 0 0, .ref 20, .int 4 0, .int 0 0, .ref 33, .int 6 0, .int 0 0, .ref 45, .int 9 0, .int 0 0, .ref 55, .int 11 0, .int 0 0, .ref 62, .int 18 0, .int 0 0, .ref 69, .int 20 0, .int 0 0, .ref 76, .int 28 0, .int 0 0, .ref 83, .int 44 0, .int 0 0, .ref 90, .int 56 0, .int 0 0, .ref 97, .int 65 0, .int 0 0, .ref 104, .int 67 0, .int 0 0, .ref 111, .int 69 0, .int 0 0, .ref 116, .int 71 0, .int 0 0, .ref 123, .int 73 0, .int 0 0, .ref 130, .int 78 0, .int 0 0, .ref 137, .int 86 0, .int 0 0, .ref 144, .int 89 0, .int 0 0, .ref 151, .int 105 0, .int 0 0, .ref 200, .int 141 0, .int 0 0, .ref 257, .int 151 0, .int 0 0, .ref 290, .int 167 0, .int 0 0, .ref 337, .int 185 0, .int 0 0, .ref 378, .int 187 0, .int 0 0, .ref 385, .int 193 0, .int 0 0, .ref 392, .int 196 0, .int 0 0, .ref 399, .int 209 0, .int 0 0, .ref 406, .int 218 0, .int 0 0, .ref 413, .int 241 0, .int 0 0, .ref 454, .int 245 0, .int 0 0, .ref 461, .int 251 0, .int 0 0, .ref 468, .int 253 0, .int 0 0, .ref 475, .int 261 0, .int 0 0, .ref 482, .int 270 0, .int 0 0, .ref 489, .int 281 0, .int 0 0, .ref 496, .int 289 0, .int 0 0, .ref 501, .int 298 0, .int 0 0, .ref 506, .int 306 0, .int 0 0, .ref 513, .int 308 0, .int 0 0, .ref 520, .int 315 0, .int 0 0, .ref 527, .int 322 0, .int 0 0, .ref 534, .int 329 0, .int 0 0, .ref 541, .int 337 0, .int 0 0, .ref 548, .int 345 0, .int 0 0, .ref 555, .int 353 0, .int 0 0, .ref 560, .int 364 0, .int 0 0, .ref 565]
def ob372 : Obj := oT #[.int 0 689, .int 0 690, .int 0 691]
def ob373 : Obj := oT #[.int (-3) 694, .int (-3) 696, .int (-9) 698]
def ob374 : Obj := oT #[.int 3 700, .int 3 701, .int 9 702]
def ob375 : Obj := oT #[]
def ob376 : Obj := oF #[]
def ob377 : Obj := kN "within" "within" (top 34)
def ob378 : Obj := oK #[.str "within" 704, .str "within" 705, cp 706, .int 185 0, .int 2 0, .int 0 0, .int 0 0, .int 3 0, .ref 375, .bool true, .int 181 0, .ref 376, .none, .none, .none, .ref 377, .int 707 0, .int 185 0, cp 708]
def ob379 : Obj := kM "within" "within" (top 34) "sumcraft.terms" 685 378
def ob380 : Obj := oT #[]
def ob381 : Obj := oF #[]
def ob382 : Obj := oT #[.str "upper" 713, .str "lower" 714, .str "low" 715]
def ob383 : Obj := oT #[]
def ob384 : Obj := kN "check_choose" "check_choose" (top 35)
def ob385 : Obj := oK #[.str "check_choose" 710, .str "check_choose" 711, cp 712, .int 187 0, .int 2 0, .int 0 0, .int 0 0, .int 3 0, .ref 380, .bool true, .int 181 0, .ref 381, .none, .ref 382, .ref 383, .ref 384, .int 716 0, .int 187 0, cp 717]
def ob386 : Obj := kM "check_choose" "check_choose" (top 35) "sumcraft.terms" 685 385
def ob387 : Obj := oT #[]
def ob388 : Obj := oF #[]
def ob389 : Obj := oT #[.str "fraction" 722]
def ob390 : Obj := oT #[]
def ob391 : Obj := kN "check_base" "check_base" (top 36)
def ob392 : Obj := oK #[.str "check_base" 719, .str "check_base" 720, cp 721, .int 193 0, .int 1 0, .int 0 0, .int 0 0, .int 3 0, .ref 387, .bool true, .int 181 0, .ref 388, .none, .ref 389, .ref 390, .ref 391, .int 723 0, .int 193 0, cp 724]
def ob393 : Obj := kM "check_base" "check_base" (top 36) "sumcraft.terms" 685 392
def ob394 : Obj := oT #[]
def ob395 : Obj := oF #[]
def ob396 : Obj := oT #[.str "part" 729]
def ob397 : Obj := oT #[]
def ob398 : Obj := kN "piece_of" "piece_of" (top 37)
def ob399 : Obj := oK #[.str "piece_of" 726, .str "piece_of" 727, cp 728, .int 196 0, .int 1 0, .int 0 0, .int 0 0, .int 3 0, .ref 394, .bool true, .int 181 0, .ref 395, .none, .ref 396, .ref 397, .ref 398, .int 730 0, .int 196 0, cp 731]
def ob400 : Obj := kM "piece_of" "piece_of" (top 37) "sumcraft.terms" 685 399
def ob401 : Obj := oT #[]
def ob402 : Obj := oF #[]
def ob403 : Obj := oT #[.str "fractions" 736, .str "top" 737, .str "bottom" 738, .str "fraction" 739, .str "left" 740, .str "right" 741]
def ob404 : Obj := oT #[]
def ob405 : Obj := kN "product" "product" (top 38)
def ob406 : Obj := oK #[.str "product" 733, .str "product" 734, cp 735, .int 209 0, .int 1 0, .int 0 0, .int 0 0, .int 3 0, .ref 401, .bool true, .int 181 0, .ref 402, .none, .ref 403, .ref 404, .ref 405, .int 742 0, .int 209 0, cp 743]
def ob407 : Obj := kM "product" "product" (top 38) "sumcraft.terms" 685 406
def ob408 : Obj := oT #[]
def ob409 : Obj := oB #[.builtin "type.__prepare__", .type "type"]
def ob410 (P : Params) : Obj := { cls := .type "dict", data := Data.dict #[kE P "__module__" 752 (.str "sumcraft.terms" 685), kE P "__qualname__" 754 (.str "Term" 753), kE P "__firstlineno__" 756 (.int 218 755), kE P "__init__" 762 (.ref 419), kE P "told" 769 (.ref 426), kE P "worth" 775 (.ref 431), kE P "floor" 781 (.ref 436), kE P "frame" 787 (.ref 441), kE P "__static_attributes__" 790 (.ref 442)] 9 }
def ob411 : Obj := oT #[]
def ob412 : Obj := oF #[.int 220 0, .int 4 0, .ref 418, .int 226 0, .int 4 0, .ref 425, .int 229 0, .int 4 0, .ref 430, .int 232 0, .int 4 0, .ref 435, .int 235 0, .int 4 0, .ref 440]
def ob413 : Obj := oK #[.str "Term" 747, .str "Term" 748, cp 749, .int 218 0, .int 0 0, .int 0 0, .int 0 0, .int 0 0, .ref 411, .bool false, .int 181 0, .ref 412, .none, .none, .none, .none, .int 750 0, .int 218 0, cp 751]
def ob414 : Obj := { cls := .type "frame", slots := #[some (.ref 413), some (.ref 3), some (.ref 410), none, some (.str "sumcraft.terms" 685), none, some (.ref 0)] }
def ob415 : Obj := oT #[]
def ob416 : Obj := oF #[]
def ob417 : Obj := kN "__init__" "Term.__init__" (inCls (top 39) 0)
def ob418 : Obj := oK #[.str "__init__" 757, .str "Term.__init__" 758, cp 759, .int 220 0, .int 2 0, .int 0 0, .int 0 0, .int 3 0, .ref 415, .bool true, .int 181 0, .ref 416, .none, .none, .none, .ref 417, .int 760 0, .int 220 0, cp 761]
def ob419 : Obj := kM "__init__" "Term.__init__" (inCls (top 39) 0) "sumcraft.terms" 685 418
def ob420 : Obj := oT #[]
def ob421 : Obj := oF #[]
def ob422 : Obj := oT #[.str "self" 766]
def ob423 : Obj := oT #[]
def ob424 : Obj := kN "told" "Term.told" (inCls (top 39) 1)
def ob425 : Obj := oK #[.str "told" 763, .str "Term.told" 764, cp 765, .int 226 0, .int 1 0, .int 0 0, .int 0 0, .int 3 0, .ref 420, .bool true, .int 181 0, .ref 421, .none, .ref 422, .ref 423, .ref 424, .int 767 0, .int 226 0, cp 768]
def ob426 : Obj := kM "told" "Term.told" (inCls (top 39) 1) "sumcraft.terms" 685 425
def ob427 : Obj := oT #[]
def ob428 : Obj := oF #[]
def ob429 : Obj := kN "worth" "Term.worth" (inCls (top 39) 2)
def ob430 : Obj := oK #[.str "worth" 770, .str "Term.worth" 771, cp 772, .int 229 0, .int 3 0, .int 0 0, .int 0 0, .int 3 0, .ref 427, .bool true, .int 181 0, .ref 428, .none, .none, .none, .ref 429, .int 773 0, .int 229 0, cp 774]
def ob431 : Obj := kM "worth" "Term.worth" (inCls (top 39) 2) "sumcraft.terms" 685 430
def ob432 : Obj := oT #[]
def ob433 : Obj := oF #[]
def ob434 : Obj := kN "floor" "Term.floor" (inCls (top 39) 3)
def ob435 : Obj := oK #[.str "floor" 776, .str "Term.floor" 777, cp 778, .int 232 0, .int 4 0, .int 0 0, .int 0 0, .int 3 0, .ref 432, .bool true, .int 181 0, .ref 433, .none, .none, .none, .ref 434, .int 779 0, .int 232 0, cp 780]
def ob436 : Obj := kM "floor" "Term.floor" (inCls (top 39) 3) "sumcraft.terms" 685 435
def ob437 : Obj := oT #[]
def ob438 : Obj := oF #[]
def ob439 : Obj := kN "frame" "Term.frame" (inCls (top 39) 4)
def ob440 : Obj := oK #[.str "frame" 782, .str "Term.frame" 783, cp 784, .int 235 0, .int 2 0, .int 0 0, .int 0 0, .int 3 0, .ref 437, .bool true, .int 181 0, .ref 438, .none, .none, .none, .ref 439, .int 785 0, .int 235 0, cp 786]
def ob441 : Obj := kM "frame" "Term.frame" (inCls (top 39) 4) "sumcraft.terms" 685 440
def ob442 : Obj := oT #[.str "parts" 788, .str "pieces" 789]
def ob443 (P : Params) : Obj := { cls := .type "dict", data := Data.dict #[kE P "__module__" 752 (.str "sumcraft.terms" 685), kE P "__firstlineno__" 756 (.int 218 755), kE P "__init__" 762 (.ref 419), kE P "told" 769 (.ref 426), kE P "worth" 775 (.ref 431), kE P "floor" 781 (.ref 436), kE P "frame" 787 (.ref 441), kE P "__static_attributes__" 790 (.ref 442), kE P "__dict__" 792 (.ref 445), kE P "__weakref__" 794 (.ref 446), kE P "__doc__" 795 (.none)] 4 }
def ob444 : Obj := { cls := .type "type", data := Data.cls { name := "Term", bases := [.type "object"], mro := [.ref 444, .type "object"], ns := 443, qualname := "Term" }, slots := #[none, none, some (.str "Term" 745), some (.str "Term" 753), some (.builtin "object.__new__"), some (.bool true)] }
def ob445 : Obj := { cls := .type "getset_descriptor", data := Data.fields #[.str "__dict__" 791, .ref 444, .builtin "function.__dict__", .builtin "function.__dict__#set"] }
def ob446 : Obj := { cls := .type "getset_descriptor", data := Data.fields #[.str "__weakref__" 793, .ref 444, .builtin "ExceptionGroup.__weakref__", .none] }
def ob447 : Obj := { cls := .type "super", data := Data.fields #[.ref 444, .ref 444, .ref 444] }
def ob448 : Obj := oB #[.builtin "object.__init_subclass__", .ref 444]
def ob449 : Obj := oT #[]
def ob450 : Obj := oF #[]
def ob451 : Obj := oT #[.str "_law_script" 803, .str "_law_k" 804]
def ob452 : Obj := oT #[]
def ob453 : Obj := kN "_law_cell_at" "_law_cell_at" (top 41)
def ob454 : Obj := oK #[.str "_law_cell_at" 800, .str "_law_cell_at" 801, cp 802, .int 241 0, .int 2 0, .int 0 0, .int 0 0, .int 3 0, .ref 449, .bool true, .int 181 0, .ref 450, .none, .ref 451, .ref 452, .ref 453, .int 805 0, .int 241 0, cp 806]
def ob455 : Obj := kM "_law_cell_at" "_law_cell_at" (top 41) "law_sumcraft_k53_what_terms_are_worth" 798 454
def ob456 : Obj := oT #[]
def ob457 : Obj := oF #[]
def ob458 : Obj := oT #[.str "_law_cell" 811, .str "_law_most" 812]
def ob459 : Obj := oT #[]
def ob460 : Obj := kN "_law_number" "_law_number" (top 42)
def ob461 : Obj := oK #[.str "_law_number" 808, .str "_law_number" 809, cp 810, .int 245 0, .int 2 0, .int 0 0, .int 0 0, .int 3 0, .ref 456, .bool true, .int 181 0, .ref 457, .none, .ref 458, .ref 459, .ref 460, .int 813 0, .int 245 0, cp 814]
def ob462 : Obj := kM "_law_number" "_law_number" (top 42) "law_sumcraft_k53_what_terms_are_worth" 798 461
def ob463 : Obj := oT #[]
def ob464 : Obj := oF #[]
def ob465 : Obj := oT #[.str "_law_found" 819]
def ob466 : Obj := oT #[]
def ob467 : Obj := kN "_law_whole" "_law_whole" (top 43)
def ob468 : Obj := oK #[.str "_law_whole" 816, .str "_law_whole" 817, cp 818, .int 251 0, .int 1 0, .int 0 0, .int 0 0, .int 3 0, .ref 463, .bool true, .int 181 0, .ref 464, .none, .ref 465, .ref 466, .ref 467, .int 820 0, .int 251 0, cp 821]
def ob469 : Obj := kM "_law_whole" "_law_whole" (top 43) "law_sumcraft_k53_what_terms_are_worth" 798 468
def ob470 : Obj := oT #[]
def ob471 : Obj := oF #[]
def ob472 : Obj := oT #[.str "_law_one" 826, .str "_law_other" 827, .str "_law_rest" 828]
def ob473 : Obj := oT #[]
def ob474 : Obj := kN "_law_divisor" "_law_divisor" (top 44)
def ob475 : Obj := oK #[.str "_law_divisor" 823, .str "_law_divisor" 824, cp 825, .int 253 0, .int 2 0, .int 0 0, .int 0 0, .int 3 0, .ref 470, .bool true, .int 181 0, .ref 471, .none, .ref 472, .ref 473, .ref 474, .int 829 0, .int 253 0, cp 830]
def ob476 : Obj := kM "_law_divisor" "_law_divisor" (top 44) "law_sumcraft_k53_what_terms_are_worth" 798 475
def ob477 : Obj := oT #[]
def ob478 : Obj := oF #[]
def ob479 : Obj := oT #[.str "_law_cell" 835, .str "_law_k" 836, .str "_law_number_here" 837, .str "_law_time" 838]
def ob480 : Obj := oT #[]
def ob481 : Obj := kN "_law_mixed" "_law_mixed" (top 45)
def ob482 : Obj := oK #[.str "_law_mixed" 832, .str "_law_mixed" 833, cp 834, .int 261 0, .int 2 0, .int 0 0, .int 0 0, .int 3 0, .ref 477, .bool true, .int 181 0, .ref 478, .none, .ref 479, .ref 480, .ref 481, .int 839 0, .int 261 0, cp 840]
def ob483 : Obj := kM "_law_mixed" "_law_mixed" (top 45) "law_sumcraft_k53_what_terms_are_worth" 798 482
def ob484 : Obj := oT #[]
def ob485 : Obj := oF #[]
def ob486 : Obj := oT #[.str "_law_one" 845, .str "_law_other" 846, .str "_law_most" 847, .str "_law_high" 848, .str "_law_low" 849]
def ob487 : Obj := oT #[]
def ob488 : Obj := kN "_law_forms" "_law_forms" (top 46)
def ob489 : Obj := oK #[.str "_law_forms" 842, .str "_law_forms" 843, cp 844, .int 270 0, .int 3 0, .int 0 0, .int 0 0, .int 3 0, .ref 484, .bool true, .int 181 0, .ref 485, .none, .ref 486, .ref 487, .ref 488, .int 850 0, .int 270 0, cp 851]
def ob490 : Obj := kM "_law_forms" "_law_forms" (top 46) "law_sumcraft_k53_what_terms_are_worth" 798 489
def ob491 : Obj := oT #[]
def ob492 : Obj := oF #[]
def ob493 : Obj := oT #[.str "_law_one" 856, .str "_law_other" 857, .str "_law_top" 858, .str "_law_number_here" 859, .str "_law_bottom" 860, .str "_law_by" 861]
def ob494 : Obj := oT #[]
def ob495 : Obj := kN "_law_ratio" "_law_ratio" (top 47)
def ob496 : Obj := oK #[.str "_law_ratio" 853, .str "_law_ratio" 854, cp 855, .int 281 0, .int 2 0, .int 0 0, .int 0 0, .int 3 0, .ref 491, .bool true, .int 181 0, .ref 492, .none, .ref 493, .ref 494, .ref 495, .int 862 0, .int 281 0, cp 863]
def ob497 : Obj := kM "_law_ratio" "_law_ratio" (top 47) "law_sumcraft_k53_what_terms_are_worth" 798 496
def ob498 : Obj := oT #[]
def ob499 : Obj := oF #[]
def ob500 : Obj := kN "_law_part" "_law_part" (top 48)
def ob501 : Obj := oK #[.str "_law_part" 865, .str "_law_part" 866, cp 867, .int 289 0, .int 2 0, .int 0 0, .int 0 0, .int 3 0, .ref 498, .bool true, .int 181 0, .ref 499, .none, .none, .none, .ref 500, .int 868 0, .int 289 0, cp 869]
def ob502 : Obj := kM "_law_part" "_law_part" (top 48) "law_sumcraft_k53_what_terms_are_worth" 798 501
def ob503 : Obj := oT #[]
def ob504 : Obj := oF #[]
def ob505 : Obj := kN "_law_parts" "_law_parts" (top 49)
def ob506 : Obj := oK #[.str "_law_parts" 871, .str "_law_parts" 872, cp 873, .int 298 0, .int 2 0, .int 0 0, .int 0 0, .int 3 0, .ref 503, .bool true, .int 181 0, .ref 504, .none, .none, .none, .ref 505, .int 874 0, .int 298 0, cp 875]
def ob507 : Obj := kM "_law_parts" "_law_parts" (top 49) "law_sumcraft_k53_what_terms_are_worth" 798 506
def ob508 : Obj := oT #[]
def ob509 : Obj := oF #[]
def ob510 : Obj := oT #[.str "_law_form" 880, .str "_law_n" 881, .str "_law_k" 882]
def ob511 : Obj := oT #[]
def ob512 : Obj := kN "_law_at" "_law_at" (top 50)
def ob513 : Obj := oK #[.str "_law_at" 877, .str "_law_at" 878, cp 879, .int 306 0, .int 3 0, .int 0 0, .int 0 0, .int 3 0, .ref 508, .bool true, .int 181 0, .ref 509, .none, .ref 510, .ref 511, .ref 512, .int 883 0, .int 306 0, cp 884]
def ob514 : Obj := kM "_law_at" "_law_at" (top 50) "law_sumcraft_k53_what_terms_are_worth" 798 513
def ob515 : Obj := oT #[]
def ob516 : Obj := oF #[]
def ob517 : Obj := oT #[.str "_law_fraction" 889, .str "_law_many" 890, .str "_law_top" 891, .str "_law_bottom" 892, .str "_law_time" 893]
def ob518 : Obj := oT #[]
def ob519 : Obj := kN "_law_power" "_law_power" (top 51)
def ob520 : Obj := oK #[.str "_law_power" 886, .str "_law_power" 887, cp 888, .int 308 0, .int 2 0, .int 0 0, .int 0 0, .int 3 0, .ref 515, .bool true, .int 181 0, .ref 516, .none, .ref 517, .ref 518, .ref 519, .int 894 0, .int 308 0, cp 895]
def ob521 : Obj := kM "_law_power" "_law_power" (top 51) "law_sumcraft_k53_what_terms_are_worth" 798 520
def ob522 : Obj := oT #[]
def ob523 : Obj := oF #[]
def ob524 : Obj := oT #[.str "_law_low" 900, .str "_law_rest" 901, .str "_law_found" 902, .str "_law_t" 903]
def ob525 : Obj := oT #[]
def ob526 : Obj := kN "_law_ways" "_law_ways" (top 52)
def ob527 : Obj := oK #[.str "_law_ways" 897, .str "_law_ways" 898, cp 899, .int 315 0, .int 2 0, .int 0 0, .int 0 0, .int 3 0, .ref 522, .bool true, .int 181 0, .ref 523, .none, .ref 524, .ref 525, .ref 526, .int 904 0, .int 315 0, cp 905]
def ob528 : Obj := kM "_law_ways" "_law_ways" (top 52) "law_sumcraft_k53_what_terms_are_worth" 798 527
def ob529 : Obj := oT #[]
def ob530 : Obj := oF #[]
def ob531 : Obj := oT #[.str "_law_part_here" 910, .str "_law_n" 911, .str "_law_k" 912, .str "_law_low" 913]
def ob532 : Obj := oT #[]
def ob533 : Obj := kN "_law_worth" "_law_worth" (top 53)
def ob534 : Obj := oK #[.str "_law_worth" 907, .str "_law_worth" 908, cp 909, .int 322 0, .int 3 0, .int 0 0, .int 0 0, .int 3 0, .ref 529, .bool true, .int 181 0, .ref 530, .none, .ref 531, .ref 532, .ref 533, .int 914 0, .int 322 0, cp 915]
def ob535 : Obj := kM "_law_worth" "_law_worth" (top 53) "law_sumcraft_k53_what_terms_are_worth" 798 534
def ob536 : Obj := oT #[]
def ob537 : Obj := oF #[]
def ob538 : Obj := oT #[.str "_law_found" 920, .str "_law_due" 921]
def ob539 : Obj := oT #[]
def ob540 : Obj := kN "_law_alike" "_law_alike" (top 54)
def ob541 : Obj := oK #[.str "_law_alike" 917, .str "_law_alike" 918, cp 919, .int 329 0, .int 2 0, .int 0 0, .int 0 0, .int 3 0, .ref 536, .bool true, .int 181 0, .ref 537, .none, .ref 538, .ref 539, .ref 540, .int 922 0, .int 329 0, cp 923]
def ob542 : Obj := kM "_law_alike" "_law_alike" (top 54) "law_sumcraft_k53_what_terms_are_worth" 798 541
def ob543 : Obj := oT #[]
def ob544 : Obj := oF #[]
def ob545 : Obj := oT #[.str "_law_part_here" 928]
def ob546 : Obj := oT #[]
def ob547 : Obj := kN "_law_made" "_law_made" (top 55)
def ob548 : Obj := oK #[.str "_law_made" 925, .str "_law_made" 926, cp 927, .int 337 0, .int 1 0, .int 0 0, .int 0 0, .int 3 0, .ref 543, .bool true, .int 181 0, .ref 544, .none, .ref 545, .ref 546, .ref 547, .int 929 0, .int 337 0, cp 930]
def ob549 : Obj := kM "_law_made" "_law_made" (top 55) "law_sumcraft_k53_what_terms_are_worth" 798 548
def ob550 : Obj := oT #[]
def ob551 : Obj := oF #[]
def ob552 : Obj := oT #[.str "_law_term" 935, .str "_law_parts_here" 936, .str "_law_made_here" 937, .str "_law_n" 938, .str "_law_k" 939, .str "_law_due" 940, .str "_law_part_here" 941, .str "_law_one" 942, .str "_law_worth_here" 943]
def ob553 : Obj := oT #[]
def ob554 : Obj := kN "_law_point" "_law_point" (top 56)
def ob555 : Obj := oK #[.str "_law_point" 932, .str "_law_point" 933, cp 934, .int 345 0, .int 5 0, .int 0 0, .int 0 0, .int 3 0, .ref 550, .bool true, .int 181 0, .ref 551, .none, .ref 552, .ref 553, .ref 554, .int 944 0, .int 345 0, cp 945]
def ob556 : Obj := kM "_law_point" "_law_point" (top 56) "law_sumcraft_k53_what_terms_are_worth" 798 555
def ob557 : Obj := oT #[]
def ob558 : Obj := oF #[]
def ob559 : Obj := kN "_law_far" "_law_far" (top 57)
def ob560 : Obj := oK #[.str "_law_far" 947, .str "_law_far" 948, cp 949, .int 353 0, .int 2 0, .int 0 0, .int 0 0, .int 3 0, .ref 557, .bool true, .int 181 0, .ref 558, .none, .none, .none, .ref 559, .int 950 0, .int 353 0, cp 951]
def ob561 : Obj := kM "_law_far" "_law_far" (top 57) "law_sumcraft_k53_what_terms_are_worth" 798 560
def ob562 : Obj := oT #[]
def ob563 : Obj := oF #[]
def ob564 : Obj := kN "law" "law" (top 58)
def ob565 : Obj := oK #[.str "law" 953, .str "law" 954, cp 955, .int 364 0, .int 1 0, .int 0 0, .int 0 0, .int 3 0, .ref 562, .bool true, .int 181 0, .ref 563, .none, .none, .none, .ref 564, .int 956 0, .int 364 0, cp 957]
def ob566 : Obj := kM "law" "law" (top 58) "law_sumcraft_k53_what_terms_are_worth" 798 565
def env0 : Env := { scope := PySem.Challenge.pw_sumcraft_k53_what_terms_are_worth.main.scope, locals := mainNs, globals := mainNs, cells := [], code := .ref 13, frame := some 14 }
def cd0 : Code := .body (behindTheImports PySem.Challenge.pw_sumcraft_k53_what_terms_are_worth) env0
def fr0 : List Frame := [topFrame { line := 0, col := 0, endLine := 0, endCol := 0 }]
noncomputable def hp1 (P : Params) : Heap := ⟨⟨[boot_o_0 P, boot_o_1 P, boot_o_2 P, boot_o_3 P, boot_o_4 P, boot_o_5 P, boot_o_6 P, boot_o_7 P, boot_o_8 P, boot_o_9 P, boot_o_10 P, ob11, ob12, ob13, ob14]⟩, {}⟩
noncomputable def hp3 (P : Params) : Heap := ⟨⟨[boot_o_0 P, boot_o_1 P, boot_o_2 P, ob3 P, boot_o_4 P, boot_o_5 P, boot_o_6 P, boot_o_7 P, boot_o_8 P, boot_o_9 P, boot_o_10 P, ob11, ob12', ob13, ob14, ob15, ob16, ob17 P, ob18, ob19, ob20, ob21, ob22, ob23 P, ob24, ob25, ob26, ob27, ob28, ob29, ob30 P, ob31, ob32, ob33, ob34, ob35, ob36 P, ob37, ob38, ob39, ob40, ob41, ob42 P, ob43, ob44, ob45, ob46, ob47, ob48 P, ob49, ob50, ob51, ob52, ob53, ob54, ob55, ob56, ob57, ob58, ob59, ob60, ob61, ob62, ob63, ob64, ob65, ob66, ob67, ob68, ob69, ob70, ob71, ob72, ob73, ob74, ob75, ob76, ob77, ob78, ob79, ob80, ob81, ob82, ob83, ob84, ob85, ob86, ob87, ob88, ob89, ob90, ob91, ob92, ob93, ob94, ob95, ob96, ob97, ob98, ob99, ob100, ob101, ob102, ob103, ob104, ob105, ob106, ob107, ob108, ob109, ob110, ob111, ob112, ob113, ob114, ob115, ob116, ob117, ob118, ob119, ob120, ob121, ob122, ob123, ob124, ob125, ob126, ob127, ob128, ob129, ob130, ob131, ob132, ob133, ob134, ob135, ob136, ob137, ob138, ob139, ob140, ob141, ob142, ob143, ob144, ob145, ob146, ob147, ob148 P, ob149, ob150, ob151, ob152, ob153, ob154, ob155, ob156, ob157, ob158, ob159, ob160, ob161, ob162, ob163, ob164, ob165, ob166, ob167, ob168, ob169, ob170, ob171, ob172, ob173, ob174, ob175, ob176, ob177, ob178, ob179, ob180, ob181, ob182, ob183, ob184, ob185, ob186, ob187, ob188, ob189 P, ob190, ob191, ob192, ob193, ob194]⟩, {}⟩
noncomputable def hp4 (P : Params) : Heap := ⟨⟨[boot_o_0 P, boot_o_1 P, boot_o_2 P, ob3' P, boot_o_4 P, boot_o_5 P, boot_o_6 P, boot_o_7 P, boot_o_8 P, boot_o_9 P, boot_o_10 P, ob11, ob12'', ob13, ob14, ob15, ob16, ob17 P, ob18, ob19, ob20, ob21, ob22, ob23 P, ob24, ob25, ob26, ob27, ob28, ob29, ob30 P, ob31, ob32, ob33, ob34, ob35, ob36 P, ob37, ob38, ob39, ob40, ob41, ob42 P, ob43, ob44, ob45, ob46, ob47, ob48 P, ob49, ob50, ob51, ob52, ob53, ob54, ob55, ob56, ob57, ob58, ob59, ob60, ob61, ob62, ob63, ob64, ob65, ob66, ob67, ob68, ob69, ob70, ob71, ob72, ob73, ob74, ob75, ob76, ob77, ob78, ob79, ob80, ob81, ob82, ob83, ob84, ob85, ob86, ob87, ob88, ob89, ob90, ob91, ob92, ob93, ob94, ob95, ob96, ob97, ob98, ob99, ob100, ob101, ob102, ob103, ob104, ob105, ob106, ob107, ob108, ob109, ob110, ob111, ob112, ob113, ob114, ob115, ob116, ob117, ob118, ob119, ob120, ob121, ob122, ob123, ob124, ob125, ob126, ob127, ob128, ob129, ob130, ob131, ob132, ob133, ob134, ob135, ob136, ob137, ob138, ob139, ob140, ob141, ob142, ob143, ob144, ob145, ob146, ob147, ob148 P, ob149, ob150, ob151, ob152, ob153, ob154, ob155, ob156, ob157, ob158, ob159, ob160, ob161, ob162, ob163, ob164, ob165, ob166, ob167, ob168, ob169, ob170, ob171, ob172, ob173, ob174, ob175, ob176, ob177, ob178, ob179, ob180, ob181, ob182, ob183, ob184, ob185, ob186, ob187, ob188, ob189 P, ob190', ob191, ob192, ob193, ob194, ob195, ob196, ob197 P, ob198, ob199, ob200, ob201, ob202, ob203, ob204, ob205, ob206, ob207, ob208, ob209, ob210, ob211, ob212, ob213, ob214, ob215, ob216, ob217, ob218, ob219, ob220, ob221, ob222, ob223, ob224, ob225, ob226, ob227, ob228, ob229, ob230, ob231, ob232, ob233, ob234, ob235, ob236, ob237, ob238, ob239, ob240, ob241, ob242, ob243, ob244, ob245, ob246, ob247, ob248 P, ob249, ob250, ob251, ob252, ob253, ob254 P, ob255, ob256, ob257, ob258, ob259, ob260, ob261, ob262, ob263, ob264, ob265, ob266, ob267, ob268, ob269, ob270, ob271, ob272, ob273, ob274, ob275, ob276, ob277, ob278, ob279, ob280, ob281 P, ob282, ob283, ob284, ob285, ob286, ob287 P, ob288, ob289, ob290, ob291, ob292, ob293, ob294, ob295, ob296, ob297, ob298, ob299, ob300, ob301, ob302, ob303, ob304, ob305, ob306, ob307, ob308, ob309, ob310, ob311, ob312, ob313, ob314, ob315, ob316, ob317, ob318, ob319, ob320, ob321, ob322, ob323, ob324, ob325, ob326, ob327, ob328 P, ob329, ob330, ob331, ob332, ob333, ob334 P, ob335, ob336, ob337, ob338, ob339, ob340, ob341, ob342, ob343, ob344, ob345, ob346, ob347, ob348, ob349, ob350, ob351, ob352, ob353, ob354, ob355, ob356, ob357, ob358, ob359, ob360, ob361, ob362, ob363, ob364, ob365, ob366, ob367, ob368 P, ob369, ob370, ob371]⟩, {}⟩
noncomputable def hp5 (P : Params) : Heap := ⟨⟨[boot_o_0 P, boot_o_1 P, boot_o_2 P, ob3'' P, boot_o_4 P, boot_o_5 P, boot_o_6 P, boot_o_7 P, boot_o_8 P, boot_o_9 P, boot_o_10 P, ob11, ob12''', ob13, ob14, ob15, ob16, ob17 P, ob18, ob19, ob20, ob21, ob22, ob23 P, ob24, ob25, ob26, ob27, ob28, ob29, ob30 P, ob31, ob32, ob33, ob34, ob35, ob36 P, ob37, ob38, ob39, ob40, ob41, ob42 P, ob43, ob44, ob45, ob46, ob47, ob48 P, ob49, ob50, ob51, ob52, ob53, ob54, ob55, ob56, ob57, ob58, ob59, ob60, ob61, ob62, ob63, ob64, ob65, ob66, ob67, ob68, ob69, ob70, ob71, ob72, ob73, ob74, ob75, ob76, ob77, ob78, ob79, ob80, ob81, ob82, ob83, ob84, ob85, ob86, ob87, ob88, ob89, ob90, ob91, ob92, ob93, ob94, ob95, ob96, ob97, ob98, ob99, ob100, ob101, ob102, ob103, ob104, ob105, ob106, ob107, ob108, ob109, ob110, ob111, ob112, ob113, ob114, ob115, ob116, ob117, ob118, ob119, ob120, ob121, ob122, ob123, ob124, ob125, ob126, ob127, ob128, ob129, ob130, ob131, ob132, ob133, ob134, ob135, ob136, ob137, ob138, ob139, ob140, ob141, ob142, ob143, ob144, ob145, ob146, ob147, ob148 P, ob149, ob150, ob151, ob152, ob153, ob154, ob155, ob156, ob157, ob158, ob159, ob160, ob161, ob162, ob163, ob164, ob165, ob166, ob167, ob168, ob169, ob170, ob171, ob172, ob173, ob174, ob175, ob176, ob177, ob178, ob179, ob180, ob181, ob182, ob183, ob184, ob185, ob186, ob187, ob188, ob189 P, ob190', ob191, ob192, ob193, ob194, ob195, ob196, ob197 P, ob198, ob199, ob200, ob201, ob202, ob203, ob204, ob205, ob206, ob207, ob208, ob209, ob210, ob211, ob212, ob213, ob214, ob215, ob216, ob217, ob218, ob219, ob220, ob221, ob222, ob223, ob224, ob225, ob226, ob227, ob228, ob229, ob230, ob231, ob232, ob233, ob234, ob235, ob236, ob237, ob238, ob239, ob240, ob241, ob242, ob243, ob244, ob245, ob246, ob247, ob248 P, ob249, ob250, ob251, ob252, ob253, ob254 P, ob255, ob256, ob257, ob258, ob259, ob260, ob261, ob262, ob263, ob264, ob265, ob266, ob267, ob268, ob269, ob270, ob271, ob272, ob273, ob274, ob275, ob276, ob277, ob278, ob279, ob280, ob281 P, ob282, ob283, ob284, ob285, ob286, ob287 P, ob288, ob289, ob290, ob291, ob292, ob293, ob294, ob295, ob296, ob297, ob298, ob299, ob300, ob301, ob302, ob303, ob304, ob305, ob306, ob307, ob308, ob309, ob310, ob311, ob312, ob313, ob314, ob315, ob316, ob317, ob318, ob319, ob320, ob321, ob322, ob323, ob324, ob325, ob326, ob327, ob328 P, ob329, ob330, ob331, ob332, ob333, ob334 P, ob335, ob336, ob337, ob338, ob339, ob340, ob341, ob342, ob343, ob344, ob345, ob346, ob347, ob348, ob349, ob350, ob351, ob352, ob353, ob354, ob355, ob356, ob357, ob358, ob359, ob360, ob361, ob362, ob363, ob364, ob365, ob366, ob367, ob368 P, ob369, ob370, ob371, ob372, ob373, ob374, ob375, ob376, ob377, ob378, ob379, ob380, ob381, ob382, ob383, ob384, ob385, ob386, ob387, ob388, ob389, ob390, ob391, ob392, ob393, ob394, ob395, ob396, ob397, ob398, ob399, ob400, ob401, ob402, ob403, ob404, ob405, ob406, ob407, ob408, ob409, ob410 P, ob411, ob412, ob413, ob414, ob415, ob416, ob417, ob418, ob419, ob420, ob421, ob422, ob423, ob424, ob425, ob426, ob427, ob428, ob429, ob430, ob431, ob432, ob433, ob434, ob435, ob436, ob437, ob438, ob439, ob440, ob441, ob442, ob443 P, ob444, ob445, ob446, ob447, ob448, ob449, ob450, ob451, ob452, ob453, ob454, ob455, ob456, ob457, ob458, ob459, ob460, ob461, ob462, ob463, ob464, ob465, ob466, ob467, ob468, ob469, ob470, ob471, ob472, ob473, ob474, ob475, ob476, ob477, ob478, ob479, ob480, ob481, ob482, ob483, ob484, ob485, ob486, ob487, ob488, ob489, ob490, ob491, ob492, ob493, ob494, ob495, ob496, ob497, ob498, ob499, ob500, ob501, ob502, ob503, ob504, ob505, ob506, ob507, ob508, ob509, ob510, ob511, ob512, ob513, ob514, ob515, ob516, ob517, ob518, ob519, ob520, ob521, ob522, ob523, ob524, ob525, ob526, ob527, ob528, ob529, ob530, ob531, ob532, ob533, ob534, ob535, ob536, ob537, ob538, ob539, ob540, ob541, ob542, ob543, ob544, ob545, ob546, ob547, ob548, ob549, ob550, ob551, ob552, ob553, ob554, ob555, ob556, ob557, ob558, ob559, ob560, ob561, ob562, ob563, ob564, ob565, ob566]⟩, {}⟩
set_option maxHeartbeats 0 in
theorem pc_pre (w : World) (os : OsState) : topGo treeTable PySem.Challenge.pw_sumcraft_k53_what_terms_are_worth w 11 (some (.ref 6)) 12 (⟨boot_heap w.params, Array.mk [], boot_drawn, boot_toks, os⟩ : Shared) (topStub PySem.Challenge.pw_sumcraft_k53_what_terms_are_worth) = some ((⟨hp1 w.params, #[], {}, 187, os⟩ : Shared), ⟨denote treeTable cd0, cd0, { line := 0, col := 0, endLine := 0, endCol := 0 }, fr0⟩) := by kernel_rfl
set_option maxHeartbeats 0 in
theorem pc_blk (w : World) (os : OsState) : segRun treeTable PySem.Challenge.pw_sumcraft_k53_what_terms_are_worth w 11 (some (.ref 6)) 1 1 (⟨hp1 w.params, #[], {}, 187, os⟩ : Shared) (blockOf (behindTheImports PySem.Challenge.pw_sumcraft_k53_what_terms_are_worth) env0 cd0 { line := 0, col := 0, endLine := 0, endCol := 0 } fr0) = some (.next, (⟨hp1 w.params, #[], {}, 187, os⟩ : Shared), cd0, { line := 0, col := 0, endLine := 0, endCol := 0 }) := by kernel_rfl
def gl3 : List Stmt := [top 0, top 1, top 2, top 3, top 4, top 5, top 6, top 7, top 8, top 9, top 10, top 11, top 12, top 13, top 14, top 15, top 16, top 17, top 18, top 19, top 20, top 21, top 22, top 23, top 24]
set_option maxHeartbeats 0 in
theorem pc3 (w : World) (os : OsState) : segRun treeTable PySem.Challenge.pw_sumcraft_k53_what_terms_are_worth w 11 (some (.ref 6)) 1 1468 (⟨hp1 w.params, #[], {}, 187, os⟩ : Shared) (piecesOf gl3 env0 cd0 { line := 0, col := 0, endLine := 0, endCol := 0 } fr0) = some (.next, (⟨hp3 w.params, #[], {}, 450, os⟩ : Shared), cd0, { line := 89, col := 0, endLine := 104, endCol := 21 }) := by kernel_rfl
def gl4 : List Stmt := [top 25, top 26, top 27, top 28]
set_option maxHeartbeats 0 in
theorem pc4 (w : World) (os : OsState) : segRun treeTable PySem.Challenge.pw_sumcraft_k53_what_terms_are_worth w 11 (some (.ref 6)) 1 1472 (⟨hp3 w.params, #[], {}, 450, os⟩ : Shared) (piecesOf gl4 env0 cd0 { line := 89, col := 0, endLine := 104, endCol := 21 } fr0) = some (.next, (⟨hp4 w.params, #[], {}, 685, os⟩ : Shared), cd0, { line := 167, col := 0, endLine := 179, endCol := 83 }) := by kernel_rfl
def gl5 : List Stmt := [top 29, top 30, top 31, top 32, top 33, top 34, top 35, top 36, top 37, top 38, top 39, top 40, top 41, top 42, top 43, top 44, top 45, top 46, top 47, top 48, top 49, top 50, top 51, top 52, top 53, top 54, top 55, top 56, top 57, top 58]
set_option maxHeartbeats 0 in
theorem pc5 (w : World) (os : OsState) : segRun treeTable PySem.Challenge.pw_sumcraft_k53_what_terms_are_worth w 11 (some (.ref 6)) 1 1112 (⟨hp4 w.params, #[], {}, 685, os⟩ : Shared) (piecesOf gl5 env0 cd0 { line := 167, col := 0, endLine := 179, endCol := 83 } fr0) = some (.next, (⟨hp5 w.params, #[], {}, 959, os⟩ : Shared), cd0, { line := 364, col := 0, endLine := 383, endCol := 111 }) := by kernel_rfl
set_option maxHeartbeats 0 in
theorem pc_fin (w : World) (os : OsState) : topRun treeTable PySem.Challenge.pw_sumcraft_k53_what_terms_are_worth w 11 (some (.ref 6)) 2 (⟨hp5 w.params, #[], {}, 959, os⟩ : Shared) ⟨doneF .next, cd0, { line := 364, col := 0, endLine := 383, endCol := 111 }, fr0⟩ = some (⟨hp5 w.params, #[], {}, 959, os⟩ : Shared) := by kernel_rfl
theorem body_is : behindTheImports PySem.Challenge.pw_sumcraft_k53_what_terms_are_worth = gl3 ++ (gl4 ++ (gl5 ++ [])) := by kernel_rfl
theorem run0 (w : World) (os : OsState) : topRun treeTable PySem.Challenge.pw_sumcraft_k53_what_terms_are_worth w 11 (some (.ref 6)) (12 + (1 + (1468 + (1472 + (1112 + 2))))) (⟨boot_heap w.params, Array.mk [], boot_drawn, boot_toks, os⟩ : Shared) (topStub PySem.Challenge.pw_sumcraft_k53_what_terms_are_worth) = some (⟨hp5 w.params, #[], {}, 959, os⟩ : Shared) :=
  go_top (pc_pre w os) (piece_block (pc_blk w os) (by
    rw [body_is]
    exact piece_app (pc3 w os) (piece_app (pc4 w os) (piece_app (pc5 w os) (piece_nil (pc_fin w os))))))
def KK (P : Params) : Frag := [(3, ob3'' P), (17, ob17 P), (23, ob23 P), (24, ob24), (30, ob30 P), (36, ob36 P), (37, ob37), (42, ob42 P), (48, ob48 P), (49, ob49), (90, ob90), (91, ob91), (97, ob97), (98, ob98), (104, ob104), (105, ob105), (111, ob111), (112, ob112), (123, ob123), (124, ob124), (130, ob130), (131, ob131), (137, ob137), (138, ob138), (144, ob144), (145, ob145), (148, ob148 P), (158, ob158), (159, ob159), (189, ob189 P), (190, ob190'), (197, ob197 P), (207, ob207), (208, ob208), (212, ob212), (213, ob213), (219, ob219), (220, ob220), (245, ob245), (246, ob246), (248, ob248 P), (249, ob249), (254, ob254 P), (264, ob264), (265, ob265), (271, ob271), (272, ob272), (281, ob281 P), (282, ob282), (287, ob287 P), (297, ob297), (298, ob298), (304, ob304), (305, ob305), (328, ob328 P), (329, ob329), (334, ob334 P), (344, ob344), (345, ob345), (351, ob351), (352, ob352), (368, ob368 P), (369, ob369), (372, ob372), (373, ob373), (374, ob374), (378, ob378), (379, ob379), (385, ob385), (386, ob386), (392, ob392), (393, ob393), (399, ob399), (400, ob400), (406, ob406), (407, ob407), (410, ob410 P), (418, ob418), (419, ob419), (425, ob425), (426, ob426), (430, ob430), (431, ob431), (443, ob443 P), (444, ob444), (454, ob454), (455, ob455), (461, ob461), (462, ob462), (468, ob468), (469, ob469), (475, ob475), (476, ob476), (482, ob482), (483, ob483), (489, ob489), (490, ob490), (496, ob496), (497, ob497), (501, ob501), (502, ob502), (506, ob506), (507, ob507), (513, ob513), (514, ob514), (520, ob520), (521, ob521), (527, ob527), (528, ob528), (534, ob534), (535, ob535), (541, ob541), (542, ob542), (548, ob548), (549, ob549), (555, ob555), (556, ob556), (560, ob560), (561, ob561), (565, ob565), (566, ob566)]
def KA : List Addr := [3, 17, 23, 24, 30, 36, 37, 42, 48, 49, 90, 91, 97, 98, 104, 105, 111, 112, 123, 124, 130, 131, 137, 138, 144, 145, 148, 158, 159, 189, 190, 197, 207, 208, 212, 213, 219, 220, 245, 246, 248, 249, 254, 264, 265, 271, 272, 281, 282, 287, 297, 298, 304, 305, 328, 329, 334, 344, 345, 351, 352, 368, 369, 372, 373, 374, 378, 379, 385, 386, 392, 393, 399, 400, 406, 407, 410, 418, 419, 425, 426, 430, 431, 443, 444, 454, 455, 461, 462, 468, 469, 475, 476, 482, 483, 489, 490, 496, 497, 501, 502, 506, 507, 513, 514, 520, 521, 527, 528, 534, 535, 541, 542, 548, 549, 555, 556, 560, 561, 565, 566]
def qv : Program := view PySem.Challenge.pw_sumcraft_k53_what_terms_are_worth [1, 2, 3, 5, 6, 7, 8, 10, 11, 12, 13, 14, 16, 17, 18, 19, 20, 21, 22, 23, 24, 25, 26, 27, 28, 30, 31, 32, 33, 34, 35, 36, 37, 38, 39, 41, 42, 43, 44, 45, 46, 47, 48, 49, 50, 51, 52, 53, 54, 55, 56, 57, 58]
def xt (s : Shared) : Bool := xlAt qv [] s && recOk (PySem.Challenge.rw_sumcraft_k53_what_terms_are_worth.row.toRowW).records s
def hk : Hook := kHook KK KA fun _ => rfl
set_option maxHeartbeats 0 in
theorem left : LeftO PySem.Challenge.pw_sumcraft_k53_what_terms_are_worth qv [] xt hk.obs hk.val 8224 :=
  LeftO.of_pieces (H₀ := boot_heap) (H₁ := hp5) (gs₁ := #[]) (d₁ := {}) (k₁ := 959)
    (boot_open (by kernel_rfl) rfl fun s => by kernel_rfl)
    (fun w => by kernel_rfl) run0 (by kernel_rfl)
    fun w => by kernel_rfl
set_option maxHeartbeats 0 in
theorem h_well : PySem.Challenge.rw_sumcraft_k53_what_terms_are_worth.wellSaid = true := by kernel_rfl
set_option maxHeartbeats 0 in
theorem h_bare : PySem.Challenge.rw_sumcraft_k53_what_terms_are_worth.row.prog.bare := ⟨rfl, rfl, rfl, rfl, rfl, by decide +kernel⟩
end My
namespace L2
open PySem PySem.Spec PyProof.Rows
abbrev Key := Sum Int Str
def keyIs : Key → Value → Bool
  | .inl k, v => Value.isInt k v
  | .inr x, v => Value.isStrOf x v
def keyH (w : World) : Key → Int
  | .inl k => hashInt k
  | .inr x => hashStr w x
theorem keyIs_shape : ∀ {k : Key} {v : Value}, keyIs k v = true → (∃ i t, k = Sum.inl i ∧ v = Value.int i t) ∨ (∃ x t, k = Sum.inr x ∧ v = Value.str x t)
  | .inl i, v, h => by
    obtain ⟨t, e⟩ := Value.isInt_shape (k := i) (v := v) h
    exact .inl ⟨i, t, rfl, e⟩
  | .inr x, v, h => by
    obtain ⟨t, e⟩ := Value.isStrOf_shape (x := x) (v := v) h
    exact .inr ⟨x, t, rfl, e⟩
theorem key_ll (a b : Int) : decide ((Sum.inl a : Key) = Sum.inl b) = (a == b) := by
  by_cases e : a = b
  · subst e; simp
  · have h : ¬ (Sum.inl a : Key) = Sum.inl b := fun q => e (Sum.inl.inj q)
    rw [decide_eq_false h]
    exact (beq_eq_false_iff_ne.mpr e).symm
theorem key_rr (a b : Str) : decide ((Sum.inr a : Key) = Sum.inr b) = decide (a = b) := by
  by_cases e : a = b
  · subst e; simp
  · have h : ¬ (Sum.inr a : Key) = Sum.inr b := fun q => e (Sum.inr.inj q)
    rw [decide_eq_false h, decide_eq_false e]
theorem key_lr (a : Int) (b : Str) : decide ((Sum.inl a : Key) = Sum.inr b) = false := decide_eq_false (fun q => nomatch q)
theorem key_rl (a : Str) (b : Int) : decide ((Sum.inr a : Key) = Sum.inl b) = false := decide_eq_false (fun q => nomatch q)
def mixKind (prog : Program) (w : World) : PySem.KeyKind prog w Key where
  is := keyIs
  hash := keyH w
  inj := fun v a b ha hb => by
    rcases keyIs_shape ha with ⟨i, t, rfl, rfl⟩ | ⟨x, t, rfl, rfl⟩
    · rcases keyIs_shape hb with ⟨j, u, rfl, e⟩ | ⟨y, u, rfl, e⟩
      · injection e with e1 _; rw [e1]
      · exact nomatch e
    · rcases keyIs_shape hb with ⟨j, u, rfl, e⟩ | ⟨y, u, rfl, e⟩
      · exact nomatch e
      · injection e with e1 _; rw [e1]
  byValue := fun k v h => by
    rcases keyIs_shape h with ⟨i, t, rfl, rfl⟩ | ⟨x, t, rfl, rfl⟩ <;> rfl
  pyHash := fun hv h => by
    rcases keyIs_shape hv with ⟨i, t, rfl, rfl⟩ | ⟨x, t, rfl, rfl⟩
    · exact wpAny_pyHash_int h
    · exact wpAny_pyHash_str h
  eqBool := fun hu hv h => by
    rcases keyIs_shape hu with ⟨i, t, rfl, rfl⟩ | ⟨x, t, rfl, rfl⟩
    · rcases keyIs_shape hv with ⟨j, u, rfl, rfl⟩ | ⟨y, u, rfl, rfl⟩
      · rw [key_ll] at h; exact wpAny_eqBool_int h
      · rw [key_lr] at h; exact SeqAt.EqAt.int_str i t y u _ _ _ _ h
    · rcases keyIs_shape hv with ⟨j, u, rfl, rfl⟩ | ⟨y, u, rfl, rfl⟩
      · rw [key_rl] at h; exact SeqAt.EqAt.str_int x t j u _ _ _ _ h
      · rw [key_rr] at h; exact wpAny_eqBool_str h
  «strs» := fun k x t v h => by
    rcases keyIs_shape h with ⟨i, u, rfl, e⟩ | ⟨y, u, rfl, e⟩
    · exact nomatch e
    · injection e with e1 _
      subst e1
      cases v <;> rfl
end L2
namespace L2
open PySem PySem.Spec PyProof.Rows
inductive V where
  | non | bl (b : Bool) | int (i : Int) | str (x : Str) | byt (b : Array UInt8) | flt (b : UInt64) | ref (a : Addr) | ty (n : String)
  deriving DecidableEq
def RelV : V → Value → Prop
  | .non, u => u = Value.none
  | .bl b, u => u = Value.bool b
  | .int i, u => ∃ t, u = Value.int i t
  | .str x, u => ∃ t, u = Value.str x t
  | .byt b, u => ∃ t, u = Value.bytes b t
  | .flt b, u => ∃ t, u = Value.float b t
  | .ref a, u => u = Value.ref a
  | .ty n, u => u = Value.type n
abbrev Vals : List V → List Value → Prop := Paired RelV
theorem Vals.length {xs : List V} {us : List Value} (r : Vals xs us) : xs.length = us.length := Paired.length r
theorem Vals.get : ∀ {xs : List V} {us : List Value} {i : Nat} {x : V}, Vals xs us → xs[i]? = some x → ∃ u, us[i]? = some u ∧ RelV x u
  | _, _, _, _, .nil, e => by simp at e
  | _, _, 0, _, .cons r _, e => by simp at e; subst e; exact ⟨_, rfl, r⟩
  | _, _, i + 1, x, .cons _ t, e => by
    obtain ⟨u, h1, h2⟩ := Vals.get (i := i) (x := x) t (by simpa using e)
    exact ⟨u, by simpa using h1, h2⟩
theorem Vals.append : ∀ {xs ys : List V} {us ws : List Value}, Vals xs us → Vals ys ws → Vals (xs ++ ys) (us ++ ws)
  | _, _, _, _, .nil, s => s
  | _, _, _, _, .cons r t, s => .cons r (Vals.append t s)
theorem Vals.take : ∀ {xs : List V} {us : List Value} (n : Nat), Vals xs us → Vals (xs.take n) (us.take n)
  | _, _, 0, _ => .nil
  | _, _, _ + 1, .nil => .nil
  | _, _, n + 1, .cons r t => .cons r (Vals.take n t)
theorem Vals.drop : ∀ {xs : List V} {us : List Value} (n : Nat), Vals xs us → Vals (xs.drop n) (us.drop n)
  | _, _, 0, r => r
  | _, _, _ + 1, .nil => .nil
  | _, _, n + 1, .cons _ t => Vals.drop n t
def RelO : Option V → Option Value → Prop
  | some v, some u => RelV v u
  | none, none => True
  | _, _ => False
def KV {κ : Type} : List (κ × V) → List (κ × Value) → Prop := Paired fun (p : κ × V) (q : κ × Value) => p.1 = q.1 ∧ RelV p.2 q.2
def kV : Key → V
  | .inl i => .int i
  | .inr x => .str x
inductive HO where
    | lst (xs : List V)
    | tup (xs : List V)
    | dK (kvs : List (Key × V)) | dT (kvs : List (List Key × V))
    | set (S : Int → Bool) (n : Nat)
    | ins (C dx : Addr) (fs : List (Str × V))
    | own (x : Addr)
    | xd (fs : List (Str × V))
    | met (f x : Addr)
    | rng (lo hi : Int)
    | frz (o : Obj) (u : HO)
    | tbl (ps : Array Value)
    | ext (φ : Heap → Prop)
abbrev Hp := Addr → Option HO
def upd (H : Hp) (a : Addr) (o : HO) : Hp := fun b => if b = a then some o else H b
theorem upd_same {H : Hp} {a : Addr} {o : HO} : upd H a o a = some o := by unfold upd; rw [if_pos rfl]
theorem upd_ne {H : Hp} {a b : Addr} {o : HO} (h : b ≠ a) : upd H a o b = H b := by unfold upd; rw [if_neg h]
theorem ne_of {H : Hp} {a b : Addr} {o u : HO} (h : H a = some o) (h' : H b = some u) (d : o ≠ u) : a ≠ b := by
  intro e; subst e; rw [h] at h'; exact d (Option.some.inj h')
theorem ne_of_none {H : Hp} {a b : Addr} {o : HO} (h : H a = some o) (h' : H b = none) : a ≠ b := by
  intro e; subst e; rw [h] at h'; cases h'
section
variable (P : Program) (w : World)
def ObjOk (H : Hp) (h : Heap) (a : Addr) : HO → Prop
  | .lst xs => xs.length ≤ sizeLine ∧ ∃ (its : List Value) (n : Nat), Vals xs its ∧ h.get? a = some { cls := .type "list", data := .seq its.toArray n }
  | .tup xs => xs.length ≤ sizeLine ∧ ∃ its : List Value, Vals xs its ∧ IsTup h a its.toArray
  | .dK kvs => kvs.length ≤ sizeLine ∧ (a == sysModules) = false ∧ ∃ vs, KV kvs vs ∧ h.DictOf (mixKind P w) a vs
  | .dT kvs => kvs.length ≤ sizeLine ∧ (a == sysModules) = false ∧ ∃ xs : List (List Key × Addr × Value),
      Paired (fun (p : List Key × V) (q : List Key × Addr × Value) => p.1 = q.1 ∧ H q.2.1 = some (.tup (p.1.map kV)) ∧ RelV p.2 q.2.2) kvs xs ∧
      ∃ o es ep, h.get? a = some o ∧ o.ExactDict ∧ o.data = .dict es ep ∧ es.toList = xs.map (entryOfKey (tupleKind (mixKind P w))) ∧ (xs.map (·.1)).Nodup
  | .set S n => h.SetOf (intKind P w) a S n
  | .ins C dx fs => H dx = some (.own a) ∧ fs.length ≤ 1000 ∧ dx ≠ a ∧ h.get? a = some (PySem.W.instObj C dx) ∧
      ∃ mA, h.Ns1 dx mA ∧ (∀ f, RelO (fs.lookup f) (mA f)) ∧ PySem.Within mA (fs.map (·.1))
  | .own _ => ∃ o, h.get? a = some o
  | .xd fs => ∃ mA, h.Ns1 a mA ∧ ∀ f, RelO (fs.lookup f) (mA f)
  | .rng lo hi => ∃ t u v, h.get? a = some { cls := .type "range", data := .fields #[.int lo t, .int hi u, .int 1 v] }
  | .frz o u => h.get? a = some o ∧ ObjOk H h a u
  | .tbl ps => h.get? a = some { cls := .none, data := .fields ps }
  | .met f x => h.get? a = some (PySem.W.methodObj (.ref f) (.ref x))
  | .ext φ => φ h ∧ (∃ o, h.get? a = some o) ∧ ∀ h1 h2 : Heap, φ h1 → (∀ o, h1.get? a = some o → h2.get? a = some o) → φ h2
def HOk (H : Hp) (h : Heap) : Prop := ∀ a o, H a = some o → ObjOk P w H h a o
end
section
variable {P : Program} {w : World} {H H' : Hp} {h h' : Heap} {a : Addr} {o : HO}
theorem ObjOk.lt (x : ObjOk P w H h a o) : a < h.objs.size := by
  cases o with
  | lst xs => obtain ⟨_, _, _, _, e⟩ := x; exact Heap.lt_size e
  | tup xs => obtain ⟨_, _, _, p⟩ := x; exact p.lt
  | dK kvs => obtain ⟨_, _, _, _, o, _, _, e, _⟩ := x; exact Heap.lt_size e
  | dT kvs => obtain ⟨_, _, _, _, o, _, _, e, _⟩ := x; exact Heap.lt_size e
  | set S n => obtain ⟨o, _, _, _, e, _⟩ := x; exact Heap.lt_size e
  | ins C dx fs => obtain ⟨_, _, _, e, _⟩ := x; exact Heap.lt_size e
  | own y => obtain ⟨_, e⟩ := x; exact Heap.lt_size e
  | xd fs => obtain ⟨_, ⟨_, _, _, e, _⟩, _⟩ := x; exact Heap.lt_size e
  | rng lo hi => obtain ⟨_, _, _, e⟩ := x; exact Heap.lt_size e
  | frz ob u => obtain ⟨e, _⟩ := x; exact Heap.lt_size e
  | tbl ps => exact Heap.lt_size (show h.get? a = some _ from x)
  | met f y => exact Heap.lt_size (show h.get? a = some _ from x)
  | ext φ => obtain ⟨_, ⟨_, e⟩, _⟩ := x; exact Heap.lt_size e
theorem Paired.mapP {α β : Type} {F G : α → β → Prop} : ∀ {l₁ : List α} {l₂ : List β}, Paired F l₁ l₂ → (∀ a b, F a b → G a b) → Paired G l₁ l₂
  | _, _, .nil, _ => .nil
  | _, _, .cons r t, f => .cons (f _ _ r) (Paired.mapP t f)
theorem ObjOk.stay (x : ObjOk P w H h a o) (k : ∀ b u, (b = a ∨ H b = some (.own a)) → h.get? b = some u → h'.get? b = some u)
    (ho : ∀ b, H b = some (.own a) → H' b = some (.own a)) (ht : ∀ b xs, H b = some (.tup xs) → H' b = some (.tup xs)) : ObjOk P w H' h' a o := by
  induction o with
  | lst xs => obtain ⟨z, its, n, r, e⟩ := x; exact ⟨z, its, n, r, k _ _ (.inl rfl) e⟩
  | tup xs => obtain ⟨z, its, r, ob, e, c⟩ := x; exact ⟨z, its, r, ob, k _ _ (.inl rfl) e, c⟩
  | dK kvs => obtain ⟨z, y, vs, r, ob, es, ep, e, c⟩ := x; exact ⟨z, y, vs, r, ob, es, ep, k _ _ (.inl rfl) e, c⟩
  | dT kvs =>
    obtain ⟨z, y, xs, r, ob, es, ep, e, c⟩ := x
    exact ⟨z, y, xs, Paired.mapP r fun p q z => ⟨z.1, ht _ _ z.2.1, z.2.2⟩, ob, es, ep, k _ _ (.inl rfl) e, c⟩
  | set S n => obtain ⟨ob, es, ep, t, e, c⟩ := x; exact ⟨ob, es, ep, t, k _ _ (.inl rfl) e, c⟩
  | ins C dx fs =>
    obtain ⟨d, z, ne, e, mA, ⟨od, es, ep, e2, c⟩, r⟩ := x
    exact ⟨ho _ d, z, ne, k _ _ (.inl rfl) e, mA, ⟨od, es, ep, k _ _ (.inr d) e2, c⟩, r⟩
  | own y => obtain ⟨ob, e⟩ := x; exact ⟨ob, k _ _ (.inl rfl) e⟩
  | xd fs => obtain ⟨mA, ⟨od, es, ep, e, c⟩, r⟩ := x; exact ⟨mA, ⟨od, es, ep, k _ _ (.inl rfl) e, c⟩, r⟩
  | rng lo hi => obtain ⟨t, u, v, e⟩ := x; exact ⟨t, u, v, k _ _ (.inl rfl) e⟩
  | frz ob u ih => obtain ⟨e, q⟩ := x; exact ⟨k _ _ (.inl rfl) e, ih q⟩
  | tbl ps =>
    have e : h.get? a = some { cls := .none, data := .fields ps } := x
    show h'.get? a = some { cls := .none, data := .fields ps }
    exact k a _ (.inl rfl) e
  | met f y =>
    have e : h.get? a = some (PySem.W.methodObj (.ref f) (.ref y)) := x
    show h'.get? a = some (PySem.W.methodObj (.ref f) (.ref y))
    exact k a _ (.inl rfl) e
  | ext φ => obtain ⟨p, ⟨o, e⟩, st⟩ := x; exact ⟨st _ _ p fun o q => k _ _ (.inl rfl) q, ⟨o, k _ _ (.inl rfl) e⟩, st⟩
theorem HOk.lt (x : HOk P w H h) (e : H a = some o) : a < h.objs.size := (x a o e).lt
theorem HOk.fresh (x : HOk P w H h) (e : h.objs.size ≤ a) : H a = none := by
  cases q : H a with
  | none => rfl
  | some u => exact absurd (Nat.lt_of_lt_of_le (x.lt q) e) (Nat.lt_irrefl _)
theorem HOk.kept (x : HOk P w H h) (k : ∀ b u, h.get? b = some u → h'.get? b = some u) : HOk P w H h' := fun a o e =>
  (x a o e).stay (fun b u _ q => k b u q) (fun _ q => q) fun _ _ q => q
theorem HOk.laid (x : HOk P w H h) (k : ∀ b u, h.get? b = some u → h'.get? b = some u) (hp : h.objs.size ≤ a) (new : ObjOk P w (upd H a o) h' a o) : HOk P w (upd H a o) h' := fun b u e => by
  have hn := x.fresh hp
  by_cases hb : b = a
  · subst hb; rw [upd_same] at e; cases e; exact new
  · rw [upd_ne hb] at e
    exact (x b u e).stay (fun c v _ q => k c v q) (fun c q => by rw [upd_ne (ne_of_none q hn)]; exact q) fun c xs q => by rw [upd_ne (ne_of_none q hn)]; exact q
end
def Rd (H : Hp) (a : Addr) (u : HO) : Prop := H a = some u ∨ ∃ o, H a = some (.frz o u)
theorem Rd.ok {P : Program} {w : World} {H : Hp} {h : Heap} {a : Addr} {u : HO} (r : Rd H a u) (x : HOk P w H h) : ObjOk P w H h a u := by
  rcases r with r | ⟨o, r⟩
  · exact x a u r
  · obtain ⟨_, q⟩ := x a _ r
    exact q
def Mut : Option HO → Prop
  | some (.lst _) => True
  | some (.dK _) => True
  | some (.dT _) => True
  | some (.set _ _) => True
  | some (.ins _ _ _) => True
  | some (.ext _) => True
  | _ => False
section
variable {P : Program} {w : World} {H : Hp} {h h' : Heap} {x e : Addr} {o' : HO}
theorem HOk.write (ok : HOk P w H h) (mu : Mut (H x)) (he : e = x ∨ H e = some (.own x)) (k : ∀ b u, b ≠ e → h.get? b = some u → h'.get? b = some u) (heo : ∃ u, h'.get? e = some u)
    (new : ObjOk P w (upd H x o') h' x o') : HOk P w (upd H x o') h' := fun b u q => by
  have nown : ∀ c y, H c = some (.own y) → c ≠ x := fun c y r z => by subst z; rw [r] at mu; exact mu
  have ntup : ∀ c xs, H c = some (.tup xs) → c ≠ x := fun c xs r z => by subst z; rw [r] at mu; exact mu
  by_cases hb : b = x
  · subst hb; rw [upd_same] at q; cases q; exact new
  · rw [upd_ne hb] at q
    by_cases hbe : b = e
    · have q' : H b = some (.own x) := by
        rcases he with z | z
        · exact absurd (hbe.trans z) hb
        · rw [hbe]; exact z
      rw [q] at q'; cases q'
      obtain ⟨v, hv⟩ := heo
      exact ⟨v, by rw [hbe]; exact hv⟩
    · refine (ok b u q).stay (fun c v hc r => k c v ?_ r) (fun c r => by rw [upd_ne (nown c b r)]; exact r) fun c xs r => by rw [upd_ne (ntup c xs r)]; exact r
      rcases hc with rfl | hc
      · exact hbe
      · rintro rfl
        rcases he with z | z
        · exact nown c b hc z
        · rw [hc] at z; cases z; exact hb rfl
end
structure Un (fs ex : List Addr) (H H' : Hp) (h h' : Heap) : Prop where
  keep : ∀ b o, h.get? b = some o → H b = none → b ∉ fs → b ∉ ex → h'.get? b = some o
  slot : ∀ b o, h.get? b = some o → H b = none → b ∈ fs → b ∉ ex → ∃ sl, h'.get? b = some { o with slots := sl }
  free : ∀ b o, h.get? b = some o → H b = none → b ∉ ex → H' b = none
  there : ∀ b o, h.get? b = some o → b ∉ ex → ∃ o', h'.get? b = some o'
  tups : ∀ b xs, H b = some (.tup xs) → H' b = some (.tup xs)
  frzs : ∀ b o u, H b = some (.frz o u) → H' b = some (.frz o u)
  tbls : ∀ b ps, H b = some (.tbl ps) → ∃ more, H' b = some (.tbl (ps ++ more))
section
variable {fs fs' ex ex' : List Addr} {H H1 H2 : Hp} {h h1 h2 h' : Heap} {a x e : Addr} {o : HO}
theorem Un.any (u : Un fs ex H H1 h h1) {b : Addr} {ob : Obj} (q : h.get? b = some ob) (n : H b = none) (hx : b ∉ ex) : ∃ sl, h1.get? b = some { ob with slots := sl } := by
  by_cases hb : b ∈ fs
  · exact u.slot b ob q n hb hx
  · exact ⟨ob.slots, u.keep b ob q n hb hx⟩
theorem Un.trans (a : Un fs ex H H1 h h1) (b : Un fs ex H1 H2 h1 h2) : Un fs ex H H2 h h2 where
  keep := fun c ob q n hc hx => b.keep c ob (a.keep c ob q n hc hx) (a.free c ob q n hx) hc hx
  slot := fun c ob q n hc hx => by
    obtain ⟨sl, e1⟩ := a.slot c ob q n hc hx
    obtain ⟨sl', e2⟩ := b.slot c _ e1 (a.free c ob q n hx) hc hx
    exact ⟨sl', e2⟩
  free := fun c ob q n hx => by
    obtain ⟨o', e1⟩ := a.there c ob q hx
    exact b.free c o' e1 (a.free c ob q n hx) hx
  there := fun c ob q hx => by
    obtain ⟨o', e1⟩ := a.there c ob q hx
    exact b.there c o' e1 hx
  tups := fun c xs q => b.tups c xs (a.tups c xs q)
  frzs := fun c ob xs q => b.frzs c ob xs (a.frzs c ob xs q)
  tbls := fun c ps q => by
    obtain ⟨m1, e1⟩ := a.tbls c ps q
    obtain ⟨m2, e2⟩ := b.tbls c _ e1
    exact ⟨m1 ++ m2, by rw [e2, Array.append_assoc]⟩
theorem Un.kept (k : ∀ b u, h.get? b = some u → h'.get? b = some u) : Un fs ex H H h h' :=
  ⟨fun b ob q _ _ _ => k b ob q, fun b ob q _ _ _ => ⟨ob.slots, k b ob q⟩, fun _ _ _ n _ => n, fun b ob q _ => ⟨ob, k b ob q⟩, fun _ _ q => q, fun _ _ _ q => q, fun _ ps q => ⟨#[], by rw [q]; simp⟩⟩
theorem Un.refl : Un fs ex H H h h := Un.kept fun _ _ q => q
theorem Un.laid (k : ∀ b u, h.get? b = some u → h'.get? b = some u) (hp : h.objs.size ≤ a) (hn : H a = none) : Un fs ex H (upd H a o) h h' where
  keep := fun b u q _ _ _ => k b u q
  slot := fun b u q _ _ _ => ⟨u.slots, k b u q⟩
  free := fun b u q n _ => by rw [upd_ne (Nat.ne_of_lt (Nat.lt_of_lt_of_le (Heap.lt_size q) hp))]; exact n
  there := fun b u q _ => ⟨u, k b u q⟩
  tups := fun b xs q => by rw [upd_ne (ne_of_none q hn)]; exact q
  frzs := fun b u xs q => by rw [upd_ne (ne_of_none q hn)]; exact q
  tbls := fun b ps q => ⟨#[], by rw [upd_ne (ne_of_none q hn), q]; simp⟩
theorem Un.write (mu : Mut (H x)) (he : e = x ∨ H e = some (.own x)) (k : ∀ b u, b ≠ e → h.get? b = some u → h'.get? b = some u) (heo : ∃ u, h'.get? e = some u) : Un fs ex H (upd H x o) h h' := by
  have hx : ∀ b, H b = none → b ≠ x := fun b n z => by subst z; rw [n] at mu; exact mu
  have hb : ∀ b, H b = none → b ≠ e := fun b n z => by
    subst z
    rcases he with r | r
    · exact hx b n r
    · rw [n] at r; cases r
  have hm : ∀ b u, H b = some u → ¬ Mut (some u) → b ≠ x := fun b u q nm z => by subst z; rw [q] at mu; exact nm mu
  refine ⟨fun b u q n _ _ => k b u (hb b n) q, fun b u q n _ _ => ⟨u.slots, k b u (hb b n) q⟩, fun b u q n _ => by rw [upd_ne (hx b n)]; exact n, fun b u q _ => ?_,
    fun b xs q => by rw [upd_ne (hm b _ q fun z => z)]; exact q, fun b u xs q => by rw [upd_ne (hm b _ q fun z => z)]; exact q, fun b ps q => ⟨#[], by rw [upd_ne (hm b _ q fun z => z), q]; simp⟩⟩
  by_cases hbe : b = e
  · subst hbe; exact heo
  · exact ⟨u, k b u hbe q⟩
end
def trk (h : Heap) (H : Hp) : List Addr := (List.range h.objs.size).filter fun a => (H a).isSome
def hidT (h : Heap) (H : Hp) : Heap := PySem.W.hideAll h (trk h H)
theorem hidT_size (h : Heap) (H : Hp) : (hidT h H).objs.size = h.objs.size := PySem.W.hideAll_size _ _
theorem hidT_get {h : Heap} {H : Hp} {b : Addr} {o : Obj} (e : h.get? b = some o) (n : H b = none) : (hidT h H).get? b = some o :=
  PySem.W.hideAll_get _ e fun hm => by
    have q : (H b).isSome = true := (List.mem_filter.mp hm).2
    rw [n] at q; simp at q
theorem of_hidT {h : Heap} {H : Hp} {b : Addr} {o : Obj} (e : (hidT h H).get? b = some o) : h.get? b = some o ∧ H b = none := by
  have e' : h.get? b = some o := PySem.W.of_hideAll (trk h H) e
  refine ⟨e', ?_⟩
  cases q : H b with
  | none => rfl
  | some x =>
    have hm : b ∈ trk h H := List.mem_filter.mpr ⟨List.mem_range.mpr (Heap.lt_size e'), by simp [q]⟩
    have z : (hidT h H).get? b = none := PySem.W.hideAll_none (trk h H) hm
    rw [z] at e; cases e
def allNews (g h : Heap) (L : Addr) : List (Addr × Obj) := (List.range h.objs.size).filterMap fun a => if a = L ∨ (g.get? a).isSome = true then none else (h.get? a).map fun o => (a, o)
def rest (g h : Heap) (L d : Addr) : List (Addr × Obj) := (allNews g h L).filter fun p => decide (p.1 ≠ d)
end L2
namespace L2
open PySem PySem.Spec PyProof.Rows
structure Mod (K : PySem.W.Frag) (mg : Str → Option Value) (base : Heap) : Prop where
  kin : K.In base
  glob : base.Ns mainGlobals mg
  blt : ∃ mb, base.Ns builtinsNs mb ∧ ∀ x : Str, x ≠ "__name__" → mb x = bootBuiltins x
  nolimit : base.NoLimit
structure Cx where
  prog : Program
  w : World
  K : PySem.W.Frag
  mg : Str → Option Value
  base : Heap
  A : Around
  N : List Str
  s₀ : Shared
  H₀ : Hp
  env : Env
  outer : List Env
  stack : List Env
  ex : List Addr
  fn : Str → Bool
  calm : Bool
  pn : List (Addr × Obj)
  xe : Value → Shared → Prop
def frs (l : List Env) : List Addr := l.filterMap (·.frame)
abbrev Cx.fs (X : Cx) : List Addr := frs X.outer
def Vis (sc : Scope) (x : Str) : Prop := sc.names.lookup x = some .local ∨ sc.names.lookup x = some .cell ∨ sc.names.lookup x = some .free
def Loc (sc : Scope) (x : Str) : Prop := sc.names.lookup x = some .local ∨ sc.names.lookup x = some .cell
def Look (env : Env) (h : Heap) (m : Str → Option Value) (x : Str) (u : Value) : Prop :=
  (env.kindOf x = some .local ∧ m x = some u) ∨ ((env.kindOf x = some .cell ∨ env.kindOf x = some .free) ∧ ∃ c, env.cells.lookup x = some c ∧ h.IsCell c (some u))
structure Cx.Ok (X : Cx) : Prop where
  mod : Mod X.K X.mg X.base
  kind : X.env.scope.kind = .function
  glob : X.env.globals = mainGlobals
  blt : X.env.builtins = builtinsNs
  above : X.s₀.heap.objs.size ≤ X.env.locals
  inj : ∀ x y c, X.env.cells.lookup x = some c → X.env.cells.lookup y = some c → x = y
  has : ∀ x, (X.env.kindOf x = some .cell ∨ X.env.kindOf x = some .free) → ∃ c, X.env.cells.lookup x = some c
  cab : ∀ x c, X.fn x = true → X.env.cells.lookup x = some c → X.s₀.heap.objs.size ≤ c
  hd : X.calm = true → X.A.handled = none
  frames : X.A.frames = some X.stack
  stk : X.stack = X.outer ∨ (X.stack = X.env :: X.outer ∧ X.env.frame = some X.env.locals)
  exf : ∀ b ∈ X.ex, b ≠ X.env.locals ∧ ∀ x c, X.env.cells.lookup x = some c → c ≠ b
  bs : ∀ b o, X.base.get? b = some o → X.s₀.heap.get? b = some o ∧ X.H₀ b = none
  bsz : X.base.objs.size ≤ X.s₀.heap.objs.size
  noex : ∀ b o, X.base.get? b = some o → b ∉ X.ex
  exfs : ∀ b ∈ X.ex, b ∉ X.fs
  funs : X.s₀.heap.FunFrames X.base X.outer
  frf : ∀ b ∈ X.fs, X.H₀ b = none
structure Inv (X : Cx) (pins : List (Addr × Obj)) (σ : List (Option V)) (H : Hp) (s : Shared) : Prop where
  ok : X.Ok
  os : s.os = X.s₀.os
  bare : AllBare s.gens
  base : Un X.fs X.ex X.H₀ H X.s₀.heap s.heap
  loc : ∃ m, s.heap.Ns X.env.locals m ∧ ∀ (i : Nat) (x : Str) (v : V), X.N[i]? = some x → σ[i]? = some (some v) → Vis X.env.scope x → ∃ u, RelV v u ∧ Look X.env s.heap m x u
  cell : ∀ x c, X.env.cells.lookup x = some c → ∃ v, s.heap.IsCell c v
  free : H X.env.locals = none
  freeC : ∀ x c, X.env.cells.lookup x = some c → H c = none
  pin : ∀ p ∈ X.pn ++ pins, s.heap.get? p.1 = some p.2 ∧ H p.1 = none ∧ p.1 ≠ X.env.locals ∧ p.1 ∉ X.fs ∧ ∀ v, p.2.data ≠ .cell v
  hok : HOk X.prog X.w H s.heap
  len : σ.length = X.N.length
section
variable {X : Cx} {pins : List (Addr × Obj)} {σ : List (Option V)} {H H' : Hp} {s : Shared} {h' : Heap}
theorem Cx.Ok.nofr (ok : X.Ok) {b : Addr} {o : Obj} (e : X.base.get? b = some o) : b ∉ X.fs := fun hb => by
  have := (ok.funs.mem hb).1
  rw [e] at this; cases this
theorem Inv.bs (I : Inv X pins σ H s) : ∀ b o, X.base.get? b = some o → s.heap.get? b = some o ∧ H b = none := fun b o e =>
  ⟨I.base.keep b o (I.ok.bs b o e).1 (I.ok.bs b o e).2 (I.ok.nofr e) (I.ok.noex b o e), I.base.free b o (I.ok.bs b o e).1 (I.ok.bs b o e).2 (I.ok.noex b o e)⟩
theorem Inv.bk (I : Inv X pins σ H s) : ∀ b o, X.base.get? b = some o → s.heap.get? b = some o := fun b o e => (I.bs b o e).1
theorem Inv.mod (I : Inv X pins σ H s) : Mod X.K X.mg X.base := I.ok.mod
theorem Inv.kIn (I : Inv X pins σ H s) : X.K.In s.heap := I.ok.mod.kin.keeps I.bk
theorem Inv.lt (I : Inv X pins σ H s) : X.env.locals < s.heap.objs.size := let ⟨_, hn, _⟩ := I.loc; hn.lt
theorem Inv.sz (I : Inv X pins σ H s) : X.s₀.heap.objs.size ≤ s.heap.objs.size := Nat.le_trans I.ok.above (Nat.le_of_lt I.lt)
theorem Inv.nofs (I : Inv X pins σ H s) {a : Addr} (h : s.heap.objs.size ≤ a) : a ∉ X.fs := fun hb => by
  obtain ⟨_, o, ho, _⟩ := I.ok.funs.mem hb
  exact absurd (Nat.lt_of_lt_of_le (Heap.lt_size ho) (Nat.le_trans I.sz h)) (Nat.lt_irrefl _)
theorem Inv.cne (I : Inv X pins σ H s) : ∀ x c, X.env.cells.lookup x = some c → c ≠ X.env.locals := fun x c e z => by
  obtain ⟨v, o, ho, hd⟩ := I.cell x c e
  obtain ⟨m, ⟨o', es, ep, ho', hd', _⟩, _⟩ := I.loc
  rw [z, ho'] at ho; cases ho; rw [hd'] at hd; cases hd
theorem Inv.funs (I : Inv X pins σ H s) : s.heap.FunFrames X.base X.outer := by
  have all : ∀ (l : List Env), (∀ b ∈ frs l, b ∈ X.fs) → X.s₀.heap.FunFrames X.base l → s.heap.FunFrames X.base l := by
    intro l
    induction l with
    | nil => intro _ _; trivial
    | cons env r ih =>
      intro hs hl
      obtain ⟨hk, ⟨L, o, hf, hn, ho, hd⟩, hr⟩ := hl
      have hL : L ∈ X.fs := hs L (by unfold frs; rw [List.filterMap_cons, hf]; exact List.mem_cons_self)
      obtain ⟨sl, e⟩ := I.base.slot L o ho (I.ok.frf L hL) hL fun z => I.ok.exfs L z hL
      exact ⟨hk, ⟨L, _, hf, hn, e, hd⟩, ih (fun b hb => hs b (by unfold frs; rw [List.filterMap_cons, hf]; exact List.mem_cons_of_mem _ hb)) hr⟩
  exact all X.outer (fun _ hb => hb) I.ok.funs
theorem Inv.stack (I : Inv X pins σ H s) : s.heap.FunFrames X.base X.stack := by
  rcases I.ok.stk with e | ⟨e, hf⟩
  · rw [e]; exact I.funs
  · rw [e]
    obtain ⟨m, hn, _⟩ := I.loc
    refine .cons (by rw [I.ok.kind]; decide) hf hn ?_ I.funs
    exact Heap.get?_none_of_le (Nat.le_trans I.ok.bsz I.ok.above)
theorem Inv.stkSub (I : Inv X pins σ H s) : ∀ b ∈ frs X.stack, b ∈ X.env.locals :: X.fs := fun b hb => by
  rcases I.ok.stk with e | ⟨e, hf⟩
  · rw [e] at hb; exact List.mem_cons_of_mem _ hb
  · rw [e] at hb
    unfold frs at hb
    rw [List.filterMap_cons, hf] at hb
    exact hb
theorem Inv.stkFree (I : Inv X pins σ H s) : ∀ b ∈ frs X.stack, H b = none := fun b hb => by
  rcases List.mem_cons.mp (I.stkSub b hb) with e | hb
  · rw [e]; exact I.free
  · obtain ⟨_, o, ho, _⟩ := I.ok.funs.mem hb
    exact I.base.free b o ho (I.ok.frf b hb) fun z => I.ok.exfs b z hb
theorem Inv.step {g' : Array GenState} {t' : Nat} {d' : Drawn} {ch : List Addr} (I : Inv X pins σ H s)
    (hch : ∀ b ∈ ch, (b ∈ X.ex ∨ X.s₀.heap.objs.size ≤ b) ∧ b ≠ X.env.locals ∧ (∀ x c, X.env.cells.lookup x = some c → c ≠ b) ∧ ∀ p ∈ X.pn ++ pins, p.1 ≠ b)
    (keep : ∀ b o, b ≠ X.env.locals → b ∉ X.fs → b ∉ ch → s.heap.get? b = some o → H b = none → h'.get? b = some o)
    (slot : ∀ b o, b ≠ X.env.locals → b ∈ X.fs → b ∉ ch → s.heap.get? b = some o → H b = none → ∃ sl, h'.get? b = some { o with slots := sl }) (free : ∀ b o, b ∉ ch → s.heap.get? b = some o → H b = none → H' b = none)
    (there : ∀ b o, b ∉ ch → s.heap.get? b = some o → ∃ o', h'.get? b = some o')
    (tups : ∀ b xs, H b = some (.tup xs) → H' b = some (.tup xs)) (frzs : ∀ b o u, H b = some (.frz o u) → H' b = some (.frz o u)) (tbls : ∀ b ps, H b = some (.tbl ps) → ∃ more, H' b = some (.tbl (ps ++ more)))
    (ns : ∀ m, s.heap.Ns X.env.locals m → h'.Ns X.env.locals m) (hok : HOk X.prog X.w H' h') (hg : AllBare g') :
    Inv X pins σ H' { s with heap := h', gens := g', drawn := d', toks := t' } := by
  have neL : ∀ b o, X.s₀.heap.get? b = some o → b ≠ X.env.locals := fun b o e => Nat.ne_of_lt (Nat.lt_of_lt_of_le (Heap.lt_size e) I.ok.above)
  have neC : ∀ b o, X.s₀.heap.get? b = some o → b ∉ X.ex → b ∉ ch := fun b o e hx hb => by
    rcases (hch b hb).1 with z | z
    · exact hx z
    · exact absurd (Nat.lt_of_lt_of_le (Heap.lt_size e) z) (Nat.lt_irrefl _)
  have cellK : ∀ x c, X.env.cells.lookup x = some c → ∀ v, s.heap.IsCell c v → h'.IsCell c v := fun x c e v ⟨o, ho, hd⟩ => by
    have nch : c ∉ ch := fun z => (hch c z).2.2.1 x c e rfl
    by_cases hc : c ∈ X.fs
    · obtain ⟨sl, q⟩ := slot c o (I.cne x c e) hc nch ho (I.freeC x c e)
      exact ⟨_, q, hd⟩
    · exact ⟨o, keep c o (I.cne x c e) hc nch ho (I.freeC x c e), hd⟩
  refine ⟨I.ok, I.os, hg, ⟨fun b o e n hb hx => ?_, fun b o e n hb hx => ?_, fun b o e n hx => ?_, fun b o e hx => ?_, fun b xs e => tups b xs (I.base.tups b xs e), fun b o xs e => frzs b o xs (I.base.frzs b o xs e), fun b ps e => ?_⟩, ?_, fun x c e => ?_, ?_, fun x c e => ?_, fun p hp => ?_, hok, I.len⟩
  · exact keep b o (neL b o e) hb (neC b o e hx) (I.base.keep b o e n hb hx) (I.base.free b o e n hx)
  · obtain ⟨sl, e1⟩ := I.base.slot b o e n hb hx
    obtain ⟨sl', e2⟩ := slot b _ (neL b o e) hb (neC b o e hx) e1 (I.base.free b o e n hx)
    exact ⟨sl', e2⟩
  · obtain ⟨o', e1⟩ := I.base.there b o e hx
    exact free b o' (neC b o e hx) e1 (I.base.free b o e n hx)
  · obtain ⟨o', e1⟩ := I.base.there b o e hx
    exact there b o' (neC b o e hx) e1
  · obtain ⟨m1, e1⟩ := I.base.tbls b ps e
    obtain ⟨m2, e2⟩ := tbls b _ e1
    exact ⟨m1 ++ m2, by rw [e2, Array.append_assoc]⟩
  · obtain ⟨m, hn, hl⟩ := I.loc
    refine ⟨m, ns m hn, fun i x v e1 e2 e3 => ?_⟩
    obtain ⟨u, r, l⟩ := hl i x v e1 e2 e3
    refine ⟨u, r, ?_⟩
    rcases l with l | ⟨k, c, e, z⟩
    · exact .inl l
    · exact .inr ⟨k, c, e, cellK x c e _ z⟩
  · obtain ⟨v, z⟩ := I.cell x c e
    exact ⟨v, cellK x c e v z⟩
  · obtain ⟨m, ⟨o, _, _, ho, _⟩, _⟩ := I.loc
    exact free _ o (fun z => (hch _ z).2.1 rfl) ho I.free
  · obtain ⟨v, o, ho, hd⟩ := I.cell x c e
    exact free c o (fun z => (hch c z).2.2.1 x c e rfl) ho (I.freeC x c e)
  · obtain ⟨e, n, ne, nf, d⟩ := I.pin p hp
    have nch : p.1 ∉ ch := fun z => (hch p.1 z).2.2.2 p hp rfl
    exact ⟨keep p.1 p.2 ne nf nch e n, free p.1 p.2 nch e n, ne, nf, d⟩
theorem Inv.un {t' : Nat} (I : Inv X pins σ H s) (u : Un X.fs [] H H' s.heap h') (hok : HOk X.prog X.w H' h') : Inv X pins σ H' { s with heap := h', toks := t' } := by
  obtain ⟨m, ⟨o, es, ep, ho, r⟩, _⟩ := id I.loc
  obtain ⟨sl, hL⟩ := u.any ho I.free (by simp)
  exact I.step (g' := s.gens) (d' := s.drawn) (ch := []) (fun _ z => nomatch z) (fun b o _ hb _ e n => u.keep b o e n hb (by simp)) (fun b o _ hb _ e n => u.slot b o e n hb (by simp)) (fun b o _ e n => u.free b o e n (by simp)) (fun b o _ e => u.there b o e (by simp)) u.tups u.frzs u.tbls (fun m' hm => by
    obtain ⟨o', es', ep', ho', r'⟩ := hm
    rw [ho] at ho'; cases ho'
    exact ⟨_, es', ep', hL, r'⟩) hok I.bare
theorem Inv.call {g' : Array GenState} {t' : Nat} {d' : Drawn} {ch : List Addr} (I : Inv X pins σ H s) (u : Un (frs X.stack) ch H H' s.heap h') (hok : HOk X.prog X.w H' h') (hg : AllBare g')
    (hch : ∀ b ∈ ch, (b ∈ X.ex ∨ X.s₀.heap.objs.size ≤ b) ∧ b ≠ X.env.locals ∧ (∀ x c, X.env.cells.lookup x = some c → c ≠ b) ∧ ∀ p ∈ X.pn ++ pins, p.1 ≠ b) :
    Inv X pins σ H' { s with heap := h', gens := g', drawn := d', toks := t' } := by
  obtain ⟨m, ⟨o, es, ep, ho, r⟩, _⟩ := id I.loc
  obtain ⟨sl, hL⟩ := u.any ho I.free fun z => (hch _ z).2.1 rfl
  exact I.step (ch := ch) hch (fun b o hL hb hc e n => u.keep b o e n (fun z => (List.mem_cons.mp (I.stkSub b z)).elim hL hb) hc) (fun b o _ _ hc e n => u.any e n hc) (fun b o hc e n => u.free b o e n hc) (fun b o hc e => u.there b o e hc) u.tups u.frzs u.tbls (fun m' hm => by
    obtain ⟨o', es', ep', ho', r'⟩ := hm
    rw [ho] at ho'; cases ho'
    exact ⟨_, es', ep', hL, r'⟩) hok hg
theorem Inv.turned {t' : Nat} {it : Addr} (I : Inv X pins σ H s) (k : ∀ b o, b ≠ it → s.heap.get? b = some o → h'.get? b = some o) (hn : H it = none) (hL : it ≠ X.env.locals)
    (h1 : it ∈ X.ex ∨ X.s₀.heap.objs.size ≤ it) (h2 : ∀ x c, X.env.cells.lookup x = some c → c ≠ it) (h3 : ∀ p ∈ X.pn ++ pins, p.1 ≠ it) : Inv X pins σ H { s with heap := h', toks := t' } := by
  have nit : ∀ b u, H b = some u → b ≠ it := fun b u e z => by rw [z, hn] at e; cases e
  refine I.step (g' := s.gens) (d' := s.drawn) (ch := [it]) (fun b hb => ?_) (fun b o _ _ hc e _ => k b o (fun z => hc (by simp [z])) e) (fun b o _ _ hc e _ => ⟨o.slots, k b o (fun z => hc (by simp [z])) e⟩) (fun _ _ _ _ n => n)
    (fun b o hc e => ⟨o, k b o (fun z => hc (by simp [z])) e⟩) (fun _ _ e => e) (fun _ _ _ e => e) (fun b ps e => ⟨#[], by rw [e]; simp⟩) (fun m hm => ?_) (fun b u e => ?_) I.bare
  · have e : b = it := by simpa using hb
    subst e
    exact ⟨h1, hL, h2, h3⟩
  · obtain ⟨o, es, ep, ho, r⟩ := hm
    exact ⟨o, es, ep, k _ o (Ne.symm hL) ho, r⟩
  · refine (I.hok b u e).stay (fun c v hc q => k c v ?_ q) (fun _ q => q) fun _ _ q => q
    rcases hc with z | z
    · rw [z]; exact nit b u e
    · exact nit c _ z
theorem Inv.tok (I : Inv X pins σ H s) (t : Nat) : Inv X pins σ H { s with toks := t } := I.un (h' := s.heap) (t' := t) Un.refl I.hok
theorem Inv.kept {t' : Nat} (I : Inv X pins σ H s) (k : ∀ b u, s.heap.get? b = some u → h'.get? b = some u) : Inv X pins σ H { s with heap := h', toks := t' } := I.un (Un.kept k) (I.hok.kept k)
theorem Inv.laid {a : Addr} {o : HO} {t' : Nat} (I : Inv X pins σ H s) (k : ∀ b u, s.heap.get? b = some u → h'.get? b = some u) (hp : s.heap.objs.size ≤ a) (new : ObjOk X.prog X.w (upd H a o) h' a o) :
    Inv X pins σ (upd H a o) { s with heap := h', toks := t' } := I.un (Un.laid k hp (I.hok.fresh hp)) (I.hok.laid k hp new)
theorem Inv.write {x e : Addr} {o : HO} {t' : Nat} (I : Inv X pins σ H s) (mu : Mut (H x)) (he : e = x ∨ H e = some (.own x)) (k : ∀ b u, b ≠ e → s.heap.get? b = some u → h'.get? b = some u) (heo : ∃ u, h'.get? e = some u)
    (new : ObjOk X.prog X.w (upd H x o) h' x o) : Inv X pins σ (upd H x o) { s with heap := h', toks := t' } := I.un (Un.write mu he k heo) (I.hok.write mu he k heo new)
theorem Inv.pins_of {pins' : List (Addr × Obj)} (I : Inv X pins σ H s) (h : ∀ p ∈ pins', s.heap.get? p.1 = some p.2 ∧ H p.1 = none ∧ p.1 ≠ X.env.locals ∧ p.1 ∉ X.fs ∧ ∀ v, p.2.data ≠ .cell v) : Inv X pins' σ H s :=
  ⟨I.ok, I.os, I.bare, I.base, I.loc, I.cell, I.free, I.freeC, fun p hp => (List.mem_append.mp hp).elim (fun z => I.pin p (List.mem_append_left _ z)) (h p), I.hok, I.len⟩
theorem nodup_ix {N : List Str} (hN : N.Nodup) {i j : Nat} {x : Str} (a : N[i]? = some x) (b : N[j]? = some x) : i = j := by
  obtain ⟨h1, e1⟩ := List.getElem?_eq_some_iff.mp a
  obtain ⟨h2, e2⟩ := List.getElem?_eq_some_iff.mp b
  exact (List.getElem_inj hN).mp (e1.trans e2.symm)
theorem store_ok2 {M : Model} {A : Around} {E : Value → Shared → Prop} {i : Nat} {x : Str} {v : V} {u : Value} {Q : Unit → Shared → Prop} (I : Inv X pins σ H s) (hN : X.N.Nodup) (hi : X.N[i]? = some x) (hx : Loc X.env.scope x) (r : RelV v u)
    (h : ∀ s', Inv X pins (σ.set i (some v)) H s' → (∃ a, Heap.SameBut a s.heap s'.heap ∧ (a = X.env.locals ∨ X.env.cells.lookup x = some a)) → Q () s') (hf : X.fn x = true ∨ X.env.scope.names.lookup x = some .local := by first | exact .inl rfl | exact .inr rfl | assumption) : wpAny M A (storeName X.env x u) Q E s := by
  obtain ⟨m, hn, hl⟩ := id I.loc
  have hcls : (X.env.scope.kind == .class || (X.env.scope.kind == .module && X.env.locals != X.env.globals)) = false := by rw [I.ok.kind]; rfl
  have hiσ : i < σ.length := by rw [I.len]; exact (List.getElem?_eq_some_iff.mp hi).1
  have cne := I.cne
  have tracked : ∀ {a : Addr} {h' : Heap}, (∃ o, s.heap.get? a = some o ∧ H a = none) → Heap.SameBut a s.heap h' → HOk X.prog X.w H h' := fun {a h'} ha hs b ob e => by
    obtain ⟨_, _, hfree⟩ := ha
    refine (I.hok b ob e).stay (fun c w' hc q => (hs.2 c ?_).trans q) (fun _ q => q) fun _ _ q => q
    rintro rfl
    rcases hc with rfl | hc
    · rw [hfree] at e; cases e
    · rw [hfree] at hc; cases hc
  rcases hx with hk | hk
  · refine wpAny_storeName_local hk hn (fun h' hn' hs => ?_) hcls
    obtain ⟨oL, _, _, hoL, _⟩ := id hn
    refine h _ ⟨I.ok, I.os, I.bare, ⟨fun b o e n hb hx => ?_, fun b o e n hb hx => ?_, I.base.free, fun b o e hx => ?_, I.base.tups, I.base.frzs, I.base.tbls⟩, ⟨_, hn', fun j y v' e1 e2 e3 => ?_⟩, fun y c e => ?_, I.free, I.freeC, fun p hp => ?_, tracked ⟨oL, hoL, I.free⟩ hs, by simpa using I.len⟩ ⟨_, hs, .inl rfl⟩
    · exact (hs.2 b (Nat.ne_of_lt (Nat.lt_of_lt_of_le (Heap.lt_size e) I.ok.above))).trans (I.base.keep b o e n hb hx)
    · obtain ⟨sl, e1⟩ := I.base.slot b o e n hb hx
      exact ⟨sl, (hs.2 b (Nat.ne_of_lt (Nat.lt_of_lt_of_le (Heap.lt_size e) I.ok.above))).trans e1⟩
    · obtain ⟨o', e1⟩ := I.base.there b o e hx
      exact ⟨o', (hs.2 b (Nat.ne_of_lt (Nat.lt_of_lt_of_le (Heap.lt_size e) I.ok.above))).trans e1⟩
    · by_cases hj : j = i
      · subst hj
        rw [hi] at e1; cases e1
        rw [List.getElem?_set_self hiσ] at e2
        cases e2
        exact ⟨u, r, .inl ⟨hk, by simp⟩⟩
      · rw [List.getElem?_set_ne (Ne.symm hj)] at e2
        obtain ⟨u', r', q⟩ := hl j y v' e1 e2 e3
        refine ⟨u', r', ?_⟩
        rcases q with ⟨k, e⟩ | ⟨k, c, e, z⟩
        · refine .inl ⟨k, ?_⟩
          have : y ≠ x := fun e => hj (nodup_ix hN e1 (e ▸ hi))
          simp [this, e]
        · exact .inr ⟨k, c, e, z.sameBut hs (cne y c e)⟩
    · obtain ⟨w', z⟩ := I.cell y c e
      exact ⟨w', z.sameBut hs (cne y c e)⟩
    · obtain ⟨e, n, ne, nf, d⟩ := I.pin p hp
      exact ⟨(hs.2 p.1 ne).trans e, n, ne, nf, d⟩
  · have hfn : X.fn x = true := by
      rcases hf with z | z
      · exact z
      · rw [z] at hk; cases hk
    obtain ⟨c, hc⟩ := I.ok.has x (.inl hk)
    obtain ⟨w', z⟩ := I.cell x c hc
    refine wpAny_storeName_cell I.ok.kind hk hc z (fun h' hc' hs => ?_)
    obtain ⟨oc, hoc, hocd⟩ := id z
    refine h { s with heap := h' } ⟨I.ok, I.os, I.bare, ⟨fun b o e n hb hx => ?_, fun b o e n hb hx => ?_, I.base.free, fun b o e hx => ?_, I.base.tups, I.base.frzs, I.base.tbls⟩, ⟨m, hn.sameBut hs (Ne.symm (cne x c hc)), fun j y v' e1 e2 e3 => ?_⟩, fun y c' e => ?_, I.free, I.freeC, fun p hp => ?_, tracked ⟨oc, hoc, I.freeC x c hc⟩ hs, by simpa using I.len⟩ ⟨c, hs, .inr hc⟩
    · exact (hs.2 b (Nat.ne_of_lt (Nat.lt_of_lt_of_le (Heap.lt_size e) (I.ok.cab x c hfn hc)))).trans (I.base.keep b o e n hb hx)
    · obtain ⟨sl, e1⟩ := I.base.slot b o e n hb hx
      exact ⟨sl, (hs.2 b (Nat.ne_of_lt (Nat.lt_of_lt_of_le (Heap.lt_size e) (I.ok.cab x c hfn hc)))).trans e1⟩
    · obtain ⟨o', e1⟩ := I.base.there b o e hx
      exact ⟨o', (hs.2 b (Nat.ne_of_lt (Nat.lt_of_lt_of_le (Heap.lt_size e) (I.ok.cab x c hfn hc)))).trans e1⟩
    · by_cases hj : j = i
      · subst hj
        rw [hi] at e1; cases e1
        rw [List.getElem?_set_self hiσ] at e2
        cases e2
        exact ⟨u, r, .inr ⟨.inl hk, c, hc, hc'⟩⟩
      · rw [List.getElem?_set_ne (Ne.symm hj)] at e2
        obtain ⟨u', r', q⟩ := hl j y v' e1 e2 e3
        refine ⟨u', r', ?_⟩
        rcases q with q | ⟨k, c', e, z'⟩
        · exact .inl q
        · refine .inr ⟨k, c', e, z'.sameBut hs ?_⟩
          rintro rfl
          exact hj (nodup_ix hN e1 (I.ok.inj _ _ _ e hc ▸ hi))
    · by_cases hcc : c' = c
      · subst hcc; exact ⟨_, hc'⟩
      · obtain ⟨w2, z2⟩ := I.cell y c' e
        exact ⟨w2, z2.sameBut hs hcc⟩
    · obtain ⟨e, n, ne, nf, d⟩ := I.pin p hp
      refine ⟨(hs.2 p.1 ?_).trans e, n, ne, nf, d⟩
      intro q
      rw [q, hoc] at e
      have q' : oc = p.2 := Option.some.inj e
      exact d w' (by rw [← q']; exact hocd)
theorem store_ok {M : Model} {A : Around} {E : Value → Shared → Prop} {i : Nat} {x : Str} {v : V} {u : Value} {Q : Unit → Shared → Prop} (I : Inv X pins σ H s) (hN : X.N.Nodup) (hi : X.N[i]? = some x) (hx : Loc X.env.scope x) (r : RelV v u)
    (h : ∀ s', Inv X pins (σ.set i (some v)) H s' → Q () s') (hf : X.fn x = true ∨ X.env.scope.names.lookup x = some .local := by first | exact .inl rfl | exact .inr rfl | assumption) : wpAny M A (storeName X.env x u) Q E s :=
  store_ok2 I hN hi hx r (fun s' I' _ => h s' I') hf
theorem Inv.call' {s' : Shared} {ch : List Addr} (I : Inv X pins σ H s) (ho : s'.os = s.os) (u : Un (frs X.stack) ch H H' s.heap s'.heap) (hok : HOk X.prog X.w H' s'.heap) (hg : AllBare s'.gens)
    (hch : ∀ b ∈ ch, (b ∈ X.ex ∨ X.s₀.heap.objs.size ≤ b) ∧ b ≠ X.env.locals ∧ (∀ x c, X.env.cells.lookup x = some c → c ≠ b) ∧ ∀ p ∈ X.pn ++ pins, p.1 ≠ b) : Inv X pins σ H' s' := by
  obtain ⟨h', g', d', t', o'⟩ := s'
  have e : o' = s.os := ho
  subst e
  exact I.call (g' := g') (t' := t') (d' := d') u hok hg hch
end
abbrev XK := Value → Option Addr → Hp → Prop
abbrev St := List (Option V)
abbrev VK := V → Hp → Prop
abbrev TE := St → Hp → VK → Prop
abbrev TT := St → Hp → (Bool → Hp → Prop) → Prop
abbrev TA := St → Hp → (List V → Hp → Prop) → Prop
structure Ends where
  nx : St → Hp → Prop
  rt : VK
  bk : St → Hp → Prop := fun _ _ => False
  ct : St → Hp → Prop := fun _ _ => False
abbrev TS := Ends → St → Hp → Prop
def EP (X : Cx) (pins : List (Addr × Obj)) (σ : St) (Q : VK) (u : Value) (s' : Shared) : Prop := ∃ v H', Inv X pins σ H' s' ∧ RelV v u ∧ Q v H'
def TP (X : Cx) (pins : List (Addr × Obj)) (σ : St) (Q : Bool → Hp → Prop) (b : Bool) (s' : Shared) : Prop := ∃ H', Inv X pins σ H' s' ∧ Q b H'
def AP (X : Cx) (pins : List (Addr × Obj)) (σ : St) (Q : List V → Hp → Prop) (us : List Value) (s' : Shared) : Prop := ∃ vs H', Inv X pins σ H' s' ∧ Vals vs us ∧ Q vs H'
def SP (X : Cx) (pins : List (Addr × Obj)) (D : Ends) (f : Flow) (s' : Shared) : Prop :=
  match f with
  | .next => ∃ σ' H', Inv X pins σ' H' s' ∧ D.nx σ' H'
  | .brk => ∃ σ' H', Inv X pins σ' H' s' ∧ D.bk σ' H'
  | .cont => ∃ σ' H', Inv X pins σ' H' s' ∧ D.ct σ' H'
  | .ret u => ∃ v σ' H', Inv X pins σ' H' s' ∧ RelV v u ∧ D.rt v H'
def PE (X : Cx) (e : Expr) (t : TE) : Prop :=
  ∀ (pins : List (Addr × Obj)) (s : Shared) (σ : St) (H : Hp) (Q : VK), Inv X pins σ H s → t σ H Q → wpAny (model X.prog X.w) X.A (eval e X.env) (EP X pins σ Q) X.xe s
def PT (X : Cx) (e : Expr) (t : TT) : Prop :=
  ∀ (pins : List (Addr × Obj)) (s : Shared) (σ : St) (H : Hp) (Q : Bool → Hp → Prop), Inv X pins σ H s → t σ H Q → wpAny (model X.prog X.w) X.A (isTrue e X.env (eval e X.env)) (TP X pins σ Q) X.xe s
def PW (X : Cx) (e : Expr) (t : TT) : Prop :=
  ∀ (whole : Sem Value) (pins : List (Addr × Obj)) (s : Shared) (σ : St) (H : Hp) (Q : Bool → Hp → Prop), Inv X pins σ H s → t σ H Q → wpAny (model X.prog X.w) X.A (isTrue e X.env whole) (TP X pins σ Q) X.xe s
theorem PW.pt {X : Cx} {e : Expr} {t : TT} (h : PW X e t) : PT X e t := h _
def PA (X : Cx) (es : List Expr) (t : TA) : Prop :=
  ∀ (pos : Pos) (pins : List (Addr × Obj)) (s : Shared) (σ : St) (H : Hp) (Q : List V → Hp → Prop), Inv X pins σ H s → t σ H Q → wpAny (model X.prog X.w) X.A (spliced (backTo pos (starEach es X.env))) (AP X pins σ Q) X.xe s
def PS (X : Cx) (st : Stmt) (t : TS) : Prop :=
  ∀ (pins : List (Addr × Obj)) (s : Shared) (σ : St) (H : Hp) (D : Ends), Inv X pins σ H s → t D σ H → wpAny (model X.prog X.w) X.A (exec st X.env) (SP X pins D) X.xe s
def PSs (X : Cx) (st : List Stmt) (t : TS) : Prop :=
  ∀ (pins : List (Addr × Obj)) (s : Shared) (σ : St) (H : Hp) (D : Ends), Inv X pins σ H s → t D σ H → wpAny (model X.prog X.w) X.A (execs st X.env) (SP X pins D) X.xe s
theorem thn {α : Type} {t : Sem α} {Q Q' : α → Shared → Prop} {M : Model} {A : Around} {E : Value → Shared → Prop} {s : Shared} (h : wpAny M A t Q E s) (hQ : ∀ a s, Q a s → Q' a s) : wpAny M A t Q' E s := wpAny_mono h hQ fun _ _ x => x
end L2
namespace L2
open PySem PySem.Spec PyProof.Rows
section
variable {X : Cx}
theorem bin {a b : Expr} {ta tb : TE} (ha : PE X a ta) (hb : PE X b tb) {pins : List (Addr × Obj)} {s : Shared} {σ : St} {H : Hp} {R : V → V → Hp → Prop} (I : Inv X pins σ H s) (h : ta σ H fun x H1 => tb σ H1 fun y H2 => R x y H2)
    {α : Type} {Q : α → Shared → Prop} {f : Value → Value → Sem α}
    (hf : ∀ v u s2 x y H2, Inv X pins σ H2 s2 → RelV x v → RelV y u → R x y H2 → wpAny (model X.prog X.w) X.A (f v u) Q X.xe s2) :
    wpAny (model X.prog X.w) X.A (eval a X.env) (fun v s₁ => wpAny (model X.prog X.w) X.A (eval b X.env) (fun u s₂ => wpAny (model X.prog X.w) X.A (f v u) Q X.xe s₂) X.xe s₁) X.xe s := by
  refine thn (ha pins s σ H _ I h) fun v s1 ⟨x, H1, I1, r1, q1⟩ => ?_
  refine thn (hb pins s1 σ H1 _ I1 q1) fun u s2 ⟨y, H2, I2, r2, q2⟩ => ?_
  exact hf v u s2 x y H2 I2 r1 r2 q2
def tVar (i : Nat) : TE := fun σ H Q => ∃ v, σ[i]? = some (some v) ∧ Q v H
def tC (v : V) : TE := fun _ H Q => Q v H
theorem pe_var {i : Nat} {x : Str} {pos : Pos} (hN : X.N[i]? = some x) (hv : Vis X.env.scope x) (hd : (x == ("__debug__" : Str)) = false := by decide) (hcd : (x == ("__classdict__" : Str)) = false := by decide) : PE X (.Name x pos) (tVar i) := by
  intro pins s σ H Q I h
  obtain ⟨v, e, h⟩ := h
  obtain ⟨m, hn, hl⟩ := I.loc
  obtain ⟨u, r, l⟩ := hl i x v hN e hv
  have fin : EP X pins σ Q u s := ⟨v, H, I, r, h⟩
  rcases l with ⟨hk, hm⟩ | ⟨hk, c, hc, hcell⟩
  · exact wpAny_Name (wpAny_loadName_local I.ok.kind hk hn hm fin) hd
  · rcases hk with hk | hk
    · exact wpAny_Name (wpAny_loadName_cell I.ok.kind hk hc hcell fin) hd
    · exact wpAny_Name (wpAny_loadName_free I.ok.kind hk hc hcell fin hcd) hd
theorem pe_int {i j pos} : PE X (.Constant (.int i) j pos) (tC (.int i)) := fun _ _ _ H _ I h => wpAny_Constant_int ⟨.int i, H, I.tok _, ⟨_, rfl⟩, h⟩
theorem pe_bl {b j pos} : PE X (.Constant (.bool b) j pos) (tC (.bl b)) := fun _ _ _ H _ I h => Constant_bool ⟨.bl b, H, I, rfl, h⟩
theorem pe_str {x j pos} : PE X (.Constant (.str x) j pos) (tC (.str x)) := fun _ _ _ H _ I h => Calls.Constant_str ⟨.str x, H, I.tok _, ⟨_, rfl⟩, h⟩
def Gl (X : Cx) (x : Str) : Prop := X.env.kindOf x = some .globalImplicit
theorem ld_glob {E : Value → Shared → Prop} {pins : List (Addr × Obj)} {s : Shared} {σ : St} {H : Hp} {x : Str} {u : Value} {pos : Pos} {Q : Value → Shared → Prop} (I : Inv X pins σ H s) (hg : Gl X x) (hm : X.mg x = some u) (h : Q u s)
    (hd : (x == ("__debug__" : Str)) = false := by decide) : wpAny (model X.prog X.w) X.A (eval (.Name x pos) X.env) Q E s :=
  Calls.Name_function_global I.ok.kind hg (Calls.loadGlobal_global (by rw [I.ok.glob]; exact I.mod.glob.keeps I.bk) hm h) hd
theorem ld_blt {E : Value → Shared → Prop} {pins : List (Addr × Obj)} {s : Shared} {σ : St} {H : Hp} {x : Str} {u : Value} {pos : Pos} {Q : Value → Shared → Prop} (I : Inv X pins σ H s) (hg : Gl X x) (hm : X.mg x = none) (hv : bootBuiltins x = some u) (h : Q u s)
    (hn : x ≠ "__name__" := by decide) (hd : (x == ("__debug__" : Str)) = false := by decide) : wpAny (model X.prog X.w) X.A (eval (.Name x pos) X.env) Q E s := by
  obtain ⟨mb, h1, h2⟩ := I.mod.blt
  exact Calls.Name_function_global I.ok.kind hg (Calls.loadGlobal_builtin (by rw [I.ok.glob]; exact I.mod.glob.keeps I.bk) hm (by rw [I.ok.blt]; exact h1.keeps I.bk) ((h2 x hn).trans hv) h) hd
theorem pe_glob {x : Str} {v : V} {u : Value} {pos : Pos} (hg : Gl X x) (hm : X.mg x = some u) (r : RelV v u) (hd : (x == ("__debug__" : Str)) = false := by decide) : PE X (.Name x pos) (tC v) :=
  fun _ _ _ H _ I h => ld_glob I hg hm ⟨v, H, I, r, h⟩ hd
theorem pe_bltn {x : Str} {v : V} {u : Value} {pos : Pos} (hg : Gl X x) (hm : X.mg x = none) (hv : bootBuiltins x = some u) (r : RelV v u) (hn : x ≠ "__name__" := by decide) (hd : (x == ("__debug__" : Str)) = false := by decide) : PE X (.Name x pos) (tC v) :=
  fun _ _ _ H _ I h => ld_blt I hg hm hv ⟨v, H, I, r, h⟩ hn hd
variable {a b : Expr} {ta tb : TE} {pos : Pos}
def PC (X : Cx) (op : CmpOp) (a b : Expr) (t : TE) : Prop :=
  ∀ (pins : List (Addr × Obj)) (s : Shared) (σ : St) (H : Hp) (Q : VK), Inv X pins σ H s → t σ H Q →
    wpAny (model X.prog X.w) X.A (eval a X.env) (fun v s₁ => wpAny (model X.prog X.w) X.A (eval b X.env) (fun u s₂ => wpAny (model X.prog X.w) X.A (compareOp op v u) (EP X pins σ Q) X.xe s₂) X.xe s₁) X.xe s
theorem nobehind (b : Expr) {op : CmpOp} (h : op ≠ .In) (h2 : op ≠ .NotIn) : behindInMarks op b = false := by
  have e1 : (op == CmpOp.In) = false := by cases op <;> first | rfl | exact absurd rfl h
  have e2 : (op == CmpOp.NotIn) = false := by cases op <;> first | rfl | exact absurd rfl h2
  cases b <;> simp [behindInMarks, e1, e2]
def tB (t : TE) : TT := fun σ H Q => t σ H fun x H1 => ∃ c, x = .bl c ∧ Q c H1
theorem pt_cmp {op : CmpOp} {t : TE} (h : PC X op a b t) (h1 : behindInMarks op b = false := by first | exact nobehind _ (by decide) (by decide) | rfl) : PT X (.Compare a [op] [b] pos) (tB t) := by
  intro pins s σ H Q I hw
  refine wpAny_isTrue_Compare1 (thn (h pins s σ H _ I hw) fun v s1 h1 => thn h1 fun u s2 h2 => thn h2 fun c s3 ⟨x, H1, I1, r1, q1⟩ => ?_) h1
  obtain ⟨d, rfl, q⟩ := q1
  cases r1
  exact wpAny_truthy_bool ⟨H1, I1, q⟩
theorem pt_val {e : Expr} {t : TE} (h : PE X e t) (he : ∀ whole, isTrue e X.env whole = (do let v ← whole; standAt e.pos; holding [v] (truthy v)) := by intro _; rfl) : PT X e (tB t) := by
  intro pins s σ H Q I hw
  refine isTrue_plain (thn (h pins s σ H _ I hw) fun v s1 ⟨x, H1, I1, r1, q1⟩ => ?_) (he _)
  obtain ⟨d, rfl, q⟩ := q1
  cases r1
  exact wpAny_truthy_bool ⟨H1, I1, q⟩
variable {tA tB' : TT} {rest : List Expr}
def tAnd (t u : TT) : TT := fun σ H Q => t σ H fun c H1 => if c = true then u σ H1 Q else Q false H1
def tOr (t u : TT) : TT := fun σ H Q => t σ H fun c H1 => if c = true then Q true H1 else u σ H1 Q
def tNot (t : TT) : TT := fun σ H Q => t σ H fun c H1 => Q (!c) H1
theorem pw_and1 (ha : PT X a tA) : PW X (.BoolOp .And [a] pos) tA := by
  intro wh pins s σ H Q I h
  refine isTrue_and (thn (ha pins s σ H Q I h) fun c s1 e => ?_)
  cases c with
  | true => exact isTrue_and_nil e
  | false => exact e
theorem pw_or1 (ha : PT X a tA) : PW X (.BoolOp .Or [a] pos) tA := by
  intro wh pins s σ H Q I h
  refine isTrue_or (thn (ha pins s σ H Q I h) fun c s1 e => ?_)
  cases c with
  | false => exact isTrue_or_nil e
  | true => exact e
theorem pw_and (ha : PT X a tA) (hb : PW X (.BoolOp .And (b :: rest) pos) tB') : PW X (.BoolOp .And (a :: b :: rest) pos) (tAnd tA tB') := by
  intro wh pins s σ H Q I h
  refine isTrue_and (thn (ha pins s σ H _ I h) fun c s1 ⟨H1, I1, q1⟩ => ?_)
  cases c with
  | true => exact hb wh pins s1 σ H1 Q I1 q1
  | false => exact ⟨H1, I1, q1⟩
theorem pw_or (ha : PT X a tA) (hb : PW X (.BoolOp .Or (b :: rest) pos) tB') : PW X (.BoolOp .Or (a :: b :: rest) pos) (tOr tA tB') := by
  intro wh pins s σ H Q I h
  refine isTrue_or (thn (ha pins s σ H _ I h) fun c s1 ⟨H1, I1, q1⟩ => ?_)
  cases c with
  | true => exact ⟨H1, I1, q1⟩
  | false => exact hb wh pins s1 σ H1 Q I1 q1
theorem pt_not (ha : PT X a tA) : PT X (.UnaryOp .Not a pos) (tNot tA) := by
  intro pins s σ H Q I h
  exact isTrue_not (ha pins s σ H (fun c H1 => Q (!c) H1) I h)
def tAndV (ta tb : TE) : TE := fun σ H Q => ta σ H fun x H1 => ∃ c, x = .bl c ∧ if c = true then tb σ H1 Q else Q (.bl false) H1
def tOrV (ta tb : TE) : TE := fun σ H Q => ta σ H fun x H1 => ∃ c, x = .bl c ∧ if c = true then Q (.bl true) H1 else tb σ H1 Q
def tNotV (ta : TE) : TE := fun σ H Q => ta σ H fun x H1 => ∃ c, x = .bl c ∧ Q (.bl (!c)) H1
theorem pe_one {op} {t : TE} (h : PE X a t) : PE X (.BoolOp op [a] pos) t := fun pins s σ H Q I hw => BoolOp_one (h pins s σ H Q I hw)
theorem pe_and (ha : PE X a ta) (hb : PE X (.BoolOp .And (b :: rest) pos) tb) : PE X (.BoolOp .And (a :: b :: rest) pos) (tAndV ta tb) := by
  intro pins s σ H Q I h
  refine BoolOp_and (thn (ha pins s σ H _ I h) fun v s1 ⟨x, H1, I1, r1, q1⟩ => ?_)
  obtain ⟨c, rfl, q1⟩ := q1
  cases r1
  refine wpAny_truthy_bool ?_
  cases c with
  | true => exact hb pins s1 σ H1 Q I1 q1
  | false => exact ⟨.bl false, H1, I1, rfl, q1⟩
theorem pe_not (ha : PE X a ta) : PE X (.UnaryOp .Not a pos) (tNotV ta) := by
  intro pins s σ H Q I h
  refine UnaryOp_ (thn (ha pins s σ H _ I h) fun v s1 ⟨x, H1, I1, r1, q1⟩ => ?_)
  obtain ⟨c, rfl, q1⟩ := q1
  cases r1
  exact not_of (wpAny_truthy_bool ⟨.bl (!c), H1, I1, rfl, q1⟩)
def tIf (t : TT) (ta tb : TE) : TE := fun σ H Q => t σ H fun c H1 => if c = true then ta σ H1 Q else tb σ H1 Q
end
end L2
namespace L2
open PySem PySem.Spec PyProof.Rows
def SqL (K : PySem.W.Frag) (H : Hp) (a : Addr) (xs : List V) : Prop :=
  Rd H a (.lst xs) ∨
    ∃ (o : Obj) (its : Array Value) (n : Nat), K.lookup a = some o ∧ o.cls = .type "list" ∧ o.dict = none ∧ o.data = .seq its n ∧ its.size ≤ sizeLine ∧ Vals xs its.toList
def SqT (K : PySem.W.Frag) (H : Hp) (a : Addr) (xs : List V) : Prop :=
  Rd H a (.tup xs) ∨
    ∃ (o : Obj) (its : Array Value) (n : Nat), K.lookup a = some o ∧ o.cls = .type "tuple" ∧ o.data = .seq its n ∧ its.size ≤ sizeLine ∧ Vals xs its.toList
def absV : Value → Option V
  | .none => some .non
  | .bool b => some (.bl b)
  | .int i _ => some (.int i)
  | .str x _ => some (.str x)
  | .bytes b _ => some (.byt b)
  | .float b _ => some (.flt b)
  | .ref a => some (.ref a)
  | .type n => some (.ty n)
  | _ => none
theorem RelV.abs {x : V} {u : Value} (r : RelV x u) : absV u = some x := by
  cases x with
  | non => cases r; rfl
  | bl _ => cases r; rfl
  | int _ => obtain ⟨t, rfl⟩ := r; rfl
  | str _ => obtain ⟨t, rfl⟩ := r; rfl
  | byt _ => obtain ⟨t, rfl⟩ := r; rfl
  | flt _ => obtain ⟨t, rfl⟩ := r; rfl
  | ref _ => cases r; rfl
  | ty _ => cases r; rfl
theorem RelV.inj {x y : V} {u : Value} (r : RelV x u) (q : RelV y u) : x = y := Option.some.inj (r.abs.symm.trans q.abs)
theorem Vals.inj : ∀ {xs ys : List V} {us : List Value}, Vals xs us → Vals ys us → xs = ys
  | _, _, _, .nil, .nil => rfl
  | _, _, _, .cons r t, .cons r' t' => by rw [r.inj r', Vals.inj t t']
section
variable {X : Cx} {pins : List (Addr × Obj)} {σ : St} {H : Hp} {s : Shared} {a : Addr} {xs ys : List V}
theorem SqL.of {K : PySem.W.Frag} (h : H a = some (.lst xs)) : SqL K H a xs := .inl (.inl h)
theorem SqT.of {K : PySem.W.Frag} (h : H a = some (.tup xs)) : SqT K H a xs := .inl (.inl h)
theorem Inv.list (I : Inv X pins σ H s) (h : SqL X.K H a xs) : ∃ its : List Value, Vals xs its ∧ PlainL s.heap a its.toArray ∧ xs.length ≤ sizeLine := by
  rcases h with h | ⟨o, its, n, hk, hc, hd, hs, hz, r⟩
  · obtain ⟨z, its, n, r, e⟩ := h.ok I.hok
    exact ⟨its, r, ⟨_, n, e, rfl, rfl, rfl⟩, z⟩
  · refine ⟨its.toList, r, ⟨o, n, I.kIn a o hk, hc, hd, by simpa using hs⟩, ?_⟩
    have e := r.length
    simp only [Array.length_toList] at e
    omega
theorem Inv.tuple (I : Inv X pins σ H s) (h : SqT X.K H a xs) : ∃ its : List Value, Vals xs its ∧ IsTup s.heap a its.toArray ∧ xs.length ≤ sizeLine := by
  rcases h with h | ⟨o, its, n, hk, hc, hs, hz, r⟩
  · obtain ⟨z, its, r, p⟩ := h.ok I.hok
    exact ⟨its, r, p, z⟩
  · refine ⟨its.toList, r, ⟨o, I.kIn a o hk, hc, n, by simpa using hs⟩, ?_⟩
    have e := r.length
    simp only [Array.length_toList] at e
    omega
theorem Inv.list_inj (I : Inv X pins σ H s) (h : SqL X.K H a xs) (h' : SqL X.K H a ys) : xs = ys := by
  obtain ⟨its, r, ⟨o, n, e, _, _, d⟩, _⟩ := I.list h
  obtain ⟨its', r', ⟨o', n', e', _, _, d'⟩, _⟩ := I.list h'
  rw [e] at e'; cases e'
  rw [d] at d'
  injection d' with d1 _
  have : its = its' := by simpa using congrArg Array.toList d1
  subst this
  exact r.inj r'
theorem Inv.tuple_inj (I : Inv X pins σ H s) (h : SqT X.K H a xs) (h' : SqT X.K H a ys) : xs = ys := by
  obtain ⟨its, r, ⟨o, e, _, n, d⟩, _⟩ := I.tuple h
  obtain ⟨its', r', ⟨o', e', _, n', d'⟩, _⟩ := I.tuple h'
  rw [e] at e'; cases e'
  rw [d] at d'
  injection d' with d1 _
  have : its = its' := by simpa using congrArg Array.toList d1
  subst this
  exact r.inj r'
end
abbrev Cx.wish (X : Cx) (E : Value → Shared → Prop) : Cx := { X with xe := E }
abbrev Cx.nox (X : Cx) : Cx := X.wish fun _ _ => False
theorem Cx.Ok.wish {X : Cx} (ok : X.Ok) (E : Value → Shared → Prop) : (X.wish E).Ok :=
  ⟨ok.mod, ok.kind, ok.glob, ok.blt, ok.above, ok.inj, ok.has, ok.cab, ok.hd, ok.frames, ok.stk, ok.exf, ok.bs, ok.bsz, ok.noex, ok.exfs, ok.funs, ok.frf⟩
theorem Cx.Ok.unwish {X : Cx} {E : Value → Shared → Prop} (ok : (X.wish E).Ok) : X.Ok :=
  ⟨ok.mod, ok.kind, ok.glob, ok.blt, ok.above, ok.inj, ok.has, ok.cab, ok.hd, ok.frames, ok.stk, ok.exf, ok.bs, ok.bsz, ok.noex, ok.exfs, ok.funs, ok.frf⟩
section
variable {X : Cx} {pins : List (Addr × Obj)} {σ : St} {H : Hp} {s : Shared} {E : Value → Shared → Prop}
theorem Inv.wish (I : Inv X pins σ H s) (E : Value → Shared → Prop) : Inv (X.wish E) pins σ H s := ⟨I.ok.wish E, I.os, I.bare, I.base, I.loc, I.cell, I.free, I.freeC, I.pin, I.hok, I.len⟩
theorem Inv.unwish (I : Inv (X.wish E) pins σ H s) : Inv X pins σ H s := ⟨I.ok.unwish, I.os, I.bare, I.base, I.loc, I.cell, I.free, I.freeC, I.pin, I.hok, I.len⟩
theorem SP.unwish {D : Ends} {f : Flow} {s' : Shared} (h : SP (X.wish E) pins D f s') : SP X pins D f s' := by
  cases f with
  | next => obtain ⟨σ', H', I, q⟩ := h; exact ⟨σ', H', I.unwish, q⟩
  | brk => obtain ⟨σ', H', I, q⟩ := h; exact ⟨σ', H', I.unwish, q⟩
  | cont => obtain ⟨σ', H', I, q⟩ := h; exact ⟨σ', H', I.unwish, q⟩
  | ret u => obtain ⟨v, σ', H', I, r, q⟩ := h; exact ⟨v, σ', H', I.unwish, r, q⟩
theorem PT.nox {e : Expr} {t : TT} (h : PT X.nox e t) : PT X e t := fun pins s σ H Q I hw =>
  wpAny_mono (h pins s σ H Q (I.wish _) hw) (fun _ _ ⟨H', I', q⟩ => ⟨H', I'.unwish, q⟩) fun _ _ z => False.elim z
theorem PSs.nox {st : List Stmt} {t : TS} (h : PSs X.nox st t) : PSs X st t := fun pins s σ H D I hw =>
  wpAny_mono (h pins s σ H D (I.wish _) hw) (fun _ _ q => q.unwish) fun _ _ z => False.elim z
end
section
variable {X : Cx} {st : Stmt} {rest : List Stmt} {t u : TS} {e : Expr} {te : TE} {pos : Pos}
def tNext : TS := fun D σ H => D.nx σ H
def tSeq (t u : TS) : TS := fun D σ H => t { D with nx := u D } σ H
theorem pss_nil : PSs X [] tNext := fun _ _ σ H _ I h => wpAny_execs_nil ⟨σ, H, I, h⟩
theorem pss_cons (h1 : PS X st t) (h2 : PSs X rest u) : PSs X (st :: rest) (tSeq t u) := by
  intro pins s σ H D I h
  refine wpAny_execs_cons (thn (h1 pins s σ H { D with nx := u D } I h) fun f s1 q => ?_)
  cases f with
  | next =>
    obtain ⟨σ', H', I', q⟩ := q
    exact h2 pins s1 σ' H' D I' q
  | ret v => exact q
  | brk => exact q
  | cont => exact q
theorem pss_one (h1 : PS X st t) : PSs X [st] t := by
  intro pins s σ H D I h
  refine wpAny_execs_cons (thn (h1 pins s σ H D I h) fun f s1 q => ?_)
  cases f with
  | next => exact wpAny_execs_nil q
  | ret v => exact q
  | brk => exact q
  | cont => exact q
def tBreak : TS := fun D σ H => D.bk σ H
def tCont : TS := fun D σ H => D.ct σ H
theorem Inv.quiet {pins : List (Addr × Obj)} {σ : St} {H : Hp} {s : Shared} (I : Inv X pins σ H s) : interactive X.env = false := by simp [interactive, I.ok.kind]
def tDrop (te : TE) : TS := fun D σ H => te σ H fun _ H1 => D.nx σ H1
theorem ps_expr (he : PE X e te) (hs : swapsWith e none pos.line X.env = pure false := by rfl) : PS X (.Expr e pos) (tDrop te) := by
  intro pins s σ H D I h
  exact wpAny_Expr_any (thn (he pins s σ H _ I h) fun v s1 ⟨x, H1, I1, r1, q1⟩ => ⟨σ, H1, I1, q1⟩) I.quiet hs
def tRet (te : TE) : TS := fun D σ H => te σ H D.rt
theorem ps_ret (he : PE X e te) : PS X (.Return (some e) pos) (tRet te) := by
  intro pins s σ H D I h
  exact wpAny_Return_some (thn (he pins s σ H _ I h) fun v s1 ⟨x, H1, I1, r1, q1⟩ => ⟨x, σ, H1, I1, r1, q1⟩)
def tRetN : TS := fun D _ H => D.rt .non H
def tIfS (c : TT) (t u : TS) : TS := fun D σ H => c σ H fun b H1 => if b = true then t D σ H1 else u D σ H1
theorem ps_if {c : Expr} {a b : List Stmt} {tc : TT} (hc : PT X c tc) (ha : PSs X a t) (hb : PSs X b u) : PS X (.If c a b pos) (tIfS tc t u) := by
  intro pins s σ H D I h
  refine wpAny_If (thn (hc pins s σ H _ I h) fun d s1 ⟨H1, I1, q1⟩ => ?_)
  cases d with
  | true => exact ha pins s1 σ H1 D I1 q1
  | false => exact hb pins s1 σ H1 D I1 q1
def tNever : TS := fun _ _ _ => False
theorem pss_never {sts : List Stmt} : PSs X sts tNever := fun _ _ _ _ _ _ h => h.elim
end
abbrev TG := V → St → Hp → (St → Hp → Prop) → Prop
abbrev TGs := List V → St → Hp → (St → Hp → Prop) → Prop
def PG (X : Cx) (target : Expr) (t : TG) : Prop :=
  ∀ (pins : List (Addr × Obj)) (s : Shared) (σ : St) (H : Hp) (v : V) (u : Value) (Q : St → Hp → Prop), Inv X pins σ H s → RelV v u → t v σ H Q →
    wpAny (model X.prog X.w) X.A (assign target X.env u) (fun _ s' => ∃ σ' H', Inv X pins σ' H' s' ∧ Q σ' H') X.xe s
def PGs (X : Cx) (ts : List Expr) (t : TGs) : Prop :=
  ∀ (pins : List (Addr × Obj)) (s : Shared) (σ : St) (H : Hp) (vs : List V) (us : List Value) (Q : St → Hp → Prop), Inv X pins σ H s → Vals vs us → t vs σ H Q →
    wpAny (model X.prog X.w) X.A (assignInOrder ((assignEach ts X.env).map (·.2)) us) (fun _ s' => ∃ σ' H', Inv X pins σ' H' s' ∧ Q σ' H') X.xe s
abbrev TSet := V → V → V → Hp → (Hp → Prop) → Prop
abbrev TIp := V → V → Hp → VK → Prop
def PIp (X : Cx) (op : Operator) (t : TIp) : Prop :=
  ∀ (pins : List (Addr × Obj)) (s : Shared) (σ : St) (H : Hp) (x y : V) (v u : Value) (Q : VK), Inv X pins σ H s → RelV x v → RelV y u → t x y H Q →
    wpAny (model X.prog X.w) X.A (inplaceOp op v u) (EP X pins σ Q) X.xe s
section
variable {X : Cx} {pos : Pos}
def gName (i : Nat) : TG := fun v σ H Q => Q (σ.set i (some v)) H
theorem pg_name {i : Nat} {x : Str} (hN : X.N.Nodup) (hi : X.N[i]? = some x) (hx : Loc X.env.scope x) (hf : X.fn x = true ∨ X.env.scope.names.lookup x = some .local := by first | exact .inl rfl | exact .inr rfl | assumption) : PG X (.Name x pos) (gName i) := by
  intro pins s σ H v u Q I r h
  exact wpAny_assign_Name (store_ok I hN hi hx r (fun s' I' => ⟨_, H, I', h⟩) hf)
def gNil : TGs := fun vs σ H Q => vs = [] ∧ Q σ H
def gCons (t : TG) (u : TGs) : TGs := fun vs σ H Q => ∃ v r, vs = v :: r ∧ t v σ H fun σ' H' => u r σ' H' Q
theorem pgs_nil : PGs X [] gNil := by
  intro pins s σ H vs us Q I r h
  obtain ⟨e, h⟩ := h
  subst e
  cases r
  exact assignInOrder_nil ⟨σ, H, I, h⟩
theorem pgs_cons {e : Expr} {es : List Expr} {t : TG} {u : TGs} (h1 : PG X e t) (h2 : PGs X es u)
    (hs : (assignEach (e :: es) X.env).map (·.2) = assign e X.env :: (assignEach es X.env).map (·.2) := by rfl) : PGs X (e :: es) (gCons t u) := by
  intro pins s σ H vs us Q I r h
  obtain ⟨v, vr, e1, h⟩ := h
  subst e1
  cases r with
  | cons r rr =>
    rw [hs]
    refine assignInOrder_cons (thn (h1 pins s σ H _ _ _ I r h) fun _ s1 ⟨σ1, H1, I1, q1⟩ => ?_)
    exact h2 pins s1 σ1 H1 _ _ Q I1 rr q1
def gTup (K : PySem.W.Frag) (n : Nat) (t : TGs) : TG := fun v σ H Q => ∃ a xs, v = .ref a ∧ SqT K H a xs ∧ xs.length = n ∧ t xs σ H Q
theorem pg_tup {es : List Expr} {k : Nat} {t : TGs} {n : Nat} (hc : X.calm = true) (h : PGs X es t)
    (hn : (assignEach es X.env).length = n := by rfl) (hst : (assignEach es X.env).findIdx? (·.1) = none := by rfl) : PG X (.Tuple es k pos) (gTup X.K n t) := by
  intro pins s σ H v u Q I r hw
  obtain ⟨a, xs, e1, hq, hl, hw⟩ := hw
  subst e1
  cases r
  obtain ⟨its, rv, ht, hz⟩ := I.tuple hq
  refine assign_Tuple_tuple (I.ok.hd hc) ht (by simp [hn, ← hl, rv.length]) hst fun h' hx => ?_
  have I1 : Inv X pins σ H { s with heap := h' } := I.kept (t' := s.toks) fun b o e => hx b o (Nat.ne_of_lt (Heap.lt_size e)) e
  exact h pins _ σ H xs _ Q I1 (by simpa using rv) hw
def gSub (to ti : TE) (t : TSet) : TG := fun v σ H Q => to σ H fun o H1 => ti σ H1 fun i H2 => t o i v H2 fun H3 => Q σ H3
def tAsg (te : TE) (g : TG) : TS := fun D σ H => te σ H fun x H1 => g x σ H1 D.nx
theorem ps_set {i : Nat} {x : Str} {e : Expr} {te : TE} {pos' : Pos} (hN : X.N.Nodup) (hi : X.N[i]? = some x) (hx : Loc X.env.scope x) (he : PE X e te) (hs : swapsWith e (some (.Name x pos')) pos.line X.env = pure false := by rfl) (hf : X.fn x = true ∨ X.env.scope.names.lookup x = some .local := by first | exact .inl rfl | exact .inr rfl | assumption) :
    PS X (.Assign [.Name x pos'] e pos) (tAsg te (gName i)) := by
  intro pins s σ H D I h
  refine wpAny_Assign_Name (thn (he pins s σ H _ I h) fun v s1 ⟨y, H1, I1, r1, q1⟩ => ?_) hs
  exact store_ok I1 hN hi hx r1 (fun s2 I2 => ⟨_, H1, I2, q1⟩) hf
def tAug (i : Nat) (te : TE) (ti : TIp) : TS := fun D σ H => ∃ x, σ[i]? = some (some x) ∧ te σ H fun y H1 => ti x y H1 fun z H2 => D.nx (σ.set i (some z)) H2
theorem ps_aug {i : Nat} {x : Str} {e : Expr} {te : TE} {op : Operator} {ti : TIp} {pos' : Pos} (hN : X.N.Nodup) (hi : X.N[i]? = some x) (hx : Loc X.env.scope x) (he : PE X e te) (ho : PIp X op ti) (hf : X.fn x = true ∨ X.env.scope.names.lookup x = some .local := by first | exact .inl rfl | exact .inr rfl | assumption) :
    PS X (.AugAssign (.Name x pos') op e pos) (tAug i te ti) := by
  intro pins s σ H D I h
  obtain ⟨v, e1, h⟩ := h
  obtain ⟨m, hn, hl⟩ := I.loc
  have vis : Vis X.env.scope x := by rcases hx with k | k; exact .inl k; exact .inr (.inl k)
  obtain ⟨u, r, l⟩ := hl i x v hi e1 vis
  refine wpAny_AugAssign_Name ?_
  have go : wpAny (model X.prog X.w) X.A (eval e X.env) (fun w s₂ => wpAny (model X.prog X.w) X.A (inplaceOp op u w) (fun r s₃ => wpAny (model X.prog X.w) X.A (storeName X.env x r) (fun _ => SP X pins D .next) X.xe s₃) X.xe s₂) X.xe s := by
    refine thn (he pins s σ H _ I h) fun w s1 ⟨y, H1, I1, r1, q1⟩ => ?_
    refine thn (ho pins s1 σ H1 v y u w _ I1 r r1 q1) fun z s2 ⟨zv, H2, I2, r2, q2⟩ => ?_
    exact store_ok I2 hN hi hx r2 (fun s3 I3 => ⟨_, H2, I3, q2⟩) hf
  rcases l with ⟨hk, hm⟩ | ⟨hk, c, hc, hcell⟩
  · exact wpAny_loadName_local I.ok.kind hk hn hm go
  · rcases hk with hk | hk
    · exact wpAny_loadName_cell I.ok.kind hk hc hcell go
    · rcases hx with k | k
      · have : X.env.scope.names.lookup x = some .free := hk
        rw [k] at this; cases this
      · have : X.env.scope.names.lookup x = some .free := hk
        rw [k] at this; cases this
def tAugS (to ti te : TE) (tget : V → V → Hp → VK → Prop) (tip : TIp) (tset : TSet) : TS := fun D σ H => to σ H fun o H1 => ti σ H1 fun i H2 => tget o i H2 fun x H3 => te σ H3 fun y H4 => tip x y H4 fun z H5 => tset o i z H5 fun H6 => D.nx σ H6
def ipI (f : Int → Int → Int) : TIp := fun x y H Q => ∃ i j, x = .int i ∧ y = .int j ∧ Q (.int (f i j)) H
end
section
variable {X : Cx} {pos : Pos}
def tWhile (c : TT) (tb : TS) : TS := fun D σ H => ∃ W : Nat → St → Hp → Prop, (∃ m, W m σ H) ∧ ∀ m σ H, W m σ H →
  c σ H fun b H1 => if b = true then ∃ N : St → Hp → Prop, (∀ σ' H', N σ' H' → ∃ m', m' < m ∧ W m' σ' H') ∧ tb { D with nx := N, ct := N, bk := D.nx } σ H1 else D.nx σ H1
theorem ps_while {c : Expr} {body : List Stmt} {tc : TT} {tb : TS} (hp : PassesOwn (model X.prog X.w) X.A X.env X.xe) (hc : PT X c tc) (hb : PSs X body tb) : PS X (.While c body [] pos) (tWhile tc tb) := by
  intro pins s σ H D I h
  obtain ⟨W, ⟨m0, w0⟩, turn⟩ := h
  refine wpAny_While (codeAny_whileLoop (fun n s' => ∃ σ' H', Inv X pins σ' H' s' ∧ W n σ' H') ?_ m0 ⟨σ, H, I, w0⟩)
  rintro n s1 ⟨σ1, H1, I1, w1⟩
  refine wpAny_passesOwn hp (thn (hc pins s1 σ1 H1 _ I1 (turn n σ1 H1 w1)) fun b s2 ⟨H2, I2, q2⟩ => ?_)
  cases b with
  | true =>
    obtain ⟨N, hN, q2⟩ := q2
    rw [if_pos rfl]
    refine wpAny_passesOwn hp (thn (hb pins s2 σ1 H2 _ I2 q2) fun f s3 q3 => ?_)
    cases f with
    | next =>
      obtain ⟨σ3, H3, I3, n3⟩ := q3
      obtain ⟨m', hm, w3⟩ := hN σ3 H3 n3
      exact ⟨m', hm, σ3, H3, I3, w3⟩
    | cont =>
      obtain ⟨σ3, H3, I3, n3⟩ := q3
      obtain ⟨m', hm, w3⟩ := hN σ3 H3 n3
      exact ⟨m', hm, σ3, H3, I3, w3⟩
    | brk => exact q3
    | ret v => exact q3
  | false =>
    rw [if_neg Bool.false_ne_true]
    exact wpAny_execs_nil ⟨σ1, H2, I2, q2⟩
end
structure It where
  go : Nat → Hp → Prop
  yld : Nat → Hp → V → Hp → Prop
  stop : Nat → Hp → Prop
def FpOk (X : Cx) (pins : List (Addr × Obj)) (H : Hp) (b : Addr) : Prop :=
  H b = none ∧ b ≠ X.env.locals ∧ b ∉ X.fs ∧ (b ∈ X.ex ∨ X.s₀.heap.objs.size ≤ b) ∧ (∀ x c, X.env.cells.lookup x = some c → c ≠ b) ∧ ∀ p ∈ X.pn ++ pins, p.1 ≠ b
theorem Inv.fpOk {X : Cx} {pins : List (Addr × Obj)} {σ : St} {H H' : Hp} {s : Shared} {b : Addr} (I : Inv X pins σ H s) (hb : s.heap.objs.size ≤ b) (hn : H' b = none) : FpOk X pins H' b := by
  refine ⟨hn, Nat.ne_of_gt (Nat.lt_of_lt_of_le I.lt hb), I.nofs hb, .inr (Nat.le_trans I.sz hb), fun x c e z => ?_, fun p hp z => ?_⟩
  · obtain ⟨v, q⟩ := I.cell x c e
    exact absurd (Nat.lt_of_lt_of_le q.lt (by rw [z]; exact hb)) (Nat.lt_irrefl _)
  · exact absurd (Nat.lt_of_lt_of_le (Heap.lt_size (I.pin p hp).1) (by rw [z]; exact hb)) (Nat.lt_irrefl _)
structure Turn (P : Program) (w : World) (K : PySem.W.Frag) (tg : Expr) (J : It) (fp : List Addr) (it : Addr) (tn : Nat → Heap → Prop) : Prop where
  mem : it ∈ fp
  obj : ∀ i h, tn i h → ∀ b ∈ fp, ∃ o, h.get? b = some o ∧ ∀ v, o.data ≠ .cell v
  keep : ∀ i h h', tn i h → (∀ b ∈ fp, ∀ o, h.get? b = some o → h'.get? b = some o) → tn i h'
  item : ∀ (X : Cx), X.prog = P → X.w = w → X.K = K → X.calm = true → ∀ (i : Nat) (pins : List (Addr × Obj)) (s : Shared) (σ : St) (H : Hp) (E : Value → Shared → Prop), Inv X pins σ H s → (∀ b ∈ fp, FpOk X pins H b) → tn i s.heap → J.go i H →
    wpAny (model P w) X.A (pyNext (.ref it)) (fun r s1 => ∃ u, r = some u ∧
      wpAny (model P w) X.A (letOwnedTupleGo tg (.ref it) u) (fun _ s2 => ∃ x H', Inv X pins σ H' s2 ∧ RelV x u ∧ J.yld i H x H' ∧ tn (i + 1) s2.heap ∧ ∀ b ∈ fp, H' b = none) E s1) E s
  done : ∀ (X : Cx), X.prog = P → X.w = w → X.K = K → X.calm = true → ∀ (i : Nat) (pins : List (Addr × Obj)) (s : Shared) (σ : St) (H : Hp) (E : Value → Shared → Prop), Inv X pins σ H s → (∀ b ∈ fp, FpOk X pins H b) → tn i s.heap → J.stop i H →
    wpAny (model P w) X.A (pyNext (.ref it)) (fun r s1 => r = none ∧ Inv X pins σ H s1) E s
  self : ∀ (A : Around) (i : Nat) (s : Shared) (Q : Value → Shared → Prop) (E : Value → Shared → Prop), tn i s.heap → Q (.ref it) s → wpAny (model P w) A (pyIter (.ref it)) Q E s
abbrev TI := St → Hp → (It → Hp → Prop) → Prop
def PIE (X : Cx) (pins : List (Addr × Obj)) (σ : St) (tg : Expr) (R : It → Hp → Prop) (itv : Value) (s2 : Shared) : Prop :=
  ∃ (it : Addr) (fp : List Addr) (tn : Nat → Heap → Prop) (J : It) (H' : Hp), itv = .ref it ∧ Inv X pins σ H' s2 ∧ Turn X.prog X.w X.K tg J fp it tn ∧ tn 0 s2.heap ∧ (∀ b ∈ fp, FpOk X pins H' b) ∧ R J H'
def PI (X : Cx) (tg iter : Expr) (wi : TI) : Prop :=
  ∀ (pins : List (Addr × Obj)) (s : Shared) (σ : St) (H : Hp) (R : It → Hp → Prop), Inv X pins σ H s → wi σ H R →
    wpAny (model X.prog X.w) X.A (eval iter X.env) (fun v s1 => wpAny (model X.prog X.w) X.A (pyIter v) (PIE X pins σ tg R) X.xe s1) X.xe s
theorem go_of {M : Model} {A : Around} {E : Value → Shared → Prop} {s : Shared} {tg : Expr} {it : Addr} {u : Value} {o : Obj} {n : String} {vs : Array Value} {Q : Unit → Shared → Prop} (ho : s.heap.get? it = some o) (hc : o.cls = .type n) (hd : o.data = .fields vs)
    (hn : ["enumerate", "zip", "dict_itemiterator", "dict_reverseitemiterator", "odict_iterator", "itertools.zip_longest", "itertools.pairwise"].contains n = false) (hQ : Q () s) : wpAny M A (letOwnedTupleGo tg (.ref it) u) Q E s := by
  unfold letOwnedTupleGo
  cases tg <;> first
    | exact wpAny_pure hQ
    | (cases u <;> first
        | exact wpAny_pure hQ
        | (refine wpAny_bind (wpAny_load ho ?_)
           rw [hc, hd]
           show wpAny M A (if (["enumerate", "zip", "dict_itemiterator", "dict_reverseitemiterator", "odict_iterator", "itertools.zip_longest", "itertools.pairwise"].contains n && vs[0]? == some (rawInt _)) = true then _ else _) Q E s
           rw [if_neg (by intro h; rw [hn, Bool.false_and] at h; cases h)]
           exact wpAny_pure hQ))
def Itl (K : PySem.W.Frag) (a : Addr) : It :=
  ⟨fun i H => ∃ xs x, SqL K H a xs ∧ xs[i]? = some x, fun i H x H' => H' = H ∧ ∀ xs, SqL K H a xs → xs[i]? = some x, fun i H => ∃ xs, SqL K H a xs ∧ xs.length ≤ i⟩
def Itt (K : PySem.W.Frag) (a : Addr) : It :=
  ⟨fun i H => ∃ xs x, SqT K H a xs ∧ xs[i]? = some x, fun i H x H' => H' = H ∧ ∀ xs, SqT K H a xs → xs[i]? = some x, fun i H => ∃ xs, SqT K H a xs ∧ xs.length ≤ i⟩
def Itr (lo : Int) (n : Nat) : It := ⟨fun i _ => i < n, fun i H x H' => H' = H ∧ x = .int (lo + i), fun i _ => n ≤ i⟩
theorem turn_list {P : Program} {w : World} {K : PySem.W.Frag} {tg : Expr} (a it : Addr) : Turn P w K tg (Itl K a) [it] it (fun i h => h.IsListIter it a i) where
  mem := by simp
  obj := fun i h st b hb => by
    have e : b = it := by simpa using hb
    subst e
    obtain ⟨o, e, c, d⟩ := st
    exact ⟨o, e, fun v z => by rw [d] at z; cases z⟩
  keep := fun i h h' st k => st.at fun o e => k it (by simp) o e
  item := by
    intro X hP hw hK hc i pins s σ H E I hf st hg
    subst hP hw hK
    obtain ⟨xs, x, hq, hx⟩ := hg
    obtain ⟨its, rv, p, hz⟩ := I.list hq
    obtain ⟨u, hu, ru⟩ := rv.get hx
    obtain ⟨f0, f1, f2, f3, f4, f5⟩ := hf it (by simp)
    refine wpAny_pyNext_list_item st p.isList (x := u) (by simpa using hu) fun h' st' sb => ?_
    have I1 : Inv X pins σ H { s with heap := h' } := I.turned (t' := s.toks) (fun b o hb e => (sb.2 b hb).trans e) f0 f1 f3 f4 f5
    obtain ⟨o, e, c, d⟩ := id st'
    exact ⟨u, rfl, go_of (s := { s with heap := h' }) e c d (by decide) ⟨x, H, I1, ru, ⟨rfl, fun ys hy => by rw [I.list_inj hy hq]; exact hx⟩, st', fun b hb => (hf b hb).1⟩⟩
  done := by
    intro X hP hw hK hc i pins s σ H E I hf st hg
    subst hP hw hK
    obtain ⟨xs, hq, hx⟩ := hg
    obtain ⟨its, rv, p, hz⟩ := I.list hq
    obtain ⟨f0, f1, f2, f3, f4, f5⟩ := hf it (by simp)
    have hl := rv.length
    exact wpAny_pyNext_list_end (I.ok.hd hc) st p.isList (by simp; omega) fun h' eb => ⟨rfl, I.turned (t' := s.toks) (fun b o hb e => eb b o hb e) f0 f1 f3 f4 f5⟩
  self := fun _ _ _ _ _ st h => wpAny_pyIter_listiter st h
theorem turn_range {P : Program} {w : World} {K : PySem.W.Frag} {tg : Expr} (it : Addr) (lo : Int) (n : Nat) : Turn P w K tg (Itr lo n) [it] it (fun i h => IsRangeIter h it (lo + (i : Nat) * 1) ((n : Int) - (i : Nat)) 1) where
  mem := by simp
  obj := fun i h st b hb => by
    have e : b = it := by simpa using hb
    subst e
    exact ⟨_, st, fun v z => by
      have z' : Data.fields _ = Data.cell v := z
      cases z'⟩
  keep := fun i h h' st k => k it (by simp) _ st
  item := by
    intro X hP hw hK hc i pins s σ H E I hf st hg
    subst hP hw hK
    obtain ⟨f0, f1, f2, f3, f4, f5⟩ := hf it (by simp)
    have W := Walks.range (prog := X.prog) (w := X.w) (I.ok.hd hc) it lo 1 n
    refine W.item i s _ _ hg st fun v h' tk hv st' kk => ?_
    obtain ⟨t, rfl⟩ := hv
    have I1 : Inv X pins σ H { s with heap := h', toks := tk } := I.turned (fun b o hb e => kk b o (by simpa using hb) e) f0 f1 f3 f4 f5
    refine ⟨_, rfl, go_of (s := { s with heap := h', toks := tk }) (n := "range_iterator") st' rfl rfl (by decide) ⟨.int (lo + i), H, I1, ⟨t, ?_⟩, ⟨rfl, rfl⟩, st', fun b hb => (hf b hb).1⟩⟩
    rw [Int.mul_one]
  done := by
    intro X hP hw hK hc i pins s σ H E I hf st hg
    subst hP hw hK
    obtain ⟨f0, f1, f2, f3, f4, f5⟩ := hf it (by simp)
    exact wpAny_pyNext_range_end (I.ok.hd hc) st (by have : n ≤ i := hg; omega) fun h' eb => ⟨rfl, I.turned (t' := s.toks) (fun b o hb e => eb b o hb e) f0 f1 f3 f4 f5⟩
  self := fun _ _ _ _ _ st h => wpAny_pyIter_rangeiter st h
end L2
namespace L2
open PySem PySem.Spec PyProof.Rows
section
variable {X : Cx} {tg : Expr}
def iList (K : PySem.W.Frag) (tl : TE) : TI := fun σ H R => tl σ H fun x H1 => ∃ a, x = .ref a ∧ (∃ xs, SqL K H1 a xs) ∧ R (Itl K a) H1
def iTup (K : PySem.W.Frag) (tl : TE) : TI := fun σ H R => tl σ H fun x H1 => ∃ a, x = .ref a ∧ (∃ xs, SqT K H1 a xs) ∧ R (Itt K a) H1
theorem pi_list {l : Expr} {tl : TE} (hl : PE X l tl) : PI X tg l (iList X.K tl) := by
  intro pins s σ H R I h
  refine thn (hl pins s σ H _ I h) fun v s1 ⟨x, H1, I1, r1, q1⟩ => ?_
  obtain ⟨a, e, ⟨xs, hq⟩, q⟩ := q1
  subst e
  cases r1
  obtain ⟨its, rv, p, hz⟩ := I1.list hq
  refine wpAny_pyIter_list p.isList ?_
  refine ⟨s1.heap.objs.size, [s1.heap.objs.size], _, _, H1, rfl, I1.kept (t' := s1.toks) fun b o e => Heap.get?_push_of_some _ e, turn_list a _, ⟨_, Heap.get?_push_size _ rfl, rfl, rfl⟩, fun b hb => ?_, q⟩
  have e : b = s1.heap.objs.size := by simpa using hb
  subst e
  exact I1.fpOk (Nat.le_refl _) (I1.hok.fresh (Nat.le_refl _))
theorem range_it {pins : List (Addr × Obj)} {σ : St} {H : Hp} {s : Shared} {R : It → Hp → Prop} {E : Value → Shared → Prop} {lo hi : Int} {t u v : Tok} {tk : Nat} (I : Inv X pins σ H s) (h1 : -(2 ^ 62) ≤ lo) (h2 : lo < 2 ^ 62) (h3 : -(2 ^ 62) ≤ hi) (h4 : hi < 2 ^ 62)
    (q : R (Itr lo (hi - lo).toNat) H) : wpAny (model X.prog X.w) X.A (pyIter (.ref s.heap.objs.size)) (PIE X pins σ tg R) E { s with heap := s.heap.push { cls := .type "range", data := .fields #[.int lo t, .int hi u, .int 1 v] }, toks := tk } := by
  refine wpAny_pyIter_range (IsRange.new ..) (small_one h1 h2 h3 h4) ?_
  have I1 : Inv X pins σ H { s with heap := s.heap.push { cls := .type "range", data := .fields #[.int lo t, .int hi u, .int 1 v] }, toks := tk } := I.kept fun b o e => Heap.get?_push_of_some _ e
  refine ⟨(s.heap.push { cls := .type "range", data := .fields #[.int lo t, .int hi u, .int 1 v] }).objs.size, [(s.heap.push { cls := .type "range", data := .fields #[.int lo t, .int hi u, .int 1 v] }).objs.size], _, _, H, rfl,
    I1.kept (t' := tk) fun b o e => Heap.get?_push_of_some _ e, turn_range _ lo (hi - lo).toNat, ?_, fun b hb => ?_, q⟩
  · have e1 : lo + ((0 : Nat) : Int) * 1 = lo := by simp
    have e2 : (((hi - lo).toNat : Nat) : Int) - ((0 : Nat) : Int) = Builtin.Range.rangeSize lo hi 1 := by rw [rangeSize_one]; split <;> omega
    show IsRangeIter _ _ (lo + ((0 : Nat) : Int) * 1) ((((hi - lo).toNat : Nat) : Int) - ((0 : Nat) : Int)) 1
    rw [e1, e2]
    exact Heap.get?_push_size _ rfl
  · have e : b = (s.heap.push { cls := .type "range", data := .fields #[.int lo t, .int hi u, .int 1 v] }).objs.size := by simpa using hb
    subst e
    exact I1.fpOk (Nat.le_refl _) (I1.hok.fresh (Nat.le_refl _))
def iRng1 (ta : TA) : TI := fun σ H R => ta σ H fun vs H1 => ∃ j : Int, vs = [.int j] ∧ -(2 ^ 62) ≤ j ∧ j < 2 ^ 62 ∧ R (Itr 0 j.toNat) H1
def iRng2 (ta : TA) : TI := fun σ H R => ta σ H fun vs H1 => ∃ i j : Int, vs = [.int i, .int j] ∧ (-(2 ^ 62) ≤ i ∧ i < 2 ^ 62 ∧ -(2 ^ 62) ≤ j ∧ j < 2 ^ 62) ∧ R (Itr i (j - i).toNat) H1
theorem pi_range1 {a : Expr} {ta : TA} {p pos : Pos} (hg : Gl X "range") (hm : X.mg "range" = none) (ha : PA X [a] ta) (hs : starEach [a] X.env = [(false, eval a X.env)] := by rfl) : PI X tg (.Call (.Name "range" p) [a] [] pos) (iRng1 ta) := by
  intro pins s σ H R I h
  refine Call_ (ld_blt I hg hm boot_range (PyProof.Rows.callWith_type1 (thn (ha pos pins s σ H _ I h) fun us s1 ⟨vs, H1, I1, r1, q1⟩ => ?_) hs rfl))
  obtain ⟨j, e, q1, q2, q⟩ := q1
  subst e
  cases r1 with
  | cons r rr =>
    cases rr
    obtain ⟨t, rfl⟩ := r
    exact call_range_1 (range_it I1 (by omega) (by omega) q1 q2 (by simpa using q))
theorem pi_range2 {a b : Expr} {ta : TA} {p pos : Pos} (hg : Gl X "range") (hm : X.mg "range" = none) (ha : PA X [a, b] ta) (hs : starEach [a, b] X.env = [(false, eval a X.env), (false, eval b X.env)] := by rfl) (hs2 : starEach [b] X.env = [(false, eval b X.env)] := by rfl) :
    PI X tg (.Call (.Name "range" p) [a, b] [] pos) (iRng2 ta) := by
  intro pins s σ H R I h
  refine Call_ (ld_blt I hg hm boot_range (PyProof.Rows.callWith_type1 (thn (ha pos pins s σ H _ I h) fun us s1 ⟨vs, H1, I1, r1, q1⟩ => ?_) (by rw [hs, hs2]) (by rw [hs2]; rfl)))
  obtain ⟨i, j, e, ⟨q1, q2, q3, q4⟩, q⟩ := q1
  subst e
  cases r1 with
  | cons r rr =>
    cases rr with
    | cons r' rr =>
      cases rr
      obtain ⟨t, rfl⟩ := r
      obtain ⟨t', rfl⟩ := r'
      exact call_range_2 (range_it I1 q1 q2 q3 q4 q)
def tFor (wi : TI) (g : TG) (tb : TS) : TS := fun D σ H => wi σ H fun J H1 => ∃ W : Nat → Nat → St → Hp → Prop, (∃ m, W 0 m σ H1) ∧ ∀ i m σ H, W i m σ H →
  (J.stop i H ∧ D.nx σ H) ∨ (J.go i H ∧ ∃ N : St → Hp → Prop, (∀ σ' H', N σ' H' → ∃ m', m' < m ∧ W (i + 1) m' σ' H') ∧ ∀ x H', J.yld i H x H' → g x σ H' fun σ2 H2 => tb { D with nx := N, ct := N, bk := D.nx } σ2 H2)
def pinsAt (fp : List Addr) (h : Heap) : List (Addr × Obj) := fp.filterMap fun b => (h.get? b).map fun o => (b, o)
theorem mem_pinsAt {fp : List Addr} {h : Heap} {b : Addr} {o : Obj} (hb : b ∈ fp) (e : h.get? b = some o) : (b, o) ∈ pinsAt fp h := List.mem_filterMap.mpr ⟨b, hb, by rw [e]; rfl⟩
theorem of_pinsAt {fp : List Addr} {h : Heap} {p : Addr × Obj} (hp : p ∈ pinsAt fp h) : p.1 ∈ fp ∧ h.get? p.1 = some p.2 := by
  obtain ⟨b, hb, e⟩ := List.mem_filterMap.mp hp
  cases q : h.get? b with
  | none => rw [q] at e; cases e
  | some o =>
    rw [q] at e
    have e' : (b, o) = p := Option.some.inj e
    subst e'
    exact ⟨hb, q⟩
theorem Inv.pinned {pins : List (Addr × Obj)} {σ : St} {H : Hp} {s : Shared} {fp : List Addr} (I : Inv X pins σ H s) (hf : ∀ b ∈ fp, FpOk X pins H b) (ho : ∀ b ∈ fp, ∃ o, s.heap.get? b = some o ∧ ∀ v, o.data ≠ .cell v) : Inv X (pins ++ pinsAt fp s.heap) σ H s :=
  I.pins_of fun p hp => (List.mem_append.mp hp).elim (fun z => I.pin p (List.mem_append_right _ z)) fun z => by
    obtain ⟨hb, e⟩ := of_pinsAt z
    obtain ⟨f0, f1, f2, _⟩ := hf p.1 hb
    obtain ⟨o, e', d⟩ := ho p.1 hb
    rw [e] at e'; cases e'
    exact ⟨e, f0, f1, f2, d⟩
theorem Inv.unpinned {pins pl : List (Addr × Obj)} {σ : St} {H : Hp} {s : Shared} (I : Inv X (pins ++ pl) σ H s) : Inv X pins σ H s := I.pins_of fun p hp => I.pin p (List.mem_append_right _ (List.mem_append_left _ hp))
theorem ps_for {iter : Expr} {body : List Stmt} {wi : TI} {g : TG} {tb : TS} {pos : Pos} (hp : PassesOwn (model X.prog X.w) X.A X.env X.xe) (hc : X.calm = true) (hi : PI X tg iter wi) (hg : PG X tg g) (hb : PSs X body tb)
    (hs : ∀ x, foldedSetIterable iter X.env x = pure x := by intro _; rfl) : PS X (.For tg iter body [] pos) (tFor wi g tb) := by
  intro pins s σ H D I h
  refine wpAny_For (thn (hi pins s σ H _ I h) fun v s1 h1 => thn h1 fun itv s2 h2 => ?_) hs
  obtain ⟨it, fp, tn, J, H2, e, I2, T, st2, f2, W, ⟨m0, w0⟩, turn⟩ := h2
  subst e
  -- what stays true of the iterator's objects through the loop
  have stat : ∀ {H' : Hp}, (∀ b ∈ fp, H' b = none) → ∀ b ∈ fp, FpOk X pins H' b := fun hn b hb => ⟨hn b hb, (f2 b hb).2⟩
  refine codeAny_forLoop_any (fun n s' => ∃ i σ' H', Inv X pins σ' H' s' ∧ tn i s'.heap ∧ (∀ b ∈ fp, H' b = none) ∧ W i n σ' H') ?_ m0 ⟨0, σ, H2, I2, st2, fun b hb => (f2 b hb).1, w0⟩
  rintro n s3 ⟨i, σ3, H3, I3, st3, fr3, w3⟩
  rcases turn i n σ3 H3 w3 with ⟨stop, qn⟩ | ⟨go, N, hN, step⟩
  · refine wpAny_passesOwn hp (thn (T.done X rfl rfl rfl hc i pins s3 σ3 H3 X.xe I3 (stat fr3) st3 stop) fun r s4 ⟨hr, I4⟩ => ?_)
    subst hr
    exact wpAny_execs_nil ⟨σ3, H3, I4, qn⟩
  · refine wpAny_passesOwn hp (thn (T.item X rfl rfl rfl hc i pins s3 σ3 H3 X.xe I3 (stat fr3) st3 go) fun r s4 ⟨u, hr, h4⟩ => ?_)
    subst hr
    refine wpAny_passesOwn hp (thn h4 fun _ s5 ⟨x, H5, I5, r5, y5, st5, fr5⟩ => ?_)
    have I5' := I5.pinned (stat fr5) (T.obj _ _ st5)
    refine wpAny_passesOwn hp (thn (hg _ s5 σ3 H5 x u _ I5' r5 (step x H5 y5)) fun _ s6 ⟨σ6, H6, I6, q6⟩ => ?_)
    refine wpAny_passesOwn hp (thn (hb _ s6 σ6 H6 _ I6 q6) fun f s7 q7 => ?_)
    have again : ∀ {σ7 : St} {H7 : Hp}, Inv X (pins ++ pinsAt fp s5.heap) σ7 H7 s7 → N σ7 H7 → ∃ m, m < n ∧ ∃ i σ' H', Inv X pins σ' H' s7 ∧ tn i s7.heap ∧ (∀ b ∈ fp, H' b = none) ∧ W i m σ' H' := fun {σ7 H7} I7 n7 => by
      obtain ⟨m', hm, w7⟩ := hN σ7 H7 n7
      refine ⟨m', hm, i + 1, σ7, H7, I7.unpinned, T.keep _ _ _ st5 fun b hb o e => (I7.pin (b, o) (List.mem_append_right _ (List.mem_append_right _ (mem_pinsAt hb e)))).1, fun b hb => ?_, w7⟩
      obtain ⟨o, e, d⟩ := T.obj _ _ st5 b hb
      exact (I7.pin (b, o) (List.mem_append_right _ (List.mem_append_right _ (mem_pinsAt hb e)))).2.1
    cases f with
    | next => obtain ⟨σ7, H7, I7, n7⟩ := q7; exact again I7 n7
    | cont => obtain ⟨σ7, H7, I7, n7⟩ := q7; exact again I7 n7
    | brk => obtain ⟨σ7, H7, I7, q7⟩ := q7; exact ⟨σ7, H7, I7.unpinned, q7⟩
    | ret v => obtain ⟨x7, σ7, H7, I7, r7, q7⟩ := q7; exact ⟨x7, σ7, H7, I7.unpinned, r7, q7⟩
end
theorem for_list {K : PySem.W.Frag} {a : Addr} {xs : List V} {g : TG} {tb : TS} {D : Ends} {σ : St} {H : Hp} (Pv : Nat → St → Hp → Prop) (h0 : Pv 0 σ H) (hl : ∀ i σ H, i ≤ xs.length → Pv i σ H → SqL K H a xs)
    (hs : ∀ i x σ H, xs[i]? = some x → Pv i σ H → g x σ H fun σ2 H2 => tb { D with nx := Pv (i + 1), ct := Pv (i + 1), bk := D.nx } σ2 H2) (hd : ∀ σ H, Pv xs.length σ H → D.nx σ H) :
    ∃ W : Nat → Nat → St → Hp → Prop, (∃ m, W 0 m σ H) ∧ ∀ i m σ H, W i m σ H →
      ((Itl K a).stop i H ∧ D.nx σ H) ∨ ((Itl K a).go i H ∧ ∃ N : St → Hp → Prop, (∀ σ' H', N σ' H' → ∃ m', m' < m ∧ W (i + 1) m' σ' H') ∧ ∀ x H', (Itl K a).yld i H x H' → g x σ H' fun σ2 H2 => tb { D with nx := N, ct := N, bk := D.nx } σ2 H2) := by
  refine ⟨fun i m σ H => m = xs.length - i ∧ i ≤ xs.length ∧ Pv i σ H, ⟨xs.length, by simp, Nat.zero_le _, h0⟩, ?_⟩
  rintro i m σ H ⟨rfl, hi, p⟩
  have q := hl i σ H hi p
  by_cases hlt : i < xs.length
  · refine .inr ⟨⟨xs, xs[i], q, by simp [hlt]⟩, Pv (i + 1), fun σ' H' p' => ⟨xs.length - (i + 1), by omega, rfl, hlt, p'⟩, fun x H' y => ?_⟩
    obtain ⟨e, y⟩ := y
    subst e
    exact hs i x σ _ (y xs q) p
  · have e : i = xs.length := by omega
    subst e
    exact .inl ⟨⟨xs, q, Nat.le_refl _⟩, hd σ H p⟩
theorem for_range {lo : Int} {n : Nat} {g : TG} {tb : TS} {D : Ends} {σ : St} {H : Hp} (Pv : Nat → St → Hp → Prop) (h0 : Pv 0 σ H)
    (hs : ∀ i σ H, i < n → Pv i σ H → g (.int (lo + i)) σ H fun σ2 H2 => tb { D with nx := Pv (i + 1), ct := Pv (i + 1), bk := D.nx } σ2 H2) (hd : ∀ σ H, Pv n σ H → D.nx σ H) :
    ∃ W : Nat → Nat → St → Hp → Prop, (∃ m, W 0 m σ H) ∧ ∀ i m σ H, W i m σ H →
      ((Itr lo n).stop i H ∧ D.nx σ H) ∨ ((Itr lo n).go i H ∧ ∃ N : St → Hp → Prop, (∀ σ' H', N σ' H' → ∃ m', m' < m ∧ W (i + 1) m' σ' H') ∧ ∀ x H', (Itr lo n).yld i H x H' → g x σ H' fun σ2 H2 => tb { D with nx := N, ct := N, bk := D.nx } σ2 H2) := by
  refine ⟨fun i m σ H => m = n - i ∧ i ≤ n ∧ Pv i σ H, ⟨n, by simp, Nat.zero_le _, h0⟩, ?_⟩
  rintro i m σ H ⟨rfl, hi, p⟩
  by_cases hlt : i < n
  · refine .inr ⟨hlt, Pv (i + 1), fun σ' H' p' => ⟨n - (i + 1), by omega, rfl, hlt, p'⟩, fun x H' y => ?_⟩
    obtain ⟨e, y⟩ := y
    subst e y
    exact hs i σ _ hlt p
  · have e : i = n := by omega
    subst e
    exact .inl ⟨Nat.le_refl _, hd σ H p⟩
end L2
namespace L2
open PySem PySem.Spec PyProof.Rows
abbrev R2 := V → V → Hp → VK → Prop
def OpR (X : Cx) (f : Value → Value → Sem Value) (r : R2) : Prop :=
  ∀ (pins : List (Addr × Obj)) (s : Shared) (σ : St) (H : Hp) (x y : V) (v u : Value) (Q : VK), Inv X pins σ H s → RelV x v → RelV y u → r x y H Q →
    wpAny (model X.prog X.w) X.A (f v u) (EP X pins σ Q) X.xe s
def UnR (X : Cx) (f : Value → Sem Value) (r : V → Hp → VK → Prop) : Prop :=
  ∀ (pins : List (Addr × Obj)) (s : Shared) (σ : St) (H : Hp) (x : V) (v : Value) (Q : VK), Inv X pins σ H s → RelV x v → r x H Q →
    wpAny (model X.prog X.w) X.A (f v) (EP X pins σ Q) X.xe s
def CallR (X : Cx) (f : Value) (r : List V → Hp → VK → Prop) : Prop :=
  ∀ (pins : List (Addr × Obj)) (s : Shared) (σ : St) (H : Hp) (xs : List V) (us : List Value) (Q : VK), Inv X pins σ H s → Vals xs us → r xs H Q →
    wpAny (model X.prog X.w) X.A (call f us) (EP X pins σ Q) X.xe s
def tOp (r : R2) (ta tb : TE) : TE := fun σ H Q => ta σ H fun x H1 => tb σ H1 fun y H2 => r x y H2 Q
def tUn (r : V → Hp → VK → Prop) (ta : TE) : TE := fun σ H Q => ta σ H fun x H1 => r x H1 Q
def rI (C : Int → Int → Prop) (g : Int → Int → V) : R2 := fun x y H Q => ∃ i j, x = .int i ∧ y = .int j ∧ C i j ∧ Q (g i j) H
def rI0 (g : Int → Int → V) : R2 := fun x y H Q => ∃ i j, x = .int i ∧ y = .int j ∧ Q (g i j) H
def rU (g : Int → V) : V → Hp → VK → Prop := fun x H Q => ∃ i, x = .int i ∧ Q (g i) H
section
variable {X : Cx} {a b c : Expr} {ta tb tc : TE} {pos : Pos}
theorem binT (ha : PE X a ta) (hb : PE X b tb) {pins : List (Addr × Obj)} {s : Shared} {σ : St} {H : Hp} {R : V → V → Hp → Prop} (I : Inv X pins σ H s)
    (h : ta σ H fun x H1 => tb σ H1 fun y H2 => R x y H2) {Q : Value → Shared → Prop} {f : Value → Value → Sem Value}
    (hf : ∀ v u s2 x y H2, Inv X pins σ H2 s2 → RelV x v → RelV y u → R x y H2 → wpAny (model X.prog X.w) X.A (f v u) Q X.xe s2) :
    wpAny (model X.prog X.w) X.A (eval a X.env) (fun v s₁ => wpAny (model X.prog X.w) X.A (eval b X.env) (fun u s₂ => wpAny (model X.prog X.w) X.A (f v u) Q X.xe s₂) X.xe s₁) X.xe s := by
  refine thn (ha pins s σ H _ I h) fun v s1 ⟨x, H1, I1, r1, q1⟩ => ?_
  refine thn (hb pins s1 σ H1 _ I1 q1) fun u s2 ⟨y, H2, I2, r2, q2⟩ => ?_
  exact hf v u s2 x y H2 I2 r1 r2 q2
theorem pe_op {op : Operator} {r : R2} (ho : OpR X (binaryOp op) r) (ha : PE X a ta) (hb : PE X b tb) : PE X (.BinOp a op b pos) (tOp r ta tb) := by
  intro pins s σ H Q I h
  exact wpAny_BinOp (binT ha hb I h fun v u s2 x y H2 I2 rx ry q => ho pins s2 σ H2 x y v u Q I2 rx ry q)
theorem pe_un {op : UnaryOp} {r : V → Hp → VK → Prop} (ho : UnR X (unaryOp op) r) (ha : PE X a ta) : PE X (.UnaryOp op a pos) (tUn r ta) := by
  intro pins s σ H Q I h
  exact UnaryOp_ (thn (ha pins s σ H _ I h) fun v s1 ⟨x, H1, I1, r1, q1⟩ => ho pins s1 σ H1 x v Q I1 r1 q1)
theorem opI {f : Value → Value → Sem Value} {C : Int → Int → Prop} {g : Int → Int → Int}
    (rule : ∀ (i j : Int) (t u : Tok) (s : Shared) (Q : Value → Shared → Prop) (E : Value → Shared → Prop), C i j → Q (.int (g i j) s.toks) { s with toks := s.toks + 1 } → wpAny (model X.prog X.w) X.A (f (.int i t) (.int j u)) Q E s) :
    OpR X f (rI C fun i j => .int (g i j)) := by
  intro pins s σ H x y v u Q I rx ry h
  obtain ⟨i, j, rfl, rfl, hc, q⟩ := h
  obtain ⟨t, rfl⟩ := rx
  obtain ⟨t', rfl⟩ := ry
  exact rule i j t t' s _ _ hc ⟨.int (g i j), H, I.tok _, ⟨_, rfl⟩, q⟩
theorem opI0 {f : Value → Value → Sem Value} {g : Int → Int → Int}
    (rule : ∀ (i j : Int) (t u : Tok) (s : Shared) (Q : Value → Shared → Prop) (E : Value → Shared → Prop), Q (.int (g i j) s.toks) { s with toks := s.toks + 1 } → wpAny (model X.prog X.w) X.A (f (.int i t) (.int j u)) Q E s) :
    OpR X f (rI0 fun i j => .int (g i j)) := by
  intro pins s σ H x y v u Q I rx ry h
  obtain ⟨i, j, rfl, rfl, q⟩ := h
  obtain ⟨t, rfl⟩ := rx
  obtain ⟨t', rfl⟩ := ry
  exact rule i j t t' s _ _ ⟨.int (g i j), H, I.tok _, ⟨_, rfl⟩, q⟩
theorem opB0 {f : Value → Value → Sem Value} {g : Int → Int → Bool}
    (rule : ∀ (i j : Int) (t u : Tok) (s : Shared) (Q : Value → Shared → Prop) (E : Value → Shared → Prop), Q (.bool (g i j)) s → wpAny (model X.prog X.w) X.A (f (.int i t) (.int j u)) Q E s) :
    OpR X f (rI0 fun i j => .bl (g i j)) := by
  intro pins s σ H x y v u Q I rx ry h
  obtain ⟨i, j, rfl, rfl, q⟩ := h
  obtain ⟨t, rfl⟩ := rx
  obtain ⟨t', rfl⟩ := ry
  exact rule i j t t' s _ _ ⟨.bl (g i j), H, I, rfl, q⟩
def CDiv (i j : Int) : Prop := 0 < j ∧ j < 1073741824
def CPow (i j : Int) : Prop := 0 ≤ j ∧ j ≤ 1000000 ∧ i.natAbs < 2 ^ 64
def CMul (i j : Int) : Prop := (-(2 ^ 64) < i ∧ i < 2 ^ 64) ∨ (-(2 ^ 64) < j ∧ j < 2 ^ 64)
theorem CMul.ok {i j : Int} (h : CMul i j) : IntMulOk i j := by
  rcases h with ⟨h1, h2⟩ | ⟨h1, h2⟩
  · exact .of_left (intBits_le_64 h1 h2)
  · exact .of_right (intBits_le_64 h1 h2)
theorem op_add : OpR X (binaryOp .Add) (rI0 fun i j => .int (i + j)) := opI0 fun _ _ _ _ _ _ _ q => add_int q
theorem op_sub : OpR X (binaryOp .Sub) (rI0 fun i j => .int (i - j)) := opI0 fun _ _ _ _ _ _ _ q => sub_int q
theorem op_mul : OpR X (binaryOp .Mult) (rI CMul fun i j => .int (i * j)) := opI fun _ _ _ _ _ _ _ hc q => mul_int q hc.ok
theorem op_fdiv : OpR X (binaryOp .FloorDiv) (rI CDiv fun i j => .int (i / j)) := opI fun i j _ _ _ _ _ hc q => by
  have h1 : (0 : Int) < j := hc.1
  have h2 : j < 1073741824 := hc.2
  exact floordiv_int (by omega) (by rw [Int.fdiv_eq_ediv_of_nonneg i (by omega)]; exact q) (.inl (PyProof.noPylong_small (by omega)))
theorem op_mod : OpR X (binaryOp .Mod) (rI (fun _ j => 0 < j) fun i j => .int (i % j)) := opI fun i j _ _ _ _ _ hc q => by
  have h1 : (0 : Int) < j := hc
  exact mod_int' (by omega) (by rw [Int.fmod_eq_emod_of_nonneg i (by omega)]; exact q)
theorem op_pow : OpR X (binaryOp .Pow) (rI CPow fun i j => .int (i ^ j.toNat)) := opI fun _ _ _ _ _ _ _ hc q => pow_int_small hc.1 hc.2.1 hc.2.2 q
theorem unI {f : Value → Sem Value} {g : Int → Int}
    (rule : ∀ (i : Int) (t : Tok) (s : Shared) (Q : Value → Shared → Prop) (E : Value → Shared → Prop), Q (.int (g i) s.toks) { s with toks := s.toks + 1 } → wpAny (model X.prog X.w) X.A (f (.int i t)) Q E s) :
    UnR X f (rU fun i => .int (g i)) := by
  intro pins s σ H x v Q I rx h
  obtain ⟨i, rfl, q⟩ := h
  obtain ⟨t, rfl⟩ := rx
  exact rule i t s _ _ ⟨.int (g i), H, I.tok _, ⟨_, rfl⟩, q⟩
theorem un_neg : UnR X (unaryOp .USub) (rU fun i => .int (-i)) := unI fun _ _ _ _ _ q => neg_int q
end
def scal : V → V → Bool
  | .non, .non => true | .non, .int _ => true | .int _, .non => true | .non, .bl _ => true | .bl _, .non => true | .non, .str _ => true | .str _, .non => true
  | .int _, .int _ => true | .bl _, .bl _ => true | .str _, .str _ => true | .byt _, .byt _ => true
  | .int _, .str _ => true | .str _, .int _ => true | .bl _, .str _ => true | .str _, .bl _ => true
  | _, _ => false
def rEq : R2 := fun x y H Q => scal x y = true ∧ Q (.bl (decide (x = y))) H
def rNe : R2 := fun x y H Q => scal x y = true ∧ Q (.bl (!decide (x = y))) H
theorem dec_int {i j : Int} : decide (V.int i = V.int j) = (i == j) := by
  rw [Bool.eq_iff_iff]
  simp
theorem dec_bl {i j : Bool} : decide (V.bl i = V.bl j) = (i == j) := by
  rw [Bool.eq_iff_iff]
  simp
theorem dec_str {i j : Str} : decide (V.str i = V.str j) = (i == j) := by
  rw [Bool.eq_iff_iff]
  simp
theorem dec_byt {i j : Array UInt8} : decide (V.byt i = V.byt j) = (i.toList == j.toList) := by
  rw [Bool.eq_iff_iff]
  cases i
  cases j
  simp
section
variable {X : Cx} {a b c : Expr} {ta tb tc : TE} {pos : Pos}
theorem fin_bl {pins : List (Addr × Obj)} {σ : St} {H : Hp} {s : Shared} {Q : VK} {k k' : Bool} (I : Inv X pins σ H s) (q : Q (.bl k) H) (e : k = k') : EP X pins σ Q (.bool k') s := by
  subst e
  exact ⟨.bl k, H, I, rfl, q⟩
theorem op_eq : OpR X (compareOp .Eq) rEq := by
  intro pins s σ H x y v u Q I rx ry h
  obtain ⟨hs, q⟩ := h
  cases x with
  | non =>
    cases rx
    cases y with
    | non => cases ry; exact PySem.EqNone.eq_none_none (fin_bl I q (by simp))
    | bl j => cases ry; exact PySem.EqNone.eq_none_bool (fin_bl I q (by simp))
    | int j => obtain ⟨t', rfl⟩ := ry; exact PySem.EqNone.eq_none_int (fin_bl I q (by simp))
    | str j => obtain ⟨t', rfl⟩ := ry; exact PySem.EqNone.eq_none_str (fin_bl I q (by simp))
    | _ => exact absurd (show false = true from hs) Bool.false_ne_true
  | bl i =>
    cases rx
    cases y with
    | non => cases ry; exact PySem.EqNone.eq_bool_none (fin_bl I q (by simp))
    | bl j => cases ry; exact eq_bool (fin_bl I q dec_bl)
    | str j => obtain ⟨t', rfl⟩ := ry; exact PySem.EqMixed.eq_bool_str (fin_bl I q (by simp))
    | _ => exact absurd (show false = true from hs) Bool.false_ne_true
  | int i =>
    obtain ⟨t, rfl⟩ := rx
    cases y with
    | non => cases ry; exact PySem.EqNone.eq_int_none (fin_bl I q (by simp))
    | int j => obtain ⟨t', rfl⟩ := ry; exact eq_int (fin_bl I q dec_int)
    | str j => obtain ⟨t', rfl⟩ := ry; exact PySem.EqMixed.eq_int_str (fin_bl I q (by simp))
    | _ => exact absurd (show false = true from hs) Bool.false_ne_true
  | str i =>
    obtain ⟨t, rfl⟩ := rx
    cases y with
    | non => cases ry; exact PySem.EqNone.eq_str_none (fin_bl I q (by simp))
    | bl j => cases ry; exact PySem.EqMixed.eq_str_bool (fin_bl I q (by simp))
    | int j => obtain ⟨t', rfl⟩ := ry; exact PySem.EqMixed.eq_str_int (fin_bl I q (by simp))
    | str j => obtain ⟨t', rfl⟩ := ry; exact eq_str (fin_bl I q dec_str)
    | _ => exact absurd (show false = true from hs) Bool.false_ne_true
  | byt i =>
    obtain ⟨t, rfl⟩ := rx
    cases y with
    | byt j => obtain ⟨t', rfl⟩ := ry; exact PySem.W.eq_bytes (fin_bl I q dec_byt)
    | _ => exact absurd (show false = true from hs) Bool.false_ne_true
  | _ => cases y <;> exact absurd (show false = true from hs) Bool.false_ne_true
theorem op_ne : OpR X (compareOp .NotEq) rNe := by
  intro pins s σ H x y v u Q I rx ry h
  obtain ⟨hs, q⟩ := h
  cases x with
  | non =>
    cases rx
    cases y with
    | non => cases ry; exact PySem.EqNone.ne_none_none (fin_bl I q (by simp))
    | bl j => cases ry; exact PySem.EqNone.ne_none_bool (fin_bl I q (by simp))
    | int j => obtain ⟨t', rfl⟩ := ry; exact PySem.EqNone.ne_none_int (fin_bl I q (by simp))
    | str j => obtain ⟨t', rfl⟩ := ry; exact PySem.EqNone.ne_none_str (fin_bl I q (by simp))
    | _ => exact absurd (show false = true from hs) Bool.false_ne_true
  | bl i =>
    cases rx
    cases y with
    | non => cases ry; exact PySem.EqNone.ne_bool_none (fin_bl I q (by simp))
    | bl j => cases ry; exact ne_bool (fin_bl I q (congrArg not dec_bl))
    | str j => obtain ⟨t', rfl⟩ := ry; exact PySem.EqMixed.ne_bool_str (fin_bl I q (by simp))
    | _ => exact absurd (show false = true from hs) Bool.false_ne_true
  | int i =>
    obtain ⟨t, rfl⟩ := rx
    cases y with
    | non => cases ry; exact PySem.EqNone.ne_int_none (fin_bl I q (by simp))
    | int j => obtain ⟨t', rfl⟩ := ry; exact ne_int (fin_bl I q (congrArg not dec_int))
    | str j => obtain ⟨t', rfl⟩ := ry; exact PySem.EqMixed.ne_int_str (fin_bl I q (by simp))
    | _ => exact absurd (show false = true from hs) Bool.false_ne_true
  | str i =>
    obtain ⟨t, rfl⟩ := rx
    cases y with
    | non => cases ry; exact PySem.EqNone.ne_str_none (fin_bl I q (by simp))
    | bl j => cases ry; exact PySem.EqMixed.ne_str_bool (fin_bl I q (by simp))
    | int j => obtain ⟨t', rfl⟩ := ry; exact PySem.EqMixed.ne_str_int (fin_bl I q (by simp))
    | str j => obtain ⟨t', rfl⟩ := ry; exact ne_str (fin_bl I q (congrArg not dec_str))
    | _ => exact absurd (show false = true from hs) Bool.false_ne_true
  | byt i =>
    obtain ⟨t, rfl⟩ := rx
    cases y with
    | byt j => obtain ⟨t', rfl⟩ := ry; exact PySem.W.ne_bytes (fin_bl I q (congrArg not dec_byt))
    | _ => exact absurd (show false = true from hs) Bool.false_ne_true
  | _ => cases y <;> exact absurd (show false = true from hs) Bool.false_ne_true
theorem op_lt : OpR X (compareOp .Lt) (rI0 fun i j => .bl (decide (i < j))) := opB0 fun _ _ _ _ _ _ _ q => lt_int q
theorem op_le : OpR X (compareOp .LtE) (rI0 fun i j => .bl (decide (i ≤ j))) := opB0 fun _ _ _ _ _ _ _ q => le_int q
theorem op_gt : OpR X (compareOp .Gt) (rI0 fun i j => .bl (decide (j < i))) := opB0 fun _ _ _ _ _ _ _ q => gt_int q
theorem nomark (b : Expr) {op : CmpOp} (h : op ≠ .In := by decide) (h2 : op ≠ .NotIn := by decide) : behindInMarks op b = false := by
  have e1 : (op == CmpOp.In) = false := by cases op <;> first | rfl | exact absurd rfl h
  have e2 : (op == CmpOp.NotIn) = false := by cases op <;> first | rfl | exact absurd rfl h2
  cases b <;> simp [behindInMarks, e1, e2]
theorem pe_cmpR {op : CmpOp} {r : R2} (ho : OpR X (compareOp op) r) (ha : PE X a ta) (hb : PE X b tb) (hm : behindInMarks op b = false) : PE X (.Compare a [op] [b] pos) (tOp r ta tb) := by
  intro pins s σ H Q I h
  exact wpAny_Compare1 (binT ha hb I h fun v u s2 x y H2 I2 rx ry q => ho pins s2 σ H2 x y v u Q I2 rx ry q) hm
def tTest (t : TE) : TT := fun σ H Q => t σ H fun x H' => ∃ k, x = .bl k ∧ Q k H'
theorem pt_cmpR {op : CmpOp} {r : R2} (ho : OpR X (compareOp op) r) (ha : PE X a ta) (hb : PE X b tb) (hm : behindInMarks op b = false) : PT X (.Compare a [op] [b] pos) (tTest (tOp r ta tb)) := by
  intro pins s σ H Q I h
  refine wpAny_isTrue_Compare1 (thn (ha pins s σ H _ I h) fun v s1 ⟨x, H1, I1, r1, q1⟩ => thn (hb pins s1 σ H1 _ I1 q1) fun u s2 ⟨y, H2, I2, r2, q2⟩ =>
    thn (ho pins s2 σ H2 x y v u _ I2 r1 r2 q2) fun c s3 ⟨z, H3, I3, r3, k, e, q3⟩ => ?_) hm
  subst e
  cases r3
  exact wpAny_truthy_bool ⟨H3, I3, q3⟩
def tChain (r r' : R2) (ta tb tc : TE) : TE := fun σ H Q => ta σ H fun x H1 => tb σ H1 fun y H2 => r x y H2 fun z H3 => ∃ k, z = .bl k ∧
  (if k = true then tc σ H3 fun w' H4 => r' y w' H4 Q else Q (.bl false) H3)
theorem pe_chain {op op' : CmpOp} {r r' : R2} (ho : OpR X (compareOp op) r) (ho' : OpR X (compareOp op') r') (ha : PE X a ta) (hb : PE X b tb) (hc : PE X c tc)
    (hm : lastMarks [op, op'] [b, c] = false := by with_unfolding_all rfl) : PE X (.Compare a [op, op'] [b, c] pos) (tChain r r' ta tb tc) := by
  intro pins s σ H Q I h
  refine Compare_chain (thn (ha pins s σ H _ I h) fun v s1 ⟨x, H1, I1, r1, q1⟩ => chain_link (thn (hb pins s1 σ H1 _ I1 q1) fun u s2 ⟨y, H2, I2, r2, q2⟩ =>
    thn (ho pins s2 σ H2 x y v u _ I2 r1 r2 q2) fun d s3 ⟨z, H3, I3, r3, k, e, q3⟩ => ?_)) hm
  subst e
  cases r3
  refine wpAny_truthy_bool ?_
  cases k with
  | false => exact ite_ff ⟨.bl false, H3, I3, rfl, q3⟩
  | true => exact ite_tt (chain_last (thn (hc pins s3 σ H3 _ I3 q3) fun w' s4 ⟨z', H4, I4, r4, q4⟩ => ho' pins s4 σ H4 y z' u w' Q I4 r2 r4 q4))
theorem line63 : (sizeLine : Nat) < 2 ^ 63 := by rw [sizeLine_eq]; decide
theorem vals1 {x : V} {us : List Value} (r : Vals [x] us) : ∃ u, us = [u] ∧ RelV x u := by
  cases r with
  | cons r1 r2 => cases r2; exact ⟨_, rfl, r1⟩
theorem vals2 {x y : V} {us : List Value} (r : Vals [x, y] us) : ∃ u w', us = [u, w'] ∧ RelV x u ∧ RelV y w' := by
  cases r with
  | cons r1 r2 =>
    cases r2 with
    | cons r3 r4 => cases r4; exact ⟨_, _, rfl, r1, r3⟩
theorem call_abs : CallR X (.builtin "abs") (fun xs H Q => ∃ i, xs = [.int i] ∧ Q (.int (if i < 0 then -i else i)) H) := by
  intro pins s σ H xs us Q I r h
  obtain ⟨i, rfl, q⟩ := h
  obtain ⟨u, rfl, t, rfl⟩ := vals1 r
  exact call_abs_int fun u tk => ⟨.int (if i < 0 then -i else i), H, I.tok _, ⟨_, rfl⟩, q⟩
theorem call_max2 (hc : X.calm = true) : CallR X (.builtin "max") (fun xs H Q => ∃ i j, xs = [.int i, .int j] ∧ Q (.int (if j > i then j else i)) H) := by
  intro pins s σ H xs us Q I r h
  obtain ⟨i, j, rfl, q⟩ := h
  obtain ⟨u, w', rfl, ⟨t, rfl⟩, ⟨t', rfl⟩⟩ := vals2 r
  refine max_two_ints (I.ok.hd hc) fun h' tk k => ⟨_, H, I.kept k, ?_, q⟩
  by_cases hj : j > i
  · rw [if_pos hj, if_pos hj]; exact ⟨_, rfl⟩
  · rw [if_neg hj, if_neg hj]; exact ⟨_, rfl⟩
theorem call_min2 (hc : X.calm = true) : CallR X (.builtin "min") (fun xs H Q => ∃ i j, xs = [.int i, .int j] ∧ Q (.int (if j < i then j else i)) H) := by
  intro pins s σ H xs us Q I r h
  obtain ⟨i, j, rfl, q⟩ := h
  obtain ⟨u, w', rfl, ⟨t, rfl⟩, ⟨t', rfl⟩⟩ := vals2 r
  refine min_two_ints (I.ok.hd hc) fun h' tk k => ⟨_, H, I.kept k, ?_, q⟩
  by_cases hj : j < i
  · rw [if_pos hj, if_pos hj]; exact ⟨_, rfl⟩
  · rw [if_neg hj, if_neg hj]; exact ⟨_, rfl⟩
theorem call_int1 : CallR X (.type "int") (fun xs H Q => (∃ i, xs = [.int i] ∧ Q (.int i) H) ∨ ∃ k, xs = [.bl k] ∧ Q (.int (if k then 1 else 0)) H) := by
  intro pins s σ H xs us Q I r h
  rcases h with ⟨i, rfl, q⟩ | ⟨k, rfl, q⟩
  · obtain ⟨u, rfl, t, rfl⟩ := vals1 r
    exact call_int_int ⟨.int i, H, I, ⟨_, rfl⟩, q⟩
  · obtain ⟨u, rfl, r1⟩ := vals1 r
    cases r1
    exact call_int_bool ⟨.int (if k then 1 else 0), H, I.tok _, ⟨_, rfl⟩, q⟩
end
end L2
namespace L2
open PySem PySem.Spec PyProof.Rows
structure ObjM (h : Heap) (x dx C : Addr) (mA : Str → Option Value) : Prop where
  obj : h.get? x = some (PySem.W.instObj C dx)
  ns : h.Ns1 dx mA
  ne : dx ≠ x
theorem lookIn_ns {h : Heap} {dx : Addr} {mA : Str → Option Value} (n : h.Ns1 dx mA) : ∃ od, h.get? dx = some od ∧ ∀ name, PySem.W.lookIn name od = some (mA name) := by
  obtain ⟨o, es, ep, ho, hd, hk, _, hm⟩ := n
  refine ⟨o, ho, fun name => ?_⟩
  have e := hm name
  unfold nsFind findBy at e
  rw [← Array.find?_toList] at e
  unfold PySem.W.lookIn
  rw [hd]
  dsimp only
  split
  · rename_i y q
    rw [q] at e
    exact congrArg some e
  · rename_i q
    rw [q] at e
    have a : es.toList.any (·.refKey) = false := by
      rw [List.any_eq_false]
      intro y hy
      obtain ⟨z, t, hkey⟩ := hk y (Array.mem_toList_iff.mp hy)
      simp [DictEntry.refKey, hkey]
    have a' : ¬ es.toList.any (·.refKey) = true := by rw [a]; exact Bool.false_ne_true
    rw [if_neg a']
    exact congrArg some e
theorem ObjM.look {h : Heap} {x dx C : Addr} {mA : Str → Option Value} (I : ObjM h x dx C mA) : ∃ od, PySem.W.InstAt h x (PySem.W.instObj C dx) C (some od) ∧ ∀ name, PySem.W.lookIn name od = some (mA name) :=
  let ⟨od, ho, hl⟩ := lookIn_ns I.ns
  ⟨od, ⟨I.obj, rfl, rfl, ho⟩, hl⟩
section
variable {prog : Program} {w : World} {A : Around} {E : Value → Shared → Prop} {s : Shared} {K : PySem.W.Frag} {x dx C f : Addr} {mA : Str → Option Value} {name : Str} {v : Value}
theorem get_map {expr : Bool} {Q : Value → Shared → Prop} (X : K.In s.heap) (I : ObjM s.heap x dx C mA) (hg : PySem.W.plainGet K C name = true) (hh : PySem.W.hasDictIn K C = true)
    (ha : PySem.W.findIn K (.ref C) name = some none) (hv : mA name = some v) (hv' : PySem.W.handedIn v = true) (h : Q v { s with toks := s.toks + 1 }) :
    wpAny (model prog w) A (getAttr (.ref x) name expr) Q E s := by
  obtain ⟨od, J, hl⟩ := I.look
  exact PySem.W.get_value X J (PySem.W.plainGet_of hg).1 (PySem.W.findObj_own hh ha rfl (by rw [hl, hv])) hv' h
theorem get_meth {pl : Sem Bool} {Q : Value × List Value → Shared → Prop} (X : K.In s.heap) (I : ObjM s.heap x dx C mA) (hg : PySem.W.plainGet K C name = true)
    (hf : PySem.W.findIn K (.ref C) name = some (some (.ref f))) (ht : PySem.W.isFn K (.ref f) = true) (hv : mA name = none) (h : Q (.ref f, [.ref x]) s) :
    wpAny (model prog w) A (getMethod (.ref x) name pl) Q E s := by
  obtain ⟨od, J, hl⟩ := I.look
  exact PySem.W.method_fn X J (PySem.W.plainGet_of hg).1 (PySem.W.plainGet_of hg).2 hf (beq_iff_eq.mp ht) (by show (PySem.W.lookIn name od).map (·.isSome) = some false; rw [hl, hv]; rfl) h
theorem set_map {ns : List Str} {Q : Unit → Shared → Prop} (X : K.In s.heap) (I : ObjM s.heap x dx C mA)
    (hs : PySem.W.findIn K (.ref C) "__setattr__" = some (some (.builtin "object.__setattr__"))) (hp : PySem.W.plainOver K C = true) (ht : PySem.W.takerIn K C name = some none) (hh : PySem.W.hasDictIn K C = true)
    (hw : PySem.Within mA ns) (hsz : ns.length ≤ sizeLine)
    (h : ∀ h', ObjM h' x dx C (fun y => if y = name then some v else mA y) → Heap.SameBut dx s.heap h' → Q () { s with heap := h', toks := s.toks + 2 }) :
    wpAny (model prog w) A (setAttr (.ref x) name v) Q E s := by
  obtain ⟨od, J, hl⟩ := I.look
  refine PySem.W.set_plain X J hs (PySem.W.osa_open (s := { s with toks := s.toks + 1 }) (r := none) X J hp ht fun b => ?_)
  obtain ⟨cd, hc, hd'⟩ := PySem.W.any_some hh
  have hx : s.heap.get? x = some ⟨.ref C, some dx, .plain, #[]⟩ := I.obj
  refine wpAny_bind (wpAny_pure (wpAny_bind (wpAny_bind (wpAny_loadPart hx (wpAny_bind (PySem.W.Looks.here (s := { s with toks := s.toks + 1 }) (PySem.W.looks_clsIn X hc) ?_))))))
  rw [hd']
  refine wpAny_pure (a := some dx) (wpAny_bind (wpAny_pure (wpAny_bind ?_)))
  refine wpAny_nsSet1 (s := { s with toks := s.toks + 1 }) I.ns fun h' hn2 hs2 => ?_
  obtain ⟨oD, esD, epD, hoD, hdD, hcD⟩ := hn2.count (PySem.Within.cons name v hw)
  refine wpAny_bind (wpAny_lookBehind hoD (by rw [hdD]; exact pastItsLine_dict (Nat.le_trans hcD (by rw [List.length_cons]; omega))) ?_)
  exact wpAny_pure (h _ ⟨(hs2.2 _ (Ne.symm I.ne)).trans I.obj, hn2, I.ne⟩ hs2)
theorem make_map {R : Result → Shared → Prop} {vs : List Value} {kw : List (Str × Value)} (X : K.In s.heap) (hm : PySem.W.makesIn K C = true)
    (hi : PySem.W.findIn K (.ref C) "__init__" = some (some (.ref f))) (hf : PySem.W.typeIn K (.ref f) = some (.type "function"))
    (h : codeAny (model prog w) (A.under (.builtin "type.__call__" ⟨.ref C :: vs, kw⟩)) (.call (.ref f) ⟨.ref (s.heap.objs.size + 1) :: vs, kw⟩) (PySem.W.InitBack (s.heap.objs.size + 1) R)
      { s with heap := (s.heap.push PySem.W.emptyDict).push (PySem.W.instObj C s.heap.objs.size) }) :
    codeAny (model prog w) A (.call (.ref C) ⟨vs, kw⟩) R s := by
  obtain ⟨hh, g, d, t, os⟩ := s
  exact PySem.W.make_core (PySem.W.makes_of X hm) (PySem.W.looks_findIn X hi) (fun self => PySem.W.bind_fn X self hf) (.inl rfl) h
theorem make_map0 {R : Result → Shared → Prop} (X : K.In s.heap) (hm : PySem.W.makesIn K C = true)
    (hi : PySem.W.findIn K (.ref C) "__init__" = some (some (.builtin "object.__init__")))
    (hb : ∀ self, PySem.W.Looks (model prog w) s.heap (bindSpecial (.builtin "object.__init__") self) (.builtin "object.__init__", [self]))
    (h : codeAny (model prog w) (A.under (.builtin "type.__call__" ⟨[.ref C], []⟩)) (.call (.builtin "object.__init__") ⟨[.ref (s.heap.objs.size + 1)], []⟩) (PySem.W.InitBack (s.heap.objs.size + 1) R)
      { s with heap := (s.heap.push PySem.W.emptyDict).push (PySem.W.instObj C s.heap.objs.size) }) :
    codeAny (model prog w) A (.call (.ref C) ⟨[], []⟩) R s := by
  obtain ⟨hh, g, d, t, os⟩ := s
  exact PySem.W.make_core (PySem.W.makes_of X hm) (PySem.W.looks_findIn X hi) hb (.inr ⟨rfl, rfl⟩) h
end
def putF (f : Str) (v : V) : List (Str × V) → List (Str × V)
  | [] => [(f, v)]
  | (g, x) :: r => if g = f then (g, v) :: r else (g, x) :: putF f v r
theorem lookup_putF (f g : Str) (v : V) : ∀ fs : List (Str × V), (putF f v fs).lookup g = if g = f then some v else fs.lookup g
  | [] => by
    show List.lookup g [(f, v)] = _
    by_cases h : g = f
    · have hb : (g == f) = true := beq_iff_eq.mpr h
      simp only [List.lookup, hb, if_pos h]
    · have hb : (g == f) = false := beq_eq_false_iff_ne.mpr h
      simp only [List.lookup, hb, if_neg h]
  | (k, x) :: r => by
    have ih := lookup_putF f g v r
    rw [show putF f v ((k, x) :: r) = (if k = f then (k, v) :: r else (k, x) :: putF f v r) from rfl]
    by_cases hk : k = f
    · rw [if_pos hk]
      by_cases h : g = k
      · have hb : (g == k) = true := beq_iff_eq.mpr h
        simp only [List.lookup, hb, if_pos (h.trans hk)]
      · have hb : (g == k) = false := beq_eq_false_iff_ne.mpr h
        simp only [List.lookup, hb, if_neg (fun e : g = f => h (e.trans hk.symm))]
    · rw [if_neg hk]
      by_cases h : g = k
      · have hb : (g == k) = true := beq_iff_eq.mpr h
        simp only [List.lookup, hb, if_neg (fun e : g = f => hk (h.symm.trans e))]
      · have hb : (g == k) = false := beq_eq_false_iff_ne.mpr h
        simp only [List.lookup, hb]
        exact ih
theorem keys_putF (f : Str) (v : V) : ∀ fs : List (Str × V), f ∈ (putF f v fs).map (·.1) ∧ ∀ g, g ∈ fs.map (·.1) → g ∈ (putF f v fs).map (·.1)
  | [] => ⟨by simp [putF], fun g h => by simp at h⟩
  | (k, x) :: r => by
    obtain ⟨i1, i2⟩ := keys_putF f v r
    rw [show putF f v ((k, x) :: r) = (if k = f then (k, v) :: r else (k, x) :: putF f v r) from rfl]
    by_cases hk : k = f
    · rw [if_pos hk]
      subst hk
      exact ⟨by simp, fun g h => by simpa using h⟩
    · rw [if_neg hk]
      refine ⟨?_, fun g h => ?_⟩
      · rw [List.map_cons]
        exact List.mem_cons_of_mem _ i1
      · rw [List.map_cons] at h ⊢
        rcases List.mem_cons.mp h with e | e
        · exact List.mem_cons.mpr (.inl e)
        · exact List.mem_cons_of_mem _ (i2 g e)
theorem length_putF (f : Str) (v : V) : ∀ fs : List (Str × V), (putF f v fs).length ≤ fs.length + 1
  | [] => by simp [putF]
  | (k, x) :: r => by
    have ih := length_putF f v r
    rw [show putF f v ((k, x) :: r) = (if k = f then (k, v) :: r else (k, x) :: putF f v r) from rfl]
    by_cases hk : k = f
    · rw [if_pos hk, List.length_cons, List.length_cons]; omega
    · rw [if_neg hk, List.length_cons, List.length_cons]; omega
theorem RelO.some_of {v : V} {o : Option Value} (r : RelO (some v) o) : ∃ u, o = some u ∧ RelV v u := by
  cases o with
  | none => exact (show False from r).elim
  | some u => exact ⟨u, rfl, r⟩
theorem RelO.none_of {o : Option Value} (r : RelO none o) : o = none := by
  cases o with
  | none => rfl
  | some u => exact (show False from r).elim
theorem handed_of {v : V} {u : Value} (r : RelV v u) : PySem.W.handedIn u = true := by
  cases v with
  | non => cases (show u = Value.none from r); rfl
  | bl b => cases (show u = Value.bool b from r); rfl
  | int i => obtain ⟨t, e⟩ := (show ∃ t, u = Value.int i t from r); cases e; rfl
  | str x => obtain ⟨t, e⟩ := (show ∃ t, u = Value.str x t from r); cases e; rfl
  | byt b => obtain ⟨t, e⟩ := (show ∃ t, u = Value.bytes b t from r); cases e; rfl
  | flt b => obtain ⟨t, e⟩ := (show ∃ t, u = Value.float b t from r); cases e; rfl
  | ref a => cases (show u = Value.ref a from r); rfl
  | ty n => cases (show u = Value.type n from r); rfl
section
variable {P : Program} {w : World} {H H' : Hp} {h h' : Heap} {a C dx : Addr} {fs fs' : List (Str × V)}
theorem ins_get (hok : HOk P w H h) (e : H a = some (.ins C dx fs)) : ∃ mA, ObjM h a dx C mA ∧ (∀ f, RelO (fs.lookup f) (mA f)) ∧ PySem.Within mA (fs.map (·.1)) ∧ fs.length ≤ 1000 ∧ H dx = some (.own a) := by
  obtain ⟨d, z, ne, ob, mA, n, r, q⟩ := (show ObjOk P w H h a (.ins C dx fs) from hok a _ e)
  exact ⟨mA, ⟨ob, n, ne⟩, r, q, z, d⟩
end
structure Cls (K : PySem.W.Frag) (C : Addr) : Prop where
  pg : PySem.W.plainGet K C Str.empty = true
  hd : PySem.W.hasDictIn K C = true
  po : PySem.W.plainOver K C = true
  sa : PySem.W.findIn K (.ref C) "__setattr__" = some (some (.builtin "object.__setattr__"))
theorem Cls.get {K : PySem.W.Frag} {C : Addr} (c : Cls K C) (f : Str) : PySem.W.plainGet K C f = true := c.pg
def NoAttr (K : PySem.W.Frag) (C : Addr) (f : Str) : Prop := PySem.W.findIn K (.ref C) f = some none
theorem NoAttr.taker {K : PySem.W.Frag} {C : Addr} {f : Str} (n : NoAttr K C f) : PySem.W.takerIn K C f = some none := by
  unfold PySem.W.takerIn
  rw [show PySem.W.findIn K (.ref C) f = some none from n]
  rfl
structure Meth (K : PySem.W.Frag) (C : Addr) (m : Str) (f : Addr) : Prop where
  at_ : PySem.W.findIn K (.ref C) m = some (some (.ref f))
  fn : PySem.W.isFn K (.ref f) = true
  kp : PySem.W.keepIn K (.ref f) = true
section
variable {X : Cx} {pins : List (Addr × Obj)} {σ : St} {H : Hp} {s : Shared} {a C dx : Addr} {fs : List (Str × V)} {f : Str} {v : V} {A : Around} {E : Value → Shared → Prop}
theorem getattr_ok {b : Bool} {Q : Value → Shared → Prop} (I : Inv X pins σ H s) (e : H a = some (.ins C dx fs)) (c : Cls X.K C) (n : NoAttr X.K C f) (l : fs.lookup f = some v)
    (h : ∀ u s', Inv X pins σ H s' → RelV v u → Q u s') : wpAny (model X.prog X.w) A (getAttr (.ref a) f b) Q E s := by
  obtain ⟨mA, O, r, _, _, _⟩ := ins_get I.hok e
  obtain ⟨u, hu, ru⟩ := RelO.some_of (v := v) (o := mA f) (by rw [← l]; exact r f)
  exact get_map I.kIn O (c.get f) c.hd n hu (handed_of ru) (h u _ (I.tok _) ru)
theorem getmeth_ok {m : Str} {g : Addr} {pl : Sem Bool} {Q : Value × List Value → Shared → Prop} (I : Inv X pins σ H s) (e : H a = some (.ins C dx fs)) (c : Cls X.K C) (k : Meth X.K C m g) (l : fs.lookup m = none)
    (h : Q (.ref g, [.ref a]) s) : wpAny (model X.prog X.w) A (getMethod (.ref a) m pl) Q E s := by
  obtain ⟨mA, O, r, _, _, _⟩ := ins_get I.hok e
  have hn : mA m = none := RelO.none_of (by rw [← l]; exact r m)
  exact get_meth I.kIn O (c.get m) k.at_ k.fn hn h
theorem setattr_ok {y : V} {u : Value} {Q : Unit → Shared → Prop} (I : Inv X pins σ H s) (e : H a = some (.ins C dx fs)) (c : Cls X.K C) (n : NoAttr X.K C f) (hl : fs.length < 1000) (ry : RelV y u)
    (h : ∀ s', Inv X pins σ (upd H a (.ins C dx (putF f y fs))) s' → Q () s') : wpAny (model X.prog X.w) A (setAttr (.ref a) f u) Q E s := by
  obtain ⟨mA, O, r, wi, _, ho⟩ := ins_get I.hok e
  have hz : (fs.map (·.1)).length ≤ sizeLine := by rw [List.length_map, sizeLine_eq]; omega
  refine set_map I.kIn O c.sa c.po n.taker c.hd wi hz fun h' O' sb => h _ ?_
  have hd : ∃ o, h'.get? dx = some o := let ⟨o, _, _, e', _⟩ := O'.ns; ⟨o, e'⟩
  refine I.write (x := a) (e := dx) (by rw [e]; exact True.intro) (.inr ho) (fun b q hb z => (sb.2 b hb).trans z) hd ?_
  refine ⟨by rw [upd_ne O.ne]; exact ho, ?_, O.ne, O'.obj, _, O'.ns, fun g => ?_, fun g hg => ?_⟩
  · have := length_putF f y fs; omega
  · show RelO ((putF f y fs).lookup g) (if g = f then some u else mA g)
    rw [lookup_putF]
    by_cases q : g = f
    · rw [if_pos q, if_pos q]; exact ry
    · rw [if_neg q, if_neg q]; exact r g
  · by_cases q : g = f
    · rw [q]; exact (keys_putF f y fs).1
    · refine (keys_putF f y fs).2 g (wi g fun z => hg ?_)
      show (if g = f then some u else mA g) = none
      rw [if_neg q]; exact z
theorem Inv.made (I : Inv X pins σ H s) : Inv X pins σ (upd (upd H s.heap.objs.size (.own (s.heap.objs.size + 1))) (s.heap.objs.size + 1) (.ins C s.heap.objs.size []))
    { s with heap := (s.heap.push PySem.W.emptyDict).push (PySem.W.instObj C s.heap.objs.size) } := by
  have e1 : (s.heap.push PySem.W.emptyDict).get? s.heap.objs.size = some PySem.W.emptyDict := Heap.get?_push_size s.heap rfl
  have e2 : ((s.heap.push PySem.W.emptyDict).push (PySem.W.instObj C s.heap.objs.size)).get? (s.heap.objs.size + 1) = some (PySem.W.instObj C s.heap.objs.size) := by
    have := Heap.get?_push_size (s.heap.push PySem.W.emptyDict) (o := PySem.W.instObj C s.heap.objs.size) rfl
    rwa [Heap.size_push] at this
  have e3 : (s.heap.push PySem.W.emptyDict).Ns s.heap.objs.size (fun _ => none) := ⟨PySem.W.emptyDict, #[], _, e1, rfl, (fun e he => absurd he (by simp)), fun _ => rfl⟩
  have I1 := I.laid (a := s.heap.objs.size) (o := .own (s.heap.objs.size + 1)) (h' := s.heap.push PySem.W.emptyDict) (t' := s.toks) (fun b u q => Heap.get?_push_of_some _ q) (Nat.le_refl _) ⟨_, e1⟩
  refine I1.laid (a := s.heap.objs.size + 1) (o := .ins C s.heap.objs.size []) (t' := s.toks) (fun b u q => Heap.get?_push_of_some _ q) (Nat.le_of_eq (Heap.size_push _ _)) ?_
  have ne : s.heap.objs.size ≠ s.heap.objs.size + 1 := Nat.ne_of_lt (Nat.lt_succ_self _)
  refine ⟨by rw [upd_ne ne, upd_same], Nat.zero_le _, ne, e2, fun _ => none, (Heap.Ns1.of_empty e3).at fun o q => Heap.get?_push_of_some _ q, fun _ => True.intro, fun y hy => absurd rfl hy⟩
theorem attr_of {prog : Program} {w : World} {env : Env} {e : Expr} {f : Str} {pos : Pos} {s : Shared} {Q : Value → Shared → Prop} (hb : attributeBase e f env (eval e env) = eval e env)
    (h : wpAny (model prog w) A (eval e env) (fun o s₁ => wpAny (model prog w) A (getAttr o f true) Q E s₁) E s) : wpAny (model prog w) A (eval (.Attribute e f pos) env) Q E s :=
  Attribute_any_ h (by rw [arm_eval_Attribute, hb])
end
def tFld (K : PySem.W.Frag) (ta : TE) (f : Str) : TE := fun σ H Q => ta σ H fun x H1 => ∃ a C dx fs v, x = .ref a ∧ H1 a = some (.ins C dx fs) ∧ Cls K C ∧ NoAttr K C f ∧ fs.lookup f = some v ∧ Q v H1
def sFld (K : PySem.W.Frag) (ta tv : TE) (f : Str) : TS := fun D σ H => tv σ H fun y H1 => ta σ H1 fun x H2 => ∃ a C dx fs, x = .ref a ∧ H2 a = some (.ins C dx fs) ∧ Cls K C ∧ NoAttr K C f ∧ fs.length < 1000 ∧
  D.nx σ (upd H2 a (.ins C dx (putF f y fs)))
section
variable {X : Cx} {o e value : Expr} {f : Str} {pos pos' tpos : Pos} {ta tv : TE}
theorem pe_fld (he : PE X e ta) (hb : attributeBase e f X.env (eval e X.env) = eval e X.env) : PE X (.Attribute e f pos) (tFld X.K ta f) := by
  intro pins s σ H Q I h
  refine attr_of hb (thn (he pins s σ H _ I h) fun u s1 ⟨x, H1, I1, rx, a, C, dx, fs, v, ex, ea, c, n, l, q⟩ => ?_)
  subst ex
  obtain rfl : u = Value.ref a := rx
  exact getattr_ok I1 ea c n l fun u' s2 I2 ru => ⟨v, H1, I2, ru, q⟩
theorem ps_fld (ha : PE X o ta) (hv : PE X value tv) (hs : swapsWith value (some (.Attribute o f pos')) pos.line X.env = pure false) : PS X (.Assign [.Attribute o f pos'] value pos) (sFld X.K ta tv f) := by
  intro pins s σ H D I h
  refine plainObj_wpAny_Assign_Attribute (thn (hv pins s σ H _ I h) fun u s1 ⟨y, H1, I1, ry, q⟩ => thn (ha pins s1 σ H1 _ I1 q) fun ov s2 ⟨x, H2, I2, rx, a, C, dx, fs, ex, ea, c, n, l, q2⟩ => ?_) hs
  subst ex
  obtain rfl : ov = Value.ref a := rx
  exact setattr_ok I2 ea c n l ry fun s3 I3 => ⟨σ, _, I3, q2⟩
theorem methcall_of {pl : Sem Bool} {m : Str} {apos : Pos} {args : List Expr} {pins : List (Addr × Obj)} {s : Shared} {σ : St} {H : Hp} {Q : Value → Shared → Prop} {te : TE} (he : PE X e te) (I : Inv X pins σ H s)
    (h : te σ H fun x H1 => ∃ a C dx fs g, x = .ref a ∧ H1 a = some (.ins C dx fs) ∧ Cls X.K C ∧ Meth X.K C m g ∧ fs.lookup m = none ∧
      ∀ s1, Inv X pins σ H1 s1 → wpAny (model X.prog X.w) X.A (callWith pos (.ref g) [.ref a] (backTo pos (starEach args X.env)) (backToKw pos (keywordEach [] X.env))) Q X.xe s1)
    (ht : eval (.Call (.Attribute e m apos) args [] pos) X.env = (do
      let ov ← eval e X.env
      standAt apos.atName
      let (f, first) ← holding [ov] (getMethod ov m pl)
      callWith pos f first (backTo pos (starEach args X.env)) (backToKw pos (keywordEach [] X.env)))) :
    wpAny (model X.prog X.w) X.A (eval (.Call (.Attribute e m apos) args [] pos) X.env) Q X.xe s := by
  refine PySem.W.methodCall_KW (pl := pl) (thn (he pins s σ H _ I h) fun u s1 ⟨x, H1, I1, rx, a, C, dx, fs, g, ex, ea, c, k, l, q⟩ => ?_) ht
  subst ex
  obtain rfl : u = Value.ref a := rx
  exact getmeth_ok I1 ea c k l (q s1 I1)
end
section
variable {X : Cx} {pins : List (Addr × Obj)} {σ : St} {H : Hp} {s : Shared} {A : Around} {E : Value → Shared → Prop} {Q : Value → Shared → Prop} {c : Value} {b : Bool}
inductive TyOf (K : PySem.W.Frag) (H : Hp) : V → Value → Prop where
  | non : TyOf K H .non (.type "NoneType")
  | bl (x : Bool) : TyOf K H (.bl x) (.type "bool")
  | int (i : Int) : TyOf K H (.int i) (.type "int")
  | str (x : Str) : TyOf K H (.str x) (.type "str")
  | flt (x : UInt64) : TyOf K H (.flt x) (.type "float")
  | lst {a : Addr} {xs : List V} (e : H a = some (.lst xs)) : TyOf K H (.ref a) (.type "list")
  | frz {a : Addr} {o : Obj} {xs : List V} (e : H a = some (.frz o (.lst xs))) : TyOf K H (.ref a) (.type "list")
  | tup {a : Addr} {xs : List V} (e : H a = some (.tup xs)) : TyOf K H (.ref a) (.type "tuple")
  | dK {a : Addr} {kvs : List (Key × V)} (e : H a = some (.dK kvs)) : TyOf K H (.ref a) (.type "dict")
  | dT {a : Addr} {kvs : List (List Key × V)} (e : H a = some (.dT kvs)) : TyOf K H (.ref a) (.type "dict")
  | ins {a C dx : Addr} {fs : List (Str × V)} (e : H a = some (.ins C dx fs)) (cl : Cls K C) (ha : PySem.W.findIn K (.ref C) "__class__" = some (some (.builtin "object.__class__")))
      (hn : PySem.W.specialIn K (.builtin "object.__class__") "__get__" = some (some (.builtin "getset_descriptor.__get__"))) (htk : PySem.W.takesIn K (.builtin "object.__class__") = some true)
      (hm : PySem.W.mroIn K C (.type "object") = some true) : TyOf K H (.ref a) (.ref C)
theorem isinst_ok {x : V} {u t : Value} (I : Inv X pins σ H s) (rx : RelV x u) (ty : TyOf X.K H x t) (e : PySem.W.kitOne X.K t c = some b) (h : ∀ tk, Q (.bool b) { s with toks := tk }) :
    wpAny (model X.prog X.w) A (call (.builtin "isinstance") [u, c]) Q E s := by
  cases ty with
  | non => cases (show u = Value.none from rx); exact PySem.W.kia_one PySem.W.kitx_none I.kIn True.intro e (fun z => nomatch z) h
  | bl y => cases (show u = Value.bool y from rx); exact PySem.W.kia_one PySem.W.kitx_bool I.kIn True.intro e (fun z => nomatch z) h
  | int i => obtain ⟨t, q⟩ := (show ∃ t, u = Value.int i t from rx); cases q; exact PySem.W.kia_one PySem.W.kitx_int I.kIn True.intro e (fun z => nomatch z) h
  | str y => obtain ⟨t, q⟩ := (show ∃ t, u = Value.str y t from rx); cases q; exact PySem.W.kia_one PySem.W.kitx_str I.kIn True.intro e (fun z => nomatch z) h
  | flt y => obtain ⟨t, q⟩ := (show ∃ t, u = Value.float y t from rx); cases q; exact PySem.W.kia_one PySem.W.kitx_float I.kIn True.intro e (fun z => nomatch z) h
  | @lst a xs ea =>
    cases (show u = Value.ref a from rx)
    obtain ⟨_, _, n, _, h1⟩ := (show ObjOk X.prog X.w H s.heap a (.lst xs) from I.hok a _ ea)
    exact PySem.W.kia_one PySem.W.kitx_list I.kIn ⟨_, h1, rfl⟩ e (fun z => nomatch z) h
  | @frz a ob xs ea =>
    cases (show u = Value.ref a from rx)
    obtain ⟨_, _, _, n, _, h1⟩ := (show ObjOk X.prog X.w H s.heap a (.frz ob (.lst xs)) from I.hok a _ ea)
    exact PySem.W.kia_one PySem.W.kitx_list I.kIn ⟨_, h1, rfl⟩ e (fun z => nomatch z) h
  | @tup a xs ea =>
    cases (show u = Value.ref a from rx)
    obtain ⟨_, _, _, p⟩ := (show ObjOk X.prog X.w H s.heap a (.tup xs) from I.hok a _ ea)
    obtain ⟨o, h1, h2, _⟩ := p
    exact PySem.W.kia_one PySem.W.kitx_tuple I.kIn ⟨o, h1, h2⟩ e (fun z => nomatch z) h
  | @dK a kvs ea =>
    cases (show u = Value.ref a from rx)
    obtain ⟨_, _, vs, _, p⟩ := (show ObjOk X.prog X.w H s.heap a (.dK kvs) from I.hok a _ ea)
    obtain ⟨o, es, ep, h1, h2, _⟩ := p
    exact PySem.W.kia_one PySem.W.kitx_dict I.kIn ⟨o, h1, h2.1⟩ e (fun z => nomatch z) h
  | @dT a kvs ea =>
    cases (show u = Value.ref a from rx)
    obtain ⟨_, _, xs, _, o, es, ep, h1, h2, _⟩ := (show ObjOk X.prog X.w H s.heap a (.dT kvs) from I.hok a _ ea)
    exact PySem.W.kia_one PySem.W.kitx_dict I.kIn ⟨o, h1, h2.1⟩ e (fun z => nomatch z) h
  | @ins a C dx fs ea cl ha hn htk hm =>
    cases (show u = Value.ref a from rx)
    obtain ⟨mA, O, _⟩ := ins_get I.hok ea
    obtain ⟨od, J, _⟩ := O.look
    exact PySem.W.kia_one (PySem.W.kitx_own (cl.get _) cl.hd ha hn htk hm) I.kIn J e (fun z => nomatch z) h
end
end L2
namespace L2
open PySem PySem.Spec PyProof.Rows
structure Room (k : Nat) (A : Around) : Prop where
  hd : A.handled = none
  dp : A.depth + 3 * k + 5 < recursionLimit
  un : A.units + 16 * k + 200 < cLine
theorem Room.mono {j k : Nat} {A : Around} (r : Room k A) (h : j ≤ k) : Room j A := ⟨r.hd, by have := r.dp; omega, by have := r.un; omega⟩
theorem Room.deeper {k : Nat} {A : Around} (r : Room (k + 1) A) (env : Env) : Room k (A.deeper env) :=
  ⟨r.hd, by have := r.dp; show A.depth + 1 + 3 * k + 5 < _; omega, by have := r.un; show A.units + 3 + 16 * k + 200 < _; omega⟩
theorem make_depth {A : Around} {C : Addr} {us : List Value} {kw : List (Str × Value)} : (A.under (.builtin "type.__call__" ⟨.ref C :: us, kw⟩)).depth = A.depth + 1 := by
  first | rfl | simp [Around.under, Code.weight, Code.isCreation, Code.isGuard, Code.isCaller, Code.frames, Code.isFrame, guardIds]
theorem make_units {A : Around} {C : Addr} {us : List Value} {kw : List (Str × Value)} : (A.under (.builtin "type.__call__" ⟨.ref C :: us, kw⟩)).units = A.units + 1 := by
  first | rfl | simp [Around.under, Code.cUnits, Code.frames, Code.isFrame]
theorem Room.make {k : Nat} {A : Around} (r : Room (k + 1) A) (C : Addr) (us : List Value) (kw : List (Str × Value)) : Room k (A.under (.builtin "type.__call__" ⟨.ref C :: us, kw⟩)) :=
  ⟨r.hd, by have := r.dp; rw [make_depth]; omega, by have := r.un; rw [make_units]; omega⟩
theorem Room.depth {k : Nat} {A : Around} (r : Room k A) : A.depth < recursionLimit := by have := r.dp; omega
theorem Room.units {k : Nat} {A : Around} (r : Room k A) : A.units + 64 < cLine := by have := r.un; omega
def tNil : TA := fun _ H Q => Q [] H
def tCons (ta : TE) (tr : TA) : TA := fun σ H Q => ta σ H fun x H1 => tr σ H1 fun xs H2 => Q (x :: xs) H2
section
variable {X : Cx} {e : Expr} {es : List Expr} {te : TE} {t : TA} {pos : Pos}
theorem pa_nil : PA X [] tNil := fun _ _ _ _ H Q I h => Calls.spliced_nil ⟨[], H, I, .nil, h⟩
theorem pa_cons (ha : PE X e te) (hr : PA X es t) (hs : starEach (e :: es) X.env = (false, eval e X.env) :: starEach es X.env := by rfl) : PA X (e :: es) (tCons te t) := by
  intro pos pins s σ H Q I h
  rw [hs]
  show wpAny _ _ (spliced ((false, eval e X.env) :: backTo pos (starEach es X.env))) _ _ s
  refine Calls.spliced_cons (thn (ha pins s σ H _ I h) fun u s1 ⟨x, H1, I1, r1, q1⟩ => ?_)
  exact thn (hr pos pins s1 σ H1 _ I1 q1) fun us s2 ⟨xs, H2, I2, r2, q2⟩ => ⟨x :: xs, H2, I2, .cons r1 r2, q2⟩
def tTup (t : TA) : TE := fun σ H Q => t σ H fun xs H1 => xs.length ≤ sizeLine ∧ ∀ p, H1 p = none → Q (.ref p) (upd H1 p (.tup xs))
def tLst (t : TA) : TE := fun σ H Q => t σ H fun xs H1 => xs.length ≤ sizeLine ∧ ∀ p, H1 p = none → Q (.ref p) (upd H1 p (.lst xs))
theorem pe_tup {x1} (h : PA X es t) : PE X (.Tuple es x1 pos) (tTup t) := by
  intro pins s σ H Q I hq
  refine wpAny_Tuple_spliced (thn (h pos pins s σ H _ I hq) fun us s1 ⟨xs, H1, I1, r, z, q⟩ => ⟨by rw [← r.length]; exact z, ?_⟩)
  have hf : H1 s1.heap.objs.size = none := I1.hok.fresh (Nat.le_refl _)
  refine ⟨.ref s1.heap.objs.size, upd H1 s1.heap.objs.size (.tup xs), I1.laid (t' := s1.toks) (fun b u e => Heap.get?_push_of_some _ e) (Nat.le_refl _) ?_, rfl, q _ hf⟩
  exact ⟨z, us, r, ⟨_, Heap.get?_push_size _ rfl, rfl, _, rfl⟩⟩
theorem pe_lst (h : PA X es t) : PE X (.List es pos) (tLst t) := by
  intro pins s σ H Q I hq
  refine wpAny_List_spliced (thn (h pos pins s σ H _ I hq) fun us s1 ⟨xs, H1, I1, r, z, q⟩ => ⟨by rw [← r.length]; exact z, ?_⟩)
  have hf : H1 s1.heap.objs.size = none := I1.hok.fresh (Nat.le_refl _)
  refine ⟨.ref s1.heap.objs.size, upd H1 s1.heap.objs.size (.lst xs), I1.laid (t' := s1.toks) (fun b u e => Heap.get?_push_of_some _ e) (Nat.le_refl _) ?_, rfl, q _ hf⟩
  exact ⟨z, us, 0, r, Heap.get?_push_size _ rfl⟩
end
abbrev Sp := List V → Hp → VK → XK → Prop
abbrev CXT := List Env → Hp → Shared → XK → Value → Shared → Prop
structure Env0 (P : Program) (w : World) (K : PySem.W.Frag) (mg : Str → Option Value) (base : Heap) (A : Around) (outer : List Env) (s : Shared) (H : Hp) : Prop where
  frames : A.frames = some outer
  mod : Mod K mg base
  bs : ∀ b o, base.get? b = some o → s.heap.get? b = some o ∧ H b = none
  bsz : base.objs.size ≤ s.heap.objs.size
  funs : s.heap.FunFrames base outer
  frf : ∀ b ∈ frs outer, H b = none
  hok : HOk P w H s.heap
  bare : AllBare s.gens
def CE (outer : List Env) (P : Program) (w : World) (H : Hp) (s : Shared) (Q : VK) (u : Value) (s' : Shared) : Prop :=
  ∃ v H', s'.os = s.os ∧ AllBare s'.gens ∧ Un (frs outer) [] H H' s.heap s'.heap ∧ HOk P w H' s'.heap ∧ RelV v u ∧ Q v H'
def CR (CX : CXT) (outer : List Env) (P : Program) (w : World) (H : Hp) (s : Shared) (Q : VK) (E : XK) (r : Result) (s' : Shared) : Prop :=
  match r with
  | .ok (.ret u) => CE outer P w H s Q u s'
  | .ok _ => False
  | .error e => CX outer H s E e s'
structure FnOk (P : Program) (w : World) (K : PySem.W.Frag) (mg : Str → Option Value) (base : Heap) (CX : CXT) (k : Nat) (f : Addr) (fd : FuncData) (ps : List Str) (sp : Sp) : Prop where
  len : ∀ vs H Q E, sp vs H Q E → vs.length = ps.length
  run : ∀ (A : Around) (outer : List Env) (s : Shared) (H : Hp) (args : Args) (us : List Value) (vs : List V) (Q : VK) (E : XK), Room k A → Env0 P w K mg base A outer s H → BindsTo s fd args (ps.zip us) → Vals vs us → sp vs H Q E →
    codeAny (model P w) A (.call (.ref f) args) (CR CX outer P w H s Q E) s
theorem FnOk.mono {P : Program} {w : World} {K : PySem.W.Frag} {mg : Str → Option Value} {base : Heap} {CX : CXT} {j k : Nat} {f : Addr} {fd : FuncData} {ps : List Str} {sp : Sp} (F : FnOk P w K mg base CX j f fd ps sp) (h : j ≤ k) :
    FnOk P w K mg base CX k f fd ps sp := ⟨F.len, fun A outer s H args us vs Q E hr => F.run A outer s H args us vs Q E (hr.mono h)⟩
theorem Env0.make {P : Program} {w : World} {K : PySem.W.Frag} {mg : Str → Option Value} {base : Heap} {A : Around} {outer : List Env} {s : Shared} {H : Hp} (e : Env0 P w K mg base A outer s H) (C : Addr) (us : List Value) (kw : List (Str × Value)) :
    Env0 P w K mg base (A.under (.builtin "type.__call__" ⟨.ref C :: us, kw⟩)) outer s H := ⟨by first | exact e.frames | (simpa [Around.under, Code.envs, Code.isFrame, pushEnvs] using e.frames), e.mod, e.bs, e.bsz, e.funs, e.frf, e.hok, e.bare⟩
section
variable {X : Cx} {pins : List (Addr × Obj)} {σ : St} {H : Hp} {s s' : Shared}
theorem Inv.env0 (I : Inv X pins σ H s) : Env0 X.prog X.w X.K X.mg X.base X.A X.stack s H :=
  ⟨I.ok.frames, I.ok.mod, I.bs, Nat.le_trans I.ok.bsz I.sz, I.stack, I.stkFree, I.hok, I.bare⟩
theorem Inv.after {Q : VK} {u : Value} (I : Inv X pins σ H s) (h : CE X.stack X.prog X.w H s Q u s') : EP X pins σ Q u s' := by
  obtain ⟨v, H', os, bare, un, hok, r, q⟩ := h
  obtain ⟨hh, g, d, t, os'⟩ := s'
  obtain rfl : os' = s.os := os
  exact ⟨v, H', I.call (h' := hh) (g' := g) (d' := d) (t' := t) (ch := []) un hok bare (fun b z => absurd z (by simp)), r, q⟩
end
def tCall (sp : Sp) (dvs : List V) (E : XK) (t : TA) : TE := fun σ H Q => t σ H fun vs H1 => sp (vs ++ dvs) H1 Q E
def tMeth (C : Addr) (m : Str) (sp : Sp) (dvs : List V) (E : XK) (ta : TE) (t : TA) : TE := fun σ H Q => ta σ H fun x H1 => ∃ a dx fs, x = .ref a ∧ H1 a = some (.ins C dx fs) ∧ fs.lookup m = none ∧
  t σ H1 fun vs H2 => sp (x :: (vs ++ dvs)) H2 Q E
def tMake (C : Addr) (sp : Sp) (dvs : List V) (E : XK) (t : TA) : TE := fun σ H Q => t σ H fun vs H1 => ∀ x dx, H1 x = none → H1 dx = none → dx ≠ x →
  sp (.ref x :: (vs ++ dvs)) (upd (upd H1 dx (.own x)) x (.ins C dx [])) (fun v H2 => v = .non ∧ Q (.ref x) H2) E
def Binds (K : PySem.W.Frag) (fd : FuncData) (ps : List Str) (ds : List Value) : Prop :=
  ∀ (s : Shared) (us : List Value), K.In s.heap → (us ++ ds).length = ps.length → BindsTo s fd ⟨us, []⟩ (ps.zip (us ++ ds))
theorem Binds.all {K : PySem.W.Frag} {fd : FuncData} {ps : List Str} (h : ∀ us : List Value, us.length = ps.length → bindArgs fd ⟨us, []⟩ = pure (ps.zip us)) : Binds K fd ps [] := fun s us _ hl => by
  rw [List.append_nil] at hl ⊢
  exact .of_eq (h us hl)
def Passes (CX : CXT) (X : Cx) (E : XK) : Prop := ∀ (pins : List (Addr × Obj)) (σ : St) (H : Hp) (s : Shared) (e : Value) (s' : Shared), Inv X pins σ H s → CX X.stack H s E e s' → X.xe e s'
section
variable {X : Cx} {CX : CXT} {k : Nat} {f C : Addr} {fd : FuncData} {ps : List Str} {sp : Sp} {dvs : List V} {ds : List Value} {E : XK} {x m : Str} {p pos apos : Pos} {e o : Expr} {es : List Expr} {ta : TE} {t : TA}
theorem run_fn {pins : List (Addr × Obj)} {σ : St} {H : Hp} {s : Shared} {Q : VK} {us : List Value} {vs : List V} (F : FnOk X.prog X.w X.K X.mg X.base CX k f fd ps sp) (hr : Room k X.A) (hb : Binds X.K fd ps ds) (hd : Vals dvs ds) (hx : Passes CX X E)
    (I : Inv X pins σ H s) (r : Vals vs us) (h : sp (vs ++ dvs) H Q E) : wpAny (model X.prog X.w) X.A (call (.ref f) us) (EP X pins σ Q) X.xe s := by
  have r2 : Vals (vs ++ dvs) (us ++ ds) := r.append hd
  have hl : (us ++ ds).length = ps.length := by rw [← r2.length]; exact F.len _ _ _ _ h
  refine wpAny_call (codeAny_mono (F.run X.A X.stack s H ⟨us, []⟩ (us ++ ds) (vs ++ dvs) Q E hr I.env0 (hb s us I.kIn hl) r2 h) fun r s' hq => ?_)
  cases r with
  | error e => exact hx pins σ H s e s' I hq
  | ok fl =>
    cases fl with
    | ret u => exact I.after hq
    | next => exact False.elim hq
    | brk => exact False.elim hq
    | cont => exact False.elim hq
theorem pe_call (F : FnOk X.prog X.w X.K X.mg X.base CX k f fd ps sp) (hr : Room k X.A) (hg : Gl X x) (hm : X.mg x = some (.ref f)) (hk : PySem.W.keepIn X.K (.ref f) = true) (hb : Binds X.K fd ps ds) (hd : Vals dvs ds) (hx : Passes CX X E)
    (ha : PA X (e :: es) t) (hdb : (x == ("__debug__" : Str)) = false := by decide) (he : starEach (e :: es) X.env = (false, eval e X.env) :: starEach es X.env := by rfl) (hpl : (backTo pos (starEach es X.env)).any (·.1) = false := by rfl) :
    PE X (.Call (.Name x p) (e :: es) [] pos) (tCall sp dvs E t) := by
  intro pins s σ H Q I h
  refine wpAny_Call_Name_kw (ld_glob I hg hm ?_ hdb)
  refine PySem.W.callWith_K (h₀ := X.base) I.ok.mod.kin hk (thn (ha pos pins s σ H _ I h) fun us s1 ⟨vs, H1, I1, r, q⟩ => ⟨I1.kIn, ?_⟩) he hpl
  exact run_fn F hr hb hd hx I1 r q
theorem pe_meth {pl : Sem Bool} (he : PE X o ta) (c : Cls X.K C) (hm : Meth X.K C m f) (F : FnOk X.prog X.w X.K X.mg X.base CX k f fd ps sp) (hr : Room k X.A) (hb : Binds X.K fd ps ds) (hd : Vals dvs ds) (hx : Passes CX X E) (ha : PA X (e :: es) t)
    (hst : starEach (e :: es) X.env = (false, eval e X.env) :: starEach es X.env := by rfl) (hpl : (backTo pos (starEach es X.env)).any (·.1) = false := by rfl)
    (ht : eval (.Call (.Attribute o m apos) (e :: es) [] pos) X.env = (do
      let ov ← eval o X.env
      standAt apos.atName
      let (f, first) ← holding [ov] (getMethod ov m pl)
      callWith pos f first (backTo pos (starEach (e :: es) X.env)) (backToKw pos (keywordEach [] X.env))) := by rfl) :
    PE X (.Call (.Attribute o m apos) (e :: es) [] pos) (tMeth C m sp dvs E ta t) := by
  intro pins s σ H Q I h
  refine PySem.W.methodCall_KW (pl := pl) (thn (he pins s σ H _ I h) fun u s1 ⟨x, H1, I1, rx, a, dx, fs, ex, ea, l, q⟩ => ?_) ht
  subst ex
  obtain rfl : u = Value.ref a := rx
  refine getmeth_ok I1 ea c hm l ?_
  refine PySem.W.callWith_K (first := [.ref a]) (h₀ := X.base) I.ok.mod.kin hm.kp (thn (ha pos pins s1 σ H1 _ I1 q) fun us s2 ⟨vs, H2, I2, r, q2⟩ => ⟨I2.kIn, ?_⟩) hst hpl
  exact run_fn (us := .ref a :: us) (vs := .ref a :: vs) F hr hb hd hx I2 (.cons rfl r) q2
theorem pe_meth0 {pl : Sem Bool} (he : PE X o ta) (c : Cls X.K C) (hm : Meth X.K C m f) (F : FnOk X.prog X.w X.K X.mg X.base CX k f fd ps sp) (hr : Room k X.A) (hb : Binds X.K fd ps ds) (hd : Vals dvs ds) (hx : Passes CX X E)
    (ht : eval (.Call (.Attribute o m apos) [] [] pos) X.env = (do
      let ov ← eval o X.env
      standAt apos.atName
      let (f, first) ← holding [ov] (getMethod ov m pl)
      callWith pos f first (backTo pos (starEach [] X.env)) (backToKw pos (keywordEach [] X.env))) := by rfl) :
    PE X (.Call (.Attribute o m apos) [] [] pos) (tMeth C m sp dvs E ta tNil) := by
  intro pins s σ H Q I h
  refine PySem.W.methodCall_KW (pl := pl) (thn (he pins s σ H _ I h) fun u s1 ⟨x, H1, I1, rx, a, dx, fs, ex, ea, l, q⟩ => ?_) ht
  subst ex
  obtain rfl : u = Value.ref a := rx
  refine getmeth_ok I1 ea c hm l ?_
  exact PySem.W.callWith_K0 (first := [.ref a]) I1.kIn hm.kp (run_fn (us := [.ref a]) (vs := [.ref a]) F hr hb hd hx I1 (.cons rfl .nil) q)
structure Mk (K : PySem.W.Frag) (C f : Addr) : Prop where
  makes : PySem.W.makesIn K C = true
  init : PySem.W.findIn K (.ref C) "__init__" = some (some (.ref f))
  fn : PySem.W.isFn K (.ref f) = true
  kp : PySem.W.keepIn K (.ref C) = true
theorem run_make {pins : List (Addr × Obj)} {σ : St} {H : Hp} {s : Shared} {Q : VK} {us : List Value} {vs : List V} (M : Mk X.K C f) (F : FnOk X.prog X.w X.K X.mg X.base CX k f fd ps sp) (hr : Room (k + 1) X.A) (hb : Binds X.K fd ps ds) (hd : Vals dvs ds)
    (hx : Passes CX X E) (I : Inv X pins σ H s) (r : Vals vs us)
    (h : ∀ x dx, H x = none → H dx = none → dx ≠ x → sp (.ref x :: (vs ++ dvs)) (upd (upd H dx (.own x)) x (.ins C dx [])) (fun v H2 => v = .non ∧ Q (.ref x) H2) E) :
    wpAny (model X.prog X.w) X.A (call (.ref C) us) (EP X pins σ Q) X.xe s := by
  have hq := h (s.heap.objs.size + 1) s.heap.objs.size (I.hok.fresh (Nat.le_succ _)) (I.hok.fresh (Nat.le_refl _)) (Nat.ne_of_lt (Nat.lt_succ_self _))
  have I2 := Inv.made (C := C) I
  have r2 : Vals (V.ref (s.heap.objs.size + 1) :: (vs ++ dvs)) (Value.ref (s.heap.objs.size + 1) :: (us ++ ds)) := .cons rfl (r.append hd)
  have hl : (Value.ref (s.heap.objs.size + 1) :: us ++ ds).length = ps.length := by
    have e := r2.length
    rw [F.len _ _ _ _ hq] at e
    exact e.symm
  refine wpAny_call (make_map (f := f) I.kIn M.makes M.init (beq_iff_eq.mp M.fn) (codeAny_mono (F.run _ X.stack _ _ ⟨Value.ref (s.heap.objs.size + 1) :: us, []⟩ (Value.ref (s.heap.objs.size + 1) :: (us ++ ds)) _ _ E (hr.make C us [])
    (I2.env0.make C us []) (hb _ (Value.ref (s.heap.objs.size + 1) :: us) I2.kIn hl) r2 hq) fun r s' hq' => ?_))
  cases r with
  | error e => exact hx pins σ _ _ e s' I2 hq'
  | ok fl =>
    cases fl with
    | ret u =>
      obtain ⟨v, H', I3, rv, ev, q3⟩ := I2.after hq'
      subst ev
      exact ⟨rv, ⟨V.ref (s.heap.objs.size + 1), H', I3, rfl, q3⟩⟩
    | next => exact False.elim hq'
    | brk => exact False.elim hq'
    | cont => exact False.elim hq'
theorem pe_make (M : Mk X.K C f) (F : FnOk X.prog X.w X.K X.mg X.base CX k f fd ps sp) (hr : Room (k + 1) X.A) (hg : Gl X x) (hm : X.mg x = some (.ref C)) (hb : Binds X.K fd ps ds) (hd : Vals dvs ds) (hx : Passes CX X E)
    (ha : PA X (e :: es) t) (hdb : (x == ("__debug__" : Str)) = false := by decide) (he : starEach (e :: es) X.env = (false, eval e X.env) :: starEach es X.env := by rfl) (hpl : (backTo pos (starEach es X.env)).any (·.1) = false := by rfl) :
    PE X (.Call (.Name x p) (e :: es) [] pos) (tMake C sp dvs E t) := by
  intro pins s σ H Q I h
  refine wpAny_Call_Name_kw (ld_glob I hg hm ?_ hdb)
  refine PySem.W.callWith_K (h₀ := X.base) I.ok.mod.kin M.kp (thn (ha pos pins s σ H _ I h) fun us s1 ⟨vs, H1, I1, r, q⟩ => ⟨I1.kIn, ?_⟩) he hpl
  exact run_make M F hr hb hd hx I1 r q
end
section
variable {X : Cx} {CX : CXT} {k : Nat} {f C : Addr} {fd : FuncData} {ps ks : List Str} {sp : Sp} {E : XK} {x m : Str} {p pos apos kpos : Pos} {e o : Expr} {es : List Expr} {kws : List Keyword} {te ta : TE} {t tk : TA} {nm : Option Str}
variable {g : List Value → List Value → List Value} {gV : List V → List V → List V}
end
structure FnScope (N P : List Str) (sc : Scope) : Prop where
  kind : sc.kind = .function
  co : sc.isCoroutine = false
  gen : sc.isGenerator = false
  nd : N.Nodup
  pre : N.take P.length = P
  par : ∀ x ∈ P, sc.names.lookup x = some .local ∨ sc.names.lookup x = some .cell
  nofree : ∀ y ∈ sc.names, y.2 ≠ .free
theorem bindL_out {kindOf : Str → Option NameKind} {x : Str} : ∀ {binds : List (Str × Value)} {m : Str → Option Value}, (∀ v, (x, v) ∉ binds) → bindL kindOf binds m x = m x
  | [], _, _ => rfl
  | (n, v) :: r, m, h => by
    unfold bindL
    rw [bindL_out fun w hw => h w (List.mem_cons_of_mem _ hw)]
    split
    · have : x ≠ n := by rintro rfl; exact h v List.mem_cons_self
      simp [this]
    · rfl
theorem bindC_out {kindOf : Str → Option NameKind} {x : Str} : ∀ {binds : List (Str × Value)} {m : Str → Option Value}, (∀ v, (x, v) ∉ binds) → bindC kindOf binds m x = m x
  | [], _, _ => rfl
  | (n, v) :: r, m, h => by
    unfold bindC
    rw [bindC_out fun w hw => h w (List.mem_cons_of_mem _ hw)]
    split
    · rfl
    · have : x ≠ n := by rintro rfl; exact h v List.mem_cons_self
      simp [this]
theorem bindL_get {kindOf : Str → Option NameKind} {x : Str} {v : Value} : ∀ {P : List Str} {vs : List Value} {i : Nat} {m : Str → Option Value}, P.Nodup → P[i]? = some x → vs[i]? = some v → kindOf x = some .local →
    bindL kindOf (P.zip vs) m x = some v
  | [], _, _, _, _, h, _, _ => by simp at h
  | _ :: _, [], _, _, _, _, h, _ => by simp at h
  | p :: P, w :: vs, 0, m, nd, h1, h2, hk => by
    simp at h1 h2; subst h1; subst h2
    show bindL kindOf ((p, w) :: P.zip vs) m p = _
    unfold bindL
    rw [bindL_out fun v hv => (List.nodup_cons.mp nd).1 (List.of_mem_zip hv).1, if_pos hk]
    simp
  | p :: P, w :: vs, i + 1, m, nd, h1, h2, hk => by
    show bindL kindOf ((p, w) :: P.zip vs) m x = _
    unfold bindL
    exact bindL_get (i := i) (List.nodup_cons.mp nd).2 (by simpa using h1) (by simpa using h2) hk
theorem bindC_get {kindOf : Str → Option NameKind} {x : Str} {v : Value} : ∀ {P : List Str} {vs : List Value} {i : Nat} {m : Str → Option Value}, P.Nodup → P[i]? = some x → vs[i]? = some v → kindOf x ≠ some .local →
    bindC kindOf (P.zip vs) m x = some v
  | [], _, _, _, _, h, _, _ => by simp at h
  | _ :: _, [], _, _, _, _, h, _ => by simp at h
  | p :: P, w :: vs, 0, m, nd, h1, h2, hk => by
    simp at h1 h2; subst h1; subst h2
    show bindC kindOf ((p, w) :: P.zip vs) m p = _
    unfold bindC
    rw [bindC_out fun v hv => (List.nodup_cons.mp nd).1 (List.of_mem_zip hv).1, if_neg hk]
    simp
  | p :: P, w :: vs, i + 1, m, nd, h1, h2, hk => by
    show bindC kindOf ((p, w) :: P.zip vs) m x = _
    unfold bindC
    exact bindC_get (i := i) (List.nodup_cons.mp nd).2 (by simpa using h1) (by simpa using h2) hk
def start (N : List Str) (vs : List V) : St := vs.map some ++ List.replicate (N.length - vs.length) none
def cxOf (CX : CXT) (P : Program) (w : World) (K : PySem.W.Frag) (mg : Str → Option Value) (base : Heap) (N : List Str) (qual : Str) (scope : Scope) (f : Addr) (cd : Value) (A : Around) (outer : List Env) (s : Shared) (H : Hp) (E : XK) : Cx where
  prog := P
  w := w
  K := K
  mg := mg
  base := base
  A := A.deeper (envOfC qual scope s.heap.objs.size f cd)
  N := N
  s₀ := s
  H₀ := H
  env := envOfC qual scope s.heap.objs.size f cd
  outer := outer
  stack := envOfC qual scope s.heap.objs.size f cd :: outer
  ex := []
  calm := true
  fn := fun _ => true
  pn := []
  xe := fun e s' => wpAny (model P w) (A.deeper (envOfC qual scope s.heap.objs.size f cd)) (leaving (envOfC qual scope s.heap.objs.size f cd) e) (fun _ s'' => CX outer H s E e s'') (fun e' s'' => CX outer H s E e' s'') s'
theorem cell_has {sc : Scope} {n : Nat} {x : Str} (h : sc.names.lookup x = some .cell) : ∃ c, (cellsFrom n sc.names []).lookup x = some c := by
  have q := PySem.W.cellsFrom_some sc.names n [] (.inl h)
  exact Option.isSome_iff_exists.mp q
theorem inv_start {CX : CXT} {P : Program} {w : World} {K : PySem.W.Frag} {mg : Str → Option Value} {base : Heap} {N ps : List Str} {qual : Str} {scope : Scope} {f : Addr} {cd : Value} {A : Around} {outer : List Env} {s s1 : Shared} {H : Hp} {E : XK} {us : List Value} {vs : List V}
    (S : FnScope N ps scope) (hd : A.handled = none) (e0 : Env0 P w K mg base A outer s H) (hl : vs.length = ps.length) (r : Vals vs us)
    (x : InCallC s s.heap.objs.size (bindL (envOfC qual scope s.heap.objs.size f cd).kindOf (ps.zip us) fun _ => none) (cellsFrom (s.heap.objs.size + 1) scope.names []) (bindC (envOfC qual scope s.heap.objs.size f cd).kindOf (ps.zip us) fun _ => none) s1) :
    Inv (cxOf CX P w K mg base N qual scope f cd A outer s H E) [] (start N vs) H s1 := by
  have hpl : ps.length ≤ N.length := by have := congrArg List.length S.pre; rw [List.length_take] at this; omega
  obtain ⟨h1, tk, rfl, hk⟩ := x.done
  have noA : ∀ b : Addr, b ∉ (cxOf CX P w K mg base N qual scope f cd A outer s H E).ex := fun b z => absurd (show b ∈ ([] : List Addr) from z) (by simp)
  refine ⟨⟨e0.mod, S.kind, rfl, rfl, Nat.le_refl _, fun y z c h1 h2 => ?_, fun y hy => ?_, fun y c _ h => ?_, fun _ => hd, Around.frames_deeper e0.frames, .inr ⟨rfl, rfl⟩, fun b z => absurd z (noA b), e0.bs, e0.bsz, fun b _ _ => noA b, fun b z => absurd z (noA b), e0.funs, e0.frf⟩,
    rfl, e0.bare, Un.kept hk, ⟨_, x.toInCall.ns, fun i y v h1 h2 h3 => ?_⟩, fun y c h => ⟨_, x.cell y c h⟩, e0.hok.fresh (Nat.le_refl _), fun y c h => ?_, fun p hp => absurd (show p ∈ ([] : List (Addr × Obj)) from hp) (by simp), e0.hok.kept hk, ?_⟩
  · exact name_of_addr x.apart (PySem.mem_of_lookup h1) (PySem.mem_of_lookup h2)
  · have hy : scope.names.lookup y = some .cell ∨ scope.names.lookup y = some .free := hy
    rcases hy with hy | hy
    · exact cell_has hy
    · exact absurd rfl (S.nofree _ (PySem.mem_of_lookup hy))
  · exact Nat.le_of_lt (x.above y c (PySem.mem_of_lookup h))
  · have hi : i < vs.length := by
      unfold start at h2
      by_cases hi : i < vs.length
      · exact hi
      · rw [List.getElem?_append_right (by simpa using hi)] at h2
        rw [List.getElem?_replicate] at h2
        split at h2 <;> cases h2
    have ha : vs[i]? = some v := by
      unfold start at h2
      rw [List.getElem?_append_left (by simpa using hi), List.getElem?_map] at h2
      cases e : vs[i]? with
      | none => rw [e] at h2; cases h2
      | some a => rw [e] at h2; cases h2; rfl
    obtain ⟨u, hu, rv⟩ := r.get ha
    have hp : ps[i]? = some y := by
      rw [← S.pre, List.getElem?_take_of_lt (by omega)]; exact h1
    have ndP : ps.Nodup := by rw [← S.pre]; exact S.nd.sublist (List.take_sublist _ _)
    refine ⟨u, rv, ?_⟩
    rcases S.par y (List.mem_of_getElem? hp) with k | k
    · exact .inl ⟨k, bindL_get ndP hp hu k⟩
    · obtain ⟨c, e⟩ := cell_has (n := s.heap.objs.size + 1) k
      refine .inr ⟨.inl k, c, e, ?_⟩
      have q := x.cell y c e
      rw [bindC_get ndP hp hu (by show scope.names.lookup y ≠ _; rw [k]; decide)] at q
      exact q
  · exact e0.hok.fresh (Nat.le_of_lt (x.above y c (PySem.mem_of_lookup h)))
  · unfold start
    show _ = N.length
    rw [List.length_append, List.length_map, List.length_replicate]
    omega
theorem fn_of {CX : CXT} {P : Program} {w : World} {K : PySem.W.Frag} {mg : Str → Option Value} {base : Heap} {k : Nat} {f : Addr} {name qual : Str} {params : Arguments} {body : List Stmt} {scope : Scope} {dV kV doc pm cdv ct oc : Value} {an od : Option Addr}
    {osl : Array (Option Value)} {N ps : List Str} {sp : Sp} (lk : K.lookup f = some ⟨oc, od, .func (PySem.W.fnOf name qual params body scope dV kV doc pm an cdv ct), osl⟩) (hcd : PySem.W.codeIn K cdv qual = true) (S : FnScope N ps scope)
    (len : ∀ vs H Q E, sp vs H Q E → vs.length = ps.length)
    (hbody : ∀ (A : Around) (outer : List Env) (s : Shared) (H : Hp) (vs : List V) (Q : VK) (E : XK), Room k (A.deeper (envOfC qual scope s.heap.objs.size f cdv)) → sp vs H Q E →
      ∃ t, PSs (cxOf CX P w K mg base N qual scope f cdv A outer s H E) body t ∧ t { nx := fun _ H' => Q .non H', rt := Q } (start N vs) H) :
    FnOk P w K mg base CX (k + 1) f (PySem.W.fnOf name qual params body scope dV kV doc pm an cdv ct) ps sp := by
  refine ⟨len, fun A outer s H args us vs Q E hr e0 hb r hsp => ?_⟩
  have hl := len _ _ _ _ hsp
  have KX : K.In s.heap := e0.mod.kin.keeps fun b o e => (e0.bs b o e).1
  have lim : s.heap.NoLimit := e0.mod.nolimit.keeps fun b o e => (e0.bs b o e).1
  have hkind : ∀ y ∈ ps.zip us, scope.names.lookup y.1 = some .local ∨ (scope.names.lookup y.1 = some .cell ∧ ((cellsFrom (s.heap.objs.size + 1) scope.names []).lookup y.1).isSome = true) := fun ⟨n, v⟩ hy => by
    rcases S.par n (List.of_mem_zip hy).1 with q | q
    · exact .inl q
    · exact .inr ⟨q, PySem.W.cellsFrom_some _ _ _ (.inl q)⟩
  refine codeAny_call_function hr.depth (KX _ _ lk) rfl S.co S.gen rfl (PySem.W.codeRec_of KX hcd) (hb _ _ _ _ ?_)
  refine wpAny_newFunctionEnv_cells S.kind hkind fun env he s1 x => ?_
  subst he
  refine ⟨lim.keeps x.toInCall.keep, codeAny_func ?_⟩
  obtain ⟨t, ht, hq⟩ := hbody A outer s H vs Q E (hr.deeper _) hsp
  have I : Inv (cxOf CX P w K mg base N qual scope f cdv A outer s H E) [] (start N vs) H s1 := inv_start S hr.hd e0 hl r x
  refine wpAny_mono (ht [] s1 (start N vs) H _ I hq) (fun fl s' hs => ?_) fun e s' hs => hs
  have fin : ∀ {σ' : St} {H' : Hp} {v : V} {u : Value}, Inv (cxOf CX P w K mg base N qual scope f cdv A outer s H E) [] σ' H' s' → RelV v u → Q v H' → CE outer P w H s Q u s' :=
    fun {σ' H' v u} J rv q => ⟨v, H', J.os, J.bare, J.base, J.hok, rv, q⟩
  cases fl with
  | ret u =>
    obtain ⟨v, σ', H', J, rv, q⟩ := hs
    exact fin J rv q
  | next =>
    obtain ⟨σ', H', J, q⟩ := hs
    exact fin (v := V.non) (u := Value.none) J rfl q
  | brk =>
    obtain ⟨_, _, _, q⟩ := hs
    exact False.elim q
  | cont =>
    obtain ⟨_, _, _, q⟩ := hs
    exact False.elim q
end L2
namespace L2
open PySem PySem.Spec PyProof.Rows
section
variable {X : Cx} {x : Str} {p pos : Pos} {e : Expr} {es : List Expr} {t : TA} {id T : String} {r : List V → Hp → VK → Prop}
def tCB (r : List V → Hp → VK → Prop) (t : TA) : TE := fun σ H Q => t σ H fun vs H1 => r vs H1 Q
theorem pe_callB (hc : CallR X (.builtin id) r) (hg : Gl X x) (hm : X.mg x = none) (hv : bootBuiltins x = some (.builtin id)) (ha : PA X (e :: es) t) (hn : x ≠ "__name__" := by decide) (hdb : (x == ("__debug__" : Str)) = false := by decide)
    (he : starEach (e :: es) X.env = (false, eval e X.env) :: starEach es X.env := by rfl) (hpl : (backTo pos (starEach es X.env)).any (·.1) = false := by rfl) : PE X (.Call (.Name x p) (e :: es) [] pos) (tCB r t) := by
  intro pins s σ H Q I h
  refine wpAny_Call_Name_kw (ld_blt I hg hm hv ?_ hn hdb)
  exact PyProof.Rows.callWith_builtin1 (thn (ha pos pins s σ H _ I h) fun us s1 ⟨vs, H1, I1, r1, q1⟩ => hc pins s1 σ H1 vs us Q I1 r1 q1) he hpl
theorem pe_callTy (hc : CallR X (.type T) r) (hg : Gl X x) (hm : X.mg x = none) (hv : bootBuiltins x = some (.type T)) (ha : PA X (e :: es) t) (hn : x ≠ "__name__" := by decide) (hdb : (x == ("__debug__" : Str)) = false := by decide)
    (he : starEach (e :: es) X.env = (false, eval e X.env) :: starEach es X.env := by rfl) (hpl : (backTo pos (starEach es X.env)).any (·.1) = false := by rfl) : PE X (.Call (.Name x p) (e :: es) [] pos) (tCB r t) := by
  intro pins s σ H Q I h
  refine wpAny_Call_Name_kw (ld_blt I hg hm hv ?_ hn hdb)
  exact PyProof.Rows.callWith_type1 (thn (ha pos pins s σ H _ I h) fun us s1 ⟨vs, H1, I1, r1, q1⟩ => hc pins s1 σ H1 vs us Q I1 r1 q1) he hpl
end
end L2
namespace HT
open PySem PyProof.Rows
section
open PySem.SeqAt
open PySem.AutoSeq1 (wpAny_loadPart')
open PySem.MeetsSeq PySem.MeetsSeq2 PySem.MeetsSeq3
end
section
variable {prog : Program} {w : World} {A : Around} {E : Value → Shared → Prop} {s : Shared}
def sIx (n d : Nat) : Option Int → Nat
  | none => d
  | some v => if v < 0 then (v + (n : Int)).toNat else min v.toNat n
theorem sIx_none (n d : Nat) : sIx n d none = d := rfl
theorem sIx_nat (n d k : Nat) : sIx n d (some (k : Int)) = min k n := by
  show (if (k : Int) < 0 then ((k : Int) + (n : Int)).toNat else min (k : Int).toNat n) = min k n
  rw [if_neg (by omega), Int.toNat_natCast]
end
end HT
namespace L2
open PySem PySem.Spec PyProof.Rows
abbrev TO := St → Hp → (Option Int → Hp → Prop) → Prop
def PO (X : Cx) (e : Option Expr) (t : TO) : Prop :=
  ∀ (pins : List (Addr × Obj)) (s : Shared) (σ : St) (H : Hp) (Q : Option Int → Hp → Prop), Inv X pins σ H s → t σ H Q →
    wpAny (model X.prog X.w) X.A (evalPart e X.env) (fun u s' => ∃ o H', Inv X pins σ H' s' ∧ IsPart u o ∧ Q o H') X.xe s
def tNoPart : TO := fun _ H Q => Q none H
def tPart (t : TE) : TO := fun σ H Q => t σ H fun x H1 => ∃ i, x = .int i ∧ Q (some i) H1
section
variable {X : Cx} {e : Expr} {te : TE} {lo hi : Option Expr} {tl th : TO} {pos p2 : Pos}
theorem po_none : PO X none tNoPart := by
  intro pins s σ H Q I h
  rw [evalPart_none]
  exact wpAny_pure ⟨none, H, I, .none, h⟩
theorem po_some (h : PE X e te) : PO X (some e) (tPart te) := by
  intro pins s σ H Q I hw
  rw [evalPart_some]
  refine thn (h pins s σ H _ I hw) fun u s1 ⟨x, H1, I1, r1, q1⟩ => ?_
  obtain ⟨i, rfl, q⟩ := q1
  obtain ⟨t, rfl⟩ := r1
  exact ⟨some i, H1, I1, .int i t, q⟩
def SlR (X : Cx) (r : V → Option Int → Option Int → Hp → VK → Prop) : Prop :=
  ∀ (pins : List (Addr × Obj)) (s : Shared) (σ : St) (H : Hp) (x : V) (v vl vu : Value) (lo hi : Option Int) (sl : Addr) (Q : VK), Inv X pins σ H s → RelV x v → s.heap.IsSliceOf sl vl vu .none → IsPart vl lo → IsPart vu hi → r x lo hi H Q →
    ∃ T id, typeLookup (.type T) "__getitem__" = pure (some (.builtin id)) ∧ s.TypeIs v T ∧ wpAny (model X.prog X.w) X.A (getItem v (.ref sl)) (EP X pins σ Q) X.xe s
def tSl (r : V → Option Int → Option Int → Hp → VK → Prop) (te : TE) (tl th : TO) : TE := fun σ H Q => te σ H fun x H1 => tl σ H1 fun l H2 => th σ H2 fun u H3 => r x l u H3 Q
theorem pe_slice {r : V → Option Int → Option Int → Hp → VK → Prop} (hr : SlR X r) (he : PE X e te) (hl : PO X lo tl) (hu : PO X hi th) : PE X (.Subscript e (.Slice lo hi none p2) pos) (tSl r te tl th) := by
  intro pins s σ H Q I h
  refine Subscript_ (thn (he pins s σ H _ I h) fun v s1 ⟨x, H1, I1, r1, q1⟩ => ?_)
  refine wpAny_Slice (thn (hl pins s1 σ H1 _ I1 q1) fun vl s2 ⟨l, H2, I2, pl, q2⟩ => thn (hu pins s2 σ H2 _ I2 q2) fun vu s3 ⟨u, H3, I3, pu, q3⟩ => ?_)
  rw [evalPart_none]
  refine wpAny_pure ?_
  have I4 : Inv X pins σ H3 { s3 with heap := s3.heap.push { cls := .type "slice", data := .fields #[vl, vu, .none] } } := I3.kept (t' := s3.toks) fun b ob q => Heap.get?_push_of_some _ q
  obtain ⟨T, id, hT, ht, hg⟩ := hr pins { s3 with heap := s3.heap.push { cls := .type "slice", data := .fields #[vl, vu, .none] } } σ H3 x v vl vu l u s3.heap.objs.size Q I4 r1 (Heap.IsSliceOf.new ..) pl pu q3
  show wpAny (model X.prog X.w) X.A (subscriptTail e (.Slice lo hi none p2) v (.ref s3.heap.objs.size)) (EP X pins σ Q) X.xe { s3 with heap := s3.heap.push { cls := .type "slice", data := .fields #[vl, vu, .none] } }
  exact tail_any (ops := [.ref s3.heap.objs.size, v]) ht hT hg (by with_unfolding_all rfl)
def cutV (xs : List V) (lo hi : Option Int) : List V := (xs.drop (HT.sIx xs.length 0 lo)).take (HT.sIx xs.length xs.length hi - HT.sIx xs.length 0 lo)
theorem cutV_length (xs : List V) (lo hi : Option Int) : (cutV xs lo hi).length ≤ xs.length := by
  unfold cutV
  rw [List.length_take, List.length_drop]
  omega
end
end L2
namespace L2
open PySem PySem.Spec PyProof.Rows
def ixN (n : Nat) (i : Int) : Option Nat := if 0 ≤ i then (if i < n then some i.toNat else none) else if -(n : Int) ≤ i then some (i + n).toNat else none
def atI {α : Type} (xs : List α) (i : Int) : Option α := (ixN xs.length i).bind fun j => xs[j]?
theorem ixN_seq {n : Nat} {i : Int} {j : Nat} (h : ixN n i = some j) : seqIndex? i n = some j ∧ j < n ∧ -(n : Int) ≤ i ∧ i < n := by
  unfold ixN at h
  by_cases h0 : 0 ≤ i
  · rw [if_pos h0] at h
    by_cases h1 : i < n
    · rw [if_pos h1] at h
      have e : i.toNat = j := Option.some.inj h
      exact ⟨by rw [seqIndex_of h0 h1, e], by omega, by omega, h1⟩
    · rw [if_neg h1] at h; cases h
  · rw [if_neg h0] at h
    by_cases h1 : -(n : Int) ≤ i
    · rw [if_pos h1] at h
      have e : (i + n).toNat = j := Option.some.inj h
      exact ⟨by rw [seqIndex_neg (by omega) h1, e], by omega, h1, by omega⟩
    · rw [if_neg h1] at h; cases h
theorem atI_get {α : Type} {xs : List α} {i : Int} {v : α} (h : atI xs i = some v) : ∃ j, seqIndex? i xs.length = some j ∧ xs[j]? = some v ∧ j < xs.length ∧ -(xs.length : Int) ≤ i ∧ i < xs.length := by
  unfold atI at h
  cases e : ixN xs.length i with
  | none => rw [e] at h; cases h
  | some j =>
    rw [e] at h
    obtain ⟨h1, h2, h3, h4⟩ := ixN_seq e
    exact ⟨j, h1, h, h2, h3, h4⟩
theorem atI_nat {α : Type} {xs : List α} {j : Nat} {v : α} (h : xs[j]? = some v) : atI xs (j : Int) = some v := by
  have hj : j < xs.length := (List.getElem?_eq_some_iff.mp h).1
  have e : ixN xs.length (j : Int) = some j := by
    unfold ixN
    rw [if_pos (by omega), if_pos (by omega)]; simp
  unfold atI; rw [e]; exact h
def PlainIx (b : Expr) : Prop := ∀ o i, subscripted b false o i = operate [o, i] (getItem o i)
def IxR (X : Cx) (r : R2) : Prop :=
  ∀ (value slice : Expr) (pins : List (Addr × Obj)) (s : Shared) (σ : St) (H : Hp) (x y : V) (v u : Value) (Q : VK), Inv X pins σ H s → RelV x v → RelV y u → r x y H Q →
    subscripted slice false v u = operate [v, u] (getItem v u) → wpAny (model X.prog X.w) X.A (subscriptTail value slice v u) (EP X pins σ Q) X.xe s
def MtR (X : Cx) (id : String) (r : V → List V → Hp → VK → Prop) : Prop :=
  ∀ (pins : List (Addr × Obj)) (s : Shared) (σ : St) (H : Hp) (x : V) (xs : List V) (v : Value) (us : List Value) (Q : VK), Inv X pins σ H s → RelV x v → Vals xs us → r x xs H Q →
    wpAny (model X.prog X.w) X.A (call (.builtin id) (v :: us)) (EP X pins σ Q) X.xe s
section
variable {X : Cx} {a b : Expr} {ta tb : TE} {pos : Pos}
theorem pe_ix {r : R2} (hr : IxR X r) (ha : PE X a ta) (hb : PE X b tb) (hs : PlainIx b) : PE X (.Subscript a b pos) (tOp r ta tb) := by
  intro pins s σ H Q I h
  exact Subscript_ (binT ha hb I h fun v u s2 x y H2 I2 rx ry q => hr a b pins s2 σ H2 x y v u Q I2 rx ry q (hs _ _))
def rIxL (K : PySem.W.Frag) : R2 := fun x y H Q => ∃ p xs i v, x = .ref p ∧ y = .int i ∧ SqL K H p xs ∧ atI xs i = some v ∧ Q v H
def rIxT (K : PySem.W.Frag) : R2 := fun x y H Q => ∃ p xs i v, x = .ref p ∧ y = .int i ∧ SqT K H p xs ∧ atI xs i = some v ∧ Q v H
theorem ix_list : IxR X (rIxL X.K) := by
  intro value slice pins s σ H x y v u Q I rx ry h hs
  obtain ⟨p, xs, i, z, rfl, rfl, hq, he, q⟩ := h
  cases rx
  obtain ⟨t, rfl⟩ := ry
  obtain ⟨its, r, pl, hz⟩ := I.list hq
  obtain ⟨j, h1, h2, h3, h4, h5⟩ := atI_get he
  obtain ⟨w, ew, rw'⟩ := r.get h2
  have hl := r.length
  have hn := line63
  have fin : EP X pins σ Q w s := ⟨z, H, I, rw', q⟩
  by_cases h0 : 0 ≤ i
  · have hj : i.toNat = j := by
      rw [seqIndex_of h0 h5] at h1
      exact Option.some.inj h1
    exact item_listR pl.isList h0 (by omega) (by rw [hj]; simpa using ew) fin hs
  · have hj : (i + (its.toArray.size : Int)).toNat = j := by
      rw [seqIndex_neg (by omega) h4] at h1
      rw [List.size_toArray, ← hl]
      exact Option.some.inj h1
    exact subscriptTail_builtinR (x := w) pl.isList.typeIs slot_list_getitem.lookup
      (wpAny_getItem_list_neg (Q := fun r s' => r = w ∧ EP X pins σ Q r s') pl.isList (by omega) (by rw [List.size_toArray] <;> omega) (by omega) (by rw [hj]; simpa using ew) ⟨rfl, fin⟩) hs
theorem ix_tup : IxR X (rIxT X.K) := by
  intro value slice pins s σ H x y v u Q I rx ry h hs
  obtain ⟨p, xs, i, z, rfl, rfl, hq, he, q⟩ := h
  cases rx
  obtain ⟨t, rfl⟩ := ry
  obtain ⟨its, r, pl, hz⟩ := I.tuple hq
  obtain ⟨j, h1, h2, h3, h4, h5⟩ := atI_get he
  obtain ⟨w, ew, rw'⟩ := r.get h2
  have hl := r.length
  have hn := line63
  have fin : EP X pins σ Q w s := ⟨z, H, I, rw', q⟩
  exact subscriptTail_builtinR (x := w) pl.typeIs slot_tuple_getitem.lookup
    (getItem_tuple (j := j) (Q := fun r s' => r = w ∧ EP X pins σ Q r s') pl (by omega) (by omega) (by rw [List.size_toArray, ← hl]; exact h1) (by simpa using ew) ⟨rfl, fin⟩) hs
def rSetL : V → V → V → Hp → (Hp → Prop) → Prop := fun o i v H Q => ∃ p xs k j, o = .ref p ∧ i = .int k ∧ H p = some (.lst xs) ∧ ixN xs.length k = some j ∧ Q (upd H p (.lst (xs.set j v)))
theorem slice_bounds (lo hi : Option Int) (n : Nat) : (sliceBounds lo hi none n).1 = ((HT.sIx n 0 lo : Nat) : Int) ∧ (sliceBounds lo hi none n).2.1 = ((HT.sIx n n hi : Nat) : Int) ∧ (sliceBounds lo hi none n).2.2 = 1 := by
  refine ⟨?_, ?_, rfl⟩
  · cases lo with
    | none => simp [sliceBounds, HT.sIx]
    | some i =>
      simp only [sliceBounds, HT.sIx, Option.getD_none, show (1 : Int) > 0 by decide, if_true]
      by_cases h : i < 0
      · simp only [h, if_true] <;> omega
      · simp only [h, if_false] <;> omega
  · cases hi with
    | none => simp [sliceBounds, HT.sIx]
    | some i =>
      simp only [sliceBounds, HT.sIx, Option.getD_none, show (1 : Int) > 0 by decide, if_true]
      by_cases h : i < 0
      · simp only [h, if_true] <;> omega
      · simp only [h, if_false] <;> omega
theorem slicePick_cut (its : List Value) (lo hi : Option Int) : slicePick its.toArray lo hi none = ((its.drop (HT.sIx its.length 0 lo)).take (HT.sIx its.length its.length hi - HT.sIx its.length 0 lo)).toArray := by
  obtain ⟨h1, h2, h3⟩ := slice_bounds lo hi its.toArray.size
  unfold slicePick
  rw [h1, h2, h3]
  simp only [sliceRange_one, pick_run, List.size_toArray] <;> rfl
def rSlL (K : PySem.W.Frag) : V → Option Int → Option Int → Hp → VK → Prop := fun x lo hi H Q => ∃ a xs, x = .ref a ∧ SqL K H a xs ∧ ∀ p, H p = none → Q (.ref p) (upd H p (.lst (cutV xs lo hi)))
theorem sl_list : SlR X (rSlL X.K) := by
  intro pins s σ H x v vl vu lo hi sl Q I rx hs pl pu h
  obtain ⟨a, xs, rfl, hx, q⟩ := h
  cases rx
  obtain ⟨its, r, ht, hz⟩ := I.list hx
  have hlen := r.length
  refine ⟨"list", _, slot_list_getitem.lookup, ht.isList.typeIs, ?_⟩
  refine wpAny_getItem_list_slice ht.isList hs pl pu .none (by simp) ?_ (by rw [List.size_toArray] <;> omega)
  rw [slicePick_cut, ← hlen]
  refine ⟨.ref s.heap.objs.size, _, I.laid (t' := s.toks) (o := .lst (cutV xs lo hi)) (fun b ob q => Heap.get?_push_of_some _ q) (Nat.le_refl _) ?_, rfl, q _ (I.hok.fresh (Nat.le_refl _))⟩
  exact ⟨Nat.le_trans (cutV_length xs lo hi) hz, _, 0, (r.drop (HT.sIx xs.length 0 lo)).take (HT.sIx xs.length xs.length hi - HT.sIx xs.length 0 lo), Heap.get?_push_size _ rfl⟩
def flatV : V → Bool
  | .non => true
  | .bl _ => true
  | .int _ => true
  | .str _ => true
  | _ => false
def eqV : V → V → Bool
  | .non, .non => true
  | .bl a, .bl b => a == b
  | .bl a, .int b => (if a then 1 else 0) == b
  | .int a, .bl b => a == (if b then 1 else 0)
  | .int a, .int b => a == b
  | .str a, .str b => a == b
  | _, _ => false
def inV (x : V) (xs : List V) : Bool := xs.any fun y => eqV y x
def rIn (K : PySem.W.Frag) (neg : Bool) : R2 := fun x y H Q => ∃ p xs, y = .ref p ∧ (SqL K H p xs ∨ SqT K H p xs) ∧ flatV x = true ∧ xs.all flatV = true ∧ Q (.bl (if neg then !inV x xs else inV x xs)) H
theorem call_len_seq : CallR X (.builtin "len") (fun xs H Q => ∃ p ys, xs = [.ref p] ∧ (SqL X.K H p ys ∨ SqT X.K H p ys) ∧ Q (.int ys.length) H) := by
  intro pins s σ H xs us Q I r h
  obtain ⟨p, ys, rfl, hq, q⟩ := h
  obtain ⟨u, rfl, rx⟩ := vals1 r
  cases rx
  have hn := line63
  rcases hq with hq | hq
  · obtain ⟨its, r', pl, hz⟩ := I.list hq
    have hlen := r'.length
    exact Calls.call_len_list pl.isList (by simp only [List.size_toArray] <;> omega) ⟨.int ys.length, H, I.tok _, ⟨s.toks + 1, by rw [List.size_toArray, hlen]⟩, q⟩
  · obtain ⟨its, r', pl, hz⟩ := I.tuple hq
    have hlen := r'.length
    exact len_tuple pl (by simp only [List.size_toArray] <;> omega) ⟨.int ys.length, H, I.tok _, ⟨s.toks + 1, by rw [List.size_toArray, hlen]⟩, q⟩
theorem call_list_of : CallR X (.type "list") (fun xs H Q => ∃ p ys, xs = [.ref p] ∧ (SqL X.K H p ys ∨ SqT X.K H p ys) ∧ ∀ l, H l = none → Q (.ref l) (upd H l (.lst ys))) := by
  intro pins s σ H xs us Q I r h
  obtain ⟨p, ys, rfl, hq, q⟩ := h
  obtain ⟨u, rfl, rx⟩ := vals1 r
  cases rx
  have fin : ∀ (its : List Value), Vals ys its → ys.length ≤ sizeLine → ∀ (h' : Heap) (c' : Nat), (∀ b o', s.heap.get? b = some o' → h'.get? b = some o') →
      h'.get? s.heap.objs.size = some { cls := .type "list", dict := none, data := .seq its.toArray c', slots := #[] } → EP X pins σ Q (.ref s.heap.objs.size) { s with heap := h' } := fun its r' hz h' c' kp e =>
    ⟨.ref s.heap.objs.size, _, I.laid (t' := s.toks) kp (Nat.le_refl _) (show ObjOk X.prog X.w _ h' _ (.lst ys) from ⟨hz, its, c', r', e⟩), rfl, q _ (I.hok.fresh (Nat.le_refl _))⟩
  rcases hq with hq | hq
  · obtain ⟨its, r', pl, hz⟩ := I.list hq
    have hlen := r'.length
    obtain ⟨o, ho, hc, n, hd⟩ := pl.isList
    exact call_list_seq p (.inl rfl) ho hc hd (fun h' c' kp e => fin its r' hz h' c' kp e) (by simp only [List.size_toArray] <;> omega)
  · obtain ⟨its, r', pl, hz⟩ := I.tuple hq
    have hlen := r'.length
    obtain ⟨o, ho, hc, n, hd⟩ := pl
    exact call_list_seq p (.inr rfl) ho hc hd (fun h' c' kp e => fin its r' hz h' c' kp e) (by simp only [List.size_toArray] <;> omega)
theorem call_tuple_of : CallR X (.type "tuple") (fun xs H Q => ∃ p ys, xs = [.ref p] ∧ ((SqL X.K H p ys ∧ ∀ l, H l = none → Q (.ref l) (upd H l (.tup ys))) ∨ (SqT X.K H p ys ∧ Q (.ref p) H))) := by
  intro pins s σ H xs us Q I r h
  obtain ⟨p, ys, rfl, h⟩ := h
  obtain ⟨u, rfl, rx⟩ := vals1 r
  cases rx
  rcases h with ⟨hq, q⟩ | ⟨hq, q⟩
  · obtain ⟨its, r', pl, hz⟩ := I.list hq
    have hlen := r'.length
    refine call_tuple_list pl.isList (fun h' kp => ?_) (by simp only [List.size_toArray] <;> omega)
    have I1 : Inv X pins σ H { s with heap := h' } := I.kept (t' := s.toks) kp
    have I2 : Inv X pins σ (upd H h'.objs.size (.tup ys)) { s with heap := h'.push { cls := .type "tuple", data := .seq its.toArray } } :=
      I1.laid (t' := s.toks) (fun b o e => Heap.get?_push_of_some _ e) (Nat.le_refl _) (show ObjOk X.prog X.w _ _ _ (.tup ys) from ⟨hz, its, r', IsTup.new _ _⟩)
    exact ⟨.ref h'.objs.size, _, I2, rfl, q _ (I1.hok.fresh (Nat.le_refl _))⟩
  · obtain ⟨its, r', pl, hz⟩ := I.tuple hq
    exact call_tuple_same pl ⟨.ref p, H, I, rfl, q⟩
def tyV (K : PySem.W.Frag) (T : String) (x : V) (H : Hp) : Prop := match x with
  | .str _ => T = "str"
  | .int _ => T = "int"
  | .ref p => (T = "list" ∧ ∃ xs, SqL K H p xs) ∨ (T = "tuple" ∧ ∃ o, K.lookup p = some o ∧ o.cls = .type "tuple" ∧ o.dict = none) ∨
      (T = "dict" ∧ ((∃ kvs, H p = some (.dK kvs)) ∨ ∃ kvs, H p = some (.dT kvs))) ∨ (T = "set" ∧ ∃ S n, H p = some (.set S n))
  | _ => False
theorem tyV_is {pins : List (Addr × Obj)} {σ : St} {H : Hp} {s : Shared} {T : String} {x : V} {v : Value} (I : Inv X pins σ H s) (r : RelV x v) (ty : tyV X.K T x H) :
    s.TypeIs v T ∧ ∀ a, v = .ref a → ∃ ob, s.heap.get? a = some ob ∧ ob.dict = none := by
  cases x with
  | str z =>
    obtain ⟨t, rfl⟩ := r
    cases (show T = "str" from ty)
    exact ⟨typeIs_str s z t, fun _ e => nomatch e⟩
  | int i =>
    obtain ⟨t, rfl⟩ := r
    cases (show T = "int" from ty)
    exact ⟨typeIs_int s i t, fun _ e => nomatch e⟩
  | ref p =>
    cases r
    rcases ty with ⟨rfl, xs, hq⟩ | ⟨rfl, o, hk, hc, hd⟩ | ⟨rfl, hk⟩ | ⟨rfl, S, n, hk⟩
    · obtain ⟨its, _, pl, _⟩ := I.list hq
      refine ⟨pl.isList.typeIs, fun a e => ?_⟩
      cases e
      obtain ⟨o, n, e, c, hd, _⟩ := pl
      exact ⟨o, e, hd⟩
    · refine ⟨⟨o, I.kIn p o hk, hc⟩, fun a e => ?_⟩
      cases e
      exact ⟨o, I.kIn _ o hk, hd⟩
    · have z : ∃ o, s.heap.get? p = some o ∧ o.ExactDict := by
        rcases hk with ⟨kvs, hk⟩ | ⟨kvs, hk⟩
        · obtain ⟨_, _, _, _, o, _, _, e, ex, _⟩ := I.hok p _ hk
          exact ⟨o, e, ex⟩
        · obtain ⟨_, _, _, _, o, _, _, e, ex, _⟩ := I.hok p _ hk
          exact ⟨o, e, ex⟩
      obtain ⟨o, e, ex⟩ := z
      refine ⟨⟨o, e, ex.1⟩, fun a e2 => ?_⟩
      cases e2
      exact ⟨o, e, ex.2.1⟩
    · obtain ⟨o, _, _, _, e, ex, _⟩ := I.hok p _ hk
      refine ⟨⟨o, e, ex.1⟩, fun a e2 => ?_⟩
      cases e2
      exact ⟨o, e, ex.2.1⟩
  | _ => exact False.elim ty
def tBM0 (K : PySem.W.Frag) (T : String) (r : V → List V → Hp → VK → Prop) (to : TE) : TE := fun σ H Q => to σ H fun x H1 => tyV K T x H1 ∧ r x [] H1 Q
def tBM (K : PySem.W.Frag) (T : String) (r : V → List V → Hp → VK → Prop) (to : TE) (t : TA) : TE := fun σ H Q => to σ H fun x H1 => tyV K T x H1 ∧ t σ H1 fun xs H2 => r x xs H2 Q
variable {o e : Expr} {es : List Expr} {to : TE} {t : TA} {name : Str} {apos cpos : Pos} {T id : String} {r : V → List V → Hp → VK → Prop}
theorem pe_bm0 (pa : PlainAttrs T) (slot : Slot T name id) (hty : typeOf (.builtin id) = pure (.type "method_descriptor")) (hm : MtR X id r) (ho : PE X o to)
    (hbase : attributeBase o name X.env (eval o X.env) = eval o X.env := by rfl) (hline : (apos.endLine == cpos.line) = true := by rfl) : PE X (.Call (.Attribute o name apos) [] [] cpos) (tBM0 X.K T r to) := by
  intro pins s σ H Q I h
  refine wpAny_Call_method0_late hbase hline (thn (ho pins s σ H _ I h) fun v s1 ⟨x, H1, I1, r1, ty, q1⟩ => ?_)
  obtain ⟨h1, h2⟩ := tyV_is I1 r1 ty
  exact ⟨T, id, pa, slot, hty, h1, h2, Calls.callWith_builtin rfl (PySem.evalArgs_none (hm pins s1 σ H1 x [] v [] Q I1 r1 .nil q1))⟩
theorem pe_bm (pa : PlainAttrs T) (slot : Slot T name id) (hty : typeOf (.builtin id) = pure (.type "method_descriptor")) (hm : MtR X id r) (ho : PE X o to) (ha : PA X (e :: es) t)
    (hbase : attributeBase o name X.env (eval o X.env) = eval o X.env := by rfl)
    (hfew : ((backTo cpos (starEach (e :: es) X.env)).all (fun x => !x.1) && (backToKw cpos (keywordEach [] X.env)).all (fun x => x.1.isSome)
      && decide ((e :: es).length + ([] : List Keyword).length + (if ([] : List Keyword).isEmpty then 0 else 1) < 30)) = true := by rfl)
    (hline : (apos.endLine == cpos.line) = true := by rfl) (hs : starEach (e :: es) X.env = (false, eval e X.env) :: starEach es X.env := by rfl) (hplain : (backTo cpos (starEach es X.env)).any (·.1) = false := by rfl) :
    PE X (.Call (.Attribute o name apos) (e :: es) [] cpos) (tBM X.K T r to t) := by
  intro pins s σ H Q I h
  refine wpAny_Call_method_late hbase hfew hline rfl (thn (ho pins s σ H _ I h) fun v s1 ⟨x, H1, I1, r1, ty, q1⟩ => ?_)
  obtain ⟨h1, h2⟩ := tyV_is I1 r1 ty
  refine ⟨T, id, pa, slot, hty, h1, h2, ?_⟩
  have hA := ha cpos pins s1 σ H1 _ I1 q1
  rw [hs] at hA ⊢
  refine Calls.callWith_builtin (by show (false || (backTo cpos (starEach es X.env)).any (·.1)) = false; rw [hplain] <;> rfl) (Calls.evalArgs_plain ?_)
  exact thn hA fun us s2 ⟨vs, H2, I2, r2, q2⟩ => hm pins s2 σ H2 x vs v us Q I2 r1 r2 q2
/- xs.append(e), list.index on a module's tuple .. are MtR facts of 06m -/
end
end L2
namespace L2
open PySem PySem.Spec PyProof.Rows
def MtM (X : Cx) (id : String) (r : V → List V → Hp → VK → Prop) : Prop :=
  ∀ (pins : List (Addr × Obj)) (s : Shared) (σ : St) (H : Hp) (x : V) (xs : List V) (v : Value) (us : List Value) (Q : VK), Inv X pins σ H s → RelV x v → Vals xs us → r x xs H Q →
    wpAny (model X.prog X.w) X.A (call (.builtin id) (v :: us)) (EP X pins σ Q) X.xe s
theorem Vals.one : ∀ {x : V} {us : List Value}, Vals [x] us → ∃ u, us = [u] ∧ RelV x u
  | _, _, .cons r .nil => ⟨_, rfl, r⟩
theorem Vals.zero : ∀ {us : List Value}, Vals [] us → us = []
  | _, .nil => rfl
theorem Vals.dropLast {xs : List V} {us : List Value} (h : Vals xs us) : Vals xs.dropLast us.dropLast := by
  induction h with
  | nil => exact .nil
  | cons r t ih =>
    cases t with
    | nil => exact .nil
    | cons q t' => exact .cons r ih
theorem erase_last {α : Type} (l : List α) : l.eraseIdx (l.length - 1) = l.dropLast := by
  induction l with
  | nil => rfl
  | cons a r ih =>
    cases r with
    | nil => rfl
    | cons b r =>
      have e : (a :: b :: r).length - 1 = ((b :: r).length - 1) + 1 := by
        have h1 : (a :: b :: r).length = r.length + 2 := rfl
        have h2 : (b :: r).length = r.length + 1 := rfl
        omega
      rw [e, List.eraseIdx_cons_succ, ih]
      all_goals rfl
section
variable {X : Cx} {pins : List (Addr × Obj)} {σ : St} {H : Hp} {s : Shared} {l b : Addr} {xs ys zs : List V}
theorem Inv.lset {its its' : List Value} {n : Nat} {f : Array Value → Array Value} {t' : Nat} (I : Inv X pins σ H s) (hH : H l = some (.lst xs))
    (e : s.heap.get? l = some { cls := .type "list", data := .seq its.toArray n }) (hf : f its.toArray = its'.toArray) (hv : Vals ys its') (hz : ys.length ≤ sizeLine) :
    Inv X pins σ (upd H l (.lst ys)) { s with heap := s.heap.update l (Obj.mapSeq f), toks := t' } := by
  have q := PySem.IsL.update e f
  rw [hf] at q
  refine I.write (x := l) (e := l) (by rw [hH]; exact trivial) (.inl rfl) (fun b' u hb hu => (Heap.get?_update_other s.heap (Obj.mapSeq f) (Ne.symm hb)).trans hu) ⟨_, q⟩ ?_
  exact ⟨hz, its', _, hv, q⟩
theorem Inv.lnew {its : List Value} {t' : Nat} (I : Inv X pins σ H s) (hv : Vals ys its) (hz : ys.length ≤ sizeLine) :
    Inv X pins σ (upd H s.heap.objs.size (.lst ys)) { s with heap := s.heap.push { cls := .type "list", data := .seq its.toArray }, toks := t' } :=
  I.laid (fun _ _ q => Heap.get?_push_of_some _ q) (Nat.le_refl _) ⟨hz, its, 0, hv, Heap.get?_push_size _ rfl⟩
theorem Inv.fresh (I : Inv X pins σ H s) : H s.heap.objs.size = none := I.hok.fresh (Nat.le_refl _)
theorem Inv.lstM (I : Inv X pins σ H s) (hH : H l = some (.lst xs)) : xs.length ≤ sizeLine ∧ ∃ (its : List Value) (n : Nat), Vals xs its ∧ xs.length = its.length ∧ s.heap.get? l = some { cls := .type "list", data := .seq its.toArray n } := by
  obtain ⟨z, its, n, r, e⟩ := I.hok l _ hH
  exact ⟨z, its, n, r, r.length, e⟩
theorem notLongL {n : Nat} (h : n ≤ sizeLine) : Builtin.List.listTooLong n = false := by
  unfold Builtin.List.listTooLong
  exact decide_eq_false (by omega)
end
section
variable {X : Cx}
def rAppend : V → List V → Hp → VK → Prop := fun x vs H Q => ∃ l xs y, x = .ref l ∧ vs = [y] ∧ H l = some (.lst xs) ∧ xs.length < sizeLine ∧ Q .non (upd H l (.lst (xs ++ [y])))
theorem mt_append : MtM X "list.append" rAppend := by
  intro pins s σ H x vs v us Q I rx rv h
  obtain ⟨l, xs, y, rfl, rfl, hH, hz, q⟩ := h
  cases rx
  obtain ⟨u, rfl, ru⟩ := rv.one
  obtain ⟨z, its, n, r, hl, e⟩ := I.lstM hH
  refine call_meets F.slot_list_append ⟨_, e, rfl⟩ F.entry_list_append (F.args_list_append_2 _ _) (PySem.list_append l its.toArray n u (by rw [List.size_toArray]; omega)) ⟨e, ?_⟩
  refine ⟨.non, _, I.lset (its' := its ++ [u]) hH e (by simp) (r.append (.cons ru .nil)) ?_, rfl, q⟩
  rw [List.length_append, List.length_singleton]
  omega
def rExtend : V → List V → Hp → VK → Prop := fun x vs H Q => ∃ l b xs zs, x = .ref l ∧ vs = [.ref b] ∧ H l = some (.lst xs) ∧ H b = some (.lst zs) ∧ xs.length + zs.length ≤ sizeLine ∧ Q .non (upd H l (.lst (xs ++ zs)))
theorem mt_extend : MtM X "list.extend" rExtend := by
  intro pins s σ H x vs v us Q I rx rv h
  obtain ⟨l, b, xs, zs, rfl, rfl, hH, hB, hz, q⟩ := h
  cases rx
  obtain ⟨u, rfl, ru⟩ := rv.one
  cases ru
  obtain ⟨z, its, n, r, hl, e⟩ := I.lstM hH
  obtain ⟨z2, its2, n2, r2, hl2, e2⟩ := I.lstM hB
  have hsz : its.toArray.size + its2.toArray.size ≤ sizeLine := by rw [List.size_toArray, List.size_toArray]; omega
  have hlong : ¬ (!its.toArray.isEmpty && Builtin.List.listTooLong (its.toArray.size + its2.toArray.size)) = true := by
    rw [notLongL hsz, Bool.and_false]
    exact Bool.false_ne_true
  refine call_meets F.slot_list_extend ⟨_, e, rfl⟩ F.entry_list_extend (F.args_list_extend_2 _ _)
    (AutoSeq1.list_extend_list_list_0 l its.toArray n b its2.toArray n2 hlong (by rw [List.size_toArray]; omega) (by omega)) ⟨e, e2, ?_⟩
  refine ⟨.non, _, I.lset (its' := its ++ its2) hH e (by simp) (r.append r2) ?_, rfl, q⟩
  rw [List.length_append]
  omega
def rPop : V → List V → Hp → VK → Prop := fun x vs H Q => ∃ l xs y, x = .ref l ∧ vs = [] ∧ H l = some (.lst xs) ∧ xs[xs.length - 1]? = some y ∧ Q y (upd H l (.lst xs.dropLast))
theorem mt_pop : MtM X "list.pop" rPop := by
  intro pins s σ H x vs v us Q I rx rv h
  obtain ⟨l, xs, y, rfl, rfl, hH, hy, q⟩ := h
  cases rx
  have hus := rv.zero
  subst hus
  obtain ⟨z, its, n, r, hl, e⟩ := I.lstM hH
  obtain ⟨u, hu, ru⟩ := r.get hy
  have hy' : its.toArray[its.toArray.size - 1]? = some u := by
    show its.toArray[its.length - 1]? = some u
    rw [← Array.getElem?_toList, ← hl]
    exact hu
  refine call_meets F.slot_list_pop ⟨_, e, rfl⟩ F.entry_list_pop (F.args_list_pop_1 _) (MeetsSeq.list_pop_last l its.toArray n u hy' (by rw [List.size_toArray]; omega)) ⟨e, ?_⟩
  refine ⟨y, _, I.lset (its' := its.dropLast) hH e ?_ r.dropLast ?_, ru, q⟩
  · show its.toArray.eraseIdxIfInBounds (its.toArray.size - 1) = its.dropLast.toArray
    rw [List.size_toArray, List.eraseIdxIfInBounds_toArray, erase_last]
  · rw [List.length_dropLast]
    omega
def rClear : V → List V → Hp → VK → Prop := fun x vs H Q => ∃ l xs, x = .ref l ∧ vs = [] ∧ H l = some (.lst xs) ∧ Q .non (upd H l (.lst []))
theorem mt_clear : MtM X "list.clear" rClear := by
  intro pins s σ H x vs v us Q I rx rv h
  obtain ⟨l, xs, rfl, rfl, hH, q⟩ := h
  cases rx
  have hus := rv.zero
  subst hus
  obtain ⟨z, its, n, r, hl, e⟩ := I.lstM hH
  refine call_meets F.slot_list_clear ⟨_, e, rfl⟩ F.entry_list_clear (F.args_list_clear_1 _) (AutoSeq1.list_clear_list_0 l its.toArray n (by rw [List.size_toArray]; omega)) ⟨e, ?_⟩
  exact ⟨.non, _, I.lset (its' := []) (ys := []) hH e rfl .nil (Nat.zero_le _), rfl, q⟩
def rCat : R2 := fun x y H Q => ∃ l b xs zs, x = .ref l ∧ y = .ref b ∧ H l = some (.lst xs) ∧ H b = some (.lst zs) ∧ xs.length + zs.length ≤ sizeLine ∧ ∀ p, H p = none → Q (.ref p) (upd H p (.lst (xs ++ zs)))
theorem op_cat : OpR X (binaryOp .Add) rCat := by
  intro pins s σ H x y v u Q I rx ry h
  obtain ⟨l, b, xs, zs, rfl, rfl, hH, hB, hz, q⟩ := h
  cases rx
  cases ry
  obtain ⟨z, its, n, r, hl, e⟩ := I.lstM hH
  obtain ⟨z2, its2, n2, r2, hl2, e2⟩ := I.lstM hB
  refine PySem.P.add_list e e2 ?_ (by rw [List.size_toArray, List.size_toArray]; omega)
  have ea : its.toArray ++ its2.toArray = (its ++ its2).toArray := by simp
  rw [ea]
  exact ⟨.ref _, _, I.lnew (t' := s.toks) (r.append r2) (by rw [List.length_append]; omega), rfl, q _ I.fresh⟩
def rRep : R2 := fun x y H Q => ∃ l k xs, x = .ref l ∧ y = .int k ∧ H l = some (.lst xs) ∧ -(2 ^ 63) ≤ k ∧ k < 2 ^ 63 ∧ xs.length * k.toNat ≤ sizeLine ∧
  ∀ p, H p = none → Q (.ref p) (upd H p (.lst (List.replicate k.toNat xs).flatten))
end
section
variable {prog : Program} {w : World} {A : Around} {E : Value → Shared → Prop} {s : Shared}
end
section
variable {X : Cx}
end
end L2
namespace Att
open PySem PySem.W PySem.Calls PyProof.Rows
theorem ints_of_wellAll {P : Params} {h : Heap} : ∀ (ns : List Int) (vs : List Value), WellAll P h vs (ns.map WData.int) → IntsAre vs ns := by
  intro ns
  induction ns with
  | nil =>
    intro vs w
    rw [List.map_nil] at w
    cases w
    exact .nil
  | cons n ns ih =>
    intro vs w
    rw [List.map_cons] at w
    cases w with
    | cons a b =>
      cases a
      exact .cons _ _ (ih _ b)
theorem script_of {l : OpenLaw} {n : Nat} (hn : l.most = some n) {P : Params} {h : Heap} {args : List WData} {vals : List Value}
    (hpre : l.row.toRowW.claim.pre args = true) (hwl : WellAll P h vals args) :
    ∃ a vs ns, vals = [Value.ref a] ∧ args = [WData.list (ns.map WData.int)] ∧ h.get? a = some { cls := .type "list", data := .seq vs.toArray } ∧ IntsAre vs ns ∧ ns.length ≤ n := by
  have hsh : WShape.hasAll [] args [.list .int] = true := (pre_splitW hpre).1
  have hc : l.pre.holds [] { args := args } = true := (pre_splitW hpre).2
  obtain ⟨d, r, rfl, h1, h2⟩ := hasAllW_cons hsh
  obtain rfl := hasAllW_nil h2
  obtain ⟨xs, rfl, h3⟩ := hasW_list h1
  obtain ⟨ns, rfl⟩ := items_int h3
  have hlen : ns.length ≤ n := by
    unfold OpenLaw.pre at hc
    have h4 : (WTm.not (.lt (.lit (.int (n : Int))) (.len (.arg 0)))).holds [] { args := [.list (ns.map .int)] } = true := by
      have h4 := (holds_andW hc).1
      rw [hn] at h4
      exact h4
    have h5 := condW_of h4 (w_not (w_lt w_lit (w_len_list (w_arg rfl))))
    rw [List.length_map] at h5
    refine Nat.le_of_not_lt fun q => ?_
    have q' : (n : Int) < ((ns.length : Nat) : Int) := by omega
    first
      | (rw [decide_eq_true q'] at h5; exact absurd h5 (by decide))
      | (simp at h5; omega)
  cases hwl with
  | cons w1 w2 =>
    cases w2
    cases w1 with
    | list ho hall => exact ⟨_, _, ns, rfl, rfl, ho, ints_of_wellAll ns _ hall, hlen⟩
theorem post_true (l : OpenLaw) (args : List WData) : l.row.toRowW.claim.post args (.bool true) args = true :=
  postW_of (r := l.row.toRowW) (X := (true == true))
    (show WShape.has [] (.bool true) .bool = true by first | rfl | decide | simp [WShape.has, WShape.arms, WShape.armsAll])
    (show (WTm.eq .res (.lit (.bool true))).value [] { args := args, res := some (.bool true), after := args } = some (.bool (true == true)) from w_eq_bool (w_res rfl) w_lit) rfl
theorem attach_call {l : OpenLaw} {n : Nat} {q : Program} {loose : List Str} {XP : (Str → Option Value) → Heap → Prop} {YP : World → Heap → Prop} {d : DefRec}
    (hn : l.most = some n) (hdf : d.params.defaults = [])
    (call : ∀ (w : World) (s₀ s₁ : Shared) (mg mb : Str → Option Value) (fa : Addr) (o : Obj) (pm cd doc : Value) (a : Addr) (vs : List Value) (ns : List Int),
      Ground q loose [] XP w s₀ mg mb s₁.heap → YP w s₁.heap →
      s₁.heap.get? fa = some o → o.data = .func (docDef d.name d.params d.body d.scope pm cd doc) → s₁.heap.CodeRec cd d.name → mg d.name = some (.ref fa) →
      s₁.heap.get? a = some { cls := .type "list", data := .seq vs.toArray } → IntsAre vs ns → ns.length ≤ n → s₁.gens = #[] →
      codeAny (model l.prog w) callerA (.call (.ref fa) ⟨[.ref a], []⟩) (fun r s' => r = .ok (.ret (.bool true)) ∧ OldK s₁.heap s'.heap ∧ s'.os = s₁.os ∧ AllBare s'.gens) s₁) :
    WalkO q loose XP YP l.row.toRowW d [] (fun f vs => PySem.call f vs) := by
  intro w s₀ s₁ mg mb G Y fa o pm cd doc dV kV ho hd hcd hD hmg hg args vals as hpre hlay hrd hwl hlo
  obtain rfl : dV = .none := Dflts.none hD hdf
  obtain rfl : kV = .none := Dflts.noKw hD
  obtain ⟨a, vs, ns, rfl, rfl, hobj, hints, hlen⟩ := script_of hn hpre hwl
  refine enter_call (codeAny_mono (call w s₀ s₁ mg mb fa o pm cd doc a vs ns G Y ho (fd_plain hd) hcd hmg hobj hints hlen hg) fun r s' hq => ?_)
  obtain ⟨rfl, h2, h3, h4⟩ := hq
  exact ⟨.inl ⟨.bool true, .bool true, [], rfl, fun _ => rfl, .bool true, post_true l _, fun _ => ⟨List.Pairwise.nil, fun _ hm => (nomatch hm)⟩⟩, h2, h3, h4⟩
section
variable {prog : Program} {w : World} {A : Around} {E : Value → Shared → Prop} {s : Shared} {K : Frag}
def ledger (h : Heap) (L d : Addr) : List (Addr × Obj) := (List.range h.objs.size).filterMap fun a => if a = L ∨ a = d then none else (h.get? a).map fun o => (a, o)
end
end Att
namespace L2
open PySem PySem.Spec PyProof.Rows
theorem vals_ints : ∀ {vs : List Value} {ns : List Int}, IntsAre vs ns → Vals (ns.map V.int) vs
  | _, _, .nil => .nil
  | _, _, .cons n t h => .cons ⟨t, rfl⟩ (vals_ints h)
def Only (H : Hp) : Prop := ∀ b, H b = none ∨ ∃ o xs, H b = some (.frz o (.lst xs))
theorem law_call {P : Program} {w : World} {K : PySem.W.Frag} {mg mb : Str → Option Value} {CX : CXT} {k : Nat} {fa a : Addr} {fd : FuncData} {x : Str} {sp : Sp} {s₁ : Shared} {vs : List Value} {ns : List Int}
    (KX : K.In s₁.heap) (hns : s₁.heap.Ns mainGlobals mg) (hb : s₁.heap.Ns builtinsNs mb) (hbb : ∀ x : Str, x ≠ "__name__" → mb x = bootBuiltins x) (hlim : s₁.heap.NoLimit) (hg : s₁.gens = #[])
    (ha : s₁.heap.get? a = some { cls := .type "list", data := .seq vs.toArray }) (hi : IntsAre vs ns) (hl : ns.length ≤ sizeLine) (hr : Room k callerA)
    (F : ∀ base : Heap, K.In base → base.Ns mainGlobals mg → FnOk P w K mg base CX k fa fd [x] sp) (hbind : ∀ (s : Shared) (u : Value), BindsTo s fd ⟨[u], []⟩ [(x, u)])
    (hsp : ∀ H : Hp, Only H → SqL K H a (ns.map V.int) → sp [.ref a] H (fun v _ => v = .bl true) fun _ _ _ => False)
    (hCX : ∀ H e s', CX [] H s₁ (fun _ _ _ => False) e s' → False) :
    codeAny (model P w) callerA (.call (.ref fa) ⟨[.ref a], []⟩) (fun r s' => r = .ok (.ret (.bool true)) ∧ OldK s₁.heap s'.heap ∧ s'.os = s₁.os ∧ AllBare s'.gens) s₁ := by
  have rv := vals_ints hi
  have lenV := hi.length
  -- from an abstract heap in which nothing but the script may be tracked
  have core : ∀ H : Hp, Only H → SqL K H a (ns.map V.int) → HOk P w H s₁.heap → (∀ b, H b ≠ none → b = a) → (H a ≠ none → K.lookup a = none) →
      codeAny (model P w) callerA (.call (.ref fa) ⟨[.ref a], []⟩) (fun r s' => r = .ok (.ret (.bool true)) ∧ OldK s₁.heap s'.heap ∧ s'.os = s₁.os ∧ AllBare s'.gens) s₁ := by
    intro H hO hS hok hA hK
    have base_of : ∀ {b : Addr} {o : Obj}, s₁.heap.get? b = some o → H b = none → (hidT s₁.heap H).get? b = some o := fun e n => hidT_get e n
    have noA : ∀ {b : Addr} {o : Obj} {es : Array DictEntry} {ep : Nat}, s₁.heap.get? b = some o → o.data = .dict es ep → H b = none := fun {b o es ep} e d => by
      cases q : H b with
      | none => rfl
      | some u =>
        have e' : b = a := hA b (by rw [q]; simp)
        subst e'
        rw [ha] at e; cases e
        have d' : Data.seq vs.toArray _ = Data.dict es ep := d
        cases d'
    have nsK : ∀ {b : Addr} {m : Str → Option Value}, s₁.heap.Ns b m → (hidT s₁.heap H).Ns b m := fun {b m} ⟨o, es, ep, e, d, r⟩ => ⟨o, es, ep, base_of e (noA e d), d, r⟩
    have hKb : K.In (hidT s₁.heap H) := fun b o e => base_of (KX b o e) (by
      cases q : H b with
      | none => rfl
      | some u =>
        have e' : b = a := hA b (by rw [q]; simp)
        subst e'
        rw [hK (by rw [q]; simp)] at e; cases e)
    have hM : Mod K mg (hidT s₁.heap H) := ⟨hKb, nsK hns, ⟨mb, nsK hb, hbb⟩, let ⟨mc, h1, h2⟩ := hlim; ⟨mc, nsK h1, h2⟩⟩
    have e0 : Env0 P w K mg (hidT s₁.heap H) callerA [] s₁ H := ⟨rfl, hM, fun b o e => of_hidT e, Nat.le_of_eq (hidT_size _ _), trivial, fun b hb => absurd (show b ∈ ([] : List Addr) from hb) (by simp), hok, .of_eq hg⟩
    refine codeAny_mono ((F _ hKb (nsK hns)).run callerA [] s₁ H ⟨[.ref a], []⟩ [.ref a] [.ref a] _ _ hr e0 (hbind s₁ (.ref a)) (.cons rfl .nil) (hsp H hO hS)) fun r s' h => ?_
    cases r with
    | error e => exact (hCX H e s' h).elim
    | ok fl =>
      cases fl with
      | next => exact False.elim h
      | brk => exact False.elim h
      | cont => exact False.elim h
      | ret u =>
        obtain ⟨v, H', os, bare, un, hok', r', q⟩ := h
        have q' : v = .bl true := q
        subst q'
        obtain rfl : u = Value.bool true := r'
        refine ⟨rfl, OldK.of_keep fun b o e => ?_, os, bare⟩
        cases q : H b with
        | none => exact un.keep b o e q (by intro z; exact absurd (show b ∈ ([] : List Addr) from z) (by simp)) (by simp)
        | some u =>
          rcases hO b with z | ⟨ob, xs, z⟩
          · rw [q] at z; cases z
          · have z2 := un.frzs b ob _ z
            obtain ⟨e1, _⟩ := hok b _ z
            obtain ⟨e2, _⟩ := hok' b _ z2
            rw [e] at e1; cases e1
            exact e2
  cases hk : K.lookup a with
  | some o =>
    -- the script is one of the module's own objects
    have e := KX a o hk
    rw [ha] at e
    cases e
    refine core (fun _ => none) (fun _ => .inl rfl) (.inr ⟨_, vs.toArray, _, hk, rfl, rfl, rfl, by rw [List.size_toArray, lenV]; exact hl, by simpa using rv⟩) (fun b u z => by have z' : (none : Option HO) = some u := z; cases z') (fun b z => absurd rfl z) fun z => absurd rfl z
  | none =>
    refine core (fun b => if b = a then some (.frz { cls := .type "list", data := .seq vs.toArray } (.lst (ns.map V.int))) else none) (fun b => ?_) (.inl (.inr ⟨{ cls := .type "list", data := .seq vs.toArray }, if_pos rfl⟩)) (fun b u z => ?_) (fun b z => ?_) fun _ => hk
    · by_cases hb : b = a
      · exact .inr ⟨_, _, if_pos hb⟩
      · exact .inl (if_neg hb)
    · by_cases hb : b = a
      · have z' := (if_pos hb).symm.trans z
        cases z'
        subst hb
        exact ⟨ha, by rw [List.length_map]; exact hl, vs, _, rv, ha⟩
      · have z' := (if_neg hb).symm.trans z
        cases z'
    · by_cases hb : b = a
      · exact hb
      · exact absurd (if_neg hb) z
end L2
namespace L2
open PySem PySem.Spec PyProof.Rows
theorem walk_of {l : PySem.W.OpenLaw} {n k : Nat} {q : Program} {loose : List Str} {XP : (Str → Option Value) → Heap → Prop} {YP : World → Heap → Prop} {d : DefRec} {K : Params → PySem.W.Frag} {CX : World → CXT} {sp : World → Sp} {x : Str}
    (hn : l.most = some n) (hn2 : n ≤ sizeLine) (hdf : d.params.defaults = []) (hr : Room k callerA)
    (hY : ∀ (w : World) (h : Heap), YP w h → (K w.params).In h)
    (F : ∀ (w : World) (mg : Str → Option Value) (fa : Addr) (h : Heap), (K w.params).In h → h.Ns mainGlobals mg → mg d.name = some (.ref fa) →
      ∃ fd : FuncData, (∀ (s : Shared) (u : Value), BindsTo s fd ⟨[u], []⟩ [(x, u)]) ∧
        ∀ base : Heap, (K w.params).In base → base.Ns mainGlobals mg → FnOk l.prog w (K w.params) mg base (CX w) k fa fd [x] (sp w))
    (hsp : ∀ (w : World) (H : Hp) (a : Addr) (ns : List Int), ns.length ≤ n → Only H → SqL (K w.params) H a (ns.map V.int) → sp w [.ref a] H (fun v _ => v = .bl true) fun _ _ _ => False)
    (hCX : ∀ (w : World) (H : Hp) (s : Shared) (e : Value) (s' : Shared), CX w [] H s (fun _ _ _ => False) e s' → False) :
    PySem.W.WalkO q loose XP YP l.row.toRowW d [] (fun f vs => PySem.call f vs) := by
  refine Att.attach_call hn hdf fun w s₀ s₁ mg mb fa o pm cd doc a vs ns G Y ho hd hcd hmg hobj hints hlen hg => ?_
  have KX := hY w _ Y
  obtain ⟨fd, hb, hF⟩ := F w mg fa _ KX G.T.g hmg
  exact law_call KX G.T.g G.T.b G.T.builtins G.T.nolimit hg hobj hints (Nat.le_trans hlen hn2) hr hF hb (fun H hO hS => hsp w H a ns hlen hO hS) fun H e s' => hCX w H s₁ e s'
end L2
namespace L2
open PySem PySem.Spec PyProof.Rows
def defArgs (s : Stmt) : Arguments := match s with
  | .FunctionDef _ a _ _ _ _ _ _ _ _ => a
  | _ => { posonlyargs := [], args := [], vararg := none, kwonlyargs := [], kw_defaults := [], kwarg := none, defaults := [] }
def defBody (s : Stmt) : List Stmt := match s with
  | .FunctionDef _ _ b _ _ _ _ _ _ _ => b
  | _ => []
def defScope (s : Stmt) : Scope := match s with
  | .FunctionDef _ _ _ _ _ _ sc _ _ _ => sc
  | _ => { kind := .function, names := [], isGenerator := false, isCoroutine := false }
abbrev CX0 : CXT := fun _ _ _ _ _ _ => False
abbrev E0 : XK := fun _ _ _ => False
theorem pass0 {X : Cx} : Passes CX0 X E0 := fun _ _ _ _ _ _ _ h => h.elim
structure Fun (K : PySem.W.Frag) (x qual : Str) (st : Stmt) (f : Addr) (fd : FuncData) : Prop where
  ex : ∃ (oc : Value) (od : Option Addr) (kV doc pm : Value) (an : Option Addr) (cdv ct : Value) (osl : Array (Option Value)),
    fd = PySem.W.fnOf x qual (defArgs st) (defBody st) (defScope st) .none kV doc pm an cdv ct ∧ K.lookup f = some ⟨oc, od, .func fd, osl⟩ ∧ PySem.W.codeIn K cdv qual = true
  kp : PySem.W.keepIn K (.ref f) = true
section
variable {P : Program} {w : World} {K : PySem.W.Frag} {mg : Str → Option Value} {base : Heap}
theorem Fun.ok {x qual : Str} {st : Stmt} {f : Addr} {fd : FuncData} {N ps : List Str} {k : Nat} {sp : Sp} (F : Fun K x qual st f fd) (S : FnScope N ps (defScope st)) (len : ∀ vs H Q E, sp vs H Q E → vs.length = ps.length)
    (hbody : ∀ (cdv : Value) (A : Around) (outer : List Env) (s : Shared) (H : Hp) (vs : List V) (Q : VK) (E : XK), Room k (A.deeper (envOfC qual (defScope st) s.heap.objs.size f cdv)) → sp vs H Q E →
      ∃ t, PSs (cxOf CX0 P w K mg base N qual (defScope st) f cdv A outer s H E).nox (defBody st) t ∧ t { nx := fun _ H' => Q .non H', rt := Q } (start N vs) H) : FnOk P w K mg base CX0 (k + 1) f fd ps sp := by
  obtain ⟨oc, od, kV, doc, pm, an, cdv, ct, osl, rfl, lk, hcd⟩ := F.ex
  refine fn_of lk hcd S len fun A outer s H vs Q E hr hsp => ?_
  obtain ⟨t, h, q⟩ := hbody cdv A outer s H vs Q E hr hsp
  exact ⟨t, h.nox, q⟩
theorem Fun.binds {x qual : Str} {st : Stmt} {f : Addr} {fd : FuncData} {ps : List Str} (F : Fun K x qual st f fd)
    (h : ∀ (kV doc pm : Value) (an : Option Addr) (cdv ct : Value) (us : List Value), us.length = ps.length → bindArgs (PySem.W.fnOf x qual (defArgs st) (defBody st) (defScope st) .none kV doc pm an cdv ct) ⟨us, []⟩ = pure (ps.zip us)) : Binds K fd ps [] := by
  obtain ⟨oc, od, kV, doc, pm, an, cdv, ct, osl, rfl, lk, hcd⟩ := F.ex
  exact .all (h kV doc pm an cdv ct)
theorem fun_mk {x qual : Str} {st : Stmt} {f : Addr} {oc : Value} {od an : Option Addr} {osl : Array (Option Value)} {kV doc pm cdv ct : Value} (l : K.lookup f = some ⟨oc, od, .func (PySem.W.fnOf x qual (defArgs st) (defBody st) (defScope st) .none kV doc pm an cdv ct), osl⟩)
    (c : PySem.W.codeIn K cdv qual = true) (k : PySem.W.keepIn K (.ref f) = true) : Fun K x qual st f (PySem.W.fnOf x qual (defArgs st) (defBody st) (defScope st) .none kV doc pm an cdv ct) := ⟨⟨oc, od, kV, doc, pm, an, cdv, ct, osl, rfl, l, c⟩, k⟩
end
theorem small1000 {n : Nat} (h : n ≤ 1000) : n < sizeLine := Nat.lt_of_le_of_lt h (by decide)
section
variable {X : Cx}
theorem pv (i : Nat) {x : Str} {pos : Pos} (hN : X.N[i]? = some x := by rfl) (hv : Vis X.env.scope x := by first | exact Or.inl rfl | exact Or.inr (Or.inl rfl) | exact Or.inr (Or.inr rfl)) (hd : (x == ("__debug__" : Str)) = false := by decide)
    (hcd : (x == ("__classdict__" : Str)) = false := by decide) : PE X (.Name x pos) (tVar i) := pe_var hN hv hd hcd
end
theorem ite2 {c A B : Prop} [Decidable c] (h1 : c → A) (h2 : ¬ c → B) : if c then A else B := by
  by_cases h : c
  · rw [if_pos h]
    exact h1 h
  · rw [if_neg h]
    exact h2 h
def Same (H H' : Hp) : Prop := ∀ b o, H b = some o → H' b = some o
theorem Same.refl (H : Hp) : Same H H := fun _ _ h => h
theorem Same.trans {H H1 H2 : Hp} (a : Same H H1) (b : Same H1 H2) : Same H H2 := fun c o h => b c o (a c o h)
theorem Same.free {H H' : Hp} (e : Same H H') {l : Addr} (h : H' l = Option.none) : H l = Option.none := by
  cases q : H l with
  | none => rfl
  | some o =>
    rw [e l o q] at h
    cases h
theorem Same.seq {K : PySem.W.Frag} {H H' : Hp} {a : Addr} {xs : List V} (e : Same H H') (h : SqL K H a xs) : SqL K H' a xs := by
  rcases h with (h | ⟨o, h⟩) | h
  · exact .inl (.inl (e _ _ h))
  · exact .inl (.inr ⟨o, e _ _ h⟩)
  · exact .inr h
end L2
namespace L2
open PySem PySem.Spec PyProof.Rows
@[reducible] def blk (X : Cx) (x : Str) (fv : List (Nat × Str)) (scope : Scope) (cl : List (Str × Addr)) (C : Addr) (s : Shared) (H : Hp) (fp : List Addr) : Cx where
  prog := X.prog
  w := X.w
  K := X.K
  mg := X.mg
  base := X.base
  A := X.A
  N := x :: fv.map (·.2)
  s₀ := s
  H₀ := H
  env := compEnvC scope cl C X.env
  outer := X.stack
  stack := X.stack
  ex := fp
  fn := fun _ => false
  calm := X.calm
  pn := []
  xe := fun _ _ => False
def bst (fv : List (Nat × Str)) (σ : St) (v : Option V) : St := v :: fv.map fun p => (σ[p.1]?).getD none
structure BlkOk (X : Cx) (x : Str) (fv : List (Nat × Str)) (scope : Scope) (cl : List (Str × Addr)) : Prop where
  clos : closureFor scope X.env = pure cl
  nocell : ∀ y ∈ scope.names, y.2 ≠ .cell
  kind : scope.kind = .function
  names : ∀ y ∈ scope.names, y.2 = .local → scope.names.lookup y.1 = some .local
  here : scope.names.lookup x = some .local
  sub : ∀ y c, cl.lookup y = some c → X.env.cells.lookup y = some c
  has : ∀ y, ((relabel scope X.env).names.lookup y = some .cell ∨ (relabel scope X.env).names.lookup y = some .free) → ∃ c, cl.lookup y = some c
  fvs : ∀ p ∈ fv, p.2 ≠ x ∧ X.N[p.1]? = some p.2 ∧ (X.env.scope.names.lookup p.2 = some .cell ∨ X.env.scope.names.lookup p.2 = some .free) ∧
    ((relabel scope X.env).names.lookup p.2 = some .cell ∨ (relabel scope X.env).names.lookup p.2 = some .free) ∧ ∃ c, cl.lookup p.2 = some c
theorem compLoop_one {prog : Program} {w : World} {A : Around} {R : Result → Shared → Prop} {s : Shared} {elt target iter : Expr} {scope : Scope} {pos : Pos} {it acc : Value} {env : Env} (I : Nat → Shared → Prop)
    (turn : ∀ n s (E : Value → Shared → Prop), I n s → wpAny (model prog w) A (pyNext it) (fun r s₁ => match r with
      | none => R (.ok .next) s₁
      | some v => wpAny (model prog w) A (letOwnedTupleGo target it v) (fun _ s₂ => wpAny (model prog w) A (assign target env v) (fun _ s₃ => wpAny (model prog w) A (eval elt env) (fun x s₄ =>
          wpAny (model prog w) A (call (.builtin "list.append") [acc, x]) (fun _ s₅ => ∃ m, m < n ∧ I m s₅) E s₄) E s₃) E s₂) E s₁) E s)
    (n : Nat) (h : I n s) :
    codeAny (model prog w) A (.compLoop (.ListComp elt [⟨target, iter, [], 0⟩] scope pos) 0 it acc env) R s := by
  refine codeAny_loop rfl I (fun n s hI => ?_) n h
  show wpAny _ _ ((compTurn (.ListComp elt [⟨target, iter, [], 0⟩] scope pos) 0 it acc env).onRaise (fun x => do noteFrame x env; theTreesLotGoes x)) _ _ s
  refine wpAny_noted ?_
  rw [PySem.compTurn_list1]
  refine wpAny_bind (wpAny_standAt (wpAny_bind (wpAny_mono (turn n s _ hI) (fun r s₁ h₁ => ?_) fun _ _ h' => h')))
  cases r with
  | none => exact wpAny_pure h₁
  | some v =>
    exact wpAny_bind (thn h₁ fun _ s₂ h₂ => wpAny_bind (thn h₂ fun _ s₃ h₃ => wpAny_bind (wpAny_bind (thn h₃ fun x s₄ h₄ => wpAny_bind (thn h₄ fun _ s₅ h₅ => wpAny_pure (wpAny_pure ⟨rfl, h₅⟩))))))
section
variable {X : Cx} {elt iter : Expr} {x : Str} {px : Pos} {fv : List (Nat × Str)} {scope : Scope} {cl : List (Str × Addr)} {pos : Pos} {te : TE} {wi : TI}
def tComp (fv : List (Nat × Str)) (wi : TI) (te : TE) : TE := fun σ H Q => wi σ H fun J H1 => ∀ D, H1 D = none → ∃ W : Nat → Nat → Hp → Prop, (∃ m, W 0 m (upd H1 D (.lst []))) ∧ ∀ i m H, W i m H →
  (J.stop i H ∧ Q (.ref D) H) ∨ (J.go i H ∧ ∃ N : Hp → Prop, (∀ H', N H' → ∃ m', m' < m ∧ W (i + 1) m' H') ∧ ∀ v H', J.yld i H v H' → te (bst fv σ (some v)) H' fun y H2 => ∃ ys, H2 D = some (.lst ys) ∧ ys.length < sizeLine ∧ N (upd H2 D (.lst (ys ++ [y]))))
theorem blk_ok {pins : List (Addr × Obj)} {σ : St} {H : Hp} {s : Shared} {fp : List Addr} {C : Addr} (B : BlkOk X x fv scope cl) (I : Inv X pins σ H s) (hf : ∀ b ∈ fp, FpOk X pins H b) (hC : s.heap.objs.size ≤ C) (hfC : ∀ b ∈ fp, b ≠ C) :
    (blk X x fv scope cl C s H fp).Ok where
  mod := I.ok.mod
  kind := B.kind
  glob := I.ok.glob
  blt := I.ok.blt
  above := hC
  inj := fun y z c h1 h2 => I.ok.inj y z c (B.sub y c h1) (B.sub z c h2)
  has := fun y hy => B.has y hy
  cab := fun y c h => nomatch h
  hd := I.ok.hd
  frames := I.ok.frames
  stk := .inl rfl
  exf := fun b hb => ⟨hfC b hb, fun y c e => (hf b hb).2.2.2.2.1 y c (B.sub y c e)⟩
  bs := I.bs
  bsz := Nat.le_trans I.ok.bsz I.sz
  noex := fun b o e hb => by
    obtain ⟨_, _, _, f3, _⟩ := hf b hb
    rcases f3 with z | z
    · exact I.ok.noex b o e z
    · exact absurd (Nat.lt_of_lt_of_le (Heap.lt_size e) (Nat.le_trans I.ok.bsz z)) (Nat.lt_irrefl _)
  exfs := fun b hb hs => by
    obtain ⟨_, f1, f2, _⟩ := hf b hb
    rcases List.mem_cons.mp (I.stkSub b hs) with z | z
    · exact f1 z
    · exact f2 z
  funs := I.stack
  frf := I.stkFree
theorem bst_get {fv : List (Nat × Str)} {σ : St} {o : Option V} {j : Nat} {y : Str} {v : V} (h1 : (x :: fv.map (·.2))[j + 1]? = some y) (h2 : (bst fv σ o)[j + 1]? = some (some v)) : ∃ p ∈ fv, p.2 = y ∧ σ[p.1]? = some (some v) := by
  have e1 : (fv.map (·.2))[j]? = some y := by simpa using h1
  have e2 : (fv.map fun p => (σ[p.1]?).getD none)[j]? = some (some v) := by simpa [bst] using h2
  rw [List.getElem?_map] at e1 e2
  cases q : fv[j]? with
  | none => rw [q] at e1; cases e1
  | some p =>
    rw [q] at e1 e2
    refine ⟨p, List.mem_of_getElem? q, Option.some.inj e1, ?_⟩
    have e3 : (σ[p.1]?).getD none = some v := Option.some.inj e2
    cases r : σ[p.1]? with
    | none => rw [r] at e3; cases e3
    | some w => rw [r] at e3; exact congrArg some e3
theorem blk_start {pins : List (Addr × Obj)} {σ : St} {H : Hp} {s s4 : Shared} {fp : List Addr} {C : Addr} {m : Str → Option Value} (B : BlkOk X x fv scope cl) (I : Inv X pins σ H s) (hf : ∀ b ∈ fp, FpOk X pins H b) (hC : C = s.heap.objs.size)
    (hfC : ∀ b ∈ fp, b ≠ C) (os : s4.os = s.os) (gens : s4.gens = s.gens) (keep : ∀ b o, s.heap.get? b = some o → s4.heap.get? b = some o) (ns : s4.heap.Ns C m) :
    Inv (blk X x fv scope cl C s H fp) [] (bst fv σ none) H s4 := by
  subst hC
  refine ⟨blk_ok B I hf (Nat.le_refl _) hfC, os, by rw [gens]; exact I.bare, Un.kept keep, ⟨m, ns, fun i y v h1 h2 h3 => ?_⟩, fun y c e => ?_, I.hok.fresh (Nat.le_refl _), fun y c e => I.freeC y c (B.sub y c e), fun p hp => absurd (show p ∈ ([] : List (Addr × Obj)) from hp) (by simp), I.hok.kept keep, by simp [bst]⟩
  · cases i with
    | zero => simp [bst] at h2
    | succ j =>
      obtain ⟨p, hp, rfl, hv⟩ := bst_get h1 h2
      obtain ⟨_, hN, hk, hk2, c, hc⟩ := B.fvs p hp
      obtain ⟨m0, _, hl⟩ := I.loc
      have vis : Vis X.env.scope p.2 := hk.elim (fun z => .inr (.inl z)) fun z => .inr (.inr z)
      obtain ⟨u, r, l⟩ := hl p.1 p.2 v hN hv vis
      refine ⟨u, r, .inr ⟨hk2, c, hc, ?_⟩⟩
      rcases l with ⟨z, _⟩ | ⟨_, c', hc', o, ho, hd⟩
      · have z' : X.env.scope.names.lookup p.2 = some .local := z
        rcases hk with k | k <;> (rw [k] at z'; cases z')
      · have := B.sub p.2 c hc
        rw [hc'] at this; cases this
        exact ⟨o, keep _ o ho, hd⟩
  · obtain ⟨v, o, ho, hd⟩ := I.cell y c (B.sub y c e)
    exact ⟨v, o, keep c o ho, hd⟩
theorem blk_store {pins' : List (Addr × Obj)} {σ : St} {H H0 : Hp} {s s5 : Shared} {fp : List Addr} {C : Addr} {o : Option V} {v : V} {u : Value} {E : Value → Shared → Prop} {Q : Unit → Shared → Prop} (B : BlkOk X x fv scope cl)
    (I : Inv (blk X x fv scope cl C s H0 fp) pins' (bst fv σ o) H s5) (r : RelV v u) (h : ∀ s6, Inv (blk X x fv scope cl C s H0 fp) pins' (bst fv σ (some v)) H s6 → Q () s6) :
    wpAny (model X.prog X.w) X.A (assign (.Name x px) (compEnvC scope cl C X.env) u) Q E s5 := by
  obtain ⟨m, hn, hl⟩ := id I.loc
  have hk : (relabel scope X.env).names.lookup x = some .local := lookup_relabel_local B.here
  have hcls : ((compEnvC scope cl C X.env).scope.kind == .class || ((compEnvC scope cl C X.env).scope.kind == .module && (compEnvC scope cl C X.env).locals != (compEnvC scope cl C X.env).globals)) = false := by
    have : (compEnvC scope cl C X.env).scope.kind = .function := B.kind
    rw [this]; rfl
  refine wpAny_assign_Name (wpAny_storeName_local hk hn (fun h' hn' hs => ?_) hcls)
  have cne := I.cne
  obtain ⟨oL, _, _, hoL, _⟩ := id hn
  have tracked : HOk X.prog X.w H h' := fun b ob e => by
    refine (I.hok b ob e).stay (fun c w' hc q => (hs.2 c ?_).trans q) (fun _ q => q) fun _ _ q => q
    intro z
    have z' : c = C := z
    have fr : H C = none := I.free
    rcases hc with hc | hc
    · rw [← hc, z', fr] at e; cases e
    · rw [z', fr] at hc; cases hc
  refine h _ ⟨I.ok, I.os, I.bare, ⟨fun b o e n hb hx => ?_, fun b o e n hb hx => ?_, I.base.free, fun b o e hx => ?_, I.base.tups, I.base.frzs, I.base.tbls⟩, ⟨_, hn', fun j y v' e1 e2 e3 => ?_⟩, fun y c e => ?_, I.free, I.freeC, fun p hp => ?_, tracked, by simp [bst]⟩
  · exact (hs.2 b (Nat.ne_of_lt (Nat.lt_of_lt_of_le (Heap.lt_size e) I.ok.above))).trans (I.base.keep b o e n hb hx)
  · obtain ⟨sl, e1⟩ := I.base.slot b o e n hb hx
    exact ⟨sl, (hs.2 b (Nat.ne_of_lt (Nat.lt_of_lt_of_le (Heap.lt_size e) I.ok.above))).trans e1⟩
  · obtain ⟨o', e1⟩ := I.base.there b o e hx
    exact ⟨o', (hs.2 b (Nat.ne_of_lt (Nat.lt_of_lt_of_le (Heap.lt_size e) I.ok.above))).trans e1⟩
  · cases j with
    | zero =>
      have e1' : x = y := by simpa using e1
      subst e1'
      have e2' : v = v' := by simpa [bst] using e2
      subst e2'
      exact ⟨u, r, .inl ⟨hk, by simp⟩⟩
    | succ j =>
      have e2' : (bst fv σ o)[j + 1]? = some (some v') := by simpa [bst] using e2
      obtain ⟨u', r', q⟩ := hl (j + 1) y v' e1 e2' e3
      refine ⟨u', r', ?_⟩
      obtain ⟨p, hp, rfl, _⟩ := bst_get e1 e2
      rcases q with ⟨k, e⟩ | ⟨k, c, e, z⟩
      · exact .inl ⟨k, by simp [(B.fvs p hp).1, e]⟩
      · exact .inr ⟨k, c, e, z.sameBut hs (cne _ c e)⟩
  · obtain ⟨w', z⟩ := I.cell y c e
    exact ⟨w', z.sameBut hs (cne y c e)⟩
  · obtain ⟨e, n, ne, nf, d⟩ := I.pin p hp
    exact ⟨(hs.2 p.1 ne).trans e, n, ne, nf, d⟩
theorem blk_run {pins : List (Addr × Obj)} {σ : St} {H : Hp} {s2 : Shared} {it : Addr} {fp : List Addr} {tn : Nat → Heap → Prop} {J : It} {Q : VK} {E : Value → Shared → Prop} {RR : Value → Addr → Result → Shared → Prop}
    (hc : X.calm = true) (B : BlkOk X x fv scope cl) (he : ∀ C s H fp, PE (blk X x fv scope cl C s H fp) elt te) (I : Inv X pins σ H s2) (T : Turn X.prog X.w X.K (.Name x px) J fp it tn) (st : tn 0 s2.heap) (hf : ∀ b ∈ fp, FpOk X pins H b)
    (rd : ∀ D, H D = none → ∃ W : Nat → Nat → Hp → Prop, (∃ m, W 0 m (upd H D (.lst []))) ∧ ∀ i m H, W i m H →
      (J.stop i H ∧ Q (.ref D) H) ∨ (J.go i H ∧ ∃ N : Hp → Prop, (∀ H', N H' → ∃ m', m' < m ∧ W (i + 1) m' H') ∧ ∀ v H', J.yld i H v H' → te (bst fv σ (some v)) H' fun y H2 => ∃ ys, H2 D = some (.lst ys) ∧ ys.length < sizeLine ∧ N (upd H2 D (.lst (ys ++ [y])))))
    (hRR : ∀ D C s' H' m', Inv X pins σ H' s' → FpOk X pins H' C → s'.heap.Ns C m' → Q (.ref D) H' → RR (.ref D) C (.ok .next) s') :
    wpAny (model X.prog X.w) X.A (newList []) (fun acc s₃ => wpAny (model X.prog X.w) X.A (newFunctionEnv scope X.env.globals cl [] X.env.qual none .none (some X.env)) (fun cenv s₄ =>
      codeAny (model X.prog X.w) X.A (.compStart (.ListComp elt [⟨.Name x px, iter, [], 0⟩] scope pos) 0 (.ref it) acc { cenv with scope := relabel scope X.env }) (RR acc cenv.locals) s₄) E s₃) E s2 := by
  refine wpAny_newObj_type ?_ (by show 0 ≤ sizeLine; exact Nat.zero_le _)
  have hD : H s2.heap.objs.size = none := I.hok.fresh (Nat.le_refl _)
  have I3 := I.lnew (ys := []) (its := []) (t' := s2.toks) .nil (Nat.zero_le _)
  generalize hs3 : ({ s2 with heap := s2.heap.push { cls := .type "list", data := .seq ([] : List Value).toArray }, toks := s2.toks } : Shared) = s3 at I3
  have sz3 : s3.heap.objs.size = s2.heap.objs.size + 1 := by rw [← hs3]; exact Heap.size_push ..
  have up3 : ∀ b o, s2.heap.get? b = some o → s3.heap.get? b = some o := fun b o e => by rw [← hs3]; exact Heap.get?_push_of_some _ e
  have hf3 : ∀ b ∈ fp, FpOk X pins (upd H s2.heap.objs.size (.lst [])) b := fun b hb => by
    obtain ⟨f0, r⟩ := hf b hb
    refine ⟨?_, r⟩
    obtain ⟨o, e, _⟩ := T.obj 0 _ st b hb
    rw [upd_ne (Nat.ne_of_lt (Heap.lt_size e))]; exact f0
  have ltf : ∀ b ∈ fp, b < s2.heap.objs.size := fun b hb => by
    obtain ⟨o, e, _⟩ := T.obj 0 _ st b hb
    exact Heap.lt_size e
  have st3 : tn 0 s3.heap := T.keep 0 _ _ st fun b _ o e => up3 b o e
  obtain ⟨W, ⟨m0, w0⟩, turn⟩ := rd _ hD
  refine wpAny_newFunctionEnv B.nocell (by intro y hy; simp at hy) (fun h₁ hns₁ hsb₁ => ?_) B.kind
  have hfC : ∀ b ∈ fp, b ≠ s3.heap.objs.size := fun b hb => Nat.ne_of_lt (by rw [sz3]; exact Nat.lt_succ_of_lt (ltf b hb))
  have up4 : ∀ b o, s3.heap.get? b = some o → h₁.get? b = some o := fun b o e => hsb₁.extBut b o (Nat.ne_of_lt (Heap.lt_size e)) (Heap.get?_push_of_some _ e)
  generalize hs4 : ({ s3 with heap := h₁, toks := s3.toks + ([] : List (Str × Value)).length } : Shared) = s4
  have h4 : s4.heap = h₁ := by rw [← hs4]
  have I4 : Inv (blk X x fv scope cl s3.heap.objs.size s3 (upd H s2.heap.objs.size (.lst [])) fp) [] (bst fv σ none) (upd H s2.heap.objs.size (.lst [])) s4 :=
    blk_start B I3 hf3 rfl hfC (by rw [← hs4]) (by rw [← hs4]) (fun b o e => by rw [h4]; exact up4 b o e) (by rw [h4]; exact hns₁)
  have st4 : tn 0 s4.heap := by rw [h4]; exact T.keep 0 _ _ st3 fun b _ o e => up4 b o e
  -- what stays true of the iterator's objects
  have stat : ∀ {H' : Hp}, (∀ b ∈ fp, H' b = none) → ∀ b ∈ fp, FpOk (blk X x fv scope cl s3.heap.objs.size s3 (upd H s2.heap.objs.size (.lst [])) fp) [] H' b := fun {H'} hn b hb => by
    obtain ⟨_, f1, f2, f3, f4, f5⟩ := hf b hb
    refine ⟨hn b hb, hfC b hb, fun z => ?_, .inl hb, fun y c e => f4 y c (B.sub y c e), fun p hp => absurd (show p ∈ ([] : List (Addr × Obj)) from hp) (by simp)⟩
    rcases List.mem_cons.mp (I.stkSub b z) with q | q
    · exact f1 q
    · exact f2 q
  have loop : codeAny (model X.prog X.w) X.A (.compLoop (.ListComp elt [⟨.Name x px, iter, [], 0⟩] scope pos) 0 (.ref it) (.ref s2.heap.objs.size) (compEnvC scope cl s3.heap.objs.size X.env)) (RR (.ref s2.heap.objs.size) s3.heap.objs.size) s4 := by
    refine compLoop_one (fun n s' => ∃ i H' o, Inv (blk X x fv scope cl s3.heap.objs.size s3 (upd H s2.heap.objs.size (.lst [])) fp) [] (bst fv σ o) H' s' ∧ tn i s'.heap ∧ (∀ b ∈ fp, H' b = none) ∧ W i n H') ?_ m0
      ⟨0, _, none, I4, st4, fun b hb => (hf3 b hb).1, w0⟩
    rintro n s5 E' ⟨i, H5, o5, I5, st5, fr5, w5⟩
    rcases turn i n H5 w5 with ⟨stop, q⟩ | ⟨go, N, hN, step⟩
    · refine thn (T.done (blk X x fv scope cl s3.heap.objs.size s3 (upd H s2.heap.objs.size (.lst [])) fp) rfl rfl rfl hc i [] s5 _ H5 _ I5 (stat fr5) st5 stop) fun r s6 ⟨hr, I6⟩ => ?_
      subst hr
      obtain ⟨m6, hn6, _⟩ := I6.loc
      have un : Un (frs X.stack) fp H H5 s2.heap s6.heap := by
        have u1 : Un (frs X.stack) fp H (upd H s2.heap.objs.size (.lst [])) s2.heap s3.heap := Un.laid up3 (Nat.le_refl _) hD
        exact u1.trans I6.base
      have J6 : Inv X pins σ H5 s6 := by
        refine I.call' ?_ un I6.hok I6.bare fun b hb => ?_
        · have := I6.os
          rw [show (blk X x fv scope cl s3.heap.objs.size s3 (upd H s2.heap.objs.size (.lst [])) fp).s₀.os = s2.os by rw [← hs3]] at this
          exact this
        · obtain ⟨_, f1, f2, f3, f4, f5⟩ := hf b hb
          exact ⟨f3, f1, f4, f5⟩
      refine hRR _ _ s6 H5 m6 J6 ?_ hn6 q
      exact I3.fpOk (Nat.le_refl _) I6.free
    · refine thn (T.item (blk X x fv scope cl s3.heap.objs.size s3 (upd H s2.heap.objs.size (.lst [])) fp) rfl rfl rfl hc i [] s5 _ H5 _ I5 (stat fr5) st5 go) fun r s6 ⟨u, hr, h6⟩ => ?_
      subst hr
      refine thn h6 fun _ s7 ⟨v, H7, I7, r7, y7, st7, fr7⟩ => ?_
      have I7' := I7.pinned (stat fr7) (T.obj _ _ st7)
      refine blk_store B I7' r7 fun s8 I8 => ?_
      have e8 := he _ _ _ _ _ s8 _ H7 _ I8 (step v H7 y7)
      refine wpAny_mono e8 (fun y s9 ⟨yv, H9, I9, r9, ys, hD9, hz, n9⟩ => ?_) fun _ _ z => False.elim z
      have a9 := mt_append (X := blk X x fv scope cl s3.heap.objs.size s3 (upd H s2.heap.objs.size (.lst [])) fp) _ s9 _ H9 (.ref s2.heap.objs.size) [yv] (.ref s2.heap.objs.size) [y] (fun _ H10 => H10 = upd H9 s2.heap.objs.size (.lst (ys ++ [yv]))) I9 rfl (.cons r9 .nil)
        ⟨_, ys, yv, rfl, rfl, hD9, hz, rfl⟩
      refine wpAny_mono a9 (fun _ s10 ⟨_, H10, I10, _, e10⟩ => ?_) fun _ _ z => False.elim z
      subst e10
      obtain ⟨m', hm, w9⟩ := hN _ n9
      refine ⟨m', hm, i + 1, _, some v, I10.unpinned, T.keep _ _ _ st7 fun b hb o e => (I10.pin (b, o) (List.mem_append_right _ (List.mem_append_right _ (mem_pinsAt hb e)))).1, fun b hb => ?_, w9⟩
      obtain ⟨o, e, _⟩ := T.obj _ _ st7 b hb
      exact (I10.pin (b, o) (List.mem_append_right _ (List.mem_append_right _ (mem_pinsAt hb e)))).2.1
  exact codeAny_compStart_list loop (T.self _ 0 _ _ _ st4 loop)
end
end L2
namespace L2
open PySem PySem.Spec PyProof.Rows
section
variable {X : Cx} {elt iter : Expr} {x : Str} {px : Pos} {fv : List (Nat × Str)} {scope : Scope} {cl : List (Str × Addr)} {pos : Pos} {te : TE} {wi : TI}
theorem pe_lcomp (hc : X.calm = true) (B : BlkOk X x fv scope cl) (hi : PI X (.Name x px) iter wi) (he : ∀ C s H fp, PE (blk X x fv scope cl C s H fp) elt te)
    (hs : ∀ v, foldedSetIterable iter X.env v = pure v := by intro _; rfl) : PE X (.ListComp elt [⟨.Name x px, iter, [], 0⟩] scope pos) (tComp fv wi te) := by
  intro pins s σ H Q I h
  rw [eval_ListComp]
  refine wpAny_comprehension_free (use := none) rfl hs B.clos B.kind B.names (thn (hi pins s σ H _ I h) fun v s1 h1 => thn h1 fun itv s2 h2 => ?_)
  obtain ⟨it, fp, tn, J, H2, e, I2, T, st2, f2, rd⟩ := h2
  subst e
  refine blk_run (RR := fun acc C => compPost (model X.prog X.w) X.A X.xe none (EP X pins σ Q) acc C) hc B he I2 T st2 f2 rd ?_
  intro D C s' H' m' I' fC hn q
  exact ⟨m', hn, fun h' sb => ⟨.ref D, H', I'.turned (t' := s'.toks) (fun b o hb e => (sb.2 b hb).trans e) fC.1 fC.2.1 fC.2.2.2.1 fC.2.2.2.2.1 fC.2.2.2.2.2, rfl, q⟩⟩
theorem ps_setC {i : Nat} {y : Str} {py spos : Pos} (hc : X.calm = true) (B : BlkOk X x fv scope cl) (hi : PI X (.Name x px) iter wi) (he : ∀ C s H fp, PE (blk X x fv scope cl C s H fp) elt te)
    (hN : X.N.Nodup) (hiy : X.N[i]? = some y) (hy : X.env.scope.names.lookup y = some .local)
    (hsw : swapsWith (.ListComp elt [⟨.Name x px, iter, [], 0⟩] scope pos) (some (.Name y py)) spos.line X.env = pure true := by rfl)
    (hs : ∀ v, foldedSetIterable iter X.env v = pure v := by intro _; rfl) :
    PS X (.Assign [.Name y py] (.ListComp elt [⟨.Name x px, iter, [], 0⟩] scope pos) spos) (tAsg (tComp fv wi te) (gName i)) := by
  intro pins s σ H D I h
  rw [exec_Assign_Name_used _ _ _ _ hsw]
  refine wpAny_bind (wpAny_standAt (wpAny_bind ?_))
  show wpAny _ X.A (do let _ ← comprehension (.ListComp elt [⟨.Name x px, iter, [], 0⟩] scope pos) scope X.env _ (newList []) false (eval iter X.env) (some (assign (.Name y py) X.env))) _ _ s
  refine wpAny_bind (wpAny_mono (wpAny_comprehension_free (use := some (assign (.Name y py) X.env)) (Q := fun _ s' => SP X pins D .next s') rfl hs B.clos B.kind B.names
    (thn (hi pins s σ H _ I h) fun v s1 h1 => thn h1 fun itv s2 h2 => ?_)) (fun _ s' hq => wpAny_pure (wpAny_pure hq)) fun _ _ e => e)
  obtain ⟨it, fp, tn, J, H2, e, I2, T, st2, f2, rd⟩ := h2
  subst e
  refine blk_run (Q := fun x H1 => gName i x σ H1 D.nx) (RR := fun acc C => compPost (model X.prog X.w) X.A X.xe (some (assign (.Name y py) X.env)) (fun _ s' => SP X pins D .next s') acc C) hc B he I2 T st2 f2 rd ?_
  intro Dl C s' H' m' I' fC hn q
  show wpAny _ X.A (assign (.Name y py) X.env (.ref Dl)) _ _ _
  refine wpAny_assign_Name (store_ok2 I' hN hiy (.inl hy) (v := .ref Dl) rfl (fun s'' I'' hab => ?_) (.inr hy))
  obtain ⟨a, sb, ha⟩ := hab
  have hCa : C ≠ a := by
    rcases ha with rfl | e
    · exact fC.2.1
    · exact Ne.symm (fC.2.2.2.2.1 _ _ e)
  exact ⟨m', hn.sameBut sb hCa, fun h' sb' => ⟨_, H', I''.turned (t' := s''.toks) (fun b o hb e => (sb'.2 b hb).trans e) fC.1 fC.2.1 fC.2.2.2.1 fC.2.2.2.2.1 fC.2.2.2.2.2, q⟩⟩
end
def Itrs (lo c : Int) (n : Nat) : It := ⟨fun i _ => i < n, fun i H x H' => H' = H ∧ x = .int (lo + i * c), fun i _ => n ≤ i⟩
section
variable {X : Cx} {tg : Expr}
def iRng3 (ta : TA) : TI := fun σ H R => ta σ H fun vs H1 => ∃ (i j k : Int) (n : Nat), vs = [.int i, .int j, .int k] ∧ k ≠ 0 ∧ k.natAbs < 1073741824 ∧ Builtin.Range.small i j k = true ∧ Builtin.Range.rangeSize i j k = n ∧ R (Itrs i k n) H1
end
theorem comp_list {K : PySem.W.Frag} {a : Addr} {xs : List V} {fv : List (Nat × Str)} {te : TE} {Q : VK} {σ : St} {H1 : Hp} {D : Addr} (Pv : Nat → Hp → Prop) (h0 : Pv 0 (upd H1 D (.lst []))) (hl : ∀ i H, i ≤ xs.length → Pv i H → SqL K H a xs)
    (hs : ∀ i v H, xs[i]? = some v → Pv i H → te (bst fv σ (some v)) H fun y H2 => ∃ ys, H2 D = some (.lst ys) ∧ ys.length < sizeLine ∧ Pv (i + 1) (upd H2 D (.lst (ys ++ [y])))) (hd : ∀ H, Pv xs.length H → Q (.ref D) H) :
    ∃ W : Nat → Nat → Hp → Prop, (∃ m, W 0 m (upd H1 D (.lst []))) ∧ ∀ i m H, W i m H →
      ((Itl K a).stop i H ∧ Q (.ref D) H) ∨ ((Itl K a).go i H ∧ ∃ N : Hp → Prop, (∀ H', N H' → ∃ m', m' < m ∧ W (i + 1) m' H') ∧ ∀ v H', (Itl K a).yld i H v H' → te (bst fv σ (some v)) H' fun y H2 => ∃ ys, H2 D = some (.lst ys) ∧ ys.length < sizeLine ∧ N (upd H2 D (.lst (ys ++ [y])))) := by
  refine ⟨fun i m H => m = xs.length - i ∧ i ≤ xs.length ∧ Pv i H, ⟨xs.length, by simp, Nat.zero_le _, h0⟩, ?_⟩
  rintro i m H ⟨rfl, hi, p⟩
  have q := hl i H hi p
  by_cases hlt : i < xs.length
  · refine .inr ⟨⟨xs, xs[i], q, List.getElem?_eq_getElem hlt⟩, Pv (i + 1), fun H' p' => ⟨xs.length - (i + 1), by omega, rfl, hlt, p'⟩, fun v H' y => ?_⟩
    obtain ⟨e, y⟩ := y
    subst e
    exact hs i v _ (y xs q) p
  · have e : i = xs.length := by omega
    subst e
    exact .inl ⟨⟨xs, q, Nat.le_refl _⟩, hd H p⟩
theorem comp_range {lo : Int} {n : Nat} {fv : List (Nat × Str)} {te : TE} {Q : VK} {σ : St} {H1 : Hp} {D : Addr} (Pv : Nat → Hp → Prop) (h0 : Pv 0 (upd H1 D (.lst [])))
    (hs : ∀ i H, i < n → Pv i H → te (bst fv σ (some (.int (lo + i)))) H fun y H2 => ∃ ys, H2 D = some (.lst ys) ∧ ys.length < sizeLine ∧ Pv (i + 1) (upd H2 D (.lst (ys ++ [y])))) (hd : ∀ H, Pv n H → Q (.ref D) H) :
    ∃ W : Nat → Nat → Hp → Prop, (∃ m, W 0 m (upd H1 D (.lst []))) ∧ ∀ i m H, W i m H →
      ((Itr lo n).stop i H ∧ Q (.ref D) H) ∨ ((Itr lo n).go i H ∧ ∃ N : Hp → Prop, (∀ H', N H' → ∃ m', m' < m ∧ W (i + 1) m' H') ∧ ∀ v H', (Itr lo n).yld i H v H' → te (bst fv σ (some v)) H' fun y H2 => ∃ ys, H2 D = some (.lst ys) ∧ ys.length < sizeLine ∧ N (upd H2 D (.lst (ys ++ [y])))) := by
  refine ⟨fun i m H => m = n - i ∧ i ≤ n ∧ Pv i H, ⟨n, by simp, Nat.zero_le _, h0⟩, ?_⟩
  rintro i m H ⟨rfl, hi, p⟩
  by_cases hlt : i < n
  · refine .inr ⟨hlt, Pv (i + 1), fun H' p' => ⟨n - (i + 1), by omega, rfl, hlt, p'⟩, fun v H' y => ?_⟩
    obtain ⟨e, y⟩ := y
    subst e y
    exact hs i _ hlt p
  · have e : i = n := by omega
    subst e
    exact .inl ⟨Nat.le_refl _, hd H p⟩
theorem sub_nil {cells : List (Str × Addr)} : ∀ y c, ([] : List (Str × Addr)).lookup y = some c → cells.lookup y = some c := fun _ _ h => nomatch h
theorem sub_cons {n : Str} {c0 : Addr} {r cells : List (Str × Addr)} (h0 : cells.lookup n = some c0) (h : ∀ y c, r.lookup y = some c → cells.lookup y = some c) : ∀ y c, ((n, c0) :: r).lookup y = some c → cells.lookup y = some c := fun y c q => by
  rw [List.lookup_cons] at q
  cases e : y == n with
  | true =>
    rw [e] at q
    cases q
    rw [eq_of_beq e]; exact h0
  | false =>
    rw [e] at q
    exact h y c q
theorem has_of {l : List (Str × NameKind)} {cl : List (Str × Addr)} (h : (l.all fun p => (p.2 != .cell && p.2 != .free) || (cl.lookup p.1).isSome) = true) : ∀ y, (l.lookup y = some .cell ∨ l.lookup y = some .free) → ∃ c, cl.lookup y = some c := fun y hy => by
  have key : ∀ k, l.lookup y = some k → (k = .cell ∨ k = .free) → ∃ c, cl.lookup y = some c := fun k e hk => by
    have q := List.all_eq_true.mp h (y, k) (PySem.mem_of_lookup e)
    have z : (k != .cell && k != .free) = false := by rcases hk with rfl | rfl <;> rfl
    rw [show ((y, k).2 != .cell && (y, k).2 != .free) = false from z, Bool.false_or] at q
    exact Option.isSome_iff_exists.mp q
  rcases hy with e | e
  · exact key _ e (.inl rfl)
  · exact key _ e (.inr rfl)
def FvOk (X : Cx) (x : Str) (scope : Scope) (cl : List (Str × Addr)) (fv : List (Nat × Str)) : Prop :=
  ∀ p ∈ fv, p.2 ≠ x ∧ X.N[p.1]? = some p.2 ∧ (X.env.scope.names.lookup p.2 = some .cell ∨ X.env.scope.names.lookup p.2 = some .free) ∧
    ((relabel scope X.env).names.lookup p.2 = some .cell ∨ (relabel scope X.env).names.lookup p.2 = some .free) ∧ ∃ c, cl.lookup p.2 = some c
theorem fv_nil {X : Cx} {x : Str} {scope : Scope} {cl : List (Str × Addr)} : FvOk X x scope cl [] := fun _ h => nomatch h
theorem fv_cons {X : Cx} {x : Str} {scope : Scope} {cl : List (Str × Addr)} {fv : List (Nat × Str)} (i : Nat) (y : Str) (h1 : y ≠ x) (h2 : X.N[i]? = some y) (h3 : X.env.scope.names.lookup y = some .cell ∨ X.env.scope.names.lookup y = some .free)
    (h4 : (relabel scope X.env).names.lookup y = some .cell ∨ (relabel scope X.env).names.lookup y = some .free) (h5 : ∃ c, cl.lookup y = some c) (r : FvOk X x scope cl fv) : FvOk X x scope cl ((i, y) :: fv) := fun p hp => by
  rcases List.mem_cons.mp hp with rfl | hp
  · exact ⟨h1, h2, h3, h4, h5⟩
  · exact r p hp
theorem blkok {X : Cx} {x : Str} {fv : List (Nat × Str)} {scope : Scope} {cl : List (Str × Addr)} (clos : closureFor scope X.env = pure cl) (sub : ∀ y c, cl.lookup y = some c → X.env.cells.lookup y = some c) (fvs : FvOk X x scope cl fv)
    (kind : scope.kind = .function := by rfl) (here : scope.names.lookup x = some .local := by rfl) (nocell : ∀ y ∈ scope.names, y.2 ≠ .cell := by decide +kernel)
    (names : ∀ y ∈ scope.names, y.2 = .local → scope.names.lookup y.1 = some .local := by decide +kernel)
    (has : ((relabel scope X.env).names.all fun p => (p.2 != .cell && p.2 != .free) || (cl.lookup p.1).isSome) = true := by rfl) : BlkOk X x fv scope cl :=
  ⟨clos, nocell, kind, names, here, sub, has_of has, fvs⟩
section
variable {X : Cx}
theorem call_isinst : CallR X (.builtin "isinstance") (fun xs H Q => ∃ x n t b, xs = [x, .ty n] ∧ TyOf X.K H x t ∧ PySem.W.kitOne X.K t (.type n) = some b ∧ Q (.bl b) H) := by
  intro pins s σ H xs us Q I rv h
  obtain ⟨x, n, t, b, rfl, ty, e, q⟩ := h
  cases rv with
  | cons r rr =>
    cases rr with
    | cons r' rr =>
      cases rr
      cases r'
      exact isinst_ok I r ty e fun tk => ⟨.bl b, H, I.tok _, rfl, q⟩
theorem mt_bitlen : MtR X "int.bit_length" (fun x xs H Q => ∃ i, x = .int i ∧ xs = [] ∧ Q (.int (Builtin.Int.intBits i : Nat)) H) := by
  intro pins s σ H x xs v us Q I rx rv h
  obtain ⟨i, rfl, rfl, q⟩ := h
  cases rv
  obtain ⟨t, rfl⟩ := rx
  exact call_gives F.slot_int_bit_length (typeIs_int s i t) F.entry_int_bit_length (F.args_int_bit_length_1 _) (PySem.AutoIntG2.int_bit_length_int_0 i t) ⟨.int _, H, I.tok _, ⟨_, rfl⟩, q⟩
end
theorem intBits_le_of {i : Int} {k : Nat} (h : i.natAbs < 2 ^ k) : Builtin.Int.intBits i ≤ k := by
  unfold Builtin.Int.intBits
  split
  · exact Nat.zero_le _
  · rename_i hz
    have hz' : i ≠ 0 := by simpa using hz
    have : i.natAbs.log2 < k := (Nat.log2_lt (by omega)).mpr h
    omega
theorem mulOk_of {i j : Int} {k l : Nat} (h1 : i.natAbs < 2 ^ k) (h2 : j.natAbs < 2 ^ l) (h : k + l ≤ 134217728) : IntMulOk i j := IntMulOk.of_le (intBits_le_of h1) (intBits_le_of h2) h
theorem op_fdivB {X : Cx} : OpR X (binaryOp .FloorDiv) (rI (fun _ j => j ≠ 0 ∧ j.natAbs < 2 ^ 9000) fun i j => .int (i.fdiv j)) :=
  opI fun _ j _ _ _ _ _ hc q => floordiv_int hc.1 q (.inl (PyProof.noPylong_of_log2 ((Nat.log2_lt (by have := hc.1; omega)).mpr hc.2)))
end L2
namespace L2
open PySem PySem.Spec PyProof.Rows
section
variable {σ : St} {H : Hp} {Q : VK} {D : Ends} {t u : TS} {te ta tb tc to ti : TE} {tt : TT} {tA : TA} {i : Nat} {x y v : V} {r r' : R2} {QT : Bool → Hp → Prop} {QA : List V → Hp → Prop}
theorem a_seq : tSeq t u D σ H = t { D with nx := u D } σ H := rfl
theorem a_next : tNext D σ H = D.nx σ H := rfl
theorem a_brk : tBreak D σ H = D.bk σ H := rfl
theorem a_cnt : tCont D σ H = D.ct σ H := rfl
theorem a_drop : tDrop te D σ H = te σ H fun _ H1 => D.nx σ H1 := rfl
theorem a_ret : tRet te D σ H = te σ H D.rt := rfl
theorem a_retN : tRetN D σ H = D.rt .non H := rfl
theorem a_if : tIfS tt t u D σ H = tt σ H fun b H1 => if b = true then t D σ H1 else u D σ H1 := rfl
theorem a_asg {g : TG} : tAsg te g D σ H = te σ H fun x H1 => g x σ H1 D.nx := rfl
theorem a_gname {Q : St → Hp → Prop} : gName i v σ H Q = Q (σ.set i (some v)) H := rfl
theorem a_gsub {ts : TSet} {Q : St → Hp → Prop} : gSub to ti ts v σ H Q = to σ H fun o H1 => ti σ H1 fun i H2 => ts o i v H2 fun H3 => Q σ H3 := rfl
theorem a_gtup {K : PySem.W.Frag} {n : Nat} {ts : TGs} {Q : St → Hp → Prop} : gTup K n ts v σ H Q = ∃ a xs, v = .ref a ∧ SqT K H a xs ∧ xs.length = n ∧ ts xs σ H Q := rfl
theorem a_gnil {vs : List V} {Q : St → Hp → Prop} : gNil vs σ H Q = (vs = [] ∧ Q σ H) := rfl
theorem a_gcons {g : TG} {gs : TGs} {vs : List V} {Q : St → Hp → Prop} : gCons g gs vs σ H Q = ∃ v r, vs = v :: r ∧ g v σ H fun σ' H' => gs r σ' H' Q := rfl
theorem a_aug {ip : TIp} : tAug i te ip D σ H = ∃ x, σ[i]? = some (some x) ∧ te σ H fun y H1 => ip x y H1 fun z H2 => D.nx (σ.set i (some z)) H2 := rfl
theorem a_augS {tget : V → V → Hp → VK → Prop} {tip : TIp} {tset : TSet} : tAugS to ti te tget tip tset D σ H = to σ H fun o H1 => ti σ H1 fun i H2 => tget o i H2 fun x H3 => te σ H3 fun y H4 => tip x y H4 fun z H5 => tset o i z H5 fun H6 => D.nx σ H6 := rfl
theorem a_ipI {f : Int → Int → Int} : ipI f x y H Q = ∃ i j, x = .int i ∧ y = .int j ∧ Q (.int (f i j)) H := rfl
theorem a_var : tVar i σ H Q = ∃ v, σ[i]? = some (some v) ∧ Q v H := rfl
theorem a_c : tC v σ H Q = Q v H := rfl
theorem a_op : tOp r ta tb σ H Q = ta σ H fun x H1 => tb σ H1 fun y H2 => r x y H2 Q := rfl
theorem a_un {r : V → Hp → VK → Prop} : tUn r ta σ H Q = ta σ H fun x H1 => r x H1 Q := rfl
theorem a_rI {C : Int → Int → Prop} {g : Int → Int → V} : rI C g x y H Q = ∃ i j, x = .int i ∧ y = .int j ∧ C i j ∧ Q (g i j) H := rfl
theorem a_rI0 {g : Int → Int → V} : rI0 g x y H Q = ∃ i j, x = .int i ∧ y = .int j ∧ Q (g i j) H := rfl
theorem a_rU {g : Int → V} : rU g x H Q = ∃ i, x = .int i ∧ Q (g i) H := rfl
theorem a_eqI {i j : Int} : rEq (.int i) (.int j) H Q = Q (.bl (decide (i = j))) H := by
  show (true = true ∧ Q (.bl (decide (V.int i = V.int j))) H) = _
  rw [show decide (V.int i = V.int j) = decide (i = j) by rw [dec_int]; exact Bool.beq_eq_decide_eq i j]
  simp
theorem a_neI {i j : Int} : rNe (.int i) (.int j) H Q = Q (.bl (!decide (i = j))) H := by
  show (true = true ∧ Q (.bl (!decide (V.int i = V.int j))) H) = _
  rw [show decide (V.int i = V.int j) = decide (i = j) by rw [dec_int]; exact Bool.beq_eq_decide_eq i j]
  simp
theorem a_eqB {i j : Bool} : rEq (.bl i) (.bl j) H Q = Q (.bl (decide (i = j))) H := by
  show (true = true ∧ Q (.bl (decide (V.bl i = V.bl j))) H) = _
  cases i <;> cases j <;> simp
theorem a_neB {i j : Bool} : rNe (.bl i) (.bl j) H Q = Q (.bl (!decide (i = j))) H := by
  show (true = true ∧ Q (.bl (!decide (V.bl i = V.bl j))) H) = _
  cases i <;> cases j <;> simp
theorem a_tB : tB te σ H QT = te σ H fun x H1 => ∃ c, x = .bl c ∧ QT c H1 := rfl
theorem a_test : tTest te σ H QT = te σ H fun x H' => ∃ k, x = .bl k ∧ QT k H' := rfl
theorem a_and {tt' : TT} : tAnd tt tt' σ H QT = tt σ H fun c H1 => if c = true then tt' σ H1 QT else QT false H1 := rfl
theorem a_or {tt' : TT} : tOr tt tt' σ H QT = tt σ H fun c H1 => if c = true then QT true H1 else tt' σ H1 QT := rfl
theorem a_not : tNot tt σ H QT = tt σ H fun c H1 => QT (!c) H1 := rfl
theorem a_andV : tAndV ta tb σ H Q = ta σ H fun x H1 => ∃ c, x = .bl c ∧ if c = true then tb σ H1 Q else Q (.bl false) H1 := rfl
theorem a_orV : tOrV ta tb σ H Q = ta σ H fun x H1 => ∃ c, x = .bl c ∧ if c = true then Q (.bl true) H1 else tb σ H1 Q := rfl
theorem a_notV : tNotV ta σ H Q = ta σ H fun x H1 => ∃ c, x = .bl c ∧ Q (.bl (!c)) H1 := rfl
theorem a_ifE : tIf tt ta tb σ H Q = tt σ H fun c H1 => if c = true then ta σ H1 Q else tb σ H1 Q := rfl
theorem a_chain : tChain r r' ta tb tc σ H Q = ta σ H fun x H1 => tb σ H1 fun y H2 => r x y H2 fun z H3 => ∃ k, z = .bl k ∧ (if k = true then tc σ H3 fun w' H4 => r' y w' H4 Q else Q (.bl false) H3) := rfl
theorem a_nil : tNil σ H QA = QA [] H := rfl
theorem a_cons : tCons ta tA σ H QA = ta σ H fun x H1 => tA σ H1 fun xs H2 => QA (x :: xs) H2 := rfl
theorem a_lst : tLst tA σ H Q = tA σ H fun xs H1 => xs.length ≤ sizeLine ∧ ∀ p, H1 p = none → Q (.ref p) (upd H1 p (.lst xs)) := rfl
theorem a_tup : tTup tA σ H Q = tA σ H fun xs H1 => xs.length ≤ sizeLine ∧ ∀ p, H1 p = none → Q (.ref p) (upd H1 p (.tup xs)) := rfl
theorem a_call {sp : Sp} {dvs : List V} {E : XK} : tCall sp dvs E tA σ H Q = tA σ H fun vs H1 => sp (vs ++ dvs) H1 Q E := rfl
theorem a_cb {r : List V → Hp → VK → Prop} : tCB r tA σ H Q = tA σ H fun vs H1 => r vs H1 Q := rfl
theorem a_bm0 {K : PySem.W.Frag} {T : String} {r : V → List V → Hp → VK → Prop} : tBM0 K T r to σ H Q = to σ H fun x H1 => tyV K T x H1 ∧ r x [] H1 Q := rfl
theorem a_bm {K : PySem.W.Frag} {T : String} {r : V → List V → Hp → VK → Prop} : tBM K T r to tA σ H Q = to σ H fun x H1 => tyV K T x H1 ∧ tA σ H1 fun xs H2 => r x xs H2 Q := rfl
theorem a_sl {r : V → Option Int → Option Int → Hp → VK → Prop} {tl th : TO} : tSl r te tl th σ H Q = te σ H fun x H1 => tl σ H1 fun l H2 => th σ H2 fun u H3 => r x l u H3 Q := rfl
theorem a_nopart {Q : Option Int → Hp → Prop} : tNoPart σ H Q = Q none H := rfl
theorem a_part {Q : Option Int → Hp → Prop} : tPart te σ H Q = te σ H fun x H1 => ∃ i, x = .int i ∧ Q (some i) H1 := rfl
theorem a_tyI {K : PySem.W.Frag} {T : String} {i : Int} : tyV K T (.int i) H = (T = "int") := rfl
theorem a_tyL {K : PySem.W.Frag} {p : Addr} {xs : List V} (h : SqL K H p xs) : tyV K "list" (.ref p) H := .inl ⟨rfl, xs, h⟩
end
def Loop (J : It) (g : TG) (tb : TS) (D : Ends) (σ : St) (H : Hp) : Prop := ∃ W : Nat → Nat → St → Hp → Prop, (∃ m, W 0 m σ H) ∧ ∀ i m σ H, W i m σ H →
  (J.stop i H ∧ D.nx σ H) ∨ (J.go i H ∧ ∃ N : St → Hp → Prop, (∀ σ' H', N σ' H' → ∃ m', m' < m ∧ W (i + 1) m' σ' H') ∧ ∀ x H', J.yld i H x H' → g x σ H' fun σ2 H2 => tb { D with nx := N, ct := N, bk := D.nx } σ2 H2)
theorem a_for {wi : TI} {g : TG} {tb : TS} {D : Ends} {σ : St} {H : Hp} : tFor wi g tb D σ H = wi σ H fun J H1 => Loop J g tb D σ H1 := rfl
def CLoop (J : It) (fv : List (Nat × Str)) (te : TE) (Q : VK) (σ : St) (H1 : Hp) (D : Addr) : Prop := ∃ W : Nat → Nat → Hp → Prop, (∃ m, W 0 m (upd H1 D (.lst []))) ∧ ∀ i m H, W i m H →
  (J.stop i H ∧ Q (.ref D) H) ∨ (J.go i H ∧ ∃ N : Hp → Prop, (∀ H', N H' → ∃ m', m' < m ∧ W (i + 1) m' H') ∧ ∀ v H', J.yld i H v H' → te (bst fv σ (some v)) H' fun y H2 => ∃ ys, H2 D = some (.lst ys) ∧ ys.length < sizeLine ∧ N (upd H2 D (.lst (ys ++ [y]))))
theorem a_comp {fv : List (Nat × Str)} {wi : TI} {te : TE} {σ : St} {H : Hp} {Q : VK} : tComp fv wi te σ H Q = wi σ H fun J H1 => ∀ D, H1 D = none → CLoop J fv te Q σ H1 D := rfl
theorem a_ilist {K : PySem.W.Frag} {tl : TE} {σ : St} {H : Hp} {R : It → Hp → Prop} : iList K tl σ H R = tl σ H fun x H1 => ∃ a, x = .ref a ∧ (∃ xs, SqL K H1 a xs) ∧ R (Itl K a) H1 := rfl
theorem a_itup {K : PySem.W.Frag} {tl : TE} {σ : St} {H : Hp} {R : It → Hp → Prop} : iTup K tl σ H R = tl σ H fun x H1 => ∃ a, x = .ref a ∧ (∃ xs, SqT K H1 a xs) ∧ R (Itt K a) H1 := rfl
theorem a_irng1 {ta : TA} {σ : St} {H : Hp} {R : It → Hp → Prop} : iRng1 ta σ H R = ta σ H fun vs H1 => ∃ j : Int, vs = [.int j] ∧ -(2 ^ 62) ≤ j ∧ j < 2 ^ 62 ∧ R (Itr 0 j.toNat) H1 := rfl
theorem a_irng2 {ta : TA} {σ : St} {H : Hp} {R : It → Hp → Prop} : iRng2 ta σ H R = ta σ H fun vs H1 => ∃ i j : Int, vs = [.int i, .int j] ∧ (-(2 ^ 62) ≤ i ∧ i < 2 ^ 62 ∧ -(2 ^ 62) ≤ j ∧ j < 2 ^ 62) ∧ R (Itr i (j - i).toNat) H1 := rfl
theorem a_irng3 {ta : TA} {σ : St} {H : Hp} {R : It → Hp → Prop} : iRng3 ta σ H R = ta σ H fun vs H1 => ∃ (i j k : Int) (n : Nat), vs = [.int i, .int j, .int k] ∧ k ≠ 0 ∧ k.natAbs < 1073741824 ∧ Builtin.Range.small i j k = true ∧ Builtin.Range.rangeSize i j k = n ∧ R (Itrs i k n) H1 := rfl
theorem while_of {c : TT} {tb : TS} {D : Ends} {σ : St} {H : Hp} (Pv : Nat → St → Hp → Prop) (m : Nat) (h0 : Pv m σ H)
    (hs : ∀ m σ H, Pv m σ H → c σ H fun b H1 => if b = true then ∃ N : St → Hp → Prop, (∀ σ' H', N σ' H' → ∃ m', m' < m ∧ Pv m' σ' H') ∧ tb { D with nx := N, ct := N, bk := D.nx } σ H1 else D.nx σ H1) : tWhile c tb D σ H := ⟨Pv, ⟨m, h0⟩, hs⟩
section
variable {σ : St} {H : Hp} {Q : VK} {x y v : V} {K : PySem.W.Frag}
theorem a_rslL {lo hi : Option Int} : rSlL K x lo hi H Q = ∃ a xs, x = .ref a ∧ SqL K H a xs ∧ ∀ p, H p = none → Q (.ref p) (upd H p (.lst (cutV xs lo hi))) := rfl
theorem a_ixL : rIxL K x y H Q = ∃ p xs i v, x = .ref p ∧ y = .int i ∧ SqL K H p xs ∧ atI xs i = some v ∧ Q v H := rfl
theorem a_ixT : rIxT K x y H Q = ∃ p xs i v, x = .ref p ∧ y = .int i ∧ SqT K H p xs ∧ atI xs i = some v ∧ Q v H := rfl
theorem a_setL {Q : Hp → Prop} : rSetL x y v H Q = ∃ p xs k j, x = .ref p ∧ y = .int k ∧ H p = some (.lst xs) ∧ ixN xs.length k = some j ∧ Q (upd H p (.lst (xs.set j v))) := rfl
theorem a_app {vs : List V} : rAppend x vs H Q = ∃ l xs y, x = .ref l ∧ vs = [y] ∧ H l = some (.lst xs) ∧ xs.length < sizeLine ∧ Q .non (upd H l (.lst (xs ++ [y]))) := rfl
theorem cutV_map (ns : List Int) (lo hi : Option Int) : cutV (ns.map V.int) lo hi = ((ns.drop (HT.sIx ns.length 0 lo)).take (HT.sIx ns.length ns.length hi - HT.sIx ns.length 0 lo)).map V.int := by
  unfold cutV
  rw [List.length_map, List.map_take, List.map_drop]
end
theorem bt_len : bootBuiltins "len" = some (.builtin "len") := by decide +kernel
theorem bt_abs : bootBuiltins "abs" = some (.builtin "abs") := by decide +kernel
theorem bt_isinstance : bootBuiltins "isinstance" = some (.builtin "isinstance") := by decide +kernel
theorem bt_min : bootBuiltins "min" = some (.builtin "min") := by decide +kernel
theorem bt_max : bootBuiltins "max" = some (.builtin "max") := by decide +kernel
theorem bt_int : bootBuiltins "int" = some (.type "int") := by decide +kernel
theorem bt_bool : bootBuiltins "bool" = some (.type "bool") := by decide +kernel
theorem bt_list : bootBuiltins "list" = some (.type "list") := by decide +kernel
theorem bt_tuple : bootBuiltins "tuple" = some (.type "tuple") := by decide +kernel
def tMid (t u : TS) : TS := fun D σ H => ∃ M : St → Hp → Prop, t { D with nx := M } σ H ∧ ∀ σ' H', M σ' H' → u D σ' H'
theorem pss_mid {X : Cx} {st : Stmt} {rest : List Stmt} {t u : TS} (h1 : PS X st t) (h2 : PSs X rest u) : PSs X (st :: rest) (tMid t u) := by
  intro pins s σ H D I h
  obtain ⟨M, h, hM⟩ := h
  refine wpAny_execs_cons (thn (h1 pins s σ H { D with nx := M } I h) fun f s1 q => ?_)
  cases f with
  | next =>
    obtain ⟨σ', H', I', q⟩ := q
    exact h2 pins s1 σ' H' D I' (hM σ' H' q)
  | ret v => exact q
  | brk => exact q
  | cont => exact q
theorem mid_of {t u : TS} {D : Ends} {σ : St} {H : Hp} (M : St → Hp → Prop) (h1 : t { D with nx := M } σ H) (h2 : ∀ σ' H', M σ' H' → u D σ' H') : tMid t u D σ H := ⟨M, h1, h2⟩
theorem a_cxK {CX : CXT} {P : Program} {w : World} {K : PySem.W.Frag} {mg : Str → Option Value} {base : Heap} {N : List Str} {qual : Str} {scope : Scope} {f : Addr} {cd : Value} {A : Around} {outer : List Env} {s : Shared} {H : Hp} {E : XK} :
    (cxOf CX P w K mg base N qual scope f cd A outer s H E).K = K := rfl
section
variable {K : PySem.W.Frag} {a : Addr} {xs : List V} {g : TG} {tb : TS} {D : Ends} {σ : St} {H H1 : Hp} {fv : List (Nat × Str)} {te : TE} {Q : VK} {L : Addr} {lo c : Int} {n : Nat}
theorem cl_list (Pv : Nat → Hp → Prop) (h0 : Pv 0 (upd H1 L (.lst []))) (hl : ∀ i H, i ≤ xs.length → Pv i H → SqL K H a xs)
    (hs : ∀ i v H, xs[i]? = some v → Pv i H → te (bst fv σ (some v)) H fun y H2 => ∃ ys, H2 L = some (.lst ys) ∧ ys.length < sizeLine ∧ Pv (i + 1) (upd H2 L (.lst (ys ++ [y])))) (hd : ∀ H, Pv xs.length H → Q (.ref L) H) :
    CLoop (Itl K a) fv te Q σ H1 L := comp_list Pv h0 hl hs hd
theorem cl_range (Pv : Nat → Hp → Prop) (h0 : Pv 0 (upd H1 L (.lst [])))
    (hs : ∀ i H, i < n → Pv i H → te (bst fv σ (some (.int (lo + i)))) H fun y H2 => ∃ ys, H2 L = some (.lst ys) ∧ ys.length < sizeLine ∧ Pv (i + 1) (upd H2 L (.lst (ys ++ [y])))) (hd : ∀ H, Pv n H → Q (.ref L) H) :
    CLoop (Itr lo n) fv te Q σ H1 L := comp_range Pv h0 hs hd
theorem lp_list (Pv : Nat → St → Hp → Prop) (h0 : Pv 0 σ H) (hl : ∀ i σ H, i ≤ xs.length → Pv i σ H → SqL K H a xs)
    (hs : ∀ i v σ H, xs[i]? = some v → Pv i σ H → g v σ H fun σ2 H2 => tb { D with nx := Pv (i + 1), ct := Pv (i + 1), bk := D.nx } σ2 H2) (hd : ∀ σ H, Pv xs.length σ H → D.nx σ H) : Loop (Itl K a) g tb D σ H := for_list Pv h0 hl hs hd
theorem lp_range (Pv : Nat → St → Hp → Prop) (h0 : Pv 0 σ H)
    (hs : ∀ i σ H, i < n → Pv i σ H → g (.int (lo + i)) σ H fun σ2 H2 => tb { D with nx := Pv (i + 1), ct := Pv (i + 1), bk := D.nx } σ2 H2) (hd : ∀ σ H, Pv n σ H → D.nx σ H) : Loop (Itr lo n) g tb D σ H := for_range Pv h0 hs hd
theorem upd_none {p : Addr} {o : HO} (h : upd H p o L = none) : L ≠ p ∧ H L = none := by
  by_cases e : L = p
  · subst e; rw [upd_same] at h; cases h
  · rw [upd_ne e] at h; exact ⟨e, h⟩
end
end L2
namespace L2
open PySem PySem.Spec PyProof.Rows
section
variable {X : Cx}
mutual
inductive DV (K : PySem.W.Frag) (H : Hp) : V → PyData → Prop
  | non : DV K H .non .none
  | bl (b) : DV K H (.bl b) (.bool b)
  | int (i) : DV K H (.int i) (.int i)
  | str (x) : DV K H (.str x) (.str x)
  | lst {a xs ds} : SqL K H a xs → DVs K H xs ds → DV K H (.ref a) (.list ds)
  | tup {a xs ds} : SqT K H a xs → DVs K H xs ds → DV K H (.ref a) (.tuple ds)
inductive DVs (K : PySem.W.Frag) (H : Hp) : List V → List PyData → Prop
  | nil : DVs K H [] []
  | cons {x xs d ds} : DV K H x d → DVs K H xs ds → DVs K H (x :: xs) (d :: ds)
end
mutual
theorem DV.reads {pins : List (Addr × Obj)} {σ : St} {H : Hp} {s : Shared} (I : Inv X pins σ H s) : ∀ {x : V} {d : PyData} {v : Value}, DV X.K H x d → RelV x v → ∃ as, Reads s.heap v d as
  | _, _, _, .non, r => by cases r; exact ⟨_, .none⟩
  | _, _, _, .bl b, r => by cases r; exact ⟨_, .bool b⟩
  | _, _, _, .int i, r => by obtain ⟨t, rfl⟩ := r; exact ⟨_, .int i t⟩
  | _, _, _, .str x, r => by obtain ⟨t, rfl⟩ := r; exact ⟨_, .str x t⟩
  | _, _, _, .lst hq hs, r => by
    cases r
    obtain ⟨its, rv, ⟨o, n, e, c, _, hd⟩, _⟩ := I.list hq
    obtain ⟨as, ra⟩ := DVs.reads I hs rv
    exact ⟨_, .list e c hd (by simpa using ra)⟩
  | _, _, _, .tup hq hs, r => by
    cases r
    obtain ⟨its, rv, ⟨o, e, c, n, hd⟩, _⟩ := I.tuple hq
    obtain ⟨as, ra⟩ := DVs.reads I hs rv
    exact ⟨_, .tuple e c hd (by simpa using ra)⟩
theorem DVs.reads {pins : List (Addr × Obj)} {σ : St} {H : Hp} {s : Shared} (I : Inv X pins σ H s) : ∀ {xs : List V} {ds : List PyData} {vs : List Value}, DVs X.K H xs ds → Vals xs vs → ∃ as, ReadsAll s.heap vs ds as
  | _, _, _, .nil, r => by cases r; exact ⟨_, .nil⟩
  | _, _, _, .cons h t, r => by
    cases r with
    | cons r1 r2 =>
      obtain ⟨as, ra⟩ := DV.reads I h r1
      obtain ⟨bs, rb⟩ := DVs.reads I t r2
      exact ⟨_, .cons ra rb⟩
end
theorem op_eqD (hu : X.A.units + 64 < cLine) : OpR X (compareOp .Eq) (fun x y H Q => ∃ da db, DV X.K H x da ∧ DV X.K H y db ∧ da.canLay0 = true ∧ db.canLay0 = true ∧ da.depth ≤ 64 ∧ Q (.bl (PyData.eqv da db)) H) := by
  intro pins s σ H x y v u Q I rx ry h
  obtain ⟨da, db, hx, hy, c1, c2, hd, q⟩ := h
  obtain ⟨as, ra⟩ := hx.reads I rx
  obtain ⟨bs, rb⟩ := hy.reads I ry
  exact PySem.SeqAt.eqOverData _ _ _ _ _ _ _ _ _ _ _ _ ra rb c1 c2 (by omega) ⟨.bl _, H, I, rfl, q⟩
theorem op_neD (hu : X.A.units + 64 < cLine) : OpR X (compareOp .NotEq) (fun x y H Q => ∃ da db, DV X.K H x da ∧ DV X.K H y db ∧ da.canLay0 = true ∧ db.canLay0 = true ∧ da.depth ≤ 64 ∧ Q (.bl (!PyData.eqv da db)) H) := by
  intro pins s σ H x y v u Q I rx ry h
  obtain ⟨da, db, hx, hy, c1, c2, hd, q⟩ := h
  obtain ⟨as, ra⟩ := hx.reads I rx
  obtain ⟨bs, rb⟩ := hy.reads I ry
  exact PySem.SeqAt.neOverData _ _ _ _ _ _ _ _ _ _ _ _ ra rb c1 c2 (by omega) ⟨.bl _, H, I, rfl, q⟩
end
def Ite (K : PySem.W.Frag) (a : Addr) : It :=
  ⟨fun i H => ∃ xs x, SqL K H a xs ∧ xs[i]? = some x, fun i H v H' => ∃ p x, H p = none ∧ v = .ref p ∧ H' = upd H p (.tup [.int i, x]) ∧ ∀ xs, SqL K H a xs → xs[i]? = some x, fun i H => ∃ xs, SqL K H a xs ∧ xs.length ≤ i⟩
section
variable {X : Cx}
def iEnum (K : PySem.W.Frag) (ta : TA) : TI := fun σ H R => ta σ H fun vs H1 => ∃ a xs, vs = [.ref a] ∧ SqL K H1 a xs ∧ R (Ite K a) H1
end
theorem a_ienum {K : PySem.W.Frag} {ta : TA} {σ : St} {H : Hp} {R : It → Hp → Prop} : iEnum K ta σ H R = ta σ H fun vs H1 => ∃ a xs, vs = [.ref a] ∧ SqL K H1 a xs ∧ R (Ite K a) H1 := rfl
end L2
namespace L2
open PySem PySem.Spec PyProof.Rows
def Itv (K : PySem.W.Frag) (a : Addr) (n : Nat) : It :=
  ⟨fun i H => i < n ∧ ∃ xs, SqL K H a xs ∧ xs.length = n, fun i H x H' => H' = H ∧ ∀ xs, SqL K H a xs → xs[n - 1 - i]? = some x, fun i _ => i = n⟩
section
variable {X : Cx} {tg : Expr}
def iRev (K : PySem.W.Frag) (ta : TA) : TI := fun σ H R => ta σ H fun vs H1 => ∃ a xs, vs = [.ref a] ∧ SqL K H1 a xs ∧ R (Itv K a xs.length) H1
end
theorem a_irev {K : PySem.W.Frag} {ta : TA} {σ : St} {H : Hp} {R : It → Hp → Prop} : iRev K ta σ H R = ta σ H fun vs H1 => ∃ a xs, vs = [.ref a] ∧ SqL K H1 a xs ∧ R (Itv K a xs.length) H1 := rfl
section
variable {σ : St} {H : Hp} {Q : VK} {x y v : V} {vs : List V}
theorem a_cat : rCat x y H Q = ∃ l b xs zs, x = .ref l ∧ y = .ref b ∧ H l = some (.lst xs) ∧ H b = some (.lst zs) ∧ xs.length + zs.length ≤ sizeLine ∧ ∀ p, H p = none → Q (.ref p) (upd H p (.lst (xs ++ zs))) := rfl
theorem a_rep : rRep x y H Q = ∃ l k xs, x = .ref l ∧ y = .int k ∧ H l = some (.lst xs) ∧ -(2 ^ 63) ≤ k ∧ k < 2 ^ 63 ∧ xs.length * k.toNat ≤ sizeLine ∧ ∀ p, H p = none → Q (.ref p) (upd H p (.lst (List.replicate k.toNat xs).flatten)) := rfl
theorem a_pop : rPop x vs H Q = ∃ l xs y, x = .ref l ∧ vs = [] ∧ H l = some (.lst xs) ∧ xs[xs.length - 1]? = some y ∧ Q y (upd H l (.lst xs.dropLast)) := rfl
theorem a_clear : rClear x vs H Q = ∃ l xs, x = .ref l ∧ vs = [] ∧ H l = some (.lst xs) ∧ Q .non (upd H l (.lst [])) := rfl
end
end L2
namespace L2
open PySem PySem.Spec PyProof.Rows
theorem op_mulZ {X : Cx} : OpR X (binaryOp .Mult) (rI IntMulOk fun i j => .int (i * j)) := opI fun _ _ _ _ _ _ _ hc q => mul_int q hc
def Bd (k : Nat) (x : Int) : Prop := x.natAbs < 2 ^ k
theorem Bd.mono {k l : Nat} {x : Int} (h : Bd k x) (hl : k ≤ l) : Bd l x := Nat.lt_of_lt_of_le h (Nat.pow_le_pow_right (by decide) hl)
theorem Bd.zero (k : Nat) : Bd k 0 := Nat.two_pow_pos k
theorem Bd.one {k : Nat} (h : 0 < k) : Bd k 1 := by
  have : Bd 1 1 := by show (1 : Nat) < 2 ^ 1; decide
  exact this.mono h
theorem Bd.mul {k l : Nat} {x y : Int} (h : Bd k x) (g : Bd l y) : Bd (k + l) (x * y) := by
  unfold Bd at *
  rw [Int.natAbs_mul, Nat.pow_add]
  exact Nat.mul_lt_mul_of_lt_of_lt h g
theorem Bd.add {k : Nat} {x y : Int} (h : Bd k x) (g : Bd k y) : Bd (k + 1) (x + y) := by
  unfold Bd at *
  rw [Nat.pow_succ]
  have := Int.natAbs_add_le x y
  omega
theorem Bd.fits {k l : Nat} {x y : Int} (h : Bd k x) (g : Bd l y) (hz : k + l ≤ 134217728) : IntMulOk x y := mulOk_of h g hz
theorem Bd.of_lt {k : Nat} {x : Int} {m : Nat} (h : x.natAbs < m) (hm : m ≤ 2 ^ k) : Bd k x := Nat.lt_of_lt_of_le h hm
def newL (H : Hp) (Q : VK) (ys : List V) : Prop := ∀ r H', Same H H' → H r = none → H' r = some (.lst ys) → Q (.ref r) H'
theorem same_upd {H : Hp} {p : Addr} (h : H p = none) (o : HO) : Same H (upd H p o) := fun b u q => by rw [upd_ne (ne_of_none q h)]; exact q
theorem Same.seqT {K : PySem.W.Frag} {H H' : Hp} {a : Addr} {xs : List V} (e : Same H H') (h : SqT K H a xs) : SqT K H' a xs := by
  rcases h with (h | ⟨o, h⟩) | h
  · exact .inl (.inl (e _ _ h))
  · exact .inl (.inr ⟨o, e _ _ h⟩)
  · exact .inr h
theorem at_int {xs : List Int} {i : Nat} (h : i < xs.length) : atI (xs.map V.int) (i : Int) = some (V.int xs[i]) := atI_nat (by rw [List.getElem?_map, List.getElem?_eq_getElem h]; rfl)
theorem Same.more {H H' : Hp} {p : Addr} {o : HO} (e : Same H H') (h : H p = none) : Same H (L2.upd H' p o) := fun b u q => by rw [upd_ne (ne_of_none q h)]; exact e b u q
end L2
namespace L2
open PySem PySem.Spec PyProof.Rows
structure Grd (P : Program) (w : World) (fs : List Addr) (H H' : Hp) (h B : Heap) : Prop where
  keep : ∀ b o, h.get? b = some o → H b = none → b ∉ fs → B.get? b = some o
  there : ∀ b o, h.get? b = some o → b ∉ fs → ∃ o', B.get? b = some o'
  free : ∀ b o, h.get? b = some o → H b = none → H' b = none
  tups : ∀ b xs, H b = some (.tup xs) → H' b = some (.tup xs)
  frzs : ∀ b o u, H b = some (.frz o u) → H' b = some (.frz o u)
  tbls : ∀ b ps, H b = some (.tbl ps) → ∃ more, H' b = some (.tbl (ps ++ more))
  hok : HOk P w H' B
def Slt (fs : List Addr) (h h' : Heap) : Prop := ∀ b o, h.get? b = some o → b ∈ fs → ∃ sl, h'.get? b = some { o with slots := sl }
def CXE (P : Program) (w : World) : CXT := fun outer H s E e s' => ∃ (a t C : Addr) (H' : Hp) (B : Heap), e = .ref a ∧ s'.os = s.os ∧ AllBare s'.gens ∧ Heap.FlyingW B outer a (.ref C) (.ref t) s'.heap ∧
  Grd P w (frs outer) H H' s.heap B ∧ Slt (frs outer) s.heap s'.heap ∧ E (.ref C) none H'
theorem passF {P : Program} {w : World} {X : Cx} : Passes (CXE P w) X E0 := fun _ _ _ _ _ _ _ h => by
  obtain ⟨_, _, _, _, _, _, _, _, _, _, _, q⟩ := h
  exact q.elim
section
variable {X : Cx} {pins : List (Addr × Obj)} {σ : St} {H H' : Hp} {s : Shared}
theorem HOk.hide {P : Program} {w : World} {h : Heap} {fs : List Addr} (x : HOk P w H h) (hf : ∀ b ∈ fs, H b = none) : HOk P w H (PySem.W.hideAll h fs) := fun a o e =>
  (x a o e).stay (fun b u hb q => PySem.W.hideAll_get _ q fun z => by
    have n := hf b z
    rcases hb with hb | hb
    · rw [hb, e] at n; cases n
    · rw [hb] at n; cases n) (fun _ q => q) fun _ _ q => q
end
section
variable {P : Program} {w : World} {K : PySem.W.Frag} {mg : Str → Option Value} {base : Heap} {N : List Str} {qual : Str} {scope : Scope} {f : Addr} {cd : Value} {A : Around} {outer : List Env} {s0 : Shared} {H0 : Hp} {E : XK}
theorem nofr0 {pins : List (Addr × Obj)} {σ : St} {H : Hp} {s : Shared} (I : Inv (cxOf (CXE P w) P w K mg base N qual scope f cd A outer s0 H0 E) pins σ H s) {b : Addr} {o : Obj} (q : s0.heap.get? b = some o) (hb : b ∉ frs outer) :
    b ∉ frs (envOfC qual scope s0.heap.objs.size f cd :: outer) := fun z => by
  rcases List.mem_cons.mp (I.stkSub b z) with e | e
  · exact absurd (Heap.lt_size q) (by rw [e]; exact Nat.not_lt.mpr I.ok.above)
  · exact hb e
theorem throw_here {pins : List (Addr × Obj)} {σ : St} {H : Hp} {s : Shared} {h' : Heap} {a C : Addr} {args : List Value} (I : Inv (cxOf (CXE P w) P w K mg base N qual scope f cd A outer s0 H0 E) pins σ H s)
    (hx : Heap.MadeExcOf s.heap h' a (.ref C) args) (q : E (.ref C) none H) : (cxOf (CXE P w) P w K mg base N qual scope f cd A outer s0 H0 E).xe (.ref a) { s with heap := h' } := by
  have hfs : ∀ b ∈ frs (envOfC qual scope s0.heap.objs.size f cd :: outer), H b = none := I.stkFree
  have hin : ∀ env ∈ (envOfC qual scope s0.heap.objs.size f cd :: outer), ∀ b, env.frame = some b → b ∈ frs (envOfC qual scope s0.heap.objs.size f cd :: outer) := fun env he b hb => List.mem_filterMap.mpr ⟨env, he, hb⟩
  have hst : s.heap.FunFrames base (envOfC qual scope s0.heap.objs.size f cd :: outer) := I.stack
  have noE : ∀ b : Addr, b ∉ (cxOf (CXE P w) P w K mg base N qual scope f cd A outer s0 H0 E).ex := fun b z => absurd (show b ∈ ([] : List Addr) from z) (by simp)
  refine wpAny_leaves_madeW (base := PySem.W.hideAll s.heap (frs (envOfC qual scope s0.heap.objs.size f cd :: outer))) I.ok.frames rfl (fun b o z => PySem.W.of_hideAll _ z) (PySem.W.funFrames_hide hst hin) hx fun h2 t fl _ _ up => ?_
  refine ⟨a, t, C, H, _, rfl, I.os, I.bare, fl, ⟨fun b o e n hb => ?_, fun b o e hb => ?_, fun b o e n => I.base.free b o e n (noE b), I.base.tups, I.base.frzs, I.base.tbls, I.hok.hide hfs⟩, fun b o e hb => ?_, q⟩
  · exact PySem.W.hideAll_get _ (I.base.keep b o e n hb (noE b)) (nofr0 I e hb)
  · obtain ⟨o', e'⟩ := I.base.there b o e (noE b)
    exact ⟨o', PySem.W.hideAll_get _ e' (nofr0 I e hb)⟩
  · obtain ⟨_, o', ho', hd⟩ := I.ok.funs.mem hb
    rw [show (cxOf (CXE P w) P w K mg base N qual scope f cd A outer s0 H0 E).s₀.heap.get? b = some o from e] at ho'; cases ho'
    obtain ⟨sl, e1⟩ := I.base.slot b o e (I.ok.frf b hb) hb (noE b)
    obtain ⟨sl', e2⟩ := up b _ (hx.keeps _ _ e1) hd
    exact ⟨sl', e2⟩
theorem passE : Passes (CXE P w) (cxOf (CXE P w) P w K mg base N qual scope f cd A outer s0 H0 E) E := fun pins σ H s e s' I c => by
  obtain ⟨a, t, C, H', B, rfl, os, bare, fl, G, sl, q⟩ := c
  have noE : ∀ b : Addr, b ∉ (cxOf (CXE P w) P w K mg base N qual scope f cd A outer s0 H0 E).ex := fun b z => absurd (show b ∈ ([] : List Addr) from z) (by simp)
  refine wpAny_leaves_onW I.ok.frames rfl fl fun h2 fl2 up => ?_
  refine ⟨a, t, C, H', B, rfl, os.trans I.os, bare, fl2, ⟨fun b o e n hb => ?_, fun b o e hb => ?_, fun b o e n => ?_, fun b xs z => G.tups b xs (I.base.tups b xs z), fun b o u z => G.frzs b o u (I.base.frzs b o u z), fun b ps z => ?_, G.hok⟩, fun b o e hb => ?_, q⟩
  · exact G.keep b o (I.base.keep b o e n hb (noE b)) (I.base.free b o e n (noE b)) (nofr0 I e hb)
  · obtain ⟨o', e'⟩ := I.base.there b o e (noE b)
    exact G.there b o' e' (nofr0 I e hb)
  · obtain ⟨o', e'⟩ := I.base.there b o e (noE b)
    exact G.free b o' e' (I.base.free b o e n (noE b))
  · obtain ⟨m1, e1⟩ := I.base.tbls b ps z
    obtain ⟨m2, e2⟩ := G.tbls b _ e1
    exact ⟨m1 ++ m2, by rw [e2, Array.append_assoc]⟩
  · obtain ⟨_, o', ho', hd⟩ := I.ok.funs.mem hb
    rw [show (cxOf (CXE P w) P w K mg base N qual scope f cd A outer s0 H0 E).s₀.heap.get? b = some o from e] at ho'; cases ho'
    obtain ⟨_, e1⟩ := I.base.slot b o e (I.ok.frf b hb) hb (noE b)
    obtain ⟨_, e2⟩ := sl b _ e1 (by show b ∈ frs (envOfC qual scope s0.heap.objs.size f cd :: outer); exact List.mem_cons_of_mem _ hb)
    obtain ⟨sl', e3⟩ := up b _ e2 hd
    exact ⟨sl', e3⟩
theorem Fun.okE {x : Str} {st : Stmt} {fd : FuncData} {ps : List Str} {k : Nat} {sp : Sp} (F : Fun K x qual st f fd) (S : FnScope N ps (defScope st)) (len : ∀ vs H Q E, sp vs H Q E → vs.length = ps.length)
    (hbody : ∀ (cdv : Value) (A : Around) (outer : List Env) (s : Shared) (H : Hp) (vs : List V) (Q : VK) (E : XK), Room k (A.deeper (envOfC qual (defScope st) s.heap.objs.size f cdv)) → sp vs H Q E →
      ∃ t, PSs (cxOf (CXE P w) P w K mg base N qual (defScope st) f cdv A outer s H E) (defBody st) t ∧ t { nx := fun _ H' => Q .non H', rt := Q } (start N vs) H) : FnOk P w K mg base (CXE P w) (k + 1) f fd ps sp := by
  obtain ⟨oc, od, kV, doc, pm, an, cdv, ct, osl, rfl, lk, hcd⟩ := F.ex
  exact fn_of lk hcd S len fun A outer s H vs Q E hr hsp => hbody cdv A outer s H vs Q E hr hsp
end
theorem PS.nox {X : Cx} {st : Stmt} {t : TS} (h : PS X.nox st t) : PS X st t := fun pins s σ H D I hw =>
  wpAny_mono (h pins s σ H D (I.wish _) hw) (fun _ _ q => q.unwish) fun _ _ z => False.elim z
abbrev bmV : List Value := [.type "ValueError", .type "Exception", .type "BaseException", .type "object"]
theorem exc_obj {K : PySem.W.Frag} {C : Addr} (q : PySem.W.excIn K C bmV "ValueError.__new__" = true) : ∃ bm N nm qn bs hd sn sub ab col dd k0 k1 k2 k3 k5,
    K.lookup C = some (excClassObj nm qn C N bs bm hd sn sub ab col dd k0 k1 k2 k3 k5 "ValueError.__new__") ∧ PySem.W.tailIn K bmV bm = true ∧ PySem.W.nsOkIn K N = true ∧ PySem.W.nsIn K N "__init__" = some none := by
  unfold PySem.W.excIn at q
  split at q
  · rename_i dd cd sl ho
    split at q
    · rename_i C1 bm k0 k1 k2 k3 n k5 hm hs
      rw [Bool.and_eq_true, Bool.and_eq_true, Bool.and_eq_true, Bool.and_eq_true, Bool.and_eq_true] at q
      obtain ⟨⟨⟨⟨⟨q1, q2⟩, q3⟩, q4⟩, q5⟩, q6⟩ := q
      have r1 := beq_iff_eq.mp q1
      have r2 := beq_iff_eq.mp q2
      have r6 := beq_iff_eq.mp q6
      subst r1 r2
      obtain ⟨nm, bs, mro, ns, qn, hd, sn, sub, ab, col, del⟩ := cd
      simp only at hm q3 q5 r6
      have q3' : del = false := by cases del <;> simp at q3 ⊢
      subst hm q3'
      obtain ⟨l⟩ := sl
      simp only at hs
      subst hs
      exact ⟨bm, ns, nm, qn, bs, hd, sn, sub, ab, col, dd, k0, k1, k2, k3, k5, ho, q4, q5, r6⟩
    · cases q
  · cases q
def Throws (X : Cx) (E : XK) : Prop := ∀ (pins : List (Addr × Obj)) (σ : St) (H : Hp) (s : Shared) (h' : Heap) (a C : Addr) (args : List Value), Inv X pins σ H s → Heap.MadeExcOf s.heap h' a (.ref C) args → E (.ref C) none H → X.xe (.ref a) { s with heap := h' }
theorem throwE {P : Program} {w : World} {K : PySem.W.Frag} {mg : Str → Option Value} {base : Heap} {N : List Str} {qual : Str} {scope : Scope} {f : Addr} {cd : Value} {A : Around} {outer : List Env} {s0 : Shared} {H0 : Hp} {E : XK} :
    Throws (cxOf (CXE P w) P w K mg base N qual scope f cd A outer s0 H0 E) E := fun _ _ _ _ _ _ _ _ I hx q => throw_here I hx q
def tRaise (C : Addr) (ta : TA) (E : XK) : TS := fun _ σ H => ta σ H fun vs H1 => vs.length ≤ sizeLine ∧ E (.ref C) none H1
theorem a_raise {C : Addr} {ta : TA} {E : XK} {D : Ends} {σ : St} {H : Hp} : tRaise C ta E D σ H = ta σ H fun vs H1 => vs.length ≤ sizeLine ∧ E (.ref C) none H1 := rfl
theorem ps_raise {X : Cx} {E : XK} {x : Str} {C : Addr} {e0 : Expr} {ta : TA} {np cpos pos : Pos} (hc : X.calm = true) (hr : Throws X E) (hg : Gl X x) (hm : X.mg x = some (.ref C)) (hx : PySem.W.excIn X.K C bmV "ValueError.__new__" = true) (ha : PA X [e0] ta)
    (he : starEach [e0] X.env = [(false, eval e0 X.env)] := by rfl) (hpl : (backTo cpos (starEach [e0] X.env)).any (·.1) = false := by rfl) (hd : (x == ("__debug__" : Str)) = false := by decide) :
    PS X (.Raise (some (.Call (.Name x np) [e0] [] cpos)) none pos) (tRaise C ta E) := by
  intro pins s σ H D I h
  obtain ⟨bm, N, nm, qn, bs, hdc, sn, sub, ab, col, dd, k0, k1, k2, k3, k5, lk, tl, ok, ni⟩ := exc_obj hx
  have T0 : OwnTail s.heap bmV bm := PySem.W.tail_of_in I.kIn tl
  refine wpAny_Raise_call_subT (C := C) (nm := nm) (q := qn) (N := N) (bs := bs) (bm := bm) (hdct := hdc) (sn := sn) (sub := sub) (ab := ab) (col := col) (dd := dd) (k0 := k0) (k1 := k1) (k2 := k2) (k3 := k3) (k5 := k5)
    PySem.F.excBase_ValueError (mN := s.heap.nsMap N) (T0.hasType PySem.F.excBase_ValueError.hasBase) (I.ok.hd hc) hpl (PySem.W.nsMap_none_of_in I.kIn ok ni) (ld_glob I hg hm ⟨rfl, ?_⟩ hd)
  have ns0 : s.heap.Ns N (s.heap.nsMap N) := .of_isNs (PySem.W.isNs_of_in I.kIn ok)
  have h2 := ha cpos pins s σ H _ I h
  rw [he] at h2 ⊢
  refine Calls.evalArgs_plain (wpAny_mono h2 (fun vs s2 z => ?_) fun _ _ y => y)
  obtain ⟨xs, H1, I1, r1, q1, q2⟩ := z
  have eN : s.heap.nsMap N = s2.heap.nsMap N := by
    obtain ⟨o, es, ep, ho, hdt, _⟩ := id ns0
    unfold PySem.W.nsOkIn at ok
    split at ok
    · rename_i z
      unfold Heap.nsMap
      rw [I.kIn _ _ z, I1.kIn _ _ z]
    · cases ok
  refine ⟨rfl, by rw [← r1.length]; exact q1, I1.kIn _ _ lk, ?_, PySem.W.tail_of_in I1.kIn tl, fun h' a hm' => hr pins σ H1 s2 h' a C vs I1 hm' q2⟩
  rw [eN]; exact .of_isNs (PySem.W.isNs_of_in I1.kIn ok)
end L2
namespace L2
open PySem PySem.Spec PyProof.Rows
def IsExc (a C : Addr) : HO := .ext fun h => ∃ oe vs, h.get? a = some oe ∧ oe.cls = .ref C ∧ oe.data = .fields vs
section
variable {X : Cx} {pins : List (Addr × Obj)} {σ : St} {H H' : Hp} {s : Shared} {a : Addr}
end
structure Catches (K : PySem.W.Frag) (C D : Addr) : Prop where
  c : PySem.W.excIn K C bmV "ValueError.__new__" = true
  d : PySem.W.excIn K D bmV "ValueError.__new__" = true
  base : PySem.W.mroIn K D (.type "BaseException") = some true
  sub : PySem.W.mroIn K C (.ref D) = some true
section
variable {X : Cx} {pins : List (Addr × Obj)} {σ : St} {H H' : Hp} {s s2 : Shared} {a t C : Addr} {B : Heap}
end
section
variable {X : Cx} {k : Nat} {f : Addr} {fd : FuncData} {ps : List Str} {sp : Sp} {x : Str} {p pos : Pos} {e : Expr} {es : List Expr} {t : TA}
end
def tTry (K : PySem.W.Frag) (Dc : Addr) (t : XK → TS) (th : TS) : TS := fun D σ H => t (fun c _ H1 => ∃ C, c = .ref C ∧ Catches K C Dc ∧ ∀ a, H1 a = none → th D σ (upd H1 a (IsExc a C))) D σ H
theorem a_try {K : PySem.W.Frag} {Dc : Addr} {t : XK → TS} {th : TS} {D : Ends} {σ : St} {H : Hp} : tTry K Dc t th D σ H = t (fun c _ H1 => ∃ C, c = .ref C ∧ Catches K C Dc ∧ ∀ a, H1 a = none → th D σ (upd H1 a (IsExc a C))) D σ H := rfl
section
variable {X : Cx} {st b0 : Stmt} {suite : List Stmt} {t : XK → TS} {th : TS} {x n : Str} {Dc : Addr} {np hpos pos : Pos}
end
def Ends.drop (D : Ends) (i : Nat) : Ends := { nx := fun σ H => D.nx (σ.set i none) H, rt := D.rt, bk := fun σ H => D.bk (σ.set i none) H, ct := fun σ H => D.ct (σ.set i none) H }
def tTryAs (K : PySem.W.Frag) (Dc : Addr) (i : Nat) (t : XK → TS) (th : TS) : TS := fun D σ H => t (fun c _ H1 => ∃ C, c = .ref C ∧ Catches K C Dc ∧ ∀ a, H1 a = none → th (D.drop i) (σ.set i (some (.ref a))) (upd H1 a (IsExc a C))) D σ H
theorem a_tryAs {K : PySem.W.Frag} {Dc : Addr} {i : Nat} {t : XK → TS} {th : TS} {D : Ends} {σ : St} {H : Hp} : tTryAs K Dc i t th D σ H = t (fun c _ H1 => ∃ C, c = .ref C ∧ Catches K C Dc ∧ ∀ a, H1 a = none → th (D.drop i) (σ.set i (some (.ref a))) (upd H1 a (IsExc a C))) D σ H := rfl
theorem a_drop_nx {D : Ends} {i : Nat} {σ : St} {H : Hp} : (D.drop i).nx σ H = D.nx (σ.set i none) H := rfl
section
variable {X : Cx} {st b0 : Stmt} {suite : List Stmt} {t : XK → TS} {th : TS} {x n : Str} {Dc : Addr} {np hpos pos : Pos} {i : Nat}
end
end L2
namespace L2
open PySem PySem.Spec PySem.W PyProof.Rows Builtin Builtin.ObjectAttr Builtin.Getset_descriptor
section
variable {prog : Program} {w : World} {A : Around} {E : Value → Shared → Prop} {s : Shared} {K : PySem.W.Frag} {x C : Addr}
end
end L2
namespace L2
open PySem PySem.Spec PyProof.Rows
section
variable {X : Cx} {e st : Expr} {te : TE} {lo hi : Option Expr} {tl th ts : TO} {pos p2 : Pos}
end
end L2
namespace L2
open PySem PySem.Spec PyProof.Rows
theorem compLoop_if {prog : Program} {w : World} {A : Around} {R : Result → Shared → Prop} {s : Shared} {elt target iter cnd : Expr} {scope : Scope} {pos : Pos} {it acc : Value} {env : Env} (I : Nat → Shared → Prop)
    (turn : ∀ n s (E : Value → Shared → Prop), I n s → wpAny (model prog w) A (pyNext it) (fun r s₁ => match r with
      | none => R (.ok .next) s₁
      | some v => wpAny (model prog w) A (letOwnedTupleGo target it v) (fun _ s₂ => wpAny (model prog w) A (assign target env v) (fun _ s₃ => wpAny (model prog w) A (isTrue cnd env (eval cnd env)) (fun b s₄ => if b = true then wpAny (model prog w) A (eval elt env) (fun x s₅ =>
          wpAny (model prog w) A (call (.builtin "list.append") [acc, x]) (fun _ s₆ => ∃ m, m < n ∧ I m s₆) E s₅) E s₄ else ∃ m, m < n ∧ I m s₄) E s₃) E s₂) E s₁) E s)
    (n : Nat) (h : I n s) :
    codeAny (model prog w) A (.compLoop (.ListComp elt [⟨target, iter, [cnd], 0⟩] scope pos) 0 it acc env) R s := by
  refine codeAny_loop rfl I (fun n s hI => ?_) n h
  show wpAny _ _ ((compTurn (.ListComp elt [⟨target, iter, [cnd], 0⟩] scope pos) 0 it acc env).onRaise (fun x => do noteFrame x env; theTreesLotGoes x)) _ _ s
  refine wpAny_noted ?_
  unfold compTurn
  dsimp only [List.getElem?_cons_zero]
  refine wpAny_bind (wpAny_standAt (wpAny_bind (wpAny_mono (turn n s _ hI) (fun r s₁ h₁ => ?_) fun _ _ h' => h')))
  cases r with
  | none => exact wpAny_pure h₁
  | some v =>
    refine wpAny_bind (thn h₁ fun _ s₂ h₂ => wpAny_bind (thn h₂ fun _ s₃ h₃ => wpAny_bind ?_))
    rw [List.forIn_cons, if_pos rfl]
    refine wpAny_bind (wpAny_bind (thn h₃ fun b s₄ h₄ => wpAny_pure ?_))
    dsimp only
    rw [List.forIn_nil]
    refine wpAny_pure ?_
    cases b with
    | true =>
      rw [if_pos rfl] at h₄ ⊢
      exact wpAny_bind (wpAny_bind (thn h₄ fun x s₅ h₅ => wpAny_bind (thn h₅ fun _ s₆ h₆ => wpAny_pure (wpAny_pure ⟨rfl, h₆⟩))))
    | false =>
      rw [if_neg (by decide)] at h₄ ⊢
      exact wpAny_pure ⟨rfl, h₄⟩
section
variable {X : Cx} {elt iter cnd : Expr} {x : Str} {px : Pos} {fv : List (Nat × Str)} {scope : Scope} {cl : List (Str × Addr)} {pos : Pos} {te : TE} {tt : TT} {wi : TI}
def CLoopIf (J : It) (fv : List (Nat × Str)) (tt : TT) (te : TE) (Q : VK) (σ : St) (H1 : Hp) (D : Addr) : Prop := ∃ W : Nat → Nat → Hp → Prop, (∃ m, W 0 m (upd H1 D (.lst []))) ∧ ∀ i m H, W i m H →
  (J.stop i H ∧ Q (.ref D) H) ∨ (J.go i H ∧ ∃ N : Hp → Prop, (∀ H', N H' → ∃ m', m' < m ∧ W (i + 1) m' H') ∧ ∀ v H', J.yld i H v H' → tt (bst fv σ (some v)) H' fun b Hb => if b = true then te (bst fv σ (some v)) Hb fun y H2 => ∃ ys, H2 D = some (.lst ys) ∧ ys.length < sizeLine ∧ N (upd H2 D (.lst (ys ++ [y]))) else N Hb)
def tCompIf (fv : List (Nat × Str)) (wi : TI) (tt : TT) (te : TE) : TE := fun σ H Q => wi σ H fun J H1 => ∀ D, H1 D = none → CLoopIf J fv tt te Q σ H1 D
theorem blk_runIf {pins : List (Addr × Obj)} {σ : St} {H : Hp} {s2 : Shared} {it : Addr} {fp : List Addr} {tn : Nat → Heap → Prop} {J : It} {Q : VK} {E : Value → Shared → Prop} {RR : Value → Addr → Result → Shared → Prop}
    (hc : X.calm = true) (B : BlkOk X x fv scope cl) (hcn : ∀ C s H fp, PT (blk X x fv scope cl C s H fp) cnd tt) (he : ∀ C s H fp, PE (blk X x fv scope cl C s H fp) elt te) (I : Inv X pins σ H s2) (T : Turn X.prog X.w X.K (.Name x px) J fp it tn) (st : tn 0 s2.heap) (hf : ∀ b ∈ fp, FpOk X pins H b)
    (rd : ∀ D, H D = none → ∃ W : Nat → Nat → Hp → Prop, (∃ m, W 0 m (upd H D (.lst []))) ∧ ∀ i m H, W i m H →
      (J.stop i H ∧ Q (.ref D) H) ∨ (J.go i H ∧ ∃ N : Hp → Prop, (∀ H', N H' → ∃ m', m' < m ∧ W (i + 1) m' H') ∧ ∀ v H', J.yld i H v H' → tt (bst fv σ (some v)) H' fun b Hb => if b = true then te (bst fv σ (some v)) Hb fun y H2 => ∃ ys, H2 D = some (.lst ys) ∧ ys.length < sizeLine ∧ N (upd H2 D (.lst (ys ++ [y]))) else N Hb))
    (hRR : ∀ D C s' H' m', Inv X pins σ H' s' → FpOk X pins H' C → s'.heap.Ns C m' → Q (.ref D) H' → RR (.ref D) C (.ok .next) s') :
    wpAny (model X.prog X.w) X.A (newList []) (fun acc s₃ => wpAny (model X.prog X.w) X.A (newFunctionEnv scope X.env.globals cl [] X.env.qual none .none (some X.env)) (fun cenv s₄ =>
      codeAny (model X.prog X.w) X.A (.compStart (.ListComp elt [⟨.Name x px, iter, [cnd], 0⟩] scope pos) 0 (.ref it) acc { cenv with scope := relabel scope X.env }) (RR acc cenv.locals) s₄) E s₃) E s2 := by
  refine wpAny_newObj_type ?_ (by show 0 ≤ sizeLine; exact Nat.zero_le _)
  have hD : H s2.heap.objs.size = none := I.hok.fresh (Nat.le_refl _)
  have I3 := I.lnew (ys := []) (its := []) (t' := s2.toks) .nil (Nat.zero_le _)
  generalize hs3 : ({ s2 with heap := s2.heap.push { cls := .type "list", data := .seq ([] : List Value).toArray }, toks := s2.toks } : Shared) = s3 at I3
  have sz3 : s3.heap.objs.size = s2.heap.objs.size + 1 := by rw [← hs3]; exact Heap.size_push ..
  have up3 : ∀ b o, s2.heap.get? b = some o → s3.heap.get? b = some o := fun b o e => by rw [← hs3]; exact Heap.get?_push_of_some _ e
  have hf3 : ∀ b ∈ fp, FpOk X pins (upd H s2.heap.objs.size (.lst [])) b := fun b hb => by
    obtain ⟨f0, r⟩ := hf b hb
    refine ⟨?_, r⟩
    obtain ⟨o, e, _⟩ := T.obj 0 _ st b hb
    rw [upd_ne (Nat.ne_of_lt (Heap.lt_size e))]; exact f0
  have ltf : ∀ b ∈ fp, b < s2.heap.objs.size := fun b hb => by
    obtain ⟨o, e, _⟩ := T.obj 0 _ st b hb
    exact Heap.lt_size e
  have st3 : tn 0 s3.heap := T.keep 0 _ _ st fun b _ o e => up3 b o e
  obtain ⟨W, ⟨m0, w0⟩, turn⟩ := rd _ hD
  refine wpAny_newFunctionEnv B.nocell (by intro y hy; simp at hy) (fun h₁ hns₁ hsb₁ => ?_) B.kind
  have hfC : ∀ b ∈ fp, b ≠ s3.heap.objs.size := fun b hb => Nat.ne_of_lt (by rw [sz3]; exact Nat.lt_succ_of_lt (ltf b hb))
  have up4 : ∀ b o, s3.heap.get? b = some o → h₁.get? b = some o := fun b o e => hsb₁.extBut b o (Nat.ne_of_lt (Heap.lt_size e)) (Heap.get?_push_of_some _ e)
  generalize hs4 : ({ s3 with heap := h₁, toks := s3.toks + ([] : List (Str × Value)).length } : Shared) = s4
  have h4 : s4.heap = h₁ := by rw [← hs4]
  have I4 : Inv (blk X x fv scope cl s3.heap.objs.size s3 (upd H s2.heap.objs.size (.lst [])) fp) [] (bst fv σ none) (upd H s2.heap.objs.size (.lst [])) s4 :=
    blk_start B I3 hf3 rfl hfC (by rw [← hs4]) (by rw [← hs4]) (fun b o e => by rw [h4]; exact up4 b o e) (by rw [h4]; exact hns₁)
  have st4 : tn 0 s4.heap := by rw [h4]; exact T.keep 0 _ _ st3 fun b _ o e => up4 b o e
  -- what stays true of the iterator's objects
  have stat : ∀ {H' : Hp}, (∀ b ∈ fp, H' b = none) → ∀ b ∈ fp, FpOk (blk X x fv scope cl s3.heap.objs.size s3 (upd H s2.heap.objs.size (.lst [])) fp) [] H' b := fun {H'} hn b hb => by
    obtain ⟨_, f1, f2, f3, f4, f5⟩ := hf b hb
    refine ⟨hn b hb, hfC b hb, fun z => ?_, .inl hb, fun y c e => f4 y c (B.sub y c e), fun p hp => absurd (show p ∈ ([] : List (Addr × Obj)) from hp) (by simp)⟩
    rcases List.mem_cons.mp (I.stkSub b z) with q | q
    · exact f1 q
    · exact f2 q
  have loop : codeAny (model X.prog X.w) X.A (.compLoop (.ListComp elt [⟨.Name x px, iter, [cnd], 0⟩] scope pos) 0 (.ref it) (.ref s2.heap.objs.size) (compEnvC scope cl s3.heap.objs.size X.env)) (RR (.ref s2.heap.objs.size) s3.heap.objs.size) s4 := by
    refine compLoop_if (fun n s' => ∃ i H' o, Inv (blk X x fv scope cl s3.heap.objs.size s3 (upd H s2.heap.objs.size (.lst [])) fp) [] (bst fv σ o) H' s' ∧ tn i s'.heap ∧ (∀ b ∈ fp, H' b = none) ∧ W i n H') ?_ m0
      ⟨0, _, none, I4, st4, fun b hb => (hf3 b hb).1, w0⟩
    rintro n s5 E' ⟨i, H5, o5, I5, st5, fr5, w5⟩
    rcases turn i n H5 w5 with ⟨stop, q⟩ | ⟨go, N, hN, step⟩
    · refine thn (T.done (blk X x fv scope cl s3.heap.objs.size s3 (upd H s2.heap.objs.size (.lst [])) fp) rfl rfl rfl hc i [] s5 _ H5 _ I5 (stat fr5) st5 stop) fun r s6 ⟨hr, I6⟩ => ?_
      subst hr
      obtain ⟨m6, hn6, _⟩ := I6.loc
      have un : Un (frs X.stack) fp H H5 s2.heap s6.heap := by
        have u1 : Un (frs X.stack) fp H (upd H s2.heap.objs.size (.lst [])) s2.heap s3.heap := Un.laid up3 (Nat.le_refl _) hD
        exact u1.trans I6.base
      have J6 : Inv X pins σ H5 s6 := by
        refine I.call' ?_ un I6.hok I6.bare fun b hb => ?_
        · have := I6.os
          rw [show (blk X x fv scope cl s3.heap.objs.size s3 (upd H s2.heap.objs.size (.lst [])) fp).s₀.os = s2.os by rw [← hs3]] at this
          exact this
        · obtain ⟨_, f1, f2, f3, f4, f5⟩ := hf b hb
          exact ⟨f3, f1, f4, f5⟩
      refine hRR _ _ s6 H5 m6 J6 ?_ hn6 q
      exact I3.fpOk (Nat.le_refl _) I6.free
    · refine thn (T.item (blk X x fv scope cl s3.heap.objs.size s3 (upd H s2.heap.objs.size (.lst [])) fp) rfl rfl rfl hc i [] s5 _ H5 _ I5 (stat fr5) st5 go) fun r s6 ⟨u, hr, h6⟩ => ?_
      subst hr
      refine thn h6 fun _ s7 ⟨v, H7, I7, r7, y7, st7, fr7⟩ => ?_
      have I7' := I7.pinned (stat fr7) (T.obj _ _ st7)
      refine blk_store B I7' r7 fun s8 I8 => ?_
      have c8 := hcn _ _ _ _ _ s8 _ H7 _ I8 (step v H7 y7)
      refine wpAny_mono c8 (fun bb sb ⟨Hb, Ib, qb⟩ => ?_) fun _ _ z => False.elim z
      cases bb with
      | false =>
        rw [if_neg (by decide)] at qb
        show (if false = true then _ else _)
        rw [if_neg (by decide)]
        obtain ⟨m', hm, w9⟩ := hN _ qb
        refine ⟨m', hm, i + 1, _, some v, Ib.unpinned, T.keep _ _ _ st7 fun b hb o e => (Ib.pin (b, o) (List.mem_append_right _ (List.mem_append_right _ (mem_pinsAt hb e)))).1, fun b hb => ?_, w9⟩
        obtain ⟨o, e, _⟩ := T.obj _ _ st7 b hb
        exact (Ib.pin (b, o) (List.mem_append_right _ (List.mem_append_right _ (mem_pinsAt hb e)))).2.1
      | true =>
        rw [if_pos rfl] at qb
        show (if true = true then _ else _)
        rw [if_pos rfl]
        have e8 := he _ _ _ _ _ sb _ Hb _ Ib qb
        refine wpAny_mono e8 (fun y s9 ⟨yv, H9, I9, r9, ys, hD9, hz, n9⟩ => ?_) fun _ _ z => False.elim z
        have a9 := mt_append (X := blk X x fv scope cl s3.heap.objs.size s3 (upd H s2.heap.objs.size (.lst [])) fp) _ s9 _ H9 (.ref s2.heap.objs.size) [yv] (.ref s2.heap.objs.size) [y] (fun _ H10 => H10 = upd H9 s2.heap.objs.size (.lst (ys ++ [yv]))) I9 rfl (.cons r9 .nil)
          ⟨_, ys, yv, rfl, rfl, hD9, hz, rfl⟩
        refine wpAny_mono a9 (fun _ s10 ⟨_, H10, I10, _, e10⟩ => ?_) fun _ _ z => False.elim z
        subst e10
        obtain ⟨m', hm, w9⟩ := hN _ n9
        refine ⟨m', hm, i + 1, _, some v, I10.unpinned, T.keep _ _ _ st7 fun b hb o e => (I10.pin (b, o) (List.mem_append_right _ (List.mem_append_right _ (mem_pinsAt hb e)))).1, fun b hb => ?_, w9⟩
        obtain ⟨o, e, _⟩ := T.obj _ _ st7 b hb
        exact (I10.pin (b, o) (List.mem_append_right _ (List.mem_append_right _ (mem_pinsAt hb e)))).2.1
  exact codeAny_compStart_list loop (T.self _ 0 _ _ _ st4 loop)
theorem pe_lcompIf (hc : X.calm = true) (B : BlkOk X x fv scope cl) (hi : PI X (.Name x px) iter wi) (hcn : ∀ C s H fp, PT (blk X x fv scope cl C s H fp) cnd tt) (he : ∀ C s H fp, PE (blk X x fv scope cl C s H fp) elt te)
    (hs : ∀ v, foldedSetIterable iter X.env v = pure v := by intro _; rfl) : PE X (.ListComp elt [⟨.Name x px, iter, [cnd], 0⟩] scope pos) (tCompIf fv wi tt te) := by
  intro pins s σ H Q I h
  rw [eval_ListComp]
  refine wpAny_comprehension_free (use := none) rfl hs B.clos B.kind B.names (thn (hi pins s σ H _ I h) fun v s1 h1 => thn h1 fun itv s2 h2 => ?_)
  obtain ⟨it, fp, tn, J, H2, e, I2, T, st2, f2, rd⟩ := h2
  subst e
  refine blk_runIf (RR := fun acc C => compPost (model X.prog X.w) X.A X.xe none (EP X pins σ Q) acc C) hc B hcn he I2 T st2 f2 rd ?_
  intro D C s' H' m' I' fC hn q
  exact ⟨m', hn, fun h' sb => ⟨.ref D, H', I'.turned (t' := s'.toks) (fun b o hb e => (sb.2 b hb).trans e) fC.1 fC.2.1 fC.2.2.2.1 fC.2.2.2.2.1 fC.2.2.2.2.2, rfl, q⟩⟩
end
theorem a_compIf {fv : List (Nat × Str)} {wi : TI} {tt : TT} {te : TE} {σ : St} {H : Hp} {Q : VK} : tCompIf fv wi tt te σ H Q = wi σ H fun J H1 => ∀ D, H1 D = none → CLoopIf J fv tt te Q σ H1 D := rfl
theorem cl_listIf {K : PySem.W.Frag} {a : Addr} {xs : List V} {σ : St} {H1 : Hp} {fv : List (Nat × Str)} {tt : TT} {te : TE} {Q : VK} {L : Addr} (Pv : Nat → Hp → Prop) (h0 : Pv 0 (upd H1 L (.lst []))) (hl : ∀ i H, i ≤ xs.length → Pv i H → SqL K H a xs)
    (hs : ∀ i v H, xs[i]? = some v → Pv i H → tt (bst fv σ (some v)) H fun b Hb => if b = true then te (bst fv σ (some v)) Hb fun y H2 => ∃ ys, H2 L = some (.lst ys) ∧ ys.length < sizeLine ∧ Pv (i + 1) (upd H2 L (.lst (ys ++ [y]))) else Pv (i + 1) Hb) (hd : ∀ H, Pv xs.length H → Q (.ref L) H) :
    CLoopIf (Itl K a) fv tt te Q σ H1 L := by
  refine ⟨fun i m H => m = xs.length - i ∧ i ≤ xs.length ∧ Pv i H, ⟨xs.length, by simp, Nat.zero_le _, h0⟩, ?_⟩
  rintro i m H ⟨rfl, hi, p⟩
  have q := hl i H hi p
  by_cases hlt : i < xs.length
  · refine .inr ⟨⟨xs, xs[i], q, List.getElem?_eq_getElem hlt⟩, Pv (i + 1), fun H' p' => ⟨xs.length - (i + 1), by omega, rfl, hlt, p'⟩, fun v H' y => ?_⟩
    obtain ⟨e, y⟩ := y
    subst e
    exact hs i v _ (y xs q) p
  · have e : i = xs.length := by omega
    subst e
    exact .inl ⟨⟨xs, q, Nat.le_refl _⟩, hd H p⟩
end L2
namespace L2
open PySem PySem.Spec PyProof.Rows
theorem ints_are : ∀ {ns : List Int} {us : List Value}, Vals (ns.map V.int) us → IntsAre us ns
  | [], us, h => by
    cases h; exact .nil
  | n :: ns, us, h => by
    cases h with
    | cons r rr =>
      obtain ⟨t, rfl⟩ := r
      exact .cons n t (ints_are rr)
theorem at_best {zs : Array (Int × Tok)} {ns : List Int} (e : ns = zs.toList.map (·.1)) {j : Nat} (hj : j < zs.size) : numAt zs j ∈ ns := by
  rw [e, numAt_eq]
  exact PySem.getD_mem (by simpa using hj)
theorem of_best {zs : Array (Int × Tok)} {ns : List Int} (e : ns = zs.toList.map (·.1)) {x : Int} (hx : x ∈ ns) : ∃ j, j < zs.size ∧ numAt zs j = x := by
  rw [e] at hx
  obtain ⟨i, hi, h⟩ := mem_getD hx
  exact ⟨i, by simpa using hi, by rw [numAt_eq]; exact h⟩
theorem call_minL {X : Cx} (hc : X.calm = true) : CallR X (.builtin "min") (fun xs H Q => ∃ p ns, xs = [.ref p] ∧ SqL X.K H p (ns.map V.int) ∧ ns ≠ [] ∧ ∀ M, M ∈ ns → (∀ a, a ∈ ns → M ≤ a) → Q (.int M) H) := by
  intro pins s σ H xs us Q I r h
  obtain ⟨p, ns, rfl, hq, hne, q⟩ := h
  obtain ⟨u, rfl, rx⟩ := vals1 r
  cases rx
  obtain ⟨its, r', pl, hz⟩ := I.list hq
  have hi := ints_are r'
  obtain ⟨zs, e⟩ := hi.allInts.items
  have hns : ns = zs.toList.map (·.1) := by rw [← hi.numsOf, ← nums_intItems, ← e]
  have hsz : 0 < zs.size := by
    have h3 := List.length_pos_iff.mpr hne
    rw [hns, List.length_map, Array.length_toList] at h3; exact h3
  have hl := pl.isList
  rw [e] at hl
  refine min_intList (I.ok.hd hc) hl hsz fun v h' tk hv hk => ?_
  obtain ⟨tv, rfl⟩ := intItems_at hv
  obtain ⟨g1, g2⟩ := argBest_lt (numAt zs) (zs.size - 1)
  refine ⟨.int _, H, I.kept hk, ⟨tv, rfl⟩, q _ (at_best hns (by omega)) fun x hx => ?_⟩
  obtain ⟨i, hi, rfl⟩ := of_best hns hx
  exact g2 i (by omega)
def tFst (x : Str) (te : TE) : TE := fun σ H Q => (Str.empty ++ x).length ≤ sizeLine ∧ te σ H fun v H1 => ∃ i, v = .int i ∧ i.natAbs.log2 < 1920 ∧ (Str.empty ++ x ++ Str.ofString (toString i)).length ≤ sizeLine ∧ Q (.str (Str.empty ++ x ++ Str.ofString (toString i))) H1
theorem a_fst {x : Str} {te : TE} {σ : St} {H : Hp} {Q : VK} : tFst x te σ H Q = ((Str.empty ++ x).length ≤ sizeLine ∧ te σ H fun v H1 => ∃ i, v = .int i ∧ i.natAbs.log2 < 1920 ∧ (Str.empty ++ x ++ Str.ofString (toString i)).length ≤ sizeLine ∧ Q (.str (Str.empty ++ x ++ Str.ofString (toString i))) H1) := rfl
end L2
namespace L2
open PySem PySem.Spec PyProof.Rows
def bst2 (fv : List (Nat × Str)) (σ : St) (v v2 : Option V) : St := v :: v2 :: fv.map fun p => (σ[p.1]?).getD none
section
variable {X : Cx} {elt iter : Expr} {x z : Str} {px pz : Pos} {tk : Nat} {tpos : Pos} {fv : List (Nat × Str)} {scope : Scope} {cl : List (Str × Addr)} {pos : Pos} {te : TE} {wi : TI}
def CLoop2 (K : PySem.W.Frag) (J : It) (fv : List (Nat × Str)) (te : TE) (Q : VK) (σ : St) (H1 : Hp) (D : Addr) : Prop := ∃ W : Nat → Nat → Hp → Prop, (∃ m, W 0 m (upd H1 D (.lst []))) ∧ ∀ i m H, W i m H →
  (J.stop i H ∧ Q (.ref D) H) ∨ (J.go i H ∧ ∃ N : Hp → Prop, (∀ H', N H' → ∃ m', m' < m ∧ W (i + 1) m' H') ∧ ∀ v H', J.yld i H v H' → ∃ q x1 x2, v = .ref q ∧ SqT K H' q [x1, x2] ∧ te (bst2 fv σ (some x1) (some x2)) H' fun y H2 => ∃ ys, H2 D = some (.lst ys) ∧ ys.length < sizeLine ∧ N (upd H2 D (.lst (ys ++ [y]))))
def tComp2 (K : PySem.W.Frag) (fv : List (Nat × Str)) (wi : TI) (te : TE) : TE := fun σ H Q => wi σ H fun J H1 => ∀ D, H1 D = none → CLoop2 K J fv te Q σ H1 D
theorem a_tComp2 {K : PySem.W.Frag} {σ : St} {H : Hp} {Q : VK} : tComp2 K fv wi te σ H Q = wi σ H fun J H1 => ∀ D, H1 D = none → CLoop2 K J fv te Q σ H1 D := rfl
def FvOk2 (X : Cx) (scope : Scope) (cl : List (Str × Addr)) (fv : List (Nat × Str)) : Prop := ∀ p ∈ fv, X.N[p.1]? = some p.2 ∧ (X.env.scope.names.lookup p.2 = some .cell ∨ X.env.scope.names.lookup p.2 = some .free) ∧
    ((relabel scope X.env).names.lookup p.2 = some .cell ∨ (relabel scope X.env).names.lookup p.2 = some .free) ∧ ∃ c, cl.lookup p.2 = some c
theorem fv_nil2 {X : Cx} {scope : Scope} {cl : List (Str × Addr)} : FvOk2 X scope cl [] := fun _ h => nomatch h
end
def Itz (K : PySem.W.Frag) (a b : Addr) : It :=
  ⟨fun i H => ∃ xs ys x y, SqL K H a xs ∧ SqL K H b ys ∧ xs[i]? = some x ∧ ys[i]? = some y, fun i H v H' => ∃ p x y, H p = none ∧ v = .ref p ∧ H' = upd H p (.tup [x, y]) ∧ (∀ xs, SqL K H a xs → xs[i]? = some x) ∧ ∀ ys, SqL K H b ys → ys[i]? = some y,
    fun i H => ∃ xs ys, SqL K H a xs ∧ SqL K H b ys ∧ (xs.length ≤ i ∨ ys.length ≤ i)⟩
theorem turn_zip {P : Program} {w : World} {K : PySem.W.Frag} {elts : List Expr} {tk : Nat} {tpos : Pos} (a b z TI TO i1 i2 : Addr) (D : ZipApart z TI TO i1 i2 a b) :
    Turn P w K (.Tuple elts tk tpos) (Itz K a b) [z, TI, TO, i1, i2] z (fun i h => IsZip h z TI TO .none ∧ IsPair h TI (.ref i1) (.ref i2) ∧ (∃ u v, IsPair h TO u v) ∧ h.IsListIter i1 a i ∧ h.IsListIter i2 b i) where
  mem := by simp
  obj := fun i h st c hb => by
    obtain ⟨hz, hTI, ⟨u, v, hTO⟩, ⟨o1, e1, c1, d1⟩, ⟨o2, e2, c2, d2⟩⟩ := st
    simp only [List.mem_cons, List.not_mem_nil, or_false] at hb
    rcases hb with rfl | rfl | rfl | rfl | rfl
    · exact ⟨_, hz, fun v z => by
        have z' : Data.fields _ = Data.cell v := z
        cases z'⟩
    · exact ⟨_, hTI, fun v z => by
        have z' : Data.seq _ = Data.cell v := z
        cases z'⟩
    · exact ⟨_, hTO, fun v z => by
        have z' : Data.seq _ = Data.cell v := z
        cases z'⟩
    · exact ⟨o1, e1, fun v z => by rw [d1] at z; cases z⟩
    · exact ⟨o2, e2, fun v z => by rw [d2] at z; cases z⟩
  keep := fun i h h' st k => by
    obtain ⟨hz, hTI, ⟨u, v, hTO⟩, h1, h2⟩ := st
    exact ⟨k z (by simp) _ hz, k TI (by simp) _ hTI, ⟨u, v, k TO (by simp) _ hTO⟩, h1.at fun o q => k i1 (by simp) o q, h2.at fun o q => k i2 (by simp) o q⟩
  item := by
    intro X hP hw hK hc i pins s σ H E I hf st hg
    subst hP hw hK
    obtain ⟨xs, ys, x, y, hq1, hq2, hx, hy⟩ := hg
    obtain ⟨its1, rv1, pl1, hz1⟩ := I.list hq1
    obtain ⟨its2, rv2, pl2, hz2⟩ := I.list hq2
    obtain ⟨u1, hu1, ru1⟩ := rv1.get hx
    obtain ⟨u2, hu2, ru2⟩ := rv2.get hy
    obtain ⟨hz, hTI, ⟨_, _, hTO⟩, hit1, hit2⟩ := st
    refine wpAny_pyNext_zip_item D hz hTI hTO hit1 hit2 pl1.isList pl2.isList (x := u1) (y := u2) (by simpa using hu1) (by simpa using hu2) fun h1 ho hTO1 hi1 hi2 hT hsz hk => ?_
    refine ⟨_, rfl, wpAny_letOwnedTupleGo_zip ho fun h2 he2 hs2 => ?_⟩
    have hp : H s.heap.objs.size = none := I.hok.fresh (Nat.le_refl _)
    have hpz : s.heap.objs.size ≠ z := Nat.ne_of_gt (Heap.lt_size hz)
    have k2 : ∀ c o, c ∉ [z, TI, TO, i1, i2] → s.heap.get? c = some o → h2.get? c = some o := fun c o hb q =>
      (hs2.2 c fun e => hb (by simp [e])).trans (hk c o (fun e => hb (by simp [e])) (fun e => hb (by simp [e])) (fun e => hb (by simp [e])) (fun e => hb (by simp [e])) q)
    have hT2 : h2.get? s.heap.objs.size = some { cls := .type "tuple", data := .seq #[u1, u2] } := (hs2.2 _ hpz).trans hT
    have nch : ∀ c u, H c = some u → c ∉ [z, TI, TO, i1, i2] := fun c u q hb => by
      rw [(hf c hb).1] at q; cases q
    have up : ∀ c, c < s.heap.objs.size → c ≠ s.heap.objs.size := fun c hb => Nat.ne_of_lt hb
    have I2 : Inv X pins σ (upd H s.heap.objs.size (.tup [x, y])) { s with heap := h2 } := by
      refine I.step (g' := s.gens) (d' := s.drawn) (t' := s.toks) (ch := [z, TI, TO, i1, i2]) (fun c hb => ?_) (fun c o _ _ hc q _ => k2 c o hc q) (fun c o _ _ hc q _ => ⟨o.slots, k2 c o hc q⟩)
        (fun c o _ q n => by rw [upd_ne (up c (Heap.lt_size q))]; exact n) (fun c o hc q => ⟨o, k2 c o hc q⟩) (fun c ys q => by rw [upd_ne (ne_of_none q hp)]; exact q) (fun c o v q => by rw [upd_ne (ne_of_none q hp)]; exact q)
        (fun c ps q => ⟨#[], by rw [upd_ne (ne_of_none q hp), q]; simp⟩) (fun m hm => ?_) (fun c v q => ?_) I.bare
      · obtain ⟨f0, f1, f2, f3, f4, f5⟩ := hf c hb
        exact ⟨f3, f1, f4, f5⟩
      · obtain ⟨o, es, ep, q, r⟩ := hm
        refine ⟨o, es, ep, k2 _ o (fun e => ?_) q, r⟩
        exact (hf _ e).2.1 rfl
      · by_cases hb : c = s.heap.objs.size
        · subst hb
          rw [upd_same] at q; cases q
          exact ⟨by show 2 ≤ sizeLine; decide, [u1, u2], .cons ru1 (.cons ru2 .nil), ⟨_, hT2, rfl, _, rfl⟩⟩
        · rw [upd_ne hb] at q
          refine (I.hok c v q).stay (fun c' o hc r => k2 c' o ?_ r) (fun c' r => by rw [upd_ne (ne_of_none r hp)]; exact r) fun c' ys r => by rw [upd_ne (ne_of_none r hp)]; exact r
          rcases hc with e | e
          · rw [e]; exact nch c v q
          · exact nch c' _ e
    refine ⟨.ref s.heap.objs.size, _, I2, rfl, ⟨_, x, y, hp, rfl, rfl, fun zs hz' => by rw [I.list_inj hz' hq1]; exact hx, fun zs hz' => by rw [I.list_inj hz' hq2]; exact hy⟩,
      ⟨he2, (hs2.2 TI D.TIz).trans (hk TI _ D.TIz D.TITO D.TIi1 D.TIi2 hTI), ⟨_, _, (hs2.2 TO D.TOz).trans hTO1⟩, hi1.at fun o q => (hs2.2 i1 D.i1z).trans q, hi2.at fun o q => (hs2.2 i2 D.i2z).trans q⟩, fun c hb => ?_⟩
    have lb : c < s.heap.objs.size := by
      simp only [List.mem_cons, List.not_mem_nil, or_false] at hb
      rcases hb with rfl | rfl | rfl | rfl | rfl
      · exact Heap.lt_size hz
      · exact Heap.lt_size hTI
      · exact Heap.lt_size hTO
      · obtain ⟨_, q, _⟩ := hit1; exact Heap.lt_size q
      · obtain ⟨_, q, _⟩ := hit2; exact Heap.lt_size q
    rw [upd_ne (up c lb)]
    exact (hf c hb).1
  done := by
    intro X hP hw hK hc i pins s σ H E I hf st hg
    subst hP hw hK
    obtain ⟨xs, ys, hq1, hq2, hx⟩ := hg
    obtain ⟨its1, rv1, pl1, hz1⟩ := I.list hq1
    obtain ⟨its2, rv2, pl2, hz2⟩ := I.list hq2
    obtain ⟨hz, hTI, ⟨_, _, hTO⟩, hit1, hit2⟩ := st
    have hl1 := rv1.length
    have hl2 := rv2.length
    refine wpAny_pyNext_zip_end (I.ok.hd hc) D hz hTI hTO hit1 hit2 pl1.isList pl2.isList (by rcases hx with e | e; exact .inl (by simp; omega); exact .inr (by simp; omega)) fun h' eb => ⟨rfl, ?_⟩
    have k2 : ∀ c o, c ∉ [z, TI, TO, i1, i2] → s.heap.get? c = some o → h'.get? c = some o := fun c o hb q => eb c o (fun e => hb (by simp [e])) (fun e => hb (by simp [e])) (fun e => hb (by simp [e])) (fun e => hb (by simp [e])) q
    refine I.step (g' := s.gens) (d' := s.drawn) (t' := s.toks) (ch := [z, TI, TO, i1, i2]) (fun c hb => ?_) (fun c o _ _ hc q _ => k2 c o hc q) (fun c o _ _ hc q _ => ⟨o.slots, k2 c o hc q⟩)
      (fun c o _ q n => n) (fun c o hc q => ⟨o, k2 c o hc q⟩) (fun c ys q => q) (fun c o v q => q) (fun c ps q => ⟨#[], by rw [q]; simp⟩) (fun m hm => ?_) (fun c v q => ?_) I.bare
    · obtain ⟨f0, f1, f2, f3, f4, f5⟩ := hf c hb
      exact ⟨f3, f1, f4, f5⟩
    · obtain ⟨o, es, ep, q, r⟩ := hm
      exact ⟨o, es, ep, k2 _ o (fun e => (hf _ e).2.1 rfl) q, r⟩
    · refine (I.hok c v q).stay (fun c' o hc r => k2 c' o ?_ r) (fun c' r => r) fun c' ys r => r
      have nch : ∀ c u, H c = some u → c ∉ [z, TI, TO, i1, i2] := fun c u q hb => by
        rw [(hf c hb).1] at q; cases q
      rcases hc with e | e
      · rw [e]; exact nch c v q
      · exact nch c' _ e
  self := fun _ _ _ _ _ st h => wpAny_pyIter_zip st.1 h
section
variable {X : Cx}
def iZip (K : PySem.W.Frag) (ta : TA) : TI := fun σ H R => ta σ H fun vs H1 => ∃ a b xs ys, vs = [.ref a, .ref b] ∧ SqL K H1 a xs ∧ SqL K H1 b ys ∧ R (Itz K a b) H1
theorem pi_zip {elts : List Expr} {tk : Nat} {tpos : Pos} {a b : Expr} {ta : TA} {p pos : Pos} (hg : Gl X "zip") (hm : X.mg "zip" = none) (ha : PA X [a, b] ta) (hs : starEach [a, b] X.env = [(false, eval a X.env), (false, eval b X.env)] := by rfl)
    (hs2 : starEach [b] X.env = [(false, eval b X.env)] := by rfl) :
    PI X (.Tuple elts tk tpos) (.Call (.Name "zip" p) [a, b] [] pos) (iZip X.K ta) := by
  intro pins s σ H R I h
  refine Call_ (ld_blt I hg hm boot_zip (PyProof.Rows.callWith_type1 (thn (ha pos pins s σ H _ I h) fun us s1 ⟨vs, H1, I1, r1, q1⟩ => ?_) (by rw [hs, hs2]) (by rw [hs2]; rfl)))
  obtain ⟨a, b, xs, ys, e, hq1, hq2, q⟩ := q1
  subst e
  cases r1 with
  | cons r rr =>
   cases rr with
   | cons r' rr =>
    cases rr
    cases r
    cases r'
    obtain ⟨its1, rv1, pl1, hz1⟩ := I1.list hq1
    obtain ⟨its2, rv2, pl2, hz2⟩ := I1.list hq2
    have a1 : a < s1.heap.objs.size := by obtain ⟨_, e, _⟩ := pl1.isList; exact Heap.lt_size e
    have a2 : b < s1.heap.objs.size := by obtain ⟨_, e, _⟩ := pl2.isList; exact Heap.lt_size e
    refine call_zip_2 pl1.isList pl2.isList fun h1 hz hTI hTO hi1 hi2 hsz hk => ?_
    have I2 : Inv X pins σ H1 { s1 with heap := h1 } := I1.kept (t' := s1.toks) hk
    refine wpAny_pyIter_zip hz ?_
    refine ⟨s1.heap.objs.size + 4, [s1.heap.objs.size + 4, s1.heap.objs.size + 2, s1.heap.objs.size + 3, s1.heap.objs.size, s1.heap.objs.size + 1], _, _, H1, rfl, I2, turn_zip a b _ _ _ _ _ (zipApart_new a1 a2), ⟨hz, hTI, ⟨_, _, hTO⟩, hi1, hi2⟩, fun c hb => ?_, q⟩
    have hb' : s1.heap.objs.size ≤ c := by
      simp only [List.mem_cons, List.not_mem_nil, or_false] at hb
      rcases hb with rfl | rfl | rfl | rfl | rfl <;> omega
    exact I1.fpOk hb' (I1.hok.fresh hb')
end
theorem a_izip {K : PySem.W.Frag} {ta : TA} {σ : St} {H : Hp} {R : It → Hp → Prop} : iZip K ta σ H R = ta σ H fun vs H1 => ∃ a b xs ys, vs = [.ref a, .ref b] ∧ SqL K H1 a xs ∧ SqL K H1 b ys ∧ R (Itz K a b) H1 := rfl
end L2
namespace L2
open PySem PySem.Spec PyProof.Rows
section
variable {X : Cx}
def ipC (C : Int → Int → Prop) (f : Int → Int → Int) : TIp := fun x y H Q => ∃ i j, x = .int i ∧ y = .int j ∧ C i j ∧ Q (.int (f i j)) H
theorem a_ipC {C : Int → Int → Prop} {f : Int → Int → Int} {x y : V} {H : Hp} {Q : VK} : ipC C f x y H Q = ∃ i j, x = .int i ∧ y = .int j ∧ C i j ∧ Q (.int (f i j)) H := rfl
theorem ip_mulZ : PIp X .Mult (ipC IntMulOk fun i j => i * j) := by
  intro pins s σ H x y v u Q I r1 r2 h
  obtain ⟨i, j, e1, e2, hm, q⟩ := h
  subst e1; subst e2
  obtain ⟨t, rfl⟩ := r1
  obtain ⟨t', rfl⟩ := r2
  exact imul_int ⟨.int _, H, I.tok _, ⟨_, rfl⟩, q⟩ hm
end
section
variable {X : Cx} {elt iter cnd : Expr} {x : Str} {px : Pos} {fv : List (Nat × Str)} {scope : Scope} {cl : List (Str × Addr)} {pos : Pos} {te : TE} {tt : TT} {wi : TI}
end
end L2
namespace L2
open PySem PySem.Spec PyProof.Rows
theorem lp_zip {K : PySem.W.Frag} {a b : Addr} {xs ys : List V} {g : TG} {tb : TS} {D : Ends} {σ : St} {H : Hp} (Pv : Nat → St → Hp → Prop) (h0 : Pv 0 σ H) (hl : ∀ i σ H, i ≤ xs.length → i ≤ ys.length → Pv i σ H → SqL K H a xs ∧ SqL K H b ys)
    (hs : ∀ i v1 v2 p σ H, xs[i]? = some v1 → ys[i]? = some v2 → Pv i σ H → H p = none → g (.ref p) σ (upd H p (.tup [v1, v2])) fun σ2 H2 => tb { D with nx := Pv (i + 1), ct := Pv (i + 1), bk := D.nx } σ2 H2)
    (hd : ∀ σ H, Pv (min xs.length ys.length) σ H → D.nx σ H) : Loop (Itz K a b) g tb D σ H := by
  refine ⟨fun i m σ H => m = min xs.length ys.length - i ∧ i ≤ min xs.length ys.length ∧ Pv i σ H, ⟨_, rfl, Nat.zero_le _, h0⟩, ?_⟩
  rintro i m σ H ⟨rfl, hi, p⟩
  obtain ⟨q1, q2⟩ := hl i σ H (by omega) (by omega) p
  by_cases hlt : i < min xs.length ys.length
  · have l1 : i < xs.length := by omega
    have l2 : i < ys.length := by omega
    refine .inr ⟨⟨xs, ys, xs[i], ys[i], q1, q2, List.getElem?_eq_getElem l1, List.getElem?_eq_getElem l2⟩, Pv (i + 1), fun σ' H' p' => ⟨min xs.length ys.length - (i + 1), by omega, rfl, hlt, p'⟩, fun x H' y => ?_⟩
    obtain ⟨pa, x1, x2, hn, e1, e2, y1, y2⟩ := y
    subst e1 e2
    exact hs i x1 x2 pa σ H (y1 xs q1) (y2 ys q2) p hn
  · have e : i = min xs.length ys.length := by omega
    rw [e] at p
    exact .inl ⟨⟨xs, ys, q1, q2, by omega⟩, hd σ H p⟩
end L2
namespace L2
open PySem PySem.Spec PyProof.Rows
section
variable {prog : Program} {w : World} {A : Around} {R : Result → Shared → Prop} {I S : Addr} {fp wr : List Addr} {n : Nat} {P : Nat → Value → Prop} {St : Nat → Heap → Prop} {bt : Nat → Nat → Bool} {d : List (Str × Value)}
end
def tMaxD (K : PySem.W.Frag) (t tk : TA) : TE := fun σ H Q => t σ H fun vs H1 => tk σ H1 fun zs H2 => ∃ p ns d, vs = [.ref p] ∧ zs = [.int d] ∧ SqL K H2 p (ns.map V.int) ∧ ∀ M, (ns = [] ∧ M = d) ∨ (M ∈ ns ∧ ∀ a ∈ ns, a ≤ M) → Q (.int M) H2
theorem a_maxD {K : PySem.W.Frag} {t tk : TA} {σ : St} {H : Hp} {Q : VK} : tMaxD K t tk σ H Q = t σ H fun vs H1 => tk σ H1 fun zs H2 => ∃ p ns d, vs = [.ref p] ∧ zs = [.int d] ∧ SqL K H2 p (ns.map V.int) ∧ ∀ M, (ns = [] ∧ M = d) ∨ (M ∈ ns ∧ ∀ a ∈ ns, a ≤ M) → Q (.int M) H2 := rfl
theorem a_inS {K : PySem.W.Frag} {neg : Bool} {x y : V} {H : Hp} {Q : VK} : rIn K neg x y H Q = ∃ p xs, y = .ref p ∧ (SqL K H p xs ∨ SqT K H p xs) ∧ flatV x = true ∧ xs.all flatV = true ∧ Q (.bl (if neg then !inV x xs else inV x xs)) H := rfl
end L2
namespace L2
open PySem PySem.Spec PyProof.Rows
section
variable {X : Cx} {k : Nat} {f C : Addr} {fd : FuncData} {ps : List Str} {sp : Sp} {m : Str} {pos apos : Pos} {o e : Expr} {es : List Expr} {ta : TE} {t : TA}
end
section
variable {K : PySem.W.Frag} {C : Addr} {m f : Str} {sp : Sp} {dvs : List V} {E : XK} {ta tv : TE} {t : TA} {σ : St} {H : Hp} {Q : VK} {D : Ends}
theorem a_fld : tFld K ta f σ H Q = ta σ H fun x H1 => ∃ a C dx fs v, x = .ref a ∧ H1 a = some (.ins C dx fs) ∧ Cls K C ∧ NoAttr K C f ∧ fs.lookup f = some v ∧ Q v H1 := rfl
theorem a_sfld : sFld K ta tv f D σ H = tv σ H fun y H1 => ta σ H1 fun x H2 => ∃ a C dx fs, x = .ref a ∧ H2 a = some (.ins C dx fs) ∧ Cls K C ∧ NoAttr K C f ∧ fs.length < 1000 ∧ D.nx σ (upd H2 a (.ins C dx (putF f y fs))) := rfl
theorem a_meth : tMeth C m sp dvs E ta t σ H Q = ta σ H fun x H1 => ∃ a dx fs, x = .ref a ∧ H1 a = some (.ins C dx fs) ∧ fs.lookup m = none ∧ t σ H1 fun vs H2 => sp (x :: (vs ++ dvs)) H2 Q E := rfl
theorem a_make : tMake C sp dvs E t σ H Q = t σ H fun vs H1 => ∀ x dx, H1 x = none → H1 dx = none → dx ≠ x → sp (.ref x :: (vs ++ dvs)) (upd (upd H1 dx (.own x)) x (.ins C dx [])) (fun v H2 => v = .non ∧ Q (.ref x) H2) E := rfl
end
end L2
namespace L2
open PySem PySem.Spec PyProof.Rows
section
variable {prog : Program} {w : World} {A : Around} {E : Value → Shared → Prop} {s : Shared}
theorem nxT_item {it t : Addr} {i : Nat} {items : Array Value} {x : Value} {Q : Value → Shared → Prop} (hit : s.heap.IsTupleIter it t i) (ht : s.heap.IsTuple t items) (hx : items[i]? = some x)
    (hQ : ∀ h', h'.IsTupleIter it t (i + 1) → Heap.SameBut it s.heap h' → Q x { s with heap := h' }) : wpAny (model prog w) A (Builtin.SmallTypes.nextOf (.ref it)) Q E s := by
  have ⟨o, ho, hc, hd⟩ := hit
  have ⟨ol, hol, _, nl, hdl⟩ := ht
  refine wpAny_bind (wpAny_callSpecial?_slot (name := Str.ofString "__next__") hit.typeIs F.slot_tuple_iterator_next (wpAny_call_entry F.slot_tuple_iterator_next hit.typeIs F.entry_tuple_iterator_next ?_ (F.args_tuple_iterator_next_1 _)))
  refine wpAny_bind (m := field (.ref it) 0) (wpAny_field ho hd (x := .ref t) rfl ?_)
  refine wpAny_bind (m := field (.ref it) 1) (wpAny_field ho hd (x := .int i 0) rfl ?_)
  refine wpAny_bind (m := seqItems? (.ref t)) (wpAny_seqItems hol hdl ?_)
  simp only [Int.toNat_natCast, hx]
  refine wpAny_bind (wpAny_setField ho hd (by simp) (wpAny_pure ⟨x, rfl, wpAny_pure (hQ _ ⟨_, Heap.get?_update_self _ ho (Obj.isFreed_of_fields (Obj.data_mapFields hd _)), (Obj.cls_mapFields ..).trans hc, ?_⟩ (Heap.SameBut.update ..))⟩))
  rw [Obj.data_mapFields hd]; simp [rawInt]
theorem nxT_end {it t : Addr} {i : Nat} {items : Array Value} {Q : Value → Shared → Prop} (hh : A.handled = none) (hit : s.heap.IsTupleIter it t i) (ht : s.heap.IsTuple t items) (hx : items[i]? = none)
    (hE : ∀ h' e, Heap.ExtBut it s.heap h' → (∃ o, h'.get? e = some o ∧ o.cls = .type "StopIteration") → E (.ref e) { s with heap := h' }) : wpAny (model prog w) A (Builtin.SmallTypes.nextOf (.ref it)) Q E s := by
  have ⟨o, ho, hc, hd⟩ := hit
  have ⟨ol, hol, _, nl, hdl⟩ := ht
  refine wpAny_bind (wpAny_callSpecial?_slot (name := Str.ofString "__next__") hit.typeIs F.slot_tuple_iterator_next (wpAny_call_entry F.slot_tuple_iterator_next hit.typeIs F.entry_tuple_iterator_next ?_ (F.args_tuple_iterator_next_1 _)))
  refine wpAny_bind (m := field (.ref it) 0) (wpAny_field ho hd (x := .ref t) rfl ?_)
  refine wpAny_bind (m := field (.ref it) 1) (wpAny_field ho hd (x := .int i 0) rfl ?_)
  refine wpAny_bind (m := seqItems? (.ref t)) (wpAny_seqItems hol hdl ?_)
  simp only [Int.toNat_natCast, hx]
  refine wpAny_bind (wpAny_rule (wpAny_bind (wpAny_setField ho hd (by simp) (wpAny_bind (m := newExc (.type "StopIteration") []) ?_))))
  simp only [newExc, newTuple]
  refine wpAny_bind (wpAny_newObj_type (wpAny_bind (m := firstArgMember _ _) (wpAny_of_eq (a := Value.none) (by first | rfl | (simp only [firstArgMember]; rfl)) (wpAny_newObj_type ?_ (by size_fits)))) (by size_fits))
  simp only [raiseNew]
  refine wpAny_bind (wpAny_handled ?_)
  first | rw [show A.in1.handled = none from hh] | rw [hh]
  exact wpAny_bind (wpAny_pure (wpAny_throw (hE _ _ (((Heap.SameBut.update ..).extBut.push _).push _) ⟨_, Heap.get?_push_size _ rfl, rfl⟩)))
end
section
variable {prog : Program} {w : World} {A : Around} {E : Value → Shared → Prop} {s : Shared}
end
section
variable {X : Cx}
end
end L2
namespace L2
open PySem PySem.Spec PyProof.Rows
def CDivC (i j : Int) : Prop := j ≠ 0 ∧ i.natAbs < 2 ^ 4000 * j.natAbs
theorem near_no {x y : Int} (hy : y ≠ 0) (h : x.natAbs < 2 ^ 4000 * y.natAbs) : Builtin.divisionGoesByPylong x y = false := by
  have key : ¬ ((if (x == 0) = true then 0 else x.natAbs.log2 / 30 + 1) > (if (y == 0) = true then 0 else y.natAbs.log2 / 30 + 1) + 150) := by
    rw [if_neg (show ¬ ((y == 0) = true) by simpa using hy)]
    by_cases hx : x = 0
    · rw [if_pos (show (x == 0) = true by simpa using hx)]; omega
    · rw [if_neg (show ¬ ((x == 0) = true) by simpa using hx)]
      have hx' : x.natAbs ≠ 0 := by omega
      have h1 : y.natAbs < 2 ^ (y.natAbs.log2 + 1) := Nat.lt_log2_self
      have h2 : x.natAbs < 2 ^ (4000 + (y.natAbs.log2 + 1)) := by
        rw [Nat.pow_add]
        exact Nat.lt_trans h (Nat.mul_lt_mul_of_pos_left h1 (Nat.pow_pos (by decide)))
      have h3 := (Nat.log2_lt hx').mpr h2
      omega
  exact Bool.and_eq_false_iff.mpr (.inr (decide_eq_false key))
theorem op_fdivC {X : Cx} : OpR X (binaryOp .FloorDiv) (rI CDivC fun i j => .int (i.fdiv j)) := opI fun _ _ _ _ _ _ _ hc q => floordiv_int hc.1 q (.inl (near_no hc.1 hc.2))
theorem pe_either {X : Cx} {e : Expr} {t u : TE} (h1 : PE X e t) (h2 : PE X e u) : PE X e (fun σ H Q => t σ H Q ∨ u σ H Q) := fun pins s σ H Q I h => h.elim (h1 pins s σ H Q I) (h2 pins s σ H Q I)
end L2
namespace L2
open PySem PySem.Spec PyProof.Rows
abbrev IsTrip (h : Heap) (T : Addr) (a b c : Value) : Prop := h.get? T = some { cls := .type "tuple", data := .seq #[a, b, c] }
structure Zip3 (z TI TO i1 i2 i3 l1 l2 l3 : Addr) : Prop where
  TIz : TI ≠ z
  TOz : TO ≠ z
  i1z : i1 ≠ z
  i2z : i2 ≠ z
  i3z : i3 ≠ z
  TITO : TI ≠ TO
  TIi1 : TI ≠ i1
  TIi2 : TI ≠ i2
  TIi3 : TI ≠ i3
  TOi1 : TO ≠ i1
  TOi2 : TO ≠ i2
  TOi3 : TO ≠ i3
  i12 : i1 ≠ i2
  i13 : i1 ≠ i3
  i23 : i2 ≠ i3
  l1z : l1 ≠ z
  l2z : l2 ≠ z
  l3z : l3 ≠ z
  l2TO : l2 ≠ TO
  l3TO : l3 ≠ TO
  l2i1 : l2 ≠ i1
  l3i1 : l3 ≠ i1
  l3i2 : l3 ≠ i2
theorem zip3_new {n l1 l2 l3 : Addr} (h1 : l1 < n) (h2 : l2 < n) (h3 : l3 < n) : Zip3 (n + 5) (n + 3) (n + 4) n (n + 1) (n + 2) l1 l2 l3 := by
  constructor <;> (intro h; have h' : (_ : Nat) = (_ : Nat) := h; simp only [Addr] at *; omega)
section
variable {prog : Program} {w : World} {A : Around} {E : Value → Shared → Prop} {s : Shared}
theorem updateSeq_trip {T : Addr} {a b c x : Value} {k : Nat} {Q : Unit → Shared → Prop} (hT : IsTrip s.heap T a b c)
    (h : ∀ h', h'.get? T = some { cls := .type "tuple", data := .seq ((#[a, b, c] : Array Value).setIfInBounds k x) } → Heap.SameBut T s.heap h' → Q () { s with heap := h' }) :
    wpAny (model prog w) A (updateSeq T (·.setIfInBounds k x)) Q E s := by
  refine wpAny_updateSeq hT rfl (h _ ?_ (Heap.SameBut.update ..))
  rw [Heap.get?_update_self _ hT rfl]
  simp [Obj.mapSeq]
theorem zip3_item {z TI TO i1 i2 i3 l1 l2 l3 : Addr} {k : Nat} {xs ys zs : Array Value} {x y v a b c : Value} {Q : Value → Shared → Prop} (D : Zip3 z TI TO i1 i2 i3 l1 l2 l3)
    (hz : IsZip s.heap z TI TO .none) (hTI : IsTrip s.heap TI (.ref i1) (.ref i2) (.ref i3)) (hTO : IsTrip s.heap TO a b c) (h1 : s.heap.IsTupleIter i1 l1 k) (h2 : s.heap.IsTupleIter i2 l2 k) (h3 : s.heap.IsTupleIter i3 l3 k)
    (t1 : s.heap.IsTuple l1 xs) (t2 : s.heap.IsTuple l2 ys) (t3 : s.heap.IsTuple l3 zs) (hx : xs[k]? = some x) (hy : ys[k]? = some y) (hv : zs[k]? = some v)
    (hQ : ∀ h', IsZip h' z TI TO (rawInt s.heap.objs.size) → IsTrip h' TO x y v → h'.IsTupleIter i1 l1 (k + 1) → h'.IsTupleIter i2 l2 (k + 1) → h'.IsTupleIter i3 l3 (k + 1) → IsTrip h' s.heap.objs.size x y v →
      (∀ c o, c ∉ [z, TO, i1, i2, i3] → s.heap.get? c = some o → h'.get? c = some o) → Q (.ref s.heap.objs.size) { s with heap := h' }) :
    wpAny (model prog w) A (Builtin.«zip.__next__» ⟨[.ref z], []⟩) (fun fin s' => ∃ v, fin = .done (.ret v) ∧ Q v s') E s := by
  refine wpAny_bind (m := field (.ref z) 2) (wpAny_field hz rfl (x := .bool false) rfl ?_)
  refine wpAny_bind (m := field (.ref z) 3) (wpAny_field hz rfl (x := .ref TI) rfl (wpAny_bind (wpAny_seqItems hTI rfl ?_)))
  refine wpAny_bind (m := Builtin.SmallTypes.ownedTupleIsFree (.ref z)) (wpAny_bind (m := field (.ref z) 0) (wpAny_field hz rfl (x := .none) rfl (wpAny_pure ?_)))
  simp only [if_true]
  refine wpAny_bind (wpAny_rule (wpAny_bind (wpAny_field hz rfl (x := .ref TO) rfl (wpAny_bind (wpAny_setField_rec hz (by simp) fun g₁ z₁ c₁ => wpAny_bind ?_)))))
  replace z₁ : IsZip g₁ z TI TO .ellipsis := z₁
  simp only [List.zipIdx_cons, List.zipIdx_nil, List.forIn_cons, List.forIn_nil]
  have b₁ := c₁.extBut
  refine wpAny_bind (wpAny_bind (wpAny_onRaise (wpAny_bind (m := Builtin.SmallTypes.nextOf (.ref i1)) (nxT_item (h1.extBut b₁ D.i1z) (t1.extBut b₁ D.l1z) hx fun g₂ j₂ c₂ => wpAny_pure ?_))))
  have b₂ := c₂.extBut
  have o₂ : IsTrip g₂ TO a b c := b₂ _ _ D.TOi1 (b₁ _ _ D.TOz hTO)
  refine wpAny_bind (wpAny_seqItems o₂ rfl (wpAny_bind (updateSeq_trip o₂ fun g₃ o₃ c₃ => wpAny_bind (wpAny_letGo (wpAny_pure ?_)))))
  replace o₃ : IsTrip g₃ TO x b c := o₃
  have b₃ := c₃.extBut
  have e2 : ∀ c o, c ≠ z → c ≠ i1 → c ≠ TO → s.heap.get? c = some o → g₃.get? c = some o := fun c o n1 n2 n3 e => b₃ _ _ n3 (b₂ _ _ n2 (b₁ _ _ n1 e))
  refine wpAny_bind (wpAny_bind (wpAny_onRaise (wpAny_bind (m := Builtin.SmallTypes.nextOf (.ref i2)) (nxT_item (s := { s with heap := g₃ }) (h2.at fun o e => e2 _ o D.i2z D.i12.symm D.TOi2.symm e) (t2.at fun o e => e2 _ o D.l2z D.l2i1 D.l2TO e) hy fun g₄ j₄ c₄ => wpAny_pure ?_))))
  have b₄ := c₄.extBut
  have o₄ : IsTrip g₄ TO x b c := b₄ _ _ D.TOi2 o₃
  refine wpAny_bind (wpAny_seqItems o₄ rfl (wpAny_bind (updateSeq_trip o₄ fun g₅ o₅ c₅ => wpAny_bind (wpAny_letGo (wpAny_pure ?_)))))
  replace o₅ : IsTrip g₅ TO x y c := o₅
  have b₅ := c₅.extBut
  have e3 : ∀ c o, c ≠ z → c ≠ i1 → c ≠ TO → c ≠ i2 → s.heap.get? c = some o → g₅.get? c = some o := fun c o n1 n2 n3 n4 e => b₅ _ _ n3 (b₄ _ _ n4 (e2 c o n1 n2 n3 e))
  refine wpAny_bind (wpAny_bind (wpAny_onRaise (wpAny_bind (m := Builtin.SmallTypes.nextOf (.ref i3)) (nxT_item (s := { s with heap := g₅ }) (h3.at fun o e => e3 _ o D.i3z D.i13.symm D.TOi3.symm D.i23.symm e) (t3.at fun o e => e3 _ o D.l3z D.l3i1 D.l3TO D.l3i2 e) hv fun g₆ j₆ c₆ => wpAny_pure ?_))))
  have b₆ := c₆.extBut
  have o₆ : IsTrip g₆ TO x y c := b₆ _ _ D.TOi3 o₅
  refine wpAny_bind (wpAny_seqItems o₆ rfl (wpAny_bind (updateSeq_trip o₆ fun g₇ o₇ c₇ => wpAny_bind (wpAny_letGo (wpAny_pure (wpAny_pure (wpAny_bind ?_)))))))
  replace o₇ : IsTrip g₇ TO x y v := o₇
  have b₇ := c₇.extBut
  refine wpAny_seqItems o₇ rfl (wpAny_bind (wpAny_newTuple ?_))
  have sz : g₇.objs.size = s.heap.objs.size := by rw [c₇.1, c₆.1, c₅.1, c₄.1, c₃.1, c₂.1, c₁.1]
  have z₇ : IsZip g₇ z TI TO .ellipsis := b₇ _ _ D.TOz.symm (b₆ _ _ D.i3z.symm (b₅ _ _ D.TOz.symm (b₄ _ _ D.i2z.symm (b₃ _ _ D.TOz.symm (b₂ _ _ D.i1z.symm z₁)))))
  have j₁ : g₇.IsTupleIter i1 l1 (k + 1) := j₂.at fun o e => b₇ _ _ D.TOi1.symm (b₆ _ _ D.i13 (b₅ _ _ D.TOi1.symm (b₄ _ _ D.i12 (b₃ _ _ D.TOi1.symm e))))
  have j₅ : g₇.IsTupleIter i2 l2 (k + 1) := j₄.at fun o e => b₇ _ _ D.TOi2.symm (b₆ _ _ D.i23 (b₅ _ _ D.TOi2.symm e))
  have j₇ : g₇.IsTupleIter i3 l3 (k + 1) := j₆.at fun o e => b₇ _ _ D.TOi3.symm e
  have lz : z < g₇.objs.size := Heap.lt_size z₇
  refine wpAny_bind (m := Builtin.SmallTypes.ownedTupleHandOut (.ref z) (.ref g₇.objs.size)) (wpAny_bind (wpAny_setField_rec (Heap.get?_push_of_some _ z₇) (by simp) fun g₈ z₈ c₈ => ?_))
  replace z₈ : IsZip g₈ z TI TO (rawInt g₇.objs.size) := z₈
  refine wpAny_setField_rec z₈ (by simp) fun g₉ z₉ c₉ => ?_
  replace z₉ : IsZip g₉ z TI TO (rawInt g₇.objs.size) := z₉
  have up : ∀ c o, c ≠ z → (g₇.push { cls := .type "tuple", data := .seq #[x, y, v] }).get? c = some o → g₉.get? c = some o := fun c o n e => c₉.extBut _ _ n (c₈.extBut _ _ n e)
  have T₉ : IsTrip g₉ g₇.objs.size x y v := up _ _ (Nat.ne_of_gt lz) (Heap.get?_push_size _ rfl)
  have up7 : ∀ c o, c ≠ z → g₇.get? c = some o → g₉.get? c = some o := fun c o n e => up c o n (Heap.get?_push_of_some _ e)
  refine wpAny_pure ⟨_, rfl, ?_⟩
  show Q (.ref g₇.objs.size) _
  rw [sz] at z₉ T₉ ⊢
  refine hQ g₉ z₉ (up7 _ _ D.TOz o₇) (j₁.at fun o e => up7 _ o D.i1z e) (j₅.at fun o e => up7 _ o D.i2z e) (j₇.at fun o e => up7 _ o D.i3z e) T₉ fun c o hc e => ?_
  have n1 : c ≠ z := fun h => hc (by simp [h])
  have n2 : c ≠ TO := fun h => hc (by simp [h])
  have n3 : c ≠ i1 := fun h => hc (by simp [h])
  have n4 : c ≠ i2 := fun h => hc (by simp [h])
  have n5 : c ≠ i3 := fun h => hc (by simp [h])
  exact up7 c o n1 (b₇ _ _ n2 (b₆ _ _ n5 (e3 c o n1 n3 n2 n4 e)))
theorem zip3_end {z TI TO i1 i2 i3 l1 l2 l3 : Addr} {k : Nat} {xs : Array Value} {a b c : Value} {Q : Fin → Shared → Prop} (hh : A.handled = none) (D : Zip3 z TI TO i1 i2 i3 l1 l2 l3)
    (hz : IsZip s.heap z TI TO .none) (hTI : IsTrip s.heap TI (.ref i1) (.ref i2) (.ref i3)) (h1 : s.heap.IsTupleIter i1 l1 k) (t1 : s.heap.IsTuple l1 xs) (hx : xs[k]? = none)
    (hE : ∀ h' e, (∀ c o, c ∉ [z, TO, i1, i2, i3] → s.heap.get? c = some o → h'.get? c = some o) → (∃ o, h'.get? e = some o ∧ o.cls = .type "StopIteration") → E (.ref e) { s with heap := h' }) :
    wpAny (model prog w) A (Builtin.«zip.__next__» ⟨[.ref z], []⟩) Q E s := by
  refine wpAny_bind (m := field (.ref z) 2) (wpAny_field hz rfl (x := .bool false) rfl ?_)
  refine wpAny_bind (m := field (.ref z) 3) (wpAny_field hz rfl (x := .ref TI) rfl (wpAny_bind (wpAny_seqItems hTI rfl ?_)))
  refine wpAny_bind (m := Builtin.SmallTypes.ownedTupleIsFree (.ref z)) (wpAny_bind (m := field (.ref z) 0) (wpAny_field hz rfl (x := .none) rfl (wpAny_pure ?_)))
  simp only [if_true]
  refine wpAny_bind (wpAny_rule (wpAny_bind (wpAny_field hz rfl (x := .ref TO) rfl (wpAny_bind (wpAny_setField_rec hz (by simp) fun g₁ z₁ c₁ => wpAny_bind ?_)))))
  replace z₁ : IsZip g₁ z TI TO .ellipsis := z₁
  simp only [List.zipIdx_cons, List.zipIdx_nil, List.forIn_cons, List.forIn_nil]
  have b₁ := c₁.extBut
  have nz : ∀ {g : Heap} {e : Addr} {o : Obj}, IsZip g z TI TO .ellipsis → g.get? e = some o → o.cls = .type "StopIteration" → e ≠ z := fun {g e o} q r c h => by
    subst h
    rw [q] at r; cases r; simp at c
  refine wpAny_bind (wpAny_bind (wpAny_onRaise (wpAny_bind (m := Builtin.SmallTypes.nextOf (.ref i1)) (nxT_end hh (h1.extBut b₁ D.i1z) (t1.extBut b₁ D.l1z) hx fun g₂ e b₂ ⟨oe, he, ce⟩ => ?_))))
  have z₂ : IsZip g₂ z TI TO .ellipsis := b₂ _ _ D.i1z.symm z₁
  refine wpAny_setField_rec z₂ (by simp) fun g₃ _ c₃ => hE g₃ e (fun c o hc q => ?_) ⟨oe, c₃.extBut _ _ (nz z₂ he ce) he, ce⟩
  exact c₃.extBut _ _ (fun h => hc (by simp [h])) (b₂ _ _ (fun h => hc (by simp [h])) (b₁ _ _ (fun h => hc (by simp [h])) q))
theorem pyNext_zip3 {z TI TO i1 i2 i3 l1 l2 l3 : Addr} {k : Nat} {xs ys zs : Array Value} {x y v a b c : Value} {Q : Option Value → Shared → Prop} (D : Zip3 z TI TO i1 i2 i3 l1 l2 l3)
    (hz : IsZip s.heap z TI TO .none) (hTI : IsTrip s.heap TI (.ref i1) (.ref i2) (.ref i3)) (hTO : IsTrip s.heap TO a b c) (h1 : s.heap.IsTupleIter i1 l1 k) (h2 : s.heap.IsTupleIter i2 l2 k) (h3 : s.heap.IsTupleIter i3 l3 k)
    (t1 : s.heap.IsTuple l1 xs) (t2 : s.heap.IsTuple l2 ys) (t3 : s.heap.IsTuple l3 zs) (hx : xs[k]? = some x) (hy : ys[k]? = some y) (hv : zs[k]? = some v)
    (hQ : ∀ h', IsZip h' z TI TO (rawInt s.heap.objs.size) → IsTrip h' TO x y v → h'.IsTupleIter i1 l1 (k + 1) → h'.IsTupleIter i2 l2 (k + 1) → h'.IsTupleIter i3 l3 (k + 1) → IsTrip h' s.heap.objs.size x y v →
      (∀ c o, c ∉ [z, TO, i1, i2, i3] → s.heap.get? c = some o → h'.get? c = some o) → Q (some (.ref s.heap.objs.size)) { s with heap := h' }) : wpAny (model prog w) A (pyNext (.ref z)) Q E s := by
  have hT : s.TypeIs (.ref z) "zip" := ⟨_, hz, rfl⟩
  exact wpAny_bind (wpAny_attempt (wpAny_callSpecial?_slot (name := Str.ofString "__next__") hT F.slot_zip_next (wpAny_call_entry F.slot_zip_next hT F.entry_zip_next
    (zip3_item D hz hTI hTO h1 h2 h3 t1 t2 t3 hx hy hv fun h' a1 a2 a3 a4 a5 a6 a7 => wpAny_pure (hQ h' a1 a2 a3 a4 a5 a6 a7)) (F.args_zip_next_1 _))))
theorem pyNext_zip3End {z TI TO i1 i2 i3 l1 l2 l3 : Addr} {k : Nat} {xs : Array Value} {Q : Option Value → Shared → Prop} (hh : A.handled = none) (D : Zip3 z TI TO i1 i2 i3 l1 l2 l3)
    (hz : IsZip s.heap z TI TO .none) (hTI : IsTrip s.heap TI (.ref i1) (.ref i2) (.ref i3)) (h1 : s.heap.IsTupleIter i1 l1 k) (t1 : s.heap.IsTuple l1 xs) (hx : xs[k]? = none)
    (hQ : ∀ h', (∀ c o, c ∉ [z, TO, i1, i2, i3] → s.heap.get? c = some o → h'.get? c = some o) → Q none { s with heap := h' }) : wpAny (model prog w) A (pyNext (.ref z)) Q E s := by
  have hT : s.TypeIs (.ref z) "zip" := ⟨_, hz, rfl⟩
  refine wpAny_bind (wpAny_attempt (wpAny_callSpecial?_slot (name := Str.ofString "__next__") hT F.slot_zip_next (wpAny_call_entry F.slot_zip_next hT F.entry_zip_next (zip3_end (a := .none) (b := .none) (c := .none) hh D hz hTI h1 t1 hx fun h' e hk ⟨o, ho, hc⟩ => ?_) (F.args_zip_next_1 _))))
  exact wpAny_bind (wpAny_isInstance (T := "StopIteration") (b := true) ⟨o, ho, hc⟩ isSubtype_stop (wpAny_pure (hQ _ hk)))
end
def zp3 (h : Heap) (a b c : Addr) : Heap :=
  (((((h.push { cls := .type "tuple_iterator", data := .fields #[.ref a, .int 0 0] }).push { cls := .type "tuple_iterator", data := .fields #[.ref b, .int 0 0] }).push { cls := .type "tuple_iterator", data := .fields #[.ref c, .int 0 0] }).push
    { cls := .type "tuple", data := .seq #[.ref h.objs.size, .ref (h.push { cls := .type "tuple_iterator", data := .fields #[.ref a, .int 0 0] }).objs.size, .ref ((h.push { cls := .type "tuple_iterator", data := .fields #[.ref a, .int 0 0] }).push { cls := .type "tuple_iterator", data := .fields #[.ref b, .int 0 0] }).objs.size] }).push { cls := .type "tuple", data := .seq #[.none, .none, .none] }).push
    { cls := .type "zip", data := .fields #[.none, .bool false, .bool false, .ref (((h.push { cls := .type "tuple_iterator", data := .fields #[.ref a, .int 0 0] }).push { cls := .type "tuple_iterator", data := .fields #[.ref b, .int 0 0] }).push { cls := .type "tuple_iterator", data := .fields #[.ref c, .int 0 0] }).objs.size,
      .ref ((((h.push { cls := .type "tuple_iterator", data := .fields #[.ref a, .int 0 0] }).push { cls := .type "tuple_iterator", data := .fields #[.ref b, .int 0 0] }).push { cls := .type "tuple_iterator", data := .fields #[.ref c, .int 0 0] }).push { cls := .type "tuple", data := .seq #[.ref h.objs.size, .ref (h.push { cls := .type "tuple_iterator", data := .fields #[.ref a, .int 0 0] }).objs.size, .ref ((h.push { cls := .type "tuple_iterator", data := .fields #[.ref a, .int 0 0] }).push { cls := .type "tuple_iterator", data := .fields #[.ref b, .int 0 0] }).objs.size] }).objs.size] }
theorem zp3_size (h : Heap) (a b c : Addr) : (zp3 h a b c).objs.size = h.objs.size + 6 := by unfold zp3; rw [Heap.size_push, Heap.size_push, Heap.size_push, Heap.size_push, Heap.size_push, Heap.size_push]
theorem meets3 (l1 l2 l3 : Addr) (xs ys zs : Array Value) : Meets (Builtin.«zip.__new__» ⟨[.type "zip", .ref l1, .ref l2, .ref l3], []⟩) (fun _ R s => s.heap.IsTuple l1 xs ∧ s.heap.IsTuple l2 ys ∧ s.heap.IsTuple l3 zs ∧ R (.ok (.ret (.ref (s.heap.objs.size + 5)))) { s with heap := zp3 s.heap l1 l2 l3 }) :=
  .of_wp fun prog w A R s h => by
    obtain ⟨hp, g, d, tk, os⟩ := s
    obtain ⟨q1, q2, q3, h⟩ := h
    have hsub := sub_zip
    have k1 : Heap.IsTuple (Shared.heap ⟨hp, g, d, tk, os⟩) l1 xs := q1
    have k2 : Heap.IsTuple (Shared.heap ⟨hp.push { cls := .type "tuple_iterator", data := .fields #[.ref l1, .int 0 0] }, g, d, tk, os⟩) l2 ys := Heap.IsTuple.push q2 _
    have k3 : Heap.IsTuple (Shared.heap ⟨(hp.push { cls := .type "tuple_iterator", data := .fields #[.ref l1, .int 0 0] }).push { cls := .type "tuple_iterator", data := .fields #[.ref l2, .int 0 0] }, g, d, tk, os⟩) l3 zs := Heap.IsTuple.push (Heap.IsTuple.push q3 _) _
    wp_walk using wpAny_pyIter_tuple k1, wpAny_pyIter_tuple k2, wpAny_pyIter_tuple k3
    refine ⟨_, rfl, ?_⟩
    have e : (zp3 hp l1 l2 l3).objs.size = hp.objs.size + 6 := zp3_size hp l1 l2 l3
    unfold zp3 at e h
    rw [Heap.size_push] at e
    have e4 := Nat.succ.inj e
    rw [← e4] at h
    exact h
theorem tc_zip_3 (a b c : Value) : checkTypeCall "zip" ⟨[a, b, c], []⟩ = pure () := by kernel_rfl
theorem nc_zip_3 (a b c : Value) : checkBuiltinCall "zip.__new__" ⟨[.type "zip", a, b, c], []⟩ = pure () := by kernel_rfl
theorem ao_init_4 (a b c d : Value) : argsOk "object.__init__" ⟨[a, b, c, d], []⟩ := by
  unfold argsOk; rw [signature?_of (id := "object.__init__") (n := ['_', '_', 't', 'i', 'n', 'i', '_', '_']) (o := ['t', 'c', 'e', 'j', 'b', 'o']) (by kernel_rfl) F.owner_object]; kernel_rfl
section
variable {prog : Program} {w : World} {A : Around} {E : Value → Shared → Prop} {s : Shared}
theorem call_zip3 {l1 l2 l3 : Addr} {xs ys zs : Array Value} {Q : Value → Shared → Prop} (q1 : s.heap.IsTuple l1 xs) (q2 : s.heap.IsTuple l2 ys) (q3 : s.heap.IsTuple l3 zs)
    (h : ∀ h', IsZip h' (s.heap.objs.size + 5) (s.heap.objs.size + 3) (s.heap.objs.size + 4) .none → IsTrip h' (s.heap.objs.size + 3) (.ref s.heap.objs.size) (.ref (s.heap.objs.size + 1)) (.ref (s.heap.objs.size + 2)) →
      IsTrip h' (s.heap.objs.size + 4) .none .none .none → h'.IsTupleIter s.heap.objs.size l1 0 → h'.IsTupleIter (s.heap.objs.size + 1) l2 0 → h'.IsTupleIter (s.heap.objs.size + 2) l3 0 → (∀ c o, s.heap.get? c = some o → h'.get? c = some o) → Q (.ref (s.heap.objs.size + 5)) { s with heap := h' }) :
    wpAny (model prog w) A (call (.type "zip") [.ref l1, .ref l2, .ref l3]) Q E s := by
  refine callType_new F.called_zip (by decide) (tc_zip_3 _ _ _) (nc_zip_3 _ _ _) (fun obj => ao_init_4 obj _ _ _) F.entry_zip_new (meets3 l1 l2 l3 xs ys zs) ⟨q1, q2, q3, ?_⟩
  obtain ⟨H1, e1⟩ : ∃ H1, H1 = s.heap.push { cls := .type "tuple_iterator", data := .fields #[.ref l1, .int 0 0] } := ⟨_, rfl⟩
  obtain ⟨H2, e2⟩ : ∃ H2, H2 = H1.push { cls := .type "tuple_iterator", data := .fields #[.ref l2, .int 0 0] } := ⟨_, rfl⟩
  obtain ⟨H2', e2'⟩ : ∃ H2', H2' = H2.push { cls := .type "tuple_iterator", data := .fields #[.ref l3, .int 0 0] } := ⟨_, rfl⟩
  obtain ⟨H3, e3⟩ : ∃ H3, H3 = H2'.push { cls := .type "tuple", data := .seq #[.ref s.heap.objs.size, .ref H1.objs.size, .ref H2.objs.size] } := ⟨_, rfl⟩
  obtain ⟨H4, e4⟩ : ∃ H4, H4 = H3.push { cls := .type "tuple", data := .seq #[.none, .none, .none] } := ⟨_, rfl⟩
  have e5 : zp3 s.heap l1 l2 l3 = H4.push { cls := .type "zip", data := .fields #[.none, .bool false, .bool false, .ref H2'.objs.size, .ref H3.objs.size] } := by subst e4 e3 e2' e2 e1; rfl
  have z1 : H1.objs.size = s.heap.objs.size + 1 := by rw [e1, Heap.size_push]
  have z2 : H2.objs.size = s.heap.objs.size + 2 := by rw [e2, Heap.size_push, z1]
  have z2' : H2'.objs.size = s.heap.objs.size + 3 := by rw [e2', Heap.size_push, z2]
  have z3 : H3.objs.size = s.heap.objs.size + 4 := by rw [e3, Heap.size_push, z2']
  have z4 : H4.objs.size = s.heap.objs.size + 5 := by rw [e4, Heap.size_push, z3]
  have g1 : H1.get? s.heap.objs.size = some { cls := .type "tuple_iterator", data := .fields #[.ref l1, .int 0 0] } := by rw [e1]; exact Heap.get?_push_size _ rfl
  have g2 : H2.get? H1.objs.size = some { cls := .type "tuple_iterator", data := .fields #[.ref l2, .int 0 0] } := by rw [e2]; exact Heap.get?_push_size _ rfl
  have g2' : H2'.get? H2.objs.size = some { cls := .type "tuple_iterator", data := .fields #[.ref l3, .int 0 0] } := by rw [e2']; exact Heap.get?_push_size _ rfl
  have g3 : H3.get? H2'.objs.size = some { cls := .type "tuple", data := .seq #[.ref s.heap.objs.size, .ref H1.objs.size, .ref H2.objs.size] } := by rw [e3]; exact Heap.get?_push_size _ rfl
  have g4 : H4.get? H3.objs.size = some { cls := .type "tuple", data := .seq #[.none, .none, .none] } := by rw [e4]; exact Heap.get?_push_size _ rfl
  have u2 : ∀ c o, H1.get? c = some o → H2.get? c = some o := fun c o e => by rw [e2]; exact Heap.get?_push_of_some _ e
  have u2' : ∀ c o, H2.get? c = some o → H2'.get? c = some o := fun c o e => by rw [e2']; exact Heap.get?_push_of_some _ e
  have u3 : ∀ c o, H2'.get? c = some o → H3.get? c = some o := fun c o e => by rw [e3]; exact Heap.get?_push_of_some _ e
  have u4 : ∀ c o, H3.get? c = some o → H4.get? c = some o := fun c o e => by rw [e4]; exact Heap.get?_push_of_some _ e
  have u5 : ∀ c o, H4.get? c = some o → (zp3 s.heap l1 l2 l3).get? c = some o := fun c o e => by rw [e5]; exact Heap.get?_push_of_some _ e
  have g5 : (zp3 s.heap l1 l2 l3).get? H4.objs.size = some { cls := .type "zip", data := .fields #[.none, .bool false, .bool false, .ref H2'.objs.size, .ref H3.objs.size] } := by rw [e5]; exact Heap.get?_push_size _ rfl
  have f1 := u5 _ _ (u4 _ _ (u3 _ _ (u2' _ _ (u2 _ _ g1))))
  have f2 := u5 _ _ (u4 _ _ (u3 _ _ (u2' _ _ g2)))
  have f2' := u5 _ _ (u4 _ _ (u3 _ _ g2'))
  have f3 := u5 _ _ (u4 _ _ g3)
  have f4 := u5 _ _ g4
  rw [z4, z2', z3] at g5
  rw [z1] at f2
  rw [z2] at f2'
  rw [z2', z1, z2] at f3
  rw [z3] at f4
  exact ⟨⟨_, g5, rfl⟩, h _ g5 f3 f4 ⟨_, f1, rfl, rfl⟩ ⟨_, f2, rfl, rfl⟩ ⟨_, f2', rfl, rfl⟩ fun c o x => u5 _ _ (u4 _ _ (u3 _ _ (u2' _ _ (u2 _ _ (by rw [e1]; exact Heap.get?_push_of_some _ x)))))⟩
end
@[reducible] def blk3 (X : Cx) (x z z3 : Str) (fv : List (Nat × Str)) (scope : Scope) (cl : List (Str × Addr)) (C : Addr) (s : Shared) (H : Hp) (fp : List Addr) : Cx where
  prog := X.prog
  w := X.w
  K := X.K
  mg := X.mg
  base := X.base
  A := X.A
  N := x :: z :: z3 :: fv.map (·.2)
  s₀ := s
  H₀ := H
  env := compEnvC scope cl C X.env
  outer := X.stack
  stack := X.stack
  ex := fp
  fn := fun _ => false
  calm := X.calm
  pn := []
  xe := fun _ _ => False
def bst3 (fv : List (Nat × Str)) (σ : St) (v v2 v3 : Option V) : St := v :: v2 :: v3 :: fv.map fun p => (σ[p.1]?).getD none
structure BlkOk3 (X : Cx) (x z z3 : Str) (fv : List (Nat × Str)) (scope : Scope) (cl : List (Str × Addr)) : Prop where
  clos : closureFor scope X.env = pure cl
  nocell : ∀ y ∈ scope.names, y.2 ≠ .cell
  kind : scope.kind = .function
  names : ∀ y ∈ scope.names, y.2 = .local → scope.names.lookup y.1 = some .local
  here : scope.names.lookup x = some .local
  here2 : scope.names.lookup z = some .local
  here3 : scope.names.lookup z3 = some .local
  nd : (x :: z :: z3 :: fv.map (·.2)).Nodup
  sub : ∀ y c, cl.lookup y = some c → X.env.cells.lookup y = some c
  has : ∀ y, ((relabel scope X.env).names.lookup y = some .cell ∨ (relabel scope X.env).names.lookup y = some .free) → ∃ c, cl.lookup y = some c
  fvs : ∀ p ∈ fv, X.N[p.1]? = some p.2 ∧ (X.env.scope.names.lookup p.2 = some .cell ∨ X.env.scope.names.lookup p.2 = some .free) ∧
    ((relabel scope X.env).names.lookup p.2 = some .cell ∨ (relabel scope X.env).names.lookup p.2 = some .free) ∧ ∃ c, cl.lookup p.2 = some c
section
variable {X : Cx} {elt iter : Expr} {x z z3 : Str} {px pz p3 : Pos} {tk : Nat} {tpos : Pos} {fv : List (Nat × Str)} {scope : Scope} {cl : List (Str × Addr)} {pos : Pos} {te : TE} {wi : TI}
theorem blk_ok3 {pins : List (Addr × Obj)} {σ : St} {H : Hp} {s : Shared} {fp : List Addr} {C : Addr} (B : BlkOk3 X x z z3 fv scope cl) (I : Inv X pins σ H s) (hf : ∀ b ∈ fp, FpOk X pins H b) (hC : s.heap.objs.size ≤ C) (hfC : ∀ b ∈ fp, b ≠ C) :
    (blk3 X x z z3 fv scope cl C s H fp).Ok where
  mod := I.ok.mod
  kind := B.kind
  glob := I.ok.glob
  blt := I.ok.blt
  above := hC
  inj := fun y y' c h1 h2 => I.ok.inj y y' c (B.sub y c h1) (B.sub y' c h2)
  has := fun y hy => B.has y hy
  cab := fun y c h => nomatch h
  hd := I.ok.hd
  frames := I.ok.frames
  stk := .inl rfl
  exf := fun b hb => ⟨hfC b hb, fun y c e => (hf b hb).2.2.2.2.1 y c (B.sub y c e)⟩
  bs := I.bs
  bsz := Nat.le_trans I.ok.bsz I.sz
  noex := fun b o e hb => by
    obtain ⟨_, _, _, f3, _⟩ := hf b hb
    rcases f3 with z' | z'
    · exact I.ok.noex b o e z'
    · exact absurd (Nat.lt_of_lt_of_le (Heap.lt_size e) (Nat.le_trans I.ok.bsz z')) (Nat.lt_irrefl _)
  exfs := fun b hb hs => by
    obtain ⟨_, f1, f2, _⟩ := hf b hb
    rcases List.mem_cons.mp (I.stkSub b hs) with z | z
    · exact f1 z
    · exact f2 z
  funs := I.stack
  frf := I.stkFree
theorem bst_get3 {fv : List (Nat × Str)} {σ : St} {o o2 o3 : Option V} {j : Nat} {y : Str} {v : V} (h1 : (x :: z :: z3 :: fv.map (·.2))[j + 3]? = some y) (h2 : (bst3 fv σ o o2 o3)[j + 3]? = some (some v)) : ∃ p ∈ fv, p.2 = y ∧ σ[p.1]? = some (some v) := by
  have e1 : (fv.map (·.2))[j]? = some y := by simpa using h1
  have e2 : (fv.map fun p => (σ[p.1]?).getD none)[j]? = some (some v) := by simpa [bst3] using h2
  rw [List.getElem?_map] at e1 e2
  cases q : fv[j]? with
  | none => rw [q] at e1; cases e1
  | some p =>
    rw [q] at e1 e2
    refine ⟨p, List.mem_of_getElem? q, Option.some.inj e1, ?_⟩
    have e3 : (σ[p.1]?).getD none = some v := Option.some.inj e2
    cases r : σ[p.1]? with
    | none => rw [r] at e3; cases e3
    | some w => rw [r] at e3; exact congrArg some e3
theorem blk_start3 {pins : List (Addr × Obj)} {σ : St} {H : Hp} {s s4 : Shared} {fp : List Addr} {C : Addr} {m : Str → Option Value} (B : BlkOk3 X x z z3 fv scope cl) (I : Inv X pins σ H s) (hf : ∀ b ∈ fp, FpOk X pins H b) (hC : C = s.heap.objs.size)
    (hfC : ∀ b ∈ fp, b ≠ C) (os : s4.os = s.os) (gens : s4.gens = s.gens) (keep : ∀ b o, s.heap.get? b = some o → s4.heap.get? b = some o) (ns : s4.heap.Ns C m) :
    Inv (blk3 X x z z3 fv scope cl C s H fp) [] (bst3 fv σ none none none) H s4 := by
  subst hC
  refine ⟨blk_ok3 B I hf (Nat.le_refl _) hfC, os, by rw [gens]; exact I.bare, Un.kept keep, ⟨m, ns, fun i y v h1 h2 h3 => ?_⟩, fun y c e => ?_, I.hok.fresh (Nat.le_refl _), fun y c e => I.freeC y c (B.sub y c e), fun p hp => absurd (show p ∈ ([] : List (Addr × Obj)) from hp) (by simp), I.hok.kept keep, by simp [bst3]⟩
  · cases i with
    | zero => simp [bst3] at h2
    | succ j =>
     cases j with
     | zero => simp [bst3] at h2
     | succ j =>
      cases j with
      | zero => simp [bst3] at h2
      | succ j =>
      obtain ⟨p, hp, rfl, hv⟩ := bst_get3 h1 h2
      obtain ⟨hN, hk, hk2, c, hc⟩ := B.fvs p hp
      obtain ⟨m0, _, hl⟩ := I.loc
      have vis : Vis X.env.scope p.2 := hk.elim (fun z => .inr (.inl z)) fun z => .inr (.inr z)
      obtain ⟨u, r, l⟩ := hl p.1 p.2 v hN hv vis
      refine ⟨u, r, .inr ⟨hk2, c, hc, ?_⟩⟩
      rcases l with ⟨z, _⟩ | ⟨_, c', hc', o, ho, hd⟩
      · have z' : X.env.scope.names.lookup p.2 = some .local := z
        rcases hk with k | k <;> (rw [k] at z'; cases z')
      · have := B.sub p.2 c hc
        rw [hc'] at this; cases this
        exact ⟨o, keep _ o ho, hd⟩
  · obtain ⟨v, o, ho, hd⟩ := I.cell y c (B.sub y c e)
    exact ⟨v, o, keep c o ho, hd⟩
theorem blk_store3 {s : Shared} {H0 : Hp} {fp : List Addr} {C : Addr} (hc : X.calm = true) (B : BlkOk3 X x z z3 fv scope cl) :
    PG (blk3 X x z z3 fv scope cl C s H0 fp) (.Tuple [.Name x px, .Name z pz, .Name z3 p3] tk tpos) (gTup X.K 3 (gCons (gName 0) (gCons (gName 1) (gCons (gName 2) gNil)))) := by
  have h1 : (relabel scope X.env).names.lookup x = some .local := lookup_relabel_local B.here
  have h2 : (relabel scope X.env).names.lookup z = some .local := lookup_relabel_local B.here2
  have h3 : (relabel scope X.env).names.lookup z3 = some .local := lookup_relabel_local B.here3
  exact pg_tup (X := blk3 X x z z3 fv scope cl C s H0 fp) hc (pgs_cons (pg_name (i := 0) B.nd rfl (.inl h1) (.inr h1)) (pgs_cons (pg_name (i := 1) B.nd rfl (.inl h2) (.inr h2)) (pgs_cons (pg_name (i := 2) B.nd rfl (.inl h3) (.inr h3)) pgs_nil)))
theorem blk_run3 {pins : List (Addr × Obj)} {σ : St} {H : Hp} {s2 : Shared} {it : Addr} {fp : List Addr} {tn : Nat → Heap → Prop} {J : It} {Q : VK} {E : Value → Shared → Prop} {RR : Value → Addr → Result → Shared → Prop}
    (hc : X.calm = true) (B : BlkOk3 X x z z3 fv scope cl) (he : ∀ C s H fp, PE (blk3 X x z z3 fv scope cl C s H fp) elt te) (I : Inv X pins σ H s2) (T : Turn X.prog X.w X.K (.Tuple [.Name x px, .Name z pz, .Name z3 p3] tk tpos) J fp it tn) (st : tn 0 s2.heap) (hf : ∀ b ∈ fp, FpOk X pins H b)
    (rd : ∀ D, H D = none → ∃ W : Nat → Nat → Hp → Prop, (∃ m, W 0 m (upd H D (.lst []))) ∧ ∀ i m H, W i m H →
      (J.stop i H ∧ Q (.ref D) H) ∨ (J.go i H ∧ ∃ N : Hp → Prop, (∀ H', N H' → ∃ m', m' < m ∧ W (i + 1) m' H') ∧ ∀ v H', J.yld i H v H' → ∃ q x1 x2 x3, v = .ref q ∧ SqT X.K H' q [x1, x2, x3] ∧ te (bst3 fv σ (some x1) (some x2) (some x3)) H' fun y H2 => ∃ ys, H2 D = some (.lst ys) ∧ ys.length < sizeLine ∧ N (upd H2 D (.lst (ys ++ [y])))))
    (hRR : ∀ D C s' H' m', Inv X pins σ H' s' → FpOk X pins H' C → s'.heap.Ns C m' → Q (.ref D) H' → RR (.ref D) C (.ok .next) s') :
    wpAny (model X.prog X.w) X.A (newList []) (fun acc s₃ => wpAny (model X.prog X.w) X.A (newFunctionEnv scope X.env.globals cl [] X.env.qual none .none (some X.env)) (fun cenv s₄ =>
      codeAny (model X.prog X.w) X.A (.compStart (.ListComp elt [⟨(.Tuple [.Name x px, .Name z pz, .Name z3 p3] tk tpos), iter, [], 0⟩] scope pos) 0 (.ref it) acc { cenv with scope := relabel scope X.env }) (RR acc cenv.locals) s₄) E s₃) E s2 := by
  refine wpAny_newObj_type ?_ (by show 0 ≤ sizeLine; exact Nat.zero_le _)
  have hD : H s2.heap.objs.size = none := I.hok.fresh (Nat.le_refl _)
  have I3 := I.lnew (ys := []) (its := []) (t' := s2.toks) .nil (Nat.zero_le _)
  generalize hs3 : ({ s2 with heap := s2.heap.push { cls := .type "list", data := .seq ([] : List Value).toArray }, toks := s2.toks } : Shared) = s3 at I3
  have sz3 : s3.heap.objs.size = s2.heap.objs.size + 1 := by rw [← hs3]; exact Heap.size_push ..
  have up3 : ∀ b o, s2.heap.get? b = some o → s3.heap.get? b = some o := fun b o e => by rw [← hs3]; exact Heap.get?_push_of_some _ e
  have hf3 : ∀ b ∈ fp, FpOk X pins (upd H s2.heap.objs.size (.lst [])) b := fun b hb => by
    obtain ⟨f0, r⟩ := hf b hb
    refine ⟨?_, r⟩
    obtain ⟨o, e, _⟩ := T.obj 0 _ st b hb
    rw [upd_ne (Nat.ne_of_lt (Heap.lt_size e))]; exact f0
  have ltf : ∀ b ∈ fp, b < s2.heap.objs.size := fun b hb => by
    obtain ⟨o, e, _⟩ := T.obj 0 _ st b hb
    exact Heap.lt_size e
  have st3 : tn 0 s3.heap := T.keep 0 _ _ st fun b _ o e => up3 b o e
  obtain ⟨W, ⟨m0, w0⟩, turn⟩ := rd _ hD
  refine wpAny_newFunctionEnv B.nocell (by intro y hy; simp at hy) (fun h₁ hns₁ hsb₁ => ?_) B.kind
  have hfC : ∀ b ∈ fp, b ≠ s3.heap.objs.size := fun b hb => Nat.ne_of_lt (by rw [sz3]; exact Nat.lt_succ_of_lt (ltf b hb))
  have up4 : ∀ b o, s3.heap.get? b = some o → h₁.get? b = some o := fun b o e => hsb₁.extBut b o (Nat.ne_of_lt (Heap.lt_size e)) (Heap.get?_push_of_some _ e)
  generalize hs4 : ({ s3 with heap := h₁, toks := s3.toks + ([] : List (Str × Value)).length } : Shared) = s4
  have h4 : s4.heap = h₁ := by rw [← hs4]
  have I4 : Inv (blk3 X x z z3 fv scope cl s3.heap.objs.size s3 (upd H s2.heap.objs.size (.lst [])) fp) [] (bst3 fv σ none none none) (upd H s2.heap.objs.size (.lst [])) s4 :=
    blk_start3 B I3 hf3 rfl hfC (by rw [← hs4]) (by rw [← hs4]) (fun b o e => by rw [h4]; exact up4 b o e) (by rw [h4]; exact hns₁)
  have st4 : tn 0 s4.heap := by rw [h4]; exact T.keep 0 _ _ st3 fun b _ o e => up4 b o e
  -- what stays true of the iterator's objects
  have stat : ∀ {H' : Hp}, (∀ b ∈ fp, H' b = none) → ∀ b ∈ fp, FpOk (blk3 X x z z3 fv scope cl s3.heap.objs.size s3 (upd H s2.heap.objs.size (.lst [])) fp) [] H' b := fun {H'} hn b hb => by
    obtain ⟨_, f1, f2, f3, f4, f5⟩ := hf b hb
    refine ⟨hn b hb, hfC b hb, fun z' => ?_, .inl hb, fun y c e => f4 y c (B.sub y c e), fun p hp => absurd (show p ∈ ([] : List (Addr × Obj)) from hp) (by simp)⟩
    rcases List.mem_cons.mp (I.stkSub b z') with q | q
    · exact f1 q
    · exact f2 q
  have loop : codeAny (model X.prog X.w) X.A (.compLoop (.ListComp elt [⟨(.Tuple [.Name x px, .Name z pz, .Name z3 p3] tk tpos), iter, [], 0⟩] scope pos) 0 (.ref it) (.ref s2.heap.objs.size) (compEnvC scope cl s3.heap.objs.size X.env)) (RR (.ref s2.heap.objs.size) s3.heap.objs.size) s4 := by
    refine compLoop_one (fun n s' => ∃ i H' o o2 o3, Inv (blk3 X x z z3 fv scope cl s3.heap.objs.size s3 (upd H s2.heap.objs.size (.lst [])) fp) [] (bst3 fv σ o o2 o3) H' s' ∧ tn i s'.heap ∧ (∀ b ∈ fp, H' b = none) ∧ W i n H') ?_ m0
      ⟨0, _, none, none, none, I4, st4, fun b hb => (hf3 b hb).1, w0⟩
    rintro n s5 E' ⟨i, H5, o5, o6, o7, I5, st5, fr5, w5⟩
    rcases turn i n H5 w5 with ⟨stop, q⟩ | ⟨go, N, hN, step⟩
    · refine thn (T.done (blk3 X x z z3 fv scope cl s3.heap.objs.size s3 (upd H s2.heap.objs.size (.lst [])) fp) rfl rfl rfl hc i [] s5 _ H5 _ I5 (stat fr5) st5 stop) fun r s6 ⟨hr, I6⟩ => ?_
      subst hr
      obtain ⟨m6, hn6, _⟩ := I6.loc
      have un : Un (frs X.stack) fp H H5 s2.heap s6.heap := by
        have u1 : Un (frs X.stack) fp H (upd H s2.heap.objs.size (.lst [])) s2.heap s3.heap := Un.laid up3 (Nat.le_refl _) hD
        exact u1.trans I6.base
      have J6 : Inv X pins σ H5 s6 := by
        refine I.call' ?_ un I6.hok I6.bare fun b hb => ?_
        · have := I6.os
          rw [show (blk3 X x z z3 fv scope cl s3.heap.objs.size s3 (upd H s2.heap.objs.size (.lst [])) fp).s₀.os = s2.os by rw [← hs3]] at this
          exact this
        · obtain ⟨_, f1, f2, f3, f4, f5⟩ := hf b hb
          exact ⟨f3, f1, f4, f5⟩
      refine hRR _ _ s6 H5 m6 J6 ?_ hn6 q
      exact I3.fpOk (Nat.le_refl _) I6.free
    · refine thn (T.item (blk3 X x z z3 fv scope cl s3.heap.objs.size s3 (upd H s2.heap.objs.size (.lst [])) fp) rfl rfl rfl hc i [] s5 _ H5 _ I5 (stat fr5) st5 go) fun r s6 ⟨u, hr, h6⟩ => ?_
      subst hr
      refine thn h6 fun _ s7 ⟨v, H7, I7, r7, y7, st7, fr7⟩ => ?_
      have I7' := I7.pinned (stat fr7) (T.obj _ _ st7)
      obtain ⟨q7, x1, x2, x3, ev, sq7, rd7⟩ := step v H7 y7
      refine wpAny_mono (blk_store3 (px := px) (pz := pz) (p3 := p3) (tk := tk) (tpos := tpos) hc B _ s7 _ H7 v u (fun σ' H' => σ' = bst3 fv σ (some x1) (some x2) (some x3) ∧ H' = H7) I7' r7 ⟨q7, [x1, x2, x3], ev, sq7, rfl, x1, [x2, x3], rfl, x2, [x3], rfl, x3, [], rfl, rfl, rfl, rfl⟩) (fun _ s8 ⟨σ8, H8, I8, e8a, e8b⟩ => ?_) fun _ _ z => False.elim z
      subst e8a e8b
      have e8 := he _ _ _ _ _ s8 _ _ _ I8 rd7
      refine wpAny_mono e8 (fun y s9 ⟨yv, H9, I9, r9, ys, hD9, hz, n9⟩ => ?_) fun _ _ z => False.elim z
      have a9 := mt_append (X := blk3 X x z z3 fv scope cl s3.heap.objs.size s3 (upd H s2.heap.objs.size (.lst [])) fp) _ s9 _ H9 (.ref s2.heap.objs.size) [yv] (.ref s2.heap.objs.size) [y] (fun _ H10 => H10 = upd H9 s2.heap.objs.size (.lst (ys ++ [yv]))) I9 rfl (.cons r9 .nil)
        ⟨_, ys, yv, rfl, rfl, hD9, hz, rfl⟩
      refine wpAny_mono a9 (fun _ s10 ⟨_, H10, I10, _, e10⟩ => ?_) fun _ _ z => False.elim z
      subst e10
      obtain ⟨m', hm, w9⟩ := hN _ n9
      refine ⟨m', hm, i + 1, _, some x1, some x2, some x3, I10.unpinned, T.keep _ _ _ st7 fun b hb o e => (I10.pin (b, o) (List.mem_append_right _ (List.mem_append_right _ (mem_pinsAt hb e)))).1, fun b hb => ?_, w9⟩
      obtain ⟨o, e, _⟩ := T.obj _ _ st7 b hb
      exact (I10.pin (b, o) (List.mem_append_right _ (List.mem_append_right _ (mem_pinsAt hb e)))).2.1
  exact codeAny_compStart_list loop (T.self _ 0 _ _ _ st4 loop)
def CLoop3 (K : PySem.W.Frag) (J : It) (fv : List (Nat × Str)) (te : TE) (Q : VK) (σ : St) (H1 : Hp) (D : Addr) : Prop := ∃ W : Nat → Nat → Hp → Prop, (∃ m, W 0 m (upd H1 D (.lst []))) ∧ ∀ i m H, W i m H →
  (J.stop i H ∧ Q (.ref D) H) ∨ (J.go i H ∧ ∃ N : Hp → Prop, (∀ H', N H' → ∃ m', m' < m ∧ W (i + 1) m' H') ∧ ∀ v H', J.yld i H v H' → ∃ q x1 x2 x3, v = .ref q ∧ SqT K H' q [x1, x2, x3] ∧ te (bst3 fv σ (some x1) (some x2) (some x3)) H' fun y H2 => ∃ ys, H2 D = some (.lst ys) ∧ ys.length < sizeLine ∧ N (upd H2 D (.lst (ys ++ [y]))))
def tComp3 (K : PySem.W.Frag) (fv : List (Nat × Str)) (wi : TI) (te : TE) : TE := fun σ H Q => wi σ H fun J H1 => ∀ D, H1 D = none → CLoop3 K J fv te Q σ H1 D
theorem a_tComp3 {K : PySem.W.Frag} {σ : St} {H : Hp} {Q : VK} : tComp3 K fv wi te σ H Q = wi σ H fun J H1 => ∀ D, H1 D = none → CLoop3 K J fv te Q σ H1 D := rfl
theorem pe_lcomp3 (hc : X.calm = true) (B : BlkOk3 X x z z3 fv scope cl) (hi : PI X (.Tuple [.Name x px, .Name z pz, .Name z3 p3] tk tpos) iter wi) (he : ∀ C s H fp, PE (blk3 X x z z3 fv scope cl C s H fp) elt te)
    (hs : ∀ v, foldedSetIterable iter X.env v = pure v := by intro _; rfl) : PE X (.ListComp elt [⟨.Tuple [.Name x px, .Name z pz, .Name z3 p3] tk tpos, iter, [], 0⟩] scope pos) (tComp3 X.K fv wi te) := by
  intro pins s σ H Q I h
  rw [eval_ListComp]
  refine wpAny_comprehension_free (use := none) rfl hs B.clos B.kind B.names (thn (hi pins s σ H _ I h) fun v s1 h1 => thn h1 fun itv s2 h2 => ?_)
  obtain ⟨it, fp, tn, J, H2, e, I2, T, st2, f2, rd⟩ := h2
  subst e
  refine blk_run3 (RR := fun acc C => compPost (model X.prog X.w) X.A X.xe none (EP X pins σ Q) acc C) hc B he I2 T st2 f2 rd ?_
  intro D C s' H' m' I' fC hn q
  exact ⟨m', hn, fun h' sb => ⟨.ref D, H', I'.turned (t' := s'.toks) (fun b o hb e => (sb.2 b hb).trans e) fC.1 fC.2.1 fC.2.2.2.1 fC.2.2.2.2.1 fC.2.2.2.2.2, rfl, q⟩⟩
theorem blkok3 {X : Cx} {x z z3 : Str} {fv : List (Nat × Str)} {scope : Scope} {cl : List (Str × Addr)} (clos : closureFor scope X.env = pure cl) (sub : ∀ y c, cl.lookup y = some c → X.env.cells.lookup y = some c) (fvs : FvOk2 X scope cl fv)
    (nd : (x :: z :: z3 :: fv.map (·.2)).Nodup := by decide) (kind : scope.kind = .function := by rfl) (here : scope.names.lookup x = some .local := by rfl) (here2 : scope.names.lookup z = some .local := by rfl) (here3 : scope.names.lookup z3 = some .local := by rfl) (nocell : ∀ y ∈ scope.names, y.2 ≠ .cell := by decide +kernel)
    (names : ∀ y ∈ scope.names, y.2 = .local → scope.names.lookup y.1 = some .local := by decide +kernel)
    (has : ((relabel scope X.env).names.all fun p => (p.2 != .cell && p.2 != .free) || (cl.lookup p.1).isSome) = true := by rfl) : BlkOk3 X x z z3 fv scope cl :=
  ⟨clos, nocell, kind, names, here, here2, here3, nd, sub, has_of has, fvs⟩
end
def Itz3 (K : PySem.W.Frag) (a b c : Addr) : It :=
  ⟨fun i H => ∃ xs ys zs x y v, SqT K H a xs ∧ SqT K H b ys ∧ SqT K H c zs ∧ xs[i]? = some x ∧ ys[i]? = some y ∧ zs[i]? = some v,
   fun i H v H' => ∃ p x y u, H p = none ∧ v = .ref p ∧ H' = upd H p (.tup [x, y, u]) ∧ (∀ xs, SqT K H a xs → xs[i]? = some x) ∧ (∀ ys, SqT K H b ys → ys[i]? = some y) ∧ ∀ zs, SqT K H c zs → zs[i]? = some u,
    fun i H => ∃ xs, SqT K H a xs ∧ xs.length ≤ i⟩
theorem turn_zip3 {P : Program} {w : World} {K : PySem.W.Frag} {elts : List Expr} {tk : Nat} {tpos : Pos} (a b c z TI TO i1 i2 i3 : Addr) (D : Zip3 z TI TO i1 i2 i3 a b c) :
    Turn P w K (.Tuple elts tk tpos) (Itz3 K a b c) [z, TI, TO, i1, i2, i3] z (fun i h => IsZip h z TI TO .none ∧ IsTrip h TI (.ref i1) (.ref i2) (.ref i3) ∧ (∃ u v q, IsTrip h TO u v q) ∧ h.IsTupleIter i1 a i ∧ h.IsTupleIter i2 b i ∧ h.IsTupleIter i3 c i) where
  mem := by simp
  obj := fun i h st c hb => by
    obtain ⟨hz, hTI, ⟨u, v, q, hTO⟩, ⟨o1, e1, c1, d1⟩, ⟨o2, e2, c2, d2⟩, ⟨o3, e3, c3, d3⟩⟩ := st
    simp only [List.mem_cons, List.not_mem_nil, or_false] at hb
    rcases hb with rfl | rfl | rfl | rfl | rfl | rfl
    · exact ⟨_, hz, fun v z => by
        have z' : Data.fields _ = Data.cell v := z
        cases z'⟩
    · exact ⟨_, hTI, fun v z => by
        have z' : Data.seq _ = Data.cell v := z
        cases z'⟩
    · exact ⟨_, hTO, fun v z => by
        have z' : Data.seq _ = Data.cell v := z
        cases z'⟩
    · exact ⟨o1, e1, fun v z => by rw [d1] at z; cases z⟩
    · exact ⟨o2, e2, fun v z => by rw [d2] at z; cases z⟩
    · exact ⟨o3, e3, fun v z => by rw [d3] at z; cases z⟩
  keep := fun i h h' st k => by
    obtain ⟨hz, hTI, ⟨u, v, q, hTO⟩, h1, h2, h3⟩ := st
    exact ⟨k z (by simp) _ hz, k TI (by simp) _ hTI, ⟨u, v, q, k TO (by simp) _ hTO⟩, h1.at fun o q => k i1 (by simp) o q, h2.at fun o q => k i2 (by simp) o q, h3.at fun o q => k i3 (by simp) o q⟩
  item := by
    intro X hP hw hK hc i pins s σ H E I hf st hg
    subst hP hw hK
    obtain ⟨xs, ys, zs, x, y, v, hq1, hq2, hq3, hx, hy, hv⟩ := hg
    obtain ⟨its1, rv1, pl1, hz1⟩ := I.tuple hq1
    obtain ⟨its2, rv2, pl2, hz2⟩ := I.tuple hq2
    obtain ⟨its3, rv3, pl3, hz3⟩ := I.tuple hq3
    obtain ⟨u1, hu1, ru1⟩ := rv1.get hx
    obtain ⟨u2, hu2, ru2⟩ := rv2.get hy
    obtain ⟨u3, hu3, ru3⟩ := rv3.get hv
    obtain ⟨hz, hTI, ⟨_, _, _, hTO⟩, hit1, hit2, hit3⟩ := st
    refine pyNext_zip3 D hz hTI hTO hit1 hit2 hit3 pl1 pl2 pl3 (x := u1) (y := u2) (v := u3) (by simpa using hu1) (by simpa using hu2) (by simpa using hu3) fun h1 ho hTO1 hi1 hi2 hi3 hT hk' => ?_
    have hk : ∀ c o, c ≠ z → c ≠ TO → c ≠ i1 → c ≠ i2 → c ≠ i3 → s.heap.get? c = some o → h1.get? c = some o := fun c o n1 n2 n3 n4 n5 e => hk' c o (by simp [n1, n2, n3, n4, n5]) e
    refine ⟨_, rfl, wpAny_letOwnedTupleGo_zip ho fun h2 he2 hs2 => ?_⟩
    have hp : H s.heap.objs.size = none := I.hok.fresh (Nat.le_refl _)
    have hpz : s.heap.objs.size ≠ z := Nat.ne_of_gt (Heap.lt_size hz)
    have k2 : ∀ c o, c ∉ [z, TI, TO, i1, i2, i3] → s.heap.get? c = some o → h2.get? c = some o := fun c o hb q =>
      (hs2.2 c fun e => hb (by simp [e])).trans (hk c o (fun e => hb (by simp [e])) (fun e => hb (by simp [e])) (fun e => hb (by simp [e])) (fun e => hb (by simp [e])) (fun e => hb (by simp [e])) q)
    have hT2 : h2.get? s.heap.objs.size = some { cls := .type "tuple", data := .seq #[u1, u2, u3] } := (hs2.2 _ hpz).trans hT
    have nch : ∀ c u, H c = some u → c ∉ [z, TI, TO, i1, i2, i3] := fun c u q hb => by
      rw [(hf c hb).1] at q; cases q
    have up : ∀ c, c < s.heap.objs.size → c ≠ s.heap.objs.size := fun c hb => Nat.ne_of_lt hb
    have I2 : Inv X pins σ (upd H s.heap.objs.size (.tup [x, y, v])) { s with heap := h2 } := by
      refine I.step (g' := s.gens) (d' := s.drawn) (t' := s.toks) (ch := [z, TI, TO, i1, i2, i3]) (fun c hb => ?_) (fun c o _ _ hc q _ => k2 c o hc q) (fun c o _ _ hc q _ => ⟨o.slots, k2 c o hc q⟩)
        (fun c o _ q n => by rw [upd_ne (up c (Heap.lt_size q))]; exact n) (fun c o hc q => ⟨o, k2 c o hc q⟩) (fun c ys q => by rw [upd_ne (ne_of_none q hp)]; exact q) (fun c o v q => by rw [upd_ne (ne_of_none q hp)]; exact q)
        (fun c ps q => ⟨#[], by rw [upd_ne (ne_of_none q hp), q]; simp⟩) (fun m hm => ?_) (fun c v q => ?_) I.bare
      · obtain ⟨f0, f1, f2, f3, f4, f5⟩ := hf c hb
        exact ⟨f3, f1, f4, f5⟩
      · obtain ⟨o, es, ep, q, r⟩ := hm
        refine ⟨o, es, ep, k2 _ o (fun e => ?_) q, r⟩
        exact (hf _ e).2.1 rfl
      · by_cases hb : c = s.heap.objs.size
        · subst hb
          rw [upd_same] at q; cases q
          exact ⟨by show 3 ≤ sizeLine; decide, [u1, u2, u3], .cons ru1 (.cons ru2 (.cons ru3 .nil)), ⟨_, hT2, rfl, _, rfl⟩⟩
        · rw [upd_ne hb] at q
          refine (I.hok c v q).stay (fun c' o hc r => k2 c' o ?_ r) (fun c' r => by rw [upd_ne (ne_of_none r hp)]; exact r) fun c' ys r => by rw [upd_ne (ne_of_none r hp)]; exact r
          rcases hc with e | e
          · rw [e]; exact nch c v q
          · exact nch c' _ e
    refine ⟨.ref s.heap.objs.size, _, I2, rfl, ⟨_, x, y, v, hp, rfl, rfl, fun zs hz' => by rw [I.tuple_inj hz' hq1]; exact hx, fun zs hz' => by rw [I.tuple_inj hz' hq2]; exact hy, fun zs hz' => by rw [I.tuple_inj hz' hq3]; exact hv⟩,
      ⟨he2, (hs2.2 TI D.TIz).trans (hk TI _ D.TIz D.TITO D.TIi1 D.TIi2 D.TIi3 hTI), ⟨_, _, _, (hs2.2 TO D.TOz).trans hTO1⟩, hi1.at fun o q => (hs2.2 i1 D.i1z).trans q, hi2.at fun o q => (hs2.2 i2 D.i2z).trans q, hi3.at fun o q => (hs2.2 i3 D.i3z).trans q⟩, fun c hb => ?_⟩
    have lb : c < s.heap.objs.size := by
      simp only [List.mem_cons, List.not_mem_nil, or_false] at hb
      rcases hb with rfl | rfl | rfl | rfl | rfl | rfl
      · exact Heap.lt_size hz
      · exact Heap.lt_size hTI
      · exact Heap.lt_size hTO
      · obtain ⟨_, q, _⟩ := hit1; exact Heap.lt_size q
      · obtain ⟨_, q, _⟩ := hit2; exact Heap.lt_size q
      · obtain ⟨_, q, _⟩ := hit3; exact Heap.lt_size q
    rw [upd_ne (up c lb)]
    exact (hf c hb).1
  done := by
    intro X hP hw hK hc i pins s σ H E I hf st hg
    subst hP hw hK
    obtain ⟨xs, hq1, hx⟩ := hg
    obtain ⟨its1, rv1, pl1, hz1⟩ := I.tuple hq1
    obtain ⟨hz, hTI, ⟨_, _, _, hTO⟩, hit1, hit2, hit3⟩ := st
    have hl1 := rv1.length
    refine pyNext_zip3End (I.ok.hd hc) D hz hTI hit1 pl1 (by simp; omega) fun h' eb' => ⟨rfl, ?_⟩
    have k2 : ∀ c o, c ∉ [z, TI, TO, i1, i2, i3] → s.heap.get? c = some o → h'.get? c = some o := fun c o hb q => eb' c o (fun e => hb (by
      simp only [List.mem_cons, List.not_mem_nil, or_false] at e ⊢
      rcases e with e | e | e | e | e <;> simp [e])) q
    refine I.step (g' := s.gens) (d' := s.drawn) (t' := s.toks) (ch := [z, TI, TO, i1, i2, i3]) (fun c hb => ?_) (fun c o _ _ hc q _ => k2 c o hc q) (fun c o _ _ hc q _ => ⟨o.slots, k2 c o hc q⟩)
      (fun c o _ q n => n) (fun c o hc q => ⟨o, k2 c o hc q⟩) (fun c ys q => q) (fun c o v q => q) (fun c ps q => ⟨#[], by rw [q]; simp⟩) (fun m hm => ?_) (fun c v q => ?_) I.bare
    · obtain ⟨f0, f1, f2, f3, f4, f5⟩ := hf c hb
      exact ⟨f3, f1, f4, f5⟩
    · obtain ⟨o, es, ep, q, r⟩ := hm
      exact ⟨o, es, ep, k2 _ o (fun e => (hf _ e).2.1 rfl) q, r⟩
    · refine (I.hok c v q).stay (fun c' o hc r => k2 c' o ?_ r) (fun c' r => r) fun c' ys r => r
      have nch : ∀ c u, H c = some u → c ∉ [z, TI, TO, i1, i2, i3] := fun c u q hb => by
        rw [(hf c hb).1] at q; cases q
      rcases hc with e | e
      · rw [e]; exact nch c v q
      · exact nch c' _ e
  self := fun _ _ _ _ _ st h => wpAny_pyIter_zip st.1 h
section
variable {X : Cx}
def iZip3 (K : PySem.W.Frag) (ta : TA) : TI := fun σ H R => ta σ H fun vs H1 => ∃ a b c xs ys zs, vs = [.ref a, .ref b, .ref c] ∧ SqT K H1 a xs ∧ SqT K H1 b ys ∧ SqT K H1 c zs ∧ R (Itz3 K a b c) H1
theorem a_izip3 {K : PySem.W.Frag} {ta : TA} {σ : St} {H : Hp} {R : It → Hp → Prop} : iZip3 K ta σ H R = ta σ H fun vs H1 => ∃ a b c xs ys zs, vs = [.ref a, .ref b, .ref c] ∧ SqT K H1 a xs ∧ SqT K H1 b ys ∧ SqT K H1 c zs ∧ R (Itz3 K a b c) H1 := rfl
theorem pi_zip3 {elts : List Expr} {tk : Nat} {tpos : Pos} {a b c : Expr} {ta : TA} {p pos : Pos} (hg : Gl X "zip") (hm : X.mg "zip" = none) (ha : PA X [a, b, c] ta) (hs : starEach [a, b, c] X.env = (false, eval a X.env) :: starEach [b, c] X.env := by rfl)
    (hs2 : (backTo pos (starEach [b, c] X.env)).any (·.1) = false := by rfl) :
    PI X (.Tuple elts tk tpos) (.Call (.Name "zip" p) [a, b, c] [] pos) (iZip3 X.K ta) := by
  intro pins s σ H R I h
  refine Call_ (ld_blt I hg hm boot_zip (PyProof.Rows.callWith_type1 (thn (ha pos pins s σ H _ I h) fun us s1 ⟨vs, H1, I1, r1, q1⟩ => ?_) hs hs2))
  obtain ⟨a, b, c, xs, ys, zs, e, hq1, hq2, hq3, q⟩ := q1
  subst e
  cases r1 with
  | cons r rr =>
   cases rr with
   | cons r' rr =>
    cases rr with
    | cons r'' rr =>
    cases rr
    cases r
    cases r'
    cases r''
    have fr : ∀ c, c ∈ [s1.heap.objs.size + 5, s1.heap.objs.size + 3, s1.heap.objs.size + 4, s1.heap.objs.size, s1.heap.objs.size + 1, s1.heap.objs.size + 2] → s1.heap.objs.size ≤ c := fun c hb => by
      simp only [List.mem_cons, List.not_mem_nil, or_false] at hb
      rcases hb with rfl | rfl | rfl | rfl | rfl | rfl <;> omega
    obtain ⟨its1, rv1, pl1, hz1⟩ := I1.tuple hq1
    obtain ⟨its2, rv2, pl2, hz2⟩ := I1.tuple hq2
    obtain ⟨its3, rv3, pl3, hz3⟩ := I1.tuple hq3
    have a1 : a < s1.heap.objs.size := by obtain ⟨_, e, _⟩ := pl1; exact Heap.lt_size e
    have a2 : b < s1.heap.objs.size := by obtain ⟨_, e, _⟩ := pl2; exact Heap.lt_size e
    have a3 : c < s1.heap.objs.size := by obtain ⟨_, e, _⟩ := pl3; exact Heap.lt_size e
    refine call_zip3 pl1 pl2 pl3 fun h1 hz hTI hTO hi1 hi2 hi3 hk => wpAny_pyIter_zip hz ?_
    exact ⟨_, _, _, _, H1, rfl, I1.kept (t' := s1.toks) hk, turn_zip3 a b c _ _ _ _ _ _ (zip3_new a1 a2 a3), ⟨hz, hTI, ⟨_, _, _, hTO⟩, hi1, hi2, hi3⟩, fun c hb => I1.fpOk (fr c hb) (I1.hok.fresh (fr c hb)), q⟩
end
theorem bools_are {bs : List Bool} {us : List Value} : Vals (bs.map V.bl) us → PyProof.Rows.LSm.BoolsAre us bs := by
  induction bs generalizing us with
  | nil => intro h; cases h; exact .nil
  | cons b bs ih => intro h; cases h with | cons r rr => cases r; exact .cons b (ih rr)
section
variable {X : Cx}
theorem call_allL (hc : X.calm = true) : CallR X (.builtin "all") (fun xs H Q => ∃ (p : Addr) (bs : List Bool), xs = [.ref p] ∧ SqL X.K H p (bs.map V.bl) ∧ Q (.bl (bs.all id)) H) := by
  intro pins s σ H xs us Q I r h
  obtain ⟨p, bs, rfl, hq, q⟩ := h
  obtain ⟨u, rfl, rx⟩ := vals1 r
  cases rx
  obtain ⟨its, r', pl, hz⟩ := I.list hq
  have hb := bools_are r'
  have hl := pl.isList
  have hlt : p < s.heap.objs.size := by obtain ⟨_, e, _⟩ := hl; exact Heap.lt_size e
  refine call_all_walk (wpAny_pyIter_list hl ?_)
  refine ⟨s.heap.objs.size, [s.heap.objs.size, p], [s.heap.objs.size], its.toArray.size, _, _, fun i => (bs[i]?).getD true, rfl, Walks.list (A := X.A.in1) (I.ok.hd hc) _ p (Nat.ne_of_lt hlt) its.toArray,
    ⟨⟨_, Heap.get?_push_size _ rfl, rfl, rfl⟩, hl.push _⟩, fun i v s' Q' E' hP hQ => ?_, fun h' tk hk => ?_⟩
  · obtain ⟨b, e, rfl⟩ := hb.get i v (by simpa using hP)
    simp only [e, Option.getD_some] at hQ
    exact wpAny_truthy_bool hQ
  · have e : ((List.range its.toArray.size).all fun i => (bs[i]?).getD true) = bs.all id := by
      rw [List.size_toArray, hb.length]; exact PyProof.Rows.LSm.range_all bs
    rw [e]
    exact ⟨.bl _, H, I.kept (PyProof.Rows.LSm.kept_iter hk), rfl, q⟩
theorem call_isinstC : CallR X (.builtin "isinstance") (fun xs H Q => ∃ x C t b, xs = [x, .ref C] ∧ TyOf X.K H x t ∧ PySem.W.kitOne X.K t (.ref C) = some b ∧ Q (.bl b) H) := by
  intro pins s σ H xs us Q I r h
  obtain ⟨x, C, t, b, rfl, ty, e, q⟩ := h
  cases r with
  | cons r1 rr =>
    cases rr with
    | cons r2 rr =>
      cases rr
      cases r2
      exact isinst_ok I r1 ty e fun tk => ⟨.bl b, H, I.tok _, rfl, q⟩
structure Mk0 (K : PySem.W.Frag) (C : Addr) : Prop where
  makes : PySem.W.makesIn K C = true
  init : PySem.W.findIn K (.ref C) "__init__" = some (some (.builtin "object.__init__"))
  kp : PySem.W.keepIn K (.ref C) = true
def tMake0 (C : Addr) : TE := fun _ H Q => ∀ x dx, H x = none → H dx = none → dx ≠ x → Q (.ref x) (upd (upd H dx (.own x)) x (.ins C dx []))
theorem a_make0 {C : Addr} {σ : St} {H : Hp} {Q : VK} : tMake0 C σ H Q = ∀ x dx, H x = none → H dx = none → dx ≠ x → Q (.ref x) (upd (upd H dx (.own x)) x (.ins C dx [])) := rfl
theorem pe_makeN {C : Addr} {x : Str} {p pos : Pos} (M : Mk0 X.K C) (hg : Gl X x) (hm : X.mg x = some (.ref C)) (hdb : (x == ("__debug__" : Str)) = false := by decide) : PE X (.Call (.Name x p) [] [] pos) (tMake0 C) := by
  intro pins s σ H Q I h
  refine wpAny_Call_Name_kw (ld_glob I hg hm ?_ hdb)
  refine PySem.W.callWith_K0 I.kIn M.kp ?_
  have hq := h (s.heap.objs.size + 1) s.heap.objs.size (I.hok.fresh (Nat.le_succ _)) (I.hok.fresh (Nat.le_refl _)) (Nat.ne_of_lt (Nat.lt_succ_self _))
  have I2 := Inv.made (C := C) I
  refine wpAny_call (make_map0 I.kIn M.makes M.init (fun self => PySem.W.Looks.of_pure (PySem.W.oi_bind self)) ?_)
  have Y := PySem.W.makes_of (M := model X.prog X.w) I.kIn M.makes
  have g1 : ((s.heap.push PySem.W.emptyDict).push (PySem.W.instObj C s.heap.objs.size)).get? (s.heap.objs.size + 1) = some (PySem.W.instObj C s.heap.objs.size) := by
    have := Heap.get?_push_size (s.heap.push PySem.W.emptyDict) (o := PySem.W.instObj C s.heap.objs.size) rfl
    rw [Heap.size_push] at this; exact this
  have t1 : PySem.W.Looks (model X.prog X.w) ((s.heap.push PySem.W.emptyDict).push (PySem.W.instObj C s.heap.objs.size)) (typeOf (.ref (s.heap.objs.size + 1))) (.ref C) := (PySem.W.Looks.ld g1).andThen .now
  have t2 : PySem.W.Looks (model X.prog X.w) ((s.heap.push PySem.W.emptyDict).push (PySem.W.instObj C s.heap.objs.size)) (isInstance (.ref (s.heap.objs.size + 1)) (.type "object")) true := t1.andThen (Y.top.keeps fun b o e => Heap.get?_push_of_some _ (Heap.get?_push_of_some _ e))
  refine codeAny_call_builtin PySem.W.oi_plain PySem.W.entry_oi (@PySem.W.check_slot (model X.prog X.w) _ _ _ "object.__init__" "object" "__init__" (.ref (s.heap.objs.size + 1)) [] [] _ PySem.W.oi_kind PySem.W.oi_split t2 (PySem.W.oi_args (.ref (s.heap.objs.size + 1))) ?_)
  rw [PySem.W.oi_run]
  exact wpAny_pure (And.intro rfl ⟨.ref (s.heap.objs.size + 1), _, I2, rfl, hq⟩)
end
structure OCl (K : PySem.W.Frag) (C : Addr) : Prop where
  cl : PySem.W.findIn K (.ref C) "__class__" = some (some (.builtin "object.__class__"))
  dg : PySem.W.specialIn K (.builtin "object.__class__") "__get__" = some (some (.builtin "getset_descriptor.__get__"))
  dt : PySem.W.takesIn K (.builtin "object.__class__") = some true
  ob : PySem.W.mroIn K C (.type "object") = some true
theorem OCl.ty {K : PySem.W.Frag} {H : Hp} {a C dx : Addr} {fs : List (Str × V)} (o : OCl K C) (c : Cls K C) (e : H a = some (.ins C dx fs)) : TyOf K H (.ref a) (.ref C) := .ins e c o.cl o.dg o.dt o.ob
theorem a_eqS {x y : Str} {H : Hp} {Q : VK} : rEq (.str x) (.str y) H Q = Q (.bl (decide (x = y))) H := by
  unfold rEq
  simp [scal]
end L2
namespace My
def co (xs : List Int) (k : Nat) : Int := xs.getD k 0
end My
namespace My
def sumN : Nat → (Nat → Int) → Int
  | 0, _ => 0
  | n + 1, f => sumN n f + f n
end My
namespace My
def val (n : Int) : List Int → Int
  | [] => 0
  | c :: r => c + n * val n r
def hd (xs : List Int) : Int := xs.headD 0
end My
namespace My
end My
namespace My
end My
namespace My
theorem gcd_split {t b s : Int} (hb : b ≠ 0) (hs : s = if b < 0 then -((Nat.gcd t.natAbs b.natAbs : Nat) : Int) else ((Nat.gcd t.natAbs b.natAbs : Nat) : Int)) :
    s ≠ 0 ∧ s.natAbs = Nat.gcd t.natAbs b.natAbs ∧ t = s * t.fdiv s ∧ b = s * b.fdiv s ∧ 1 ≤ b.fdiv s ∧ Nat.gcd (t.fdiv s).natAbs (b.fdiv s).natAbs = 1 := by
  have gp : 0 < Nat.gcd t.natAbs b.natAbs := Nat.gcd_pos_of_pos_right _ (by omega)
  have sa : s.natAbs = Nat.gcd t.natAbs b.natAbs := by
    rw [hs]; split
    · rw [Int.natAbs_neg, Int.natAbs_natCast]
    · rw [Int.natAbs_natCast]
  have s0 : s ≠ 0 := by intro z; rw [z] at sa; simp at sa; omega
  have dt : s ∣ t := Int.natAbs_dvd_natAbs.mp (by rw [sa]; exact Nat.gcd_dvd_left _ _)
  have db : s ∣ b := Int.natAbs_dvd_natAbs.mp (by rw [sa]; exact Nat.gcd_dvd_right _ _)
  obtain ⟨c, hc⟩ := dt
  obtain ⟨d, hd⟩ := db
  have ec : t.fdiv s = c := by rw [hc]; exact Int.mul_fdiv_cancel_left c s0
  have ed : b.fdiv s = d := by rw [hd]; exact Int.mul_fdiv_cancel_left d s0
  rw [ec, ed]
  refine ⟨s0, sa, hc, hd, ?_, ?_⟩
  · by_cases hn : b < 0
    · rw [if_pos hn] at hs
      have : s < 0 := by omega
      rcases Int.lt_or_le 0 d with h | h
      · omega
      · have := Int.mul_nonneg_of_nonpos_of_nonpos (Int.le_of_lt this) h
        omega
    · rw [if_neg hn] at hs
      have : 0 < s := by omega
      rcases Int.lt_or_le 0 d with h | h
      · omega
      · have := Int.mul_nonpos_of_nonneg_of_nonpos (Int.le_of_lt this) h
        omega
  · have e1 : t.natAbs = s.natAbs * c.natAbs := by rw [← Int.natAbs_mul, ← hc]
    have e2 : b.natAbs = s.natAbs * d.natAbs := by rw [← Int.natAbs_mul, ← hd]
    have e3 := sa
    rw [e1, e2, Nat.gcd_mul_left] at e3
    have sp : 0 < s.natAbs := by omega
    exact Nat.eq_of_mul_eq_mul_left sp (by omega)
theorem fdiv_le {t s : Int} (s0 : s ≠ 0) (h : t = s * t.fdiv s) : (t.fdiv s).natAbs ≤ t.natAbs := by
  have e : t.natAbs = s.natAbs * (t.fdiv s).natAbs := by rw [← Int.natAbs_mul, ← h]
  rw [e]
  exact Nat.le_mul_of_pos_left _ (by omega)
end My
namespace My
def pm (f g : Nat → Int) (k : Nat) : Int := sumN (k + 1) fun j => f j * g (k - j)
end My
namespace My
end My
namespace My
end My
namespace My
def sh (g : Nat → Int) (j : Nat) : Int := if j = 0 then 0 else g (j - 1)
def ev (p : Int) (f : Nat → Int) : Nat → Nat → Int
  | 0, _ => 0
  | n + 1, s => f s + p * ev p f n (s + 1)
theorem ev_lin (p a b : Int) (f g : Nat → Int) : ∀ n s, ev p (fun j => a * f j - b * g j) n s = a * ev p f n s - b * ev p g n s
  | 0, _ => by simp [ev]
  | n + 1, s => by
    simp only [ev]
    rw [ev_lin p a b f g n (s + 1), Int.mul_sub, Int.mul_add, Int.mul_add, ← Int.mul_assoc p a, ← Int.mul_assoc p b, Int.mul_comm p a, Int.mul_comm p b, Int.mul_assoc, Int.mul_assoc]
    omega
theorem down (p : Int) {K Z : Nat → Int} {e : Nat} (hK : ∀ j, e + 1 ≤ j → K j = 0) (hZ : ∀ j, e ≤ j → Z j = 0) :
    ∃ Z' : Nat → Int, (∀ j, e ≤ j → Z' j = 0) ∧ ∀ j, p * Z' j - sh Z' j = ev p K (e + 1) 0 * Z j - ev p Z (e + 1) 0 * K j := by
  let k0 := ev p K (e + 1) 0
  let z0 := ev p Z (e + 1) 0
  let F : Nat → Int := fun j => k0 * Z j - z0 * K j
  let v : Nat → Int := fun j => ev p F (e + 1 - j) j
  have hF : ∀ j, e + 1 ≤ j → F j = 0 := fun j hj => by show k0 * Z j - z0 * K j = 0; rw [hZ j (by omega), hK j hj]; simp
  have hv : ∀ j, v j = F j + p * v (j + 1) := fun j => by
    show ev p F (e + 1 - j) j = F j + p * ev p F (e + 1 - (j + 1)) (j + 1)
    by_cases h : j ≤ e
    · rw [show e + 1 - j = (e - j) + 1 by omega, show e + 1 - (j + 1) = e - j by omega]; rfl
    · rw [show e + 1 - j = 0 by omega, show e + 1 - (j + 1) = 0 by omega, hF j (by omega)]; simp [ev]
  have h0 : v 0 = 0 := by
    show ev p (fun j => k0 * Z j - z0 * K j) (e + 1) 0 = 0
    rw [ev_lin]
    show k0 * z0 - z0 * k0 = 0
    rw [Int.mul_comm]; omega
  refine ⟨fun j => - v (j + 1), fun j hj => ?_, fun j => ?_⟩
  · show - ev p F (e + 1 - (j + 1)) (j + 1) = 0
    rw [show e + 1 - (j + 1) = 0 by omega]; rfl
  · show p * (- v (j + 1)) - sh (fun j => - v (j + 1)) j = F j
    have a := hv j
    unfold sh
    by_cases h : j = 0
    · subst h
      rw [if_pos rfl]
      rw [h0] at a
      rw [Int.mul_neg]; omega
    · rw [if_neg h]
      show p * (- v (j + 1)) - (- v (j - 1 + 1)) = F j
      rw [show j - 1 + 1 = j by omega, Int.mul_neg]; omega
section
variable {p : Int} {K L : Nat → Int} {e t M : Nat} (he : 1 ≤ e) (hK : ∀ j, e + 1 ≤ j → K j = 0) (kt : K e ≠ 0) (hL : ∀ j, t + 1 ≤ j → L j = 0) (lt : L t ≠ 0) (hM : ∀ j, (pm L K j).natAbs ≤ M) (hp : (ev p K (e + 1) 0).natAbs + M + 1 < p.natAbs)
include he hK kt hL lt hM hp
end
end My
namespace My
end My
namespace My
end My
namespace My
end My
namespace My
def asc (a : Nat) : Nat → Nat
  | 0 => 1
  | n + 1 => asc a n * (a + n + 1)
def fct : Nat → Nat
  | 0 => 1
  | n + 1 => fct n * (n + 1)
def chs : Nat → Nat → Nat
  | _, 0 => 1
  | 0, _ + 1 => 0
  | n + 1, k + 1 => chs n k + chs n (k + 1)
theorem chs_zero (n : Nat) : chs n 0 = 1 := by cases n <;> rfl
theorem chs_succ (n k : Nat) : chs (n + 1) (k + 1) = chs n k + chs n (k + 1) := rfl
theorem chs_big : ∀ (n k : Nat), n < k → chs n k = 0
  | 0, k + 1, _ => rfl
  | n + 1, k + 1, h => by rw [chs_succ, chs_big n k (by omega), chs_big n (k + 1) (by omega)]
theorem chs_self : ∀ n : Nat, chs n n = 1
  | 0 => rfl
  | n + 1 => by rw [chs_succ, chs_self n, chs_big n (n + 1) (by omega)]
theorem fct_pos : ∀ n : Nat, 0 < fct n
  | 0 => by decide
  | n + 1 => Nat.mul_pos (fct_pos n) (by omega)
theorem asc_zero : ∀ n : Nat, asc 0 n = fct n
  | 0 => rfl
  | n + 1 => by simp only [asc, fct]; rw [asc_zero n]; simp
theorem asc_front (a : Nat) : ∀ n : Nat, asc a (n + 1) = (a + 1) * asc (a + 1) n
  | 0 => by simp [asc]
  | n + 1 => by
    have ih := asc_front a n
    have e1 : asc a (n + 1 + 1) = asc a (n + 1) * (a + (n + 1) + 1) := rfl
    have e2 : asc (a + 1) (n + 1) = asc (a + 1) n * (a + 1 + n + 1) := rfl
    rw [e1, ih, e2, show a + (n + 1) + 1 = a + 1 + n + 1 by omega, Nat.mul_assoc]
theorem asc_app (a : Nat) (m : Nat) : ∀ n : Nat, asc a (m + n) = asc a m * asc (a + m) n
  | 0 => by simp [asc]
  | n + 1 => by
    have ih := asc_app a m n
    have e1 : asc a (m + (n + 1)) = asc a (m + n) * (a + (m + n) + 1) := rfl
    have e2 : asc (a + m) (n + 1) = asc (a + m) n * (a + m + n + 1) := rfl
    rw [e1, ih, e2, show a + (m + n) + 1 = a + m + n + 1 by omega, Nat.mul_assoc]
theorem asc_chs : ∀ (n a : Nat), asc a n = chs (a + n) n * fct n
  | 0, a => by simp [asc, chs_zero, fct]
  | n + 1, 0 => by rw [asc_zero, Nat.zero_add, chs_self, Nat.one_mul]
  | n + 1, a + 1 => by
    have h1 := asc_chs n (a + 1)
    have h2 := asc_chs (n + 1) a
    have e1 : asc (a + 1) (n + 1) = asc (a + 1) n * (a + 1 + n + 1) := rfl
    have e2 : chs (a + 1 + (n + 1)) (n + 1) = chs (a + 1 + n) n + chs (a + 1 + n) (n + 1) := rfl
    have e3 : fct (n + 1) = fct n * (n + 1) := rfl
    have f := asc_front a n
    rw [show a + (n + 1) = a + 1 + n by omega] at h2
    rw [e1, e2, Nat.add_mul, ← h2, f, h1, e3]
    generalize chs (a + 1 + n) n = c
    generalize fct n = t
    grind
theorem chs_div (n a : Nat) : asc a n / fct n = chs (a + n) n := by
  rw [asc_chs, Nat.mul_div_cancel _ (fct_pos n)]
theorem chs_sym (a b : Nat) : chs (a + b) a = chs (a + b) b := by
  have h1 := asc_chs b a
  have h2 := asc_chs a b
  have e1 := asc_app 0 a b
  have e2 := asc_app 0 b a
  rw [Nat.zero_add, asc_zero, asc_zero] at e1 e2
  rw [Nat.add_comm b a] at e2 h2
  rw [h1] at e1
  rw [h2] at e2
  rw [e1] at e2
  have e3 : (fct a * fct b) * chs (a + b) b = (fct a * fct b) * chs (a + b) a := by
    generalize fct a = x at e2 ⊢
    generalize fct b = y at e2 ⊢
    generalize chs (a + b) b = u at e2 ⊢
    generalize chs (a + b) a = v at e2 ⊢
    grind
  exact (Nat.eq_of_mul_eq_mul_left (Nat.mul_pos (fct_pos a) (fct_pos b)) e3).symm
theorem chs_step (a t : Nat) : chs (a + t) t * (a + t + 1) = chs (a + (t + 1)) (t + 1) * (t + 1) := by
  have h1 := asc_chs t a
  have h2 := asc_chs (t + 1) a
  have e1 : asc a (t + 1) = asc a t * (a + t + 1) := rfl
  have e2 : fct (t + 1) = fct t * (t + 1) := rfl
  rw [e1, h1, e2] at h2
  refine Nat.eq_of_mul_eq_mul_left (fct_pos t) ?_
  generalize chs (a + (t + 1)) (t + 1) = u at h2 ⊢
  generalize chs (a + t) t = v at h2 ⊢
  generalize fct t = x at h2 ⊢
  grind
theorem chs_next (a t : Nat) : chs (a + t) t * (a + t + 1) / (t + 1) = chs (a + (t + 1)) (t + 1) := by
  rw [chs_step, Nat.mul_div_cancel _ (by omega)]
theorem choices_is (a b : Nat) : asc (a + b - min a b) (min a b) / fct (min a b) = chs (a + b) b := by
  rw [chs_div, show a + b - min a b + min a b = a + b by omega]
  by_cases h : a ≤ b
  · rw [Nat.min_eq_left h, chs_sym]
  · rw [Nat.min_eq_right (by omega)]
theorem chs_lt : ∀ (n k : Nat), chs n k ≤ 2 ^ n
  | 0, 0 => by decide
  | 0, _ + 1 => by simp [chs]
  | n + 1, 0 => by rw [chs_zero]; exact Nat.pow_pos (by decide)
  | n + 1, k + 1 => by
    have h1 := chs_lt n k
    have h2 := chs_lt n (k + 1)
    rw [chs_succ, Nat.pow_succ]; omega
theorem cop_cross {a b c d l r : Nat} (hb : 0 < b) (hd : 0 < d) (h1 : Nat.gcd a b = 1) (h2 : Nat.gcd c d = 1) (hl : l = Nat.gcd a d) (hr : r = Nat.gcd c b) : Nat.gcd (a / l * (c / r)) (b / r * (d / l)) = 1 := by
  have lp : 0 < l := by rw [hl]; exact Nat.gcd_pos_of_pos_right _ hd
  have rp : 0 < r := by rw [hr]; exact Nat.gcd_pos_of_pos_right _ hb
  have la : l ∣ a := by rw [hl]; exact Nat.gcd_dvd_left _ _
  have ld : l ∣ d := by rw [hl]; exact Nat.gcd_dvd_right _ _
  have rc : r ∣ c := by rw [hr]; exact Nat.gcd_dvd_left _ _
  have rb : r ∣ b := by rw [hr]; exact Nat.gcd_dvd_right _ _
  have c1 : Nat.Coprime (a / l) (d / l) := by rw [hl]; exact Nat.coprime_div_gcd_div_gcd (by rw [← hl]; exact lp)
  have c2 : Nat.Coprime (c / r) (b / r) := by rw [hr]; exact Nat.coprime_div_gcd_div_gcd (by rw [← hr]; exact rp)
  have c3 : Nat.Coprime (a / l) (b / r) := Nat.Coprime.coprime_dvd_left (Nat.div_dvd_of_dvd la) (Nat.Coprime.coprime_dvd_right (Nat.div_dvd_of_dvd rb) h1)
  have c4 : Nat.Coprime (c / r) (d / l) := Nat.Coprime.coprime_dvd_left (Nat.div_dvd_of_dvd rc) (Nat.Coprime.coprime_dvd_right (Nat.div_dvd_of_dvd ld) h2)
  exact Nat.Coprime.mul_left (Nat.Coprime.mul_right c3 c1) (Nat.Coprime.mul_right c2 c4)
end My
namespace My
open PySem PySem.Spec PyProof.Rows L2
local macro_rules | `(tactic| k_units) => `(tactic| ((try dsimp only [a_fld, a_sfld, a_meth, a_make, a_maxD, a_inS, a_ipC, a_izip, a_tComp2, a_izip3, a_tComp3, a_make0, a_eqS, a_tryAs, a_drop_nx, a_raise, a_try, a_fst, a_compIf, a_seq, a_next, a_brk, a_cnt, a_drop, a_ret, a_retN, a_if, a_asg, a_gname, a_gsub, a_gtup, a_gnil, a_gcons, a_aug, a_augS, a_ipI, a_var, a_c, a_op, a_un, a_rI, a_rI0, a_rU, a_eqI, a_neI, a_eqB, a_neB, a_tB, a_test, a_and, a_or, a_not, a_andV, a_orV, a_notV, a_ifE, a_chain, a_nil, a_cons, a_lst, a_tup, a_call, a_cb, a_bm0, a_bm, a_sl, a_nopart, a_part, a_tyI, a_for, a_comp, a_ilist, a_itup, a_irng1, a_irng2, a_irng3, a_cxK, a_irev, a_ienum, a_cat, a_rep, a_pop, a_clear, a_rslL, a_ixL, a_ixT, a_setL, a_app]); (try simp only [a_fld, a_sfld, a_meth, a_make, a_maxD, a_inS, a_ipC, a_izip, a_tComp2, a_izip3, a_tComp3, a_make0, a_eqS, V.str.injEq, a_tryAs, a_drop_nx, a_raise, a_try, a_fst, a_compIf, a_seq, a_next, a_brk, a_cnt, a_drop, a_ret, a_retN, a_if, a_asg, a_gname, a_gsub, a_gtup, a_gnil, a_gcons, a_aug, a_augS, a_ipI, a_var, a_c, a_op, a_un, a_rI, a_rI0, a_rU, a_eqI, a_neI, a_eqB, a_neB, a_tB, a_test, a_and, a_or, a_not, a_andV, a_orV, a_notV, a_ifE, a_chain, a_nil, a_cons, a_lst, a_tup, a_call, a_cb, a_bm0, a_bm, a_sl, a_nopart, a_part, a_tyI, a_for, a_comp, a_ilist, a_itup, a_irng1, a_irng2, a_irng3, a_cxK, and_assoc, a_irev, a_ienum, a_cat, a_rep, a_pop, a_clear, a_rslL, a_ixL, a_ixT, a_setL, a_app, List.getElem?_cons_zero, List.getElem?_cons_succ, List.set_cons_zero, List.set_cons_succ, Option.some.injEq, V.int.injEq, V.bl.injEq, V.ref.injEq, V.ty.injEq, exists_eq_left', exists_eq_left, exists_and_left, decide_eq_true_eq, List.cons_append, List.nil_append, List.append_nil, List.cons.injEq, and_true, true_and, Bool.not_eq_true', decide_eq_false_iff_not, ite_true, ite_false, Bool.false_eq_true, if_true, if_false, List.length_cons, List.length_nil, L2.start, List.map_cons, List.map_nil, List.replicate_succ, List.replicate_zero])))
local macro_rules | `(tactic| k_typeOf) => `(tactic| ((try dsimp only [a_fld, a_sfld, a_meth, a_make, a_maxD, a_inS, a_ipC, a_izip, a_tComp2, a_izip3, a_tComp3, a_make0, a_eqS, a_tryAs, a_drop_nx, a_raise, a_try, a_fst, a_compIf, a_next, a_brk, a_cnt, a_drop, a_ret, a_retN, a_if, a_asg, a_gname, a_gsub, a_gtup, a_gnil, a_gcons, a_aug, a_augS, a_ipI, a_var, a_c, a_op, a_un, a_rI, a_rI0, a_rU, a_eqI, a_neI, a_eqB, a_neB, a_tB, a_test, a_and, a_or, a_not, a_andV, a_orV, a_notV, a_ifE, a_chain, a_nil, a_cons, a_lst, a_tup, a_call, a_cb, a_bm0, a_bm, a_sl, a_nopart, a_part, a_tyI, a_for, a_comp, a_ilist, a_itup, a_irng1, a_irng2, a_irng3, a_cxK, a_irev, a_ienum, a_cat, a_rep, a_pop, a_clear, a_rslL, a_ixL, a_ixT, a_setL, a_app]); (try simp only [a_fld, a_sfld, a_meth, a_make, a_maxD, a_inS, a_ipC, a_izip, a_tComp2, a_izip3, a_tComp3, a_make0, a_eqS, V.str.injEq, a_tryAs, a_drop_nx, a_raise, a_try, a_fst, a_compIf, a_next, a_brk, a_cnt, a_drop, a_ret, a_retN, a_if, a_asg, a_gname, a_gsub, a_gtup, a_gnil, a_gcons, a_aug, a_augS, a_ipI, a_var, a_c, a_op, a_un, a_rI, a_rI0, a_rU, a_eqI, a_neI, a_eqB, a_neB, a_tB, a_test, a_and, a_or, a_not, a_andV, a_orV, a_notV, a_ifE, a_chain, a_nil, a_cons, a_lst, a_tup, a_call, a_cb, a_bm0, a_bm, a_sl, a_nopart, a_part, a_tyI, a_for, a_comp, a_ilist, a_itup, a_irng1, a_irng2, a_irng3, a_cxK, and_assoc, a_irev, a_ienum, a_cat, a_rep, a_pop, a_clear, a_rslL, a_ixL, a_ixT, a_setL, a_app, List.getElem?_cons_zero, List.getElem?_cons_succ, List.set_cons_zero, List.set_cons_succ, Option.some.injEq, V.int.injEq, V.bl.injEq, V.ref.injEq, V.ty.injEq, exists_eq_left', exists_eq_left, exists_and_left, decide_eq_true_eq, List.cons_append, List.nil_append, List.append_nil, List.cons.injEq, and_true, true_and, Bool.not_eq_true', decide_eq_false_iff_not, ite_true, ite_false, Bool.false_eq_true, if_true, if_false, List.length_cons, List.length_nil, L2.start, List.map_cons, List.map_nil, List.replicate_succ, List.replicate_zero])))
theorem sc_divisor : FnScope ["one", "other", "big", "small", "pair", "rest"] ["one", "other"] (defScope s_divisor) := ⟨rfl, rfl, rfl, by decide +kernel, rfl, by decide +kernel, by decide +kernel⟩
theorem sc_ratio : FnScope ["top", "bottom", "shared"] ["top", "bottom"] (defScope s_ratio) := ⟨rfl, rfl, rfl, by decide +kernel, rfl, by decide +kernel, by decide +kernel⟩
theorem sc_form_value : FnScope ["form", "n", "k"] ["form", "n", "k"] (defScope s_form_value) := ⟨rfl, rfl, rfl, by decide +kernel, rfl, by decide +kernel, by decide +kernel⟩
theorem sc_raised : FnScope ["form", "by"] ["form", "by"] (defScope s_raised) := ⟨rfl, rfl, rfl, by decide +kernel, rfl, by decide +kernel, by decide +kernel⟩
theorem sc_low_forms : FnScope ["upper", "lower"] ["upper", "lower"] (defScope s_low_forms) := ⟨rfl, rfl, rfl, by decide +kernel, rfl, by decide +kernel, by decide +kernel⟩
theorem sc_power_of : FnScope ["number", "exponent", "answer", "step"] ["number", "exponent"] (defScope s_power_of) := ⟨rfl, rfl, rfl, by decide +kernel, rfl, by decide +kernel, by decide +kernel⟩
theorem sc_run_product : FnScope ["low", "high", "answer", "number", "middle"] ["low", "high"] (defScope s_run_product) := ⟨rfl, rfl, rfl, by decide +kernel, rfl, by decide +kernel, by decide +kernel⟩
theorem sc_choices : FnScope ["one", "other", "few"] ["one", "other"] (defScope s_choices) := ⟨rfl, rfl, rfl, by decide +kernel, rfl, by decide +kernel, by decide +kernel⟩
theorem sc_within : FnScope ["form", "least"] ["form", "least"] (defScope s_within) := ⟨rfl, rfl, rfl, by decide +kernel, rfl, by decide +kernel, by decide +kernel⟩
theorem sc_check_choose : FnScope ["upper", "lower", "low"] ["upper", "lower"] (defScope s_check_choose) := ⟨rfl, rfl, rfl, by decide +kernel, rfl, by decide +kernel, by decide +kernel⟩
theorem sc_check_base : FnScope ["fraction"] ["fraction"] (defScope s_check_base) := ⟨rfl, rfl, rfl, by decide +kernel, rfl, by decide +kernel, by decide +kernel⟩
theorem sc_piece_of : FnScope ["part"] ["part"] (defScope s_piece_of) := ⟨rfl, rfl, rfl, by decide +kernel, rfl, by decide +kernel, by decide +kernel⟩
theorem sc_product : FnScope ["fractions", "top", "bottom", "fraction", "left", "right"] ["fractions"] (defScope s_product) := ⟨rfl, rfl, rfl, by decide +kernel, rfl, by decide +kernel, by decide +kernel⟩
theorem sc__law_cell_at : FnScope ["_law_script", "_law_k"] ["_law_script", "_law_k"] (defScope s__law_cell_at) := ⟨rfl, rfl, rfl, by decide +kernel, rfl, by decide +kernel, by decide +kernel⟩
theorem sc__law_number : FnScope ["_law_cell", "_law_most"] ["_law_cell", "_law_most"] (defScope s__law_number) := ⟨rfl, rfl, rfl, by decide +kernel, rfl, by decide +kernel, by decide +kernel⟩
theorem sc__law_whole : FnScope ["_law_found"] ["_law_found"] (defScope s__law_whole) := ⟨rfl, rfl, rfl, by decide +kernel, rfl, by decide +kernel, by decide +kernel⟩
theorem sc__law_divisor : FnScope ["_law_one", "_law_other", "_law_rest"] ["_law_one", "_law_other"] (defScope s__law_divisor) := ⟨rfl, rfl, rfl, by decide +kernel, rfl, by decide +kernel, by decide +kernel⟩
theorem sc__law_mixed : FnScope ["_law_cell", "_law_k", "_law_number_here", "_law_time"] ["_law_cell", "_law_k"] (defScope s__law_mixed) := ⟨rfl, rfl, rfl, by decide +kernel, rfl, by decide +kernel, by decide +kernel⟩
theorem sc__law_forms : FnScope ["_law_one", "_law_other", "_law_most", "_law_high", "_law_low"] ["_law_one", "_law_other", "_law_most"] (defScope s__law_forms) := ⟨rfl, rfl, rfl, by decide +kernel, rfl, by decide +kernel, by decide +kernel⟩
theorem sc__law_ratio : FnScope ["_law_one", "_law_other", "_law_top", "_law_number_here", "_law_bottom", "_law_by"] ["_law_one", "_law_other"] (defScope s__law_ratio) := ⟨rfl, rfl, rfl, by decide +kernel, rfl, by decide +kernel, by decide +kernel⟩
theorem sc__law_part : FnScope ["_law_cells", "_law_most", "_law_way"] ["_law_cells", "_law_most"] (defScope s__law_part) := ⟨rfl, rfl, rfl, by decide +kernel, rfl, by decide +kernel, by decide +kernel⟩
theorem sc__law_parts : FnScope ["_law_script", "_law_mosts", "_law_found", "_law_k", "_law_part_here"] ["_law_script", "_law_mosts"] (defScope s__law_parts) := ⟨rfl, rfl, rfl, by decide +kernel, rfl, by decide +kernel, by decide +kernel⟩
theorem sc__law_at : FnScope ["_law_form", "_law_n", "_law_k"] ["_law_form", "_law_n", "_law_k"] (defScope s__law_at) := ⟨rfl, rfl, rfl, by decide +kernel, rfl, by decide +kernel, by decide +kernel⟩
theorem sc__law_power : FnScope ["_law_fraction", "_law_many", "_law_top", "_law_bottom", "_law_time"] ["_law_fraction", "_law_many"] (defScope s__law_power) := ⟨rfl, rfl, rfl, by decide +kernel, rfl, by decide +kernel, by decide +kernel⟩
theorem sc__law_ways : FnScope ["_law_low", "_law_rest", "_law_found", "_law_t"] ["_law_low", "_law_rest"] (defScope s__law_ways) := ⟨rfl, rfl, rfl, by decide +kernel, rfl, by decide +kernel, by decide +kernel⟩
theorem sc__law_worth : FnScope ["_law_part_here", "_law_n", "_law_k", "_law_low"] ["_law_part_here", "_law_n", "_law_k"] (defScope s__law_worth) := ⟨rfl, rfl, rfl, by decide +kernel, rfl, by decide +kernel, by decide +kernel⟩
theorem sc__law_alike : FnScope ["_law_found", "_law_due"] ["_law_found", "_law_due"] (defScope s__law_alike) := ⟨rfl, rfl, rfl, by decide +kernel, rfl, by decide +kernel, by decide +kernel⟩
theorem sc__law_made : FnScope ["_law_part_here"] ["_law_part_here"] (defScope s__law_made) := ⟨rfl, rfl, rfl, by decide +kernel, rfl, by decide +kernel, by decide +kernel⟩
theorem sc__law_point : FnScope ["_law_term", "_law_parts_here", "_law_made_here", "_law_n", "_law_k", "_law_due", "_law_part_here", "_law_one", "_law_worth_here"] ["_law_term", "_law_parts_here", "_law_made_here", "_law_n", "_law_k"] (defScope s__law_point) := ⟨rfl, rfl, rfl, by decide +kernel, rfl, by decide +kernel, by decide +kernel⟩
theorem sc__law_far : FnScope ["_law_script", "_law_parts_here", "_law_number_here", "_law_top", "_law_bottom", "_law_by", "_law_some", "_law_n", "_law_k"] ["_law_script", "_law_parts_here"] (defScope s__law_far) := ⟨rfl, rfl, rfl, by decide +kernel, rfl, by decide +kernel, by decide +kernel⟩
theorem sc_law : FnScope ["_law_script", "_law_parts_here", "_law_handed", "_law_term", "_law_made_here", "_law_points", "_law_cell", "_law_number_here", "_law_n", "_law_k", "_law_told"] ["_law_script"] (defScope s_law) := ⟨rfl, rfl, rfl, by decide +kernel, rfl, by decide +kernel, by decide +kernel⟩
theorem sc_Part_worth : FnScope ["self", "n", "k"] ["self", "n", "k"] (defScope s_Part_worth) := ⟨rfl, rfl, rfl, by decide +kernel, rfl, by decide +kernel, by decide +kernel⟩
theorem sc_Choose___init__ : FnScope ["self", "upper", "lower"] ["self", "upper", "lower"] (defScope s_Choose___init__) := ⟨rfl, rfl, rfl, by decide +kernel, rfl, by decide +kernel, by decide +kernel⟩
theorem sc_Choose_lifted : FnScope ["self", "far"] ["self", "far"] (defScope s_Choose_lifted) := ⟨rfl, rfl, rfl, by decide +kernel, rfl, by decide +kernel, by decide +kernel⟩
theorem sc_Choose_worth : FnScope ["self", "n", "k"] ["self", "n", "k"] (defScope s_Choose_worth) := ⟨rfl, rfl, rfl, by decide +kernel, rfl, by decide +kernel, by decide +kernel⟩
theorem sc_Choose_floor : FnScope ["self", "n", "k", "far", "above", "below"] ["self", "n", "k", "far"] (defScope s_Choose_floor) := ⟨rfl, rfl, rfl, by decide +kernel, rfl, by decide +kernel, by decide +kernel⟩
theorem sc_Weight___init__ : FnScope ["self", "form"] ["self", "form"] (defScope s_Weight___init__) := ⟨rfl, rfl, rfl, by decide +kernel, rfl, by decide +kernel, by decide +kernel⟩
theorem sc_Weight_worth : FnScope ["self", "n", "k"] ["self", "n", "k"] (defScope s_Weight_worth) := ⟨rfl, rfl, rfl, by decide +kernel, rfl, by decide +kernel, by decide +kernel⟩
theorem sc_Power___init__ : FnScope ["self", "fraction"] ["self", "fraction"] (defScope s_Power___init__) := ⟨rfl, rfl, rfl, by decide +kernel, rfl, by decide +kernel, by decide +kernel⟩
theorem sc_Power_worth : FnScope ["self", "n", "k"] ["self", "n", "k"] (defScope s_Power_worth) := ⟨rfl, rfl, rfl, by decide +kernel, rfl, by decide +kernel, by decide +kernel⟩
theorem sc_Growth___init__ : FnScope ["self", "fraction"] ["self", "fraction"] (defScope s_Growth___init__) := ⟨rfl, rfl, rfl, by decide +kernel, rfl, by decide +kernel, by decide +kernel⟩
theorem sc_Growth_worth : FnScope ["self", "n", "k"] ["self", "n", "k"] (defScope s_Growth_worth) := ⟨rfl, rfl, rfl, by decide +kernel, rfl, by decide +kernel, by decide +kernel⟩
theorem sc_Term___init__ : FnScope ["self", "parts"] ["self", "parts"] (defScope s_Term___init__) := ⟨rfl, rfl, rfl, by decide +kernel, rfl, by decide +kernel, by decide +kernel⟩
theorem sc_Term_told : FnScope ["self"] ["self"] (defScope s_Term_told) := ⟨rfl, rfl, rfl, by decide +kernel, rfl, by decide +kernel, by decide +kernel⟩
theorem sc_Term_worth : FnScope ["self", "n", "k"] ["self", "n", "k"] (defScope s_Term_worth) := ⟨rfl, rfl, rfl, by decide +kernel, rfl, by decide +kernel, by decide +kernel⟩
set_option genInjectivity false in
set_option genSizeOf false in
structure Tx (K : PySem.W.Frag) (mg : Str → Option Value) where
  a_divisor : Addr
  fd_divisor : FuncData
  F_divisor : Fun K "divisor" "divisor" s_divisor a_divisor fd_divisor
  m_divisor : mg "divisor" = some (.ref a_divisor)
  b_divisor : Binds K fd_divisor ["one", "other"] []
  a_ratio : Addr
  fd_ratio : FuncData
  F_ratio : Fun K "ratio" "ratio" s_ratio a_ratio fd_ratio
  m_ratio : mg "ratio" = some (.ref a_ratio)
  b_ratio : Binds K fd_ratio ["top", "bottom"] []
  a_form_value : Addr
  fd_form_value : FuncData
  F_form_value : Fun K "form_value" "form_value" s_form_value a_form_value fd_form_value
  m_form_value : mg "form_value" = some (.ref a_form_value)
  b_form_value : Binds K fd_form_value ["form", "n", "k"] []
  a_raised : Addr
  fd_raised : FuncData
  F_raised : Fun K "raised" "raised" s_raised a_raised fd_raised
  m_raised : mg "raised" = some (.ref a_raised)
  b_raised : Binds K fd_raised ["form", "by"] []
  a_low_forms : Addr
  fd_low_forms : FuncData
  F_low_forms : Fun K "low_forms" "low_forms" s_low_forms a_low_forms fd_low_forms
  m_low_forms : mg "low_forms" = some (.ref a_low_forms)
  b_low_forms : Binds K fd_low_forms ["upper", "lower"] []
  a_power_of : Addr
  fd_power_of : FuncData
  F_power_of : Fun K "power_of" "power_of" s_power_of a_power_of fd_power_of
  m_power_of : mg "power_of" = some (.ref a_power_of)
  b_power_of : Binds K fd_power_of ["number", "exponent"] []
  a_run_product : Addr
  fd_run_product : FuncData
  F_run_product : Fun K "run_product" "run_product" s_run_product a_run_product fd_run_product
  m_run_product : mg "run_product" = some (.ref a_run_product)
  b_run_product : Binds K fd_run_product ["low", "high"] []
  a_choices : Addr
  fd_choices : FuncData
  F_choices : Fun K "choices" "choices" s_choices a_choices fd_choices
  m_choices : mg "choices" = some (.ref a_choices)
  b_choices : Binds K fd_choices ["one", "other"] []
  a_within : Addr
  fd_within : FuncData
  F_within : Fun K "within" "within" s_within a_within fd_within
  m_within : mg "within" = some (.ref a_within)
  b_within : Binds K fd_within ["form", "least"] []
  a_check_choose : Addr
  fd_check_choose : FuncData
  F_check_choose : Fun K "check_choose" "check_choose" s_check_choose a_check_choose fd_check_choose
  m_check_choose : mg "check_choose" = some (.ref a_check_choose)
  b_check_choose : Binds K fd_check_choose ["upper", "lower"] []
  a_check_base : Addr
  fd_check_base : FuncData
  F_check_base : Fun K "check_base" "check_base" s_check_base a_check_base fd_check_base
  m_check_base : mg "check_base" = some (.ref a_check_base)
  b_check_base : Binds K fd_check_base ["fraction"] []
  a_piece_of : Addr
  fd_piece_of : FuncData
  F_piece_of : Fun K "piece_of" "piece_of" s_piece_of a_piece_of fd_piece_of
  m_piece_of : mg "piece_of" = some (.ref a_piece_of)
  b_piece_of : Binds K fd_piece_of ["part"] []
  a_product : Addr
  fd_product : FuncData
  F_product : Fun K "product" "product" s_product a_product fd_product
  m_product : mg "product" = some (.ref a_product)
  b_product : Binds K fd_product ["fractions"] []
  a__law_cell_at : Addr
  fd__law_cell_at : FuncData
  F__law_cell_at : Fun K "_law_cell_at" "_law_cell_at" s__law_cell_at a__law_cell_at fd__law_cell_at
  m__law_cell_at : mg "_law_cell_at" = some (.ref a__law_cell_at)
  b__law_cell_at : Binds K fd__law_cell_at ["_law_script", "_law_k"] []
  a__law_number : Addr
  fd__law_number : FuncData
  F__law_number : Fun K "_law_number" "_law_number" s__law_number a__law_number fd__law_number
  m__law_number : mg "_law_number" = some (.ref a__law_number)
  b__law_number : Binds K fd__law_number ["_law_cell", "_law_most"] []
  a__law_whole : Addr
  fd__law_whole : FuncData
  F__law_whole : Fun K "_law_whole" "_law_whole" s__law_whole a__law_whole fd__law_whole
  m__law_whole : mg "_law_whole" = some (.ref a__law_whole)
  b__law_whole : Binds K fd__law_whole ["_law_found"] []
  a__law_divisor : Addr
  fd__law_divisor : FuncData
  F__law_divisor : Fun K "_law_divisor" "_law_divisor" s__law_divisor a__law_divisor fd__law_divisor
  m__law_divisor : mg "_law_divisor" = some (.ref a__law_divisor)
  b__law_divisor : Binds K fd__law_divisor ["_law_one", "_law_other"] []
  a__law_mixed : Addr
  fd__law_mixed : FuncData
  F__law_mixed : Fun K "_law_mixed" "_law_mixed" s__law_mixed a__law_mixed fd__law_mixed
  m__law_mixed : mg "_law_mixed" = some (.ref a__law_mixed)
  b__law_mixed : Binds K fd__law_mixed ["_law_cell", "_law_k"] []
  a__law_forms : Addr
  fd__law_forms : FuncData
  F__law_forms : Fun K "_law_forms" "_law_forms" s__law_forms a__law_forms fd__law_forms
  m__law_forms : mg "_law_forms" = some (.ref a__law_forms)
  b__law_forms : Binds K fd__law_forms ["_law_one", "_law_other", "_law_most"] []
  a__law_ratio : Addr
  fd__law_ratio : FuncData
  F__law_ratio : Fun K "_law_ratio" "_law_ratio" s__law_ratio a__law_ratio fd__law_ratio
  m__law_ratio : mg "_law_ratio" = some (.ref a__law_ratio)
  b__law_ratio : Binds K fd__law_ratio ["_law_one", "_law_other"] []
  a__law_part : Addr
  fd__law_part : FuncData
  F__law_part : Fun K "_law_part" "_law_part" s__law_part a__law_part fd__law_part
  m__law_part : mg "_law_part" = some (.ref a__law_part)
  b__law_part : Binds K fd__law_part ["_law_cells", "_law_most"] []
  a__law_parts : Addr
  fd__law_parts : FuncData
  F__law_parts : Fun K "_law_parts" "_law_parts" s__law_parts a__law_parts fd__law_parts
  m__law_parts : mg "_law_parts" = some (.ref a__law_parts)
  b__law_parts : Binds K fd__law_parts ["_law_script", "_law_mosts"] []
  a__law_at : Addr
  fd__law_at : FuncData
  F__law_at : Fun K "_law_at" "_law_at" s__law_at a__law_at fd__law_at
  m__law_at : mg "_law_at" = some (.ref a__law_at)
  b__law_at : Binds K fd__law_at ["_law_form", "_law_n", "_law_k"] []
  a__law_power : Addr
  fd__law_power : FuncData
  F__law_power : Fun K "_law_power" "_law_power" s__law_power a__law_power fd__law_power
  m__law_power : mg "_law_power" = some (.ref a__law_power)
  b__law_power : Binds K fd__law_power ["_law_fraction", "_law_many"] []
  a__law_ways : Addr
  fd__law_ways : FuncData
  F__law_ways : Fun K "_law_ways" "_law_ways" s__law_ways a__law_ways fd__law_ways
  m__law_ways : mg "_law_ways" = some (.ref a__law_ways)
  b__law_ways : Binds K fd__law_ways ["_law_low", "_law_rest"] []
  a__law_worth : Addr
  fd__law_worth : FuncData
  F__law_worth : Fun K "_law_worth" "_law_worth" s__law_worth a__law_worth fd__law_worth
  m__law_worth : mg "_law_worth" = some (.ref a__law_worth)
  b__law_worth : Binds K fd__law_worth ["_law_part_here", "_law_n", "_law_k"] []
  a__law_alike : Addr
  fd__law_alike : FuncData
  F__law_alike : Fun K "_law_alike" "_law_alike" s__law_alike a__law_alike fd__law_alike
  m__law_alike : mg "_law_alike" = some (.ref a__law_alike)
  b__law_alike : Binds K fd__law_alike ["_law_found", "_law_due"] []
  a__law_made : Addr
  fd__law_made : FuncData
  F__law_made : Fun K "_law_made" "_law_made" s__law_made a__law_made fd__law_made
  m__law_made : mg "_law_made" = some (.ref a__law_made)
  b__law_made : Binds K fd__law_made ["_law_part_here"] []
  a__law_point : Addr
  fd__law_point : FuncData
  F__law_point : Fun K "_law_point" "_law_point" s__law_point a__law_point fd__law_point
  m__law_point : mg "_law_point" = some (.ref a__law_point)
  b__law_point : Binds K fd__law_point ["_law_term", "_law_parts_here", "_law_made_here", "_law_n", "_law_k"] []
  a__law_far : Addr
  fd__law_far : FuncData
  F__law_far : Fun K "_law_far" "_law_far" s__law_far a__law_far fd__law_far
  m__law_far : mg "_law_far" = some (.ref a__law_far)
  b__law_far : Binds K fd__law_far ["_law_script", "_law_parts_here"] []
  a_law : Addr
  fd_law : FuncData
  F_law : Fun K "law" "law" s_law a_law fd_law
  m_law : mg "law" = some (.ref a_law)
  b_law : Binds K fd_law ["_law_script"] []
  a_Part_worth : Addr
  fd_Part_worth : FuncData
  F_Part_worth : Fun K "worth" "Part.worth" s_Part_worth a_Part_worth fd_Part_worth
  b_Part_worth : Binds K fd_Part_worth ["self", "n", "k"] []
  a_Choose___init__ : Addr
  fd_Choose___init__ : FuncData
  F_Choose___init__ : Fun K "__init__" "Choose.__init__" s_Choose___init__ a_Choose___init__ fd_Choose___init__
  b_Choose___init__ : Binds K fd_Choose___init__ ["self", "upper", "lower"] []
  a_Choose_lifted : Addr
  fd_Choose_lifted : FuncData
  F_Choose_lifted : Fun K "lifted" "Choose.lifted" s_Choose_lifted a_Choose_lifted fd_Choose_lifted
  b_Choose_lifted : Binds K fd_Choose_lifted ["self", "far"] []
  a_Choose_worth : Addr
  fd_Choose_worth : FuncData
  F_Choose_worth : Fun K "worth" "Choose.worth" s_Choose_worth a_Choose_worth fd_Choose_worth
  b_Choose_worth : Binds K fd_Choose_worth ["self", "n", "k"] []
  a_Choose_floor : Addr
  fd_Choose_floor : FuncData
  F_Choose_floor : Fun K "floor" "Choose.floor" s_Choose_floor a_Choose_floor fd_Choose_floor
  b_Choose_floor : Binds K fd_Choose_floor ["self", "n", "k", "far"] []
  a_Weight___init__ : Addr
  fd_Weight___init__ : FuncData
  F_Weight___init__ : Fun K "__init__" "Weight.__init__" s_Weight___init__ a_Weight___init__ fd_Weight___init__
  b_Weight___init__ : Binds K fd_Weight___init__ ["self", "form"] []
  a_Weight_worth : Addr
  fd_Weight_worth : FuncData
  F_Weight_worth : Fun K "worth" "Weight.worth" s_Weight_worth a_Weight_worth fd_Weight_worth
  b_Weight_worth : Binds K fd_Weight_worth ["self", "n", "k"] []
  a_Power___init__ : Addr
  fd_Power___init__ : FuncData
  F_Power___init__ : Fun K "__init__" "Power.__init__" s_Power___init__ a_Power___init__ fd_Power___init__
  b_Power___init__ : Binds K fd_Power___init__ ["self", "fraction"] []
  a_Power_worth : Addr
  fd_Power_worth : FuncData
  F_Power_worth : Fun K "worth" "Power.worth" s_Power_worth a_Power_worth fd_Power_worth
  b_Power_worth : Binds K fd_Power_worth ["self", "n", "k"] []
  a_Growth___init__ : Addr
  fd_Growth___init__ : FuncData
  F_Growth___init__ : Fun K "__init__" "Growth.__init__" s_Growth___init__ a_Growth___init__ fd_Growth___init__
  b_Growth___init__ : Binds K fd_Growth___init__ ["self", "fraction"] []
  a_Growth_worth : Addr
  fd_Growth_worth : FuncData
  F_Growth_worth : Fun K "worth" "Growth.worth" s_Growth_worth a_Growth_worth fd_Growth_worth
  b_Growth_worth : Binds K fd_Growth_worth ["self", "n", "k"] []
  a_Term___init__ : Addr
  fd_Term___init__ : FuncData
  F_Term___init__ : Fun K "__init__" "Term.__init__" s_Term___init__ a_Term___init__ fd_Term___init__
  b_Term___init__ : Binds K fd_Term___init__ ["self", "parts"] []
  a_Term_told : Addr
  fd_Term_told : FuncData
  F_Term_told : Fun K "told" "Term.told" s_Term_told a_Term_told fd_Term_told
  b_Term_told : Binds K fd_Term_told ["self"] []
  a_Term_worth : Addr
  fd_Term_worth : FuncData
  F_Term_worth : Fun K "worth" "Term.worth" s_Term_worth a_Term_worth fd_Term_worth
  b_Term_worth : Binds K fd_Term_worth ["self", "n", "k"] []
  c_NoNumber : Addr
  mc_NoNumber : mg "NoNumber" = some (.ref c_NoNumber)
  xc_NoNumber : PySem.W.excIn K c_NoNumber bmV "ValueError.__new__" = true
  c_NoTerm : Addr
  mc_NoTerm : mg "NoTerm" = some (.ref c_NoTerm)
  xc_NoTerm : PySem.W.excIn K c_NoTerm bmV "ValueError.__new__" = true
  c_Choose : Addr
  mc_Choose : mg "Choose" = some (.ref c_Choose)
  cl_Choose : Cls K c_Choose
  mk_Choose : Mk K c_Choose a_Choose___init__
  me_Choose_lifted : Meth K c_Choose "lifted" a_Choose_lifted
  me_Choose_worth : Meth K c_Choose "worth" a_Choose_worth
  me_Choose_floor : Meth K c_Choose "floor" a_Choose_floor
  na_Choose_above : NoAttr K c_Choose "above"
  na_Choose_lows : NoAttr K c_Choose "lows"
  oc_Choose : OCl K c_Choose
  c_Growth : Addr
  mc_Growth : mg "Growth" = some (.ref c_Growth)
  cl_Growth : Cls K c_Growth
  mk_Growth : Mk K c_Growth a_Growth___init__
  me_Growth_worth : Meth K c_Growth "worth" a_Growth_worth
  na_Growth_fraction : NoAttr K c_Growth "fraction"
  oc_Growth : OCl K c_Growth
  c_Part : Addr
  mc_Part : mg "Part" = some (.ref c_Part)
  cl_Part : Cls K c_Part
  me_Part_worth : Meth K c_Part "worth" a_Part_worth
  mk0_Part : Mk0 K c_Part
  c_Power : Addr
  mc_Power : mg "Power" = some (.ref c_Power)
  cl_Power : Cls K c_Power
  mk_Power : Mk K c_Power a_Power___init__
  me_Power_worth : Meth K c_Power "worth" a_Power_worth
  na_Power_fraction : NoAttr K c_Power "fraction"
  oc_Power : OCl K c_Power
  c_Term : Addr
  mc_Term : mg "Term" = some (.ref c_Term)
  cl_Term : Cls K c_Term
  mk_Term : Mk K c_Term a_Term___init__
  me_Term_told : Meth K c_Term "told" a_Term_told
  me_Term_worth : Meth K c_Term "worth" a_Term_worth
  na_Term_parts : NoAttr K c_Term "parts"
  na_Term_pieces : NoAttr K c_Term "pieces"
  c_Weight : Addr
  mc_Weight : mg "Weight" = some (.ref c_Weight)
  cl_Weight : Cls K c_Weight
  mk_Weight : Mk K c_Weight a_Weight___init__
  me_Weight_worth : Meth K c_Weight "worth" a_Weight_worth
  na_Weight_form : NoAttr K c_Weight "form"
  oc_Weight : OCl K c_Weight
  ki_Choose_Part : PySem.W.kitOne K (.ref c_Choose) (.ref c_Part) = some true
  ki_Weight_Part : PySem.W.kitOne K (.ref c_Weight) (.ref c_Part) = some true
  ki_Power_Part : PySem.W.kitOne K (.ref c_Power) (.ref c_Part) = some true
  ki_Growth_Part : PySem.W.kitOne K (.ref c_Growth) (.ref c_Part) = some true
  z_abs : mg "abs" = none
  z_range : mg "range" = none
  z_min : mg "min" = none
  z_all : mg "all" = none
  z_zip : mg "zip" = none
  z_len : mg "len" = none
  z_isinstance : mg "isinstance" = none
  z_int : mg "int" = none
  z_bool : mg "bool" = none
  z_tuple : mg "tuple" = none
  z_list : mg "list" = none
  z_max : mg "max" = none
  g_LONG : { t : Tok // mg "LONG" = some (.int 4000 t) }
  g_FEW : { t : Tok // mg "FEW" = some (.int 16 t) }
  g_MOST_PARTS : { t : Tok // mg "MOST_PARTS" = some (.int 6 t) }
  gt_GREATEST : { u : Addr // mg "GREATEST" = some (.ref u) ∧ ∀ H : Hp, SqT K H u [.int (3), .int (3), .int (9)] }
  gt_UPPER_LEAST : { u : Addr // mg "UPPER_LEAST" = some (.ref u) ∧ ∀ H : Hp, SqT K H u [.int (0), .int (0), .int (0)] }
  gt_LOWER_LEAST : { u : Addr // mg "LOWER_LEAST" = some (.ref u) ∧ ∀ H : Hp, SqT K H u [.int (-3), .int (-3), .int (-9)] }
theorem abs_nat (a : Int) : (if a < 0 then -a else a) = ((a.natAbs : Nat) : Int) := by split <;> omega
def spGcd : Sp := fun vs H Q _ => ∃ a b : Int, vs = [.int a, .int b] ∧ b.natAbs < 2 ^ 4000 ∧ Q (.int (Nat.gcd a.natAbs b.natAbs : Nat)) H
theorem bits_le {b : Int} (h : b.natAbs < 2 ^ 4000) : ¬ (4000 : Int) < ((Builtin.Int.intBits ((b.natAbs : Nat) : Int) : Nat) : Int) := by
  have := intBits_le_of (i := ((b.natAbs : Nat) : Int)) (k := 4000) (by rw [Int.natAbs_natCast]; exact h)
  omega
theorem ok_divisor {P : Program} {w : World} {K : PySem.W.Frag} {mg : Str → Option Value} {base : Heap} (T : Tx K mg) : FnOk P w K mg base CX0 1 T.a_divisor T.fd_divisor ["one", "other"] spGcd := by
  refine T.F_divisor.ok sc_divisor (fun vs H Q E h => ?_) (fun cdv A outer s H vs Q E hr h => ?_)
  · obtain ⟨a, b, rfl, _⟩ := h
    rfl
  obtain ⟨a, b, rfl, hb, q⟩ := h
  refine ⟨_, ((pss_cons (ps_set (i := 2) sc_divisor.nd rfl (Or.inl rfl) (pe_callB call_abs rfl T.z_abs bt_abs (pa_cons (pv 0) pa_nil)))
    (pss_cons (ps_set (i := 3) sc_divisor.nd rfl (Or.inl rfl) (pe_callB call_abs rfl T.z_abs bt_abs (pa_cons (pv 1) pa_nil)))
    (pss_cons (ps_while PassesOwn.never (pt_cmpR op_gt (pe_bm0 PySem.F.plainAttrs_int PySem.F.slot_int_bit_length PySem.F.type_int_bit_length mt_bitlen (pv 3)) (pe_glob (v := .int 4000) rfl T.g_LONG.2 ⟨_, rfl⟩) (nomark _)) pss_never)
    (pss_cons (ps_while PassesOwn.never (pt_cmpR op_ne (pv 3) pe_int (nomark _)) (pss_cons (ps_set (i := 5) sc_divisor.nd rfl (Or.inl rfl) (pe_op op_mod (pv 2) (pv 3)))
    (pss_cons (ps_set (i := 2) sc_divisor.nd rfl (Or.inl rfl) (pv 3))
    (pss_one (ps_set (i := 3) sc_divisor.nd rfl (Or.inl rfl) (pv 5))))))
    (pss_one (ps_ret (pv 2)))))))), ?_⟩
  (iterate 3 (k_units; (try simp only [abs_nat])); k_units)
  refine while_of (fun m σ H' => σ = [some (V.int a), some (V.int b), some (V.int a.natAbs), some (V.int b.natAbs), none, none] ∧ H' = H) 0 ⟨rfl, rfl⟩ ?_
  rintro m σ H' ⟨rfl, rfl⟩
  k_units
  rw [if_neg (bits_le hb)]
  refine while_of (fun m σ H1 => ∃ (x y : Nat) (r : Option V), σ = [some (V.int a), some (V.int b), some (.int x), some (.int y), none, r] ∧ H1 = H' ∧ m = y ∧ Nat.gcd x y = Nat.gcd a.natAbs b.natAbs) b.natAbs ⟨a.natAbs, b.natAbs, none, rfl, rfl, rfl, rfl⟩ ?_
  rintro m σ H1 ⟨x, y, r, rfl, rfl, rfl, hg⟩
  k_units
  refine ite2 (fun h => ?_) (fun h => ?_)
  · refine ⟨fun σ' H2 => σ' = [some (V.int a), some (V.int b), some (V.int m), some (V.int ((x : Int) % (m : Int))), none, some (V.int ((x : Int) % (m : Int)))] ∧ H2 = H1, ?_, by omega, rfl, rfl⟩
    rintro σ' H2 ⟨rfl, rfl⟩
    refine ⟨x % m, Nat.mod_lt _ (by omega), m, x % m, _, by rw [← Int.natCast_emod], rfl, rfl, ?_⟩
    rw [Nat.gcd_comm m, ← Nat.gcd_rec, Nat.gcd_comm]; exact hg
  · have h0 : m = 0 := by omega
    subst h0
    rw [Nat.gcd_zero_right] at hg
    rw [hg]; exact q
def spGcdL : Sp := fun vs H Q _ => ∃ a b : Int, vs = [.int a, .int b] ∧ Q (.int (Nat.gcd a.natAbs b.natAbs : Nat)) H
theorem ok__law_divisor {P : Program} {w : World} {K : PySem.W.Frag} {mg : Str → Option Value} {base : Heap} (T : Tx K mg) : FnOk P w K mg base CX0 1 T.a__law_divisor T.fd__law_divisor ["_law_one", "_law_other"] spGcdL := by
  refine T.F__law_divisor.ok sc__law_divisor (fun vs H Q E h => ?_) (fun cdv A outer s H vs Q E hr h => ?_)
  · obtain ⟨a, b, rfl, _⟩ := h
    rfl
  obtain ⟨a, b, rfl, q⟩ := h
  refine ⟨_, ((pss_cons (ps_set (i := 0) sc__law_divisor.nd rfl (Or.inl rfl) (pe_callB call_abs rfl T.z_abs bt_abs (pa_cons (pv 0) pa_nil)))
    (pss_cons (ps_set (i := 1) sc__law_divisor.nd rfl (Or.inl rfl) (pe_callB call_abs rfl T.z_abs bt_abs (pa_cons (pv 1) pa_nil)))
    (pss_cons (ps_while PassesOwn.never (pt_cmpR op_ne (pv 0) pe_int (nomark _)) (pss_cons (ps_set (i := 2) sc__law_divisor.nd rfl (Or.inl rfl) (pe_op op_mod (pv 1) (pv 0)))
    (pss_cons (ps_set (i := 1) sc__law_divisor.nd rfl (Or.inl rfl) (pv 0))
    (pss_one (ps_set (i := 0) sc__law_divisor.nd rfl (Or.inl rfl) (pv 2))))))
    (pss_one (ps_ret (pv 1))))))), ?_⟩
  (iterate 3 (k_units; (try simp only [abs_nat])); k_units)
  refine while_of (fun m σ H' => ∃ (x y : Nat) (r : Option V), σ = [some (.int x), some (.int y), r] ∧ H' = H ∧ m = x ∧ Nat.gcd x y = Nat.gcd a.natAbs b.natAbs) a.natAbs ⟨a.natAbs, b.natAbs, none, rfl, rfl, rfl, rfl⟩ ?_
  rintro m σ H' ⟨x, y, r, rfl, rfl, rfl, hg⟩
  k_units
  refine ite2 (fun h => ?_) (fun h => ?_)
  · refine ⟨fun σ' H1 => σ' = [some (V.int ((y : Int) % (m : Int))), some (V.int m), some (V.int ((y : Int) % (m : Int)))] ∧ H1 = H', ?_, by omega, rfl, rfl⟩
    rintro σ' H1 ⟨rfl, rfl⟩
    refine ⟨y % m, Nat.mod_lt _ (by omega), y % m, m, _, by rw [← Int.natCast_emod], rfl, rfl, ?_⟩
    rw [← Nat.gcd_rec]; exact hg
  · have h0 : m = 0 := by omega
    subst h0
    rw [Nat.gcd_zero_left] at hg
    rw [hg]; exact q
def mkT (H : Hp) (Q : VK) (x y : Int) : Prop := ∀ p, H p = none → Q (.ref p) (upd H p (.tup [.int x, .int y]))
theorem bd_le {k : Nat} {x y : Int} (h : x.natAbs ≤ y.natAbs) (b : Bd k y) : Bd k x := Nat.lt_of_le_of_lt h b
def spRatio (c : Addr) : Sp := fun vs H Q E => ∃ t b : Int, vs = [.int t, .int b] ∧ Bd 3000 b ∧
  ((b ≠ 0 ∧ ∀ x y : Int, 1 ≤ y → Nat.gcd x.natAbs y.natAbs = 1 → x * b = t * y → x.natAbs ≤ t.natAbs → y.natAbs ≤ b.natAbs → mkT H Q x y) ∨ (b = 0 ∧ E (.ref c) none H))
theorem ok_ratio {P : Program} {w : World} {K : PySem.W.Frag} {mg : Str → Option Value} {base : Heap} (T : Tx K mg) : FnOk P w K mg base (CXE P w) 2 T.a_ratio T.fd_ratio ["top", "bottom"] (spRatio T.c_NoNumber) := by
  refine T.F_ratio.okE sc_ratio (fun vs H Q E h => ?_) (fun cdv A outer s H vs Q E hr h => ?_)
  · obtain ⟨t, b, rfl, _⟩ := h
    rfl
  obtain ⟨t, b, rfl, hb, q⟩ := h
  refine ⟨_, ((pss_cons (ps_if (PT.nox (pt_cmpR op_eq (pv 1) pe_int (nomark _))) (pss_one (ps_raise rfl throwE rfl T.mc_NoNumber T.xc_NoNumber (pa_cons pe_str pa_nil))) pss_nil)
    (pss_cons (PS.nox (ps_set (i := 2) sc_ratio.nd rfl (Or.inl rfl) (pe_call (FnOk.mono (ok_divisor T) (by decide)) hr rfl T.m_divisor T.F_divisor.kp T.b_divisor .nil pass0 (pa_cons (pv 0) (pa_cons (pv 1) pa_nil)))))
    (pss_cons (PS.nox (ps_if (pt_cmpR op_lt (pv 1) pe_int (nomark _)) (pss_one (ps_set (i := 2) sc_ratio.nd rfl (Or.inl rfl) (pe_un un_neg (pv 2)))) pss_nil))
    (pss_one (PS.nox (ps_ret (pe_tup (pa_cons (pe_op op_fdivB (pv 0) (pv 2)) (pa_cons (pe_op op_fdivB (pv 1) (pv 2)) pa_nil)))))))))), ?_⟩
  k_units
  refine ite2 (fun h0 => ?_) (fun h0 => ?_)
  · rcases q with ⟨hn, _⟩ | ⟨_, q⟩
    · exact absurd h0 hn
    · exact ⟨by decide, q⟩
  · obtain ⟨hn, q⟩ := q.resolve_right fun z => h0 z.1
    refine ⟨t, b, rfl, Nat.lt_of_lt_of_le hb (Nat.pow_le_pow_right (by decide) (by decide)), ?_⟩
    have small : ∀ s : Int, s.natAbs = Nat.gcd t.natAbs b.natAbs → s.natAbs < 2 ^ 9000 := fun s e => by
      rw [e]
      exact Nat.lt_of_le_of_lt (Nat.gcd_le_right _ (by omega)) (Nat.lt_of_lt_of_le hb (Nat.pow_le_pow_right (by decide) (by decide)))
    have fin : ∀ s : Int, (s = if b < 0 then -((Nat.gcd t.natAbs b.natAbs : Nat) : Int) else ((Nat.gcd t.natAbs b.natAbs : Nat) : Int)) → (s ≠ 0 ∧ s.natAbs < 2 ^ 9000) ∧ (s ≠ 0 ∧ s.natAbs < 2 ^ 9000) ∧ mkT H Q (t.fdiv s) (b.fdiv s) := fun s e => by
      obtain ⟨g1, g2, g3, g4, g5, g6⟩ := gcd_split hn e
      refine ⟨⟨g1, small s g2⟩, ⟨g1, small s g2⟩, q _ _ g5 g6 ?_ (fdiv_le g1 g3) (fdiv_le g1 g4)⟩
      rw [Int.mul_comm, g4, Int.mul_assoc, ← g4]
      generalize b.fdiv s = y at *
      generalize t.fdiv s = x at *
      rw [g3, Int.mul_assoc, Int.mul_comm x y]
    refine ite2 (fun hneg => ?_) (fun hneg => ?_)
    · obtain ⟨f1, f2, f3⟩ := fin _ (by rw [if_pos hneg])
      exact ⟨_, rfl, f1.1, f1.2, f2.1, f2.2, by decide, f3⟩
    · obtain ⟨f1, f2, f3⟩ := fin _ (by rw [if_neg hneg])
      exact ⟨_, rfl, f1.1, f1.2, _, rfl, f2.1, f2.2, by decide, f3⟩
def spForm (K : PySem.W.Frag) : Sp := fun vs H Q _ => ∃ (p : Addr) (a b c n k : Int), vs = [.ref p, .int n, .int k] ∧ SqT K H p [.int a, .int b, .int c] ∧ Bd 400 a ∧ Bd 400 b ∧ Bd 20 n ∧ Bd 20 k ∧ Q (.int (a * n + b * k + c)) H
theorem ok_form_value {P : Program} {w : World} {K : PySem.W.Frag} {mg : Str → Option Value} {base : Heap} (T : Tx K mg) : FnOk P w K mg base CX0 1 T.a_form_value T.fd_form_value ["form", "n", "k"] (spForm K) := by
  refine T.F_form_value.ok sc_form_value (fun vs H Q E h => ?_) (fun cdv A outer s H vs Q E hr h => ?_)
  · obtain ⟨p, a, b, c, n, k, rfl, _⟩ := h
    rfl
  obtain ⟨p, a, b, c, n, k, rfl, hp, ba, bb, bn, bk, q⟩ := h
  refine ⟨_, ((pss_one (ps_ret (pe_op op_add (pe_op op_add (pe_op op_mulZ (pe_ix ix_tup (pv 0) pe_int (fun _ _ => rfl)) (pv 1)) (pe_op op_mulZ (pe_ix ix_tup (pv 0) pe_int (fun _ _ => rfl)) (pv 2))) (pe_ix ix_tup (pv 0) pe_int (fun _ _ => rfl)))))), ?_⟩
  k_units
  exact ⟨_, hp, _, rfl, _, rfl, ba.fits bn (by decide), _, hp, _, rfl, _, rfl, bb.fits bk (by decide), _, hp, _, rfl, _, rfl, q⟩
def spPowOf : Sp := fun vs H Q _ => ∃ (c : Int) (n : Nat), vs = [.int c, .int (n : Int)] ∧ Bd 100 c ∧ n ≤ 500 ∧ Q (.int (c ^ n)) H
theorem ok_power_of {P : Program} {w : World} {K : PySem.W.Frag} {mg : Str → Option Value} {base : Heap} (T : Tx K mg) : FnOk P w K mg base CX0 1 T.a_power_of T.fd_power_of ["number", "exponent"] spPowOf := by
  refine T.F_power_of.ok sc_power_of (fun vs H Q E h => ?_) (fun cdv A outer s H vs Q E hr h => ?_)
  · obtain ⟨c, n, rfl, _⟩ := h
    rfl
  obtain ⟨c, n, rfl, bc, n5, q⟩ := h
  refine ⟨_, ((pss_cons (ps_set (i := 2) sc_power_of.nd rfl (Or.inl rfl) pe_int)
    (pss_cons (ps_for PassesOwn.never rfl (pi_range1 rfl T.z_range (pa_cons (pv 1) pa_nil)) (pg_name (i := 3) sc_power_of.nd rfl (Or.inl rfl)) (pss_one (ps_aug (i := 2) sc_power_of.nd rfl (Or.inl rfl) (pv 0) ip_mulZ)))
    (pss_one (ps_ret (pv 2)))))), ?_⟩
  k_units
  refine ⟨by omega, by omega, ?_⟩
  rw [Int.toNat_natCast]
  have bp : ∀ n : Nat, Bd (100 * n + 1) (c ^ n) := fun n => by
    induction n with
    | zero => rw [Int.pow_zero]; exact Bd.one (by decide)
    | succ n ih => rw [Int.pow_succ]; exact (ih.mul bc).mono (by omega)
  refine lp_range (fun i σ H' => ∃ r : Option V, σ = [some (V.int c), some (V.int (n : Int)), some (V.int (c ^ i)), r] ∧ H' = H) ⟨none, by simp, rfl⟩ ?_ ?_
  · rintro i σ H' hi ⟨r, rfl, rfl⟩
    k_units
    exact ⟨(bp i).fits bc (by omega), (Int.pow_succ c i).symm, _, rfl⟩
  · rintro σ H' ⟨r, rfl, rfl⟩
    k_units
    exact q
theorem asc_bd {a : Nat} : ∀ n : Nat, a + n < 2 ^ 13 → Bd (13 * n + 1) ((asc a n : Nat) : Int)
  | 0, _ => Bd.one (by decide)
  | n + 1, h => by
    have e : ((asc a (n + 1) : Nat) : Int) = ((asc a n : Nat) : Int) * ((a + n + 1 : Nat) : Int) := by
      show ((asc a n * (a + n + 1) : Nat) : Int) = _
      rw [Int.natCast_mul]
    rw [e]
    exact ((asc_bd n (by omega)).mul (Bd.of_lt (m := 2 ^ 13) (by omega) (Nat.le_refl _))).mono (by omega)
def spRun (d : Nat) : Sp := match d with
  | 0 => fun _ _ _ _ => False
  | d + 1 => fun vs H Q _ => ∃ a n : Nat, vs = [.int ((a + 1 : Nat) : Int), .int ((a + n : Nat) : Int)] ∧ n ≤ 16 * 2 ^ d ∧ a + n < 2 ^ 13 ∧ Q (.int ((asc a n : Nat) : Int)) H
theorem ok_run_product {P : Program} {w : World} {K : PySem.W.Frag} {mg : Str → Option Value} {base : Heap} (T : Tx K mg) : ∀ d : Nat, FnOk P w K mg base CX0 (d + 1) T.a_run_product T.fd_run_product ["low", "high"] (spRun d)
  | 0 => T.F_run_product.ok sc_run_product (fun _ _ _ _ h => h.elim) (fun _ _ _ _ _ _ _ _ _ h => h.elim)
  | d + 1 => by
    have ih := ok_run_product (P := P) (w := w) (base := base) T d
    refine T.F_run_product.ok sc_run_product (fun vs H Q E h => ?_) (fun cdv A outer s H vs Q E hr h => ?_)
    · obtain ⟨a, n, rfl, _⟩ := h
      rfl
    obtain ⟨a, n, rfl, hn, h13, q⟩ := h
    refine ⟨_, ((pss_cons (ps_if (pt_cmpR op_lt (pe_op op_sub (pv 1) (pv 0)) (pe_glob (v := .int 16) rfl T.g_FEW.2 ⟨_, rfl⟩) (nomark _)) (pss_cons (ps_set (i := 2) sc_run_product.nd rfl (Or.inl rfl) pe_int)
    (pss_cons (ps_for PassesOwn.never rfl (pi_range2 rfl T.z_range (pa_cons (pv 0) (pa_cons (pe_op op_add (pv 1) pe_int) pa_nil))) (pg_name (i := 3) sc_run_product.nd rfl (Or.inl rfl)) (pss_one (ps_aug (i := 2) sc_run_product.nd rfl (Or.inl rfl) (pv 3) ip_mulZ)))
    (pss_one (ps_ret (pv 2))))) pss_nil)
    (pss_cons (ps_set (i := 4) sc_run_product.nd rfl (Or.inl rfl) (pe_op op_fdiv (pe_op op_add (pv 0) (pv 1)) pe_int))
    (pss_one (ps_ret (pe_op op_mulZ (pe_call ih hr rfl T.m_run_product T.F_run_product.kp T.b_run_product .nil pass0 (pa_cons (pv 0) (pa_cons (pv 4) pa_nil))) (pe_call ih hr rfl T.m_run_product T.F_run_product.kp T.b_run_product .nil pass0 (pa_cons (pe_op op_add (pv 4) pe_int) (pa_cons (pv 1) pa_nil))))))))), ?_⟩
    k_units
    refine ite2 (fun h => ?_) (fun h => ?_)
    · refine ⟨by omega, by omega, by omega, by omega, ?_⟩
      rw [show (((a + n : Nat) : Int) + 1 - ((a + 1 : Nat) : Int)).toNat = n by omega]
      refine lp_range (fun i σ H' => ∃ r : Option V, σ = [some (V.int ((a + 1 : Nat) : Int)), some (V.int ((a + n : Nat) : Int)), some (V.int ((asc a i : Nat) : Int)), r, none] ∧ H' = H) ⟨none, rfl, rfl⟩ ?_ ?_
      · rintro i σ H' hi ⟨r, rfl, rfl⟩
        k_units
        have e : ((a + 1 : Nat) : Int) + (i : Int) = ((a + i + 1 : Nat) : Int) := by omega
        rw [e]
        refine ⟨(asc_bd i (by omega)).fits (Bd.of_lt (m := 2 ^ 13) (k := 13) (by omega) (Nat.le_refl _)) (by omega), ?_, _, rfl⟩
        show _ = ((asc a i * (a + i + 1) : Nat) : Int)
        rw [Int.natCast_mul]
      · rintro σ H' ⟨r, rfl, rfl⟩
        k_units
        exact q
    · have hn17 : 17 ≤ n := by omega
      cases d with
      | zero => simp at hn; omega
      | succ d' =>
        have p2 : 2 ^ (d' + 1) = 2 * 2 ^ d' := by rw [Nat.pow_succ, Nat.mul_comm]
        rw [p2] at hn
        obtain ⟨hf, hhf⟩ : ∃ hf : Nat, hf = (n + 1) / 2 := ⟨_, rfl⟩
        have em : (((a + 1 : Nat) : Int) + ((a + n : Nat) : Int)) / 2 = ((a + hf : Nat) : Int) := by omega
        rw [em]
        refine ⟨⟨by decide, by decide⟩, a, hf, rfl, by omega, by omega, a + hf, n - hf, ?_, by omega, by omega, _, rfl, _, rfl, ?_, ?_⟩
        · rw [show a + hf + (n - hf) = a + n by omega]; rfl
        · exact (asc_bd hf (by omega)).fits (asc_bd (n - hf) (by omega)) (by omega)
        · have e := asc_app a hf (n - hf)
          rw [show hf + (n - hf) = n by omega] at e
          rw [← Int.natCast_mul, ← e]; exact q
def spChoices : Sp := fun vs H Q _ => ∃ a b : Nat, vs = [.int (a : Int), .int (b : Int)] ∧ a + b < 4000 ∧ Q (.int ((chs (a + b) b : Nat) : Int)) H
theorem ok_choices {P : Program} {w : World} {K : PySem.W.Frag} {mg : Str → Option Value} {base : Heap} (T : Tx K mg) : FnOk P w K mg base CX0 12 T.a_choices T.fd_choices ["one", "other"] spChoices := by
  refine T.F_choices.ok sc_choices (fun vs H Q E h => ?_) (fun cdv A outer s H vs Q E hr h => ?_)
  · obtain ⟨a, b, rfl, _⟩ := h
    rfl
  obtain ⟨a, b, rfl, h4, q⟩ := h
  refine ⟨_, ((pss_cons (ps_set (i := 2) sc_choices.nd rfl (Or.inl rfl) (pe_callB (call_min2 rfl) rfl T.z_min bt_min (pa_cons (pv 0) (pa_cons (pv 1) pa_nil))))
    (pss_one (ps_ret (pe_op op_fdivC (pe_call (FnOk.mono (ok_run_product T 9) (by decide)) hr rfl T.m_run_product T.F_run_product.kp T.b_run_product .nil pass0 (pa_cons (pe_op op_add (pe_op op_sub (pe_op op_add (pv 0) (pv 1)) (pv 2)) pe_int) (pa_cons (pe_op op_add (pv 0) (pv 1)) pa_nil))) (pe_call (FnOk.mono (ok_run_product T 9) (by decide)) hr rfl T.m_run_product T.F_run_product.kp T.b_run_product .nil pass0 (pa_cons pe_int (pa_cons (pv 2) pa_nil)))))))), ?_⟩
  k_units
  obtain ⟨f, hf⟩ : ∃ f, min a b = f := ⟨_, rfl⟩
  have ei : (if (b : Int) < (a : Int) then (b : Int) else (a : Int)) = (f : Int) := by rw [← hf]; split <;> omega
  have fle : f ≤ a + b := by omega
  rw [ei]
  refine ⟨a + b - f, f, by rw [show (a : Int) + (b : Int) - (f : Int) + 1 = ((a + b - f + 1 : Nat) : Int) by omega, show (a : Int) + (b : Int) = ((a + b - f + f : Nat) : Int) by omega], Nat.le_trans (show f ≤ 4096 by omega) (by decide), Nat.lt_of_lt_of_le (show a + b - f + f < 4096 by omega) (by decide), 0, f, by rw [Nat.zero_add, Nat.zero_add]; rfl, Nat.le_trans (show f ≤ 4096 by omega) (by decide), Nat.lt_of_lt_of_le (show 0 + f < 4096 by omega) (by decide), _, rfl, _, rfl, ?_, ?_⟩
  · have h1 := asc_chs f (a + b - f)
    rw [show a + b - f + f = a + b by omega] at h1
    have h2 := chs_lt (a + b) f
    have h3 := fct_pos f
    rw [asc_zero]
    refine ⟨by omega, ?_⟩
    rw [Int.natAbs_natCast, Int.natAbs_natCast, h1]
    refine Nat.mul_lt_mul_of_pos_right (Nat.lt_of_le_of_lt h2 (Nat.pow_lt_pow_right (by decide) h4)) h3
  · have e := choices_is a b
    rw [hf] at e
    rw [asc_zero, Int.fdiv_eq_ediv_of_nonneg _ (by omega), ← Int.natCast_ediv, e]
    exact q
def Frc (f : Int × Int) : Prop := 1 ≤ f.2 ∧ Nat.gcd f.1.natAbs f.2.natAbs = 1
def mulF (f g : Int × Int) : Int × Int := (f.1.fdiv ((Nat.gcd f.1.natAbs g.2.natAbs : Nat) : Int) * g.1.fdiv ((Nat.gcd g.1.natAbs f.2.natAbs : Nat) : Int), f.2.fdiv ((Nat.gcd g.1.natAbs f.2.natAbs : Nat) : Int) * g.2.fdiv ((Nat.gcd f.1.natAbs g.2.natAbs : Nat) : Int))
theorem fdiv_of {x : Int} {l : Nat} (hl : 0 < l) (h : l ∣ x.natAbs) : ∃ y : Int, x = (l : Int) * y ∧ x.fdiv (l : Int) = y ∧ y.natAbs = x.natAbs / l := by
  obtain ⟨y, hy⟩ : (l : Int) ∣ x := Int.dvd_natAbs.mp (Int.natCast_dvd_natCast.mpr h)
  refine ⟨y, hy, ?_, ?_⟩
  · rw [hy]; exact Int.mul_fdiv_cancel_left y (by omega)
  · rw [hy, Int.natAbs_mul, Int.natAbs_natCast, Nat.mul_div_cancel_left _ hl]
theorem mulF_is {f g : Int × Int} (hf : Frc f) (hg : Frc g) : Frc (mulF f g) ∧ (mulF f g).1 * (f.2 * g.2) = f.1 * g.1 * (mulF f g).2 ∧ (mulF f g).1.natAbs ≤ f.1.natAbs * g.1.natAbs ∧ (mulF f g).2.natAbs ≤ f.2.natAbs * g.2.natAbs := by
  obtain ⟨f1, f2⟩ := hf
  obtain ⟨g1, g2⟩ := hg
  obtain ⟨l, hl⟩ : ∃ l, Nat.gcd f.1.natAbs g.2.natAbs = l := ⟨_, rfl⟩
  obtain ⟨r, hr⟩ : ∃ r, Nat.gcd g.1.natAbs f.2.natAbs = r := ⟨_, rfl⟩
  have lp : 0 < l := by rw [← hl]; exact Nat.gcd_pos_of_pos_right _ (by omega)
  have rp : 0 < r := by rw [← hr]; exact Nat.gcd_pos_of_pos_right _ (by omega)
  obtain ⟨a, ea, fa, na⟩ := fdiv_of (x := f.1) lp (by rw [← hl]; exact Nat.gcd_dvd_left _ _)
  obtain ⟨d, ed, fd, nd⟩ := fdiv_of (x := g.2) lp (by rw [← hl]; exact Nat.gcd_dvd_right _ _)
  obtain ⟨c, ec, fc, nc⟩ := fdiv_of (x := g.1) rp (by rw [← hr]; exact Nat.gcd_dvd_left _ _)
  obtain ⟨b, eb, fb, nb⟩ := fdiv_of (x := f.2) rp (by rw [← hr]; exact Nat.gcd_dvd_right _ _)
  have e : mulF f g = (a * c, b * d) := by unfold mulF; rw [hl, hr, fa, fb, fc, fd]
  have bp : 1 ≤ b := by
    have h := f1; rw [eb] at h
    rcases Int.lt_or_le 0 b with z | z
    · omega
    · have := Int.mul_nonpos_of_nonneg_of_nonpos (show (0 : Int) ≤ (r : Int) by omega) z; omega
  have dp : 1 ≤ d := by
    have h := g1; rw [ed] at h
    rcases Int.lt_or_le 0 d with z | z
    · omega
    · have := Int.mul_nonpos_of_nonneg_of_nonpos (show (0 : Int) ≤ (l : Int) by omega) z; omega
  have cp := cop_cross (a := f.1.natAbs) (b := f.2.natAbs) (c := g.1.natAbs) (d := g.2.natAbs) (by omega) (by omega) f2 g2 hl.symm hr.symm
  rw [← na, ← nb, ← nc, ← nd] at cp
  rw [e]
  refine ⟨⟨?_, ?_⟩, ?_, ?_, ?_⟩
  · have := Int.mul_le_mul bp dp (by omega) (by omega); show 1 ≤ b * d; omega
  · show Nat.gcd (a * c).natAbs (b * d).natAbs = 1
    rw [Int.natAbs_mul, Int.natAbs_mul]; exact cp
  · show a * c * (f.2 * g.2) = f.1 * g.1 * (b * d)
    rw [ea, eb, ec, ed]; grind
  · show (a * c).natAbs ≤ _
    rw [Int.natAbs_mul, na, nc]; exact Nat.mul_le_mul (Nat.div_le_self _ _) (Nat.div_le_self _ _)
  · show (b * d).natAbs ≤ _
    rw [Int.natAbs_mul, nb, nd]; exact Nat.mul_le_mul (Nat.div_le_self _ _) (Nat.div_le_self _ _)
def prodF (fs : List (Int × Int)) : Int × Int := fs.foldl mulF (1, 1)
theorem prodF_snoc (fs : List (Int × Int)) (f : Int × Int) : prodF (fs ++ [f]) = mulF (prodF fs) f := by unfold prodF; rw [List.foldl_append]; rfl
structure TL (K : PySem.W.Frag) (H : Hp) (as : List Addr) (fs : List (Int × Int)) : Prop where
  len : as.length = fs.length
  get : ∀ (i : Nat) (a : Addr) (f : Int × Int), as[i]? = some a → fs[i]? = some f → SqT K H a [.int f.1, .int f.2]
def spProd (K : PySem.W.Frag) : Sp := fun vs H Q _ => ∃ (A : Addr) (as : List Addr) (fs : List (Int × Int)), vs = [.ref A] ∧ SqL K H A (as.map V.ref) ∧ TL K H as fs ∧ fs.length ≤ 6 ∧ (∃ B, B * fs.length ≤ 3900 ∧ B ≤ 3900 ∧ ∀ f ∈ fs, Frc f ∧ Bd 20000 f.1 ∧ Bd B f.2) ∧ (Frc (prodF fs) → mkT H Q (prodF fs).1 (prodF fs).2)
theorem ok_product {P : Program} {w : World} {K : PySem.W.Frag} {mg : Str → Option Value} {base : Heap} (T : Tx K mg) : FnOk P w K mg base CX0 2 T.a_product T.fd_product ["fractions"] (spProd K) := by
  refine T.F_product.ok sc_product (fun vs H Q E h => ?_) (fun cdv A outer s H vs Q E hr h => ?_)
  · obtain ⟨A, as, fs, rfl, _⟩ := h
    rfl
  obtain ⟨A, as, fs, rfl, hA, hT, l6, ⟨B, hB, hB1, hb⟩, q⟩ := h
  refine ⟨_, ((pss_cons (ps_set (i := 1) sc_product.nd rfl (Or.inl rfl) pe_int)
    (pss_cons (ps_set (i := 2) sc_product.nd rfl (Or.inl rfl) pe_int)
    (pss_cons (ps_for PassesOwn.never rfl (pi_list (pv 0)) (pg_name (i := 3) sc_product.nd rfl (Or.inl rfl)) (pss_cons (ps_set (i := 4) sc_product.nd rfl (Or.inl rfl) (pe_call (FnOk.mono (ok_divisor T) (by decide)) hr rfl T.m_divisor T.F_divisor.kp T.b_divisor .nil pass0 (pa_cons (pv 1) (pa_cons (pe_ix ix_tup (pv 3) pe_int (fun _ _ => rfl)) pa_nil))))
    (pss_cons (ps_set (i := 5) sc_product.nd rfl (Or.inl rfl) (pe_call (FnOk.mono (ok_divisor T) (by decide)) hr rfl T.m_divisor T.F_divisor.kp T.b_divisor .nil pass0 (pa_cons (pe_ix ix_tup (pv 3) pe_int (fun _ _ => rfl)) (pa_cons (pv 2) pa_nil))))
    (pss_cons (ps_set (i := 1) sc_product.nd rfl (Or.inl rfl) (pe_op op_mulZ (pe_op op_fdivB (pv 1) (pv 4)) (pe_op op_fdivB (pe_ix ix_tup (pv 3) pe_int (fun _ _ => rfl)) (pv 5))))
    (pss_one (ps_set (i := 2) sc_product.nd rfl (Or.inl rfl) (pe_op op_mulZ (pe_op op_fdivB (pv 2) (pv 5)) (pe_op op_fdivB (pe_ix ix_tup (pv 3) pe_int (fun _ _ => rfl)) (pv 4)))))))))
    (pss_one (ps_ret (pe_tup (pa_cons (pv 1) (pa_cons (pv 2) pa_nil))))))))), ?_⟩
  k_units
  obtain ⟨Pv, hPv⟩ : ∃ Pv : Nat → L2.St → Hp → Prop, ∀ i σ H', Pv i σ H' ↔ ∃ r3 r4 r5 : Option V, σ = [some (V.ref A), some (V.int (prodF (fs.take i)).1), some (V.int (prodF (fs.take i)).2), r3, r4, r5] ∧ H' = H ∧ Frc (prodF (fs.take i)) ∧ Bd (20000 * i + 1) (prodF (fs.take i)).1 ∧ Bd (B * i + 1) (prodF (fs.take i)).2 := ⟨_, fun _ _ _ => Iff.rfl⟩
  have e0 : prodF (fs.take 0) = (1, 1) := by simp [prodF]
  refine ⟨⟨_, hA⟩, lp_list (xs := as.map V.ref) Pv ((hPv _ _ _).mpr ⟨none, none, none, by rw [e0], rfl, by rw [e0]; exact ⟨Int.le_refl 1, by decide⟩, by rw [e0]; exact Bd.one (by decide), by rw [e0]; exact Bd.one (Nat.succ_pos _)⟩) (fun i σ H' _ z => by obtain ⟨_, _, _, _, z, _⟩ := (hPv i σ H').mp z; rw [z]; exact hA) ?_ ?_⟩
  · intro i v σ H' hv hp
    obtain ⟨r3, r4, r5, rfl, rfl, F, b1, b2⟩ := (hPv _ _ _).mp hp
    rw [List.getElem?_map] at hv
    obtain ⟨a, ha, rfl⟩ := Option.map_eq_some_iff.mp hv
    have hi := (List.getElem?_eq_some_iff.mp ha).1
    have hi2 : i < fs.length := by have := hT.len; omega
    have hBi : B * i + B ≤ 3900 := Nat.le_trans (by rw [← Nat.mul_succ]; exact Nat.mul_le_mul_left _ hi2) hB
    have ea := hT.get i a _ ha (List.getElem?_eq_getElem hi2)
    obtain ⟨Fi, c1, c2⟩ := hb _ (List.getElem_mem hi2)
    have et : prodF (fs.take (i + 1)) = mulF (prodF (fs.take i)) fs[i] := by rw [← List.take_append_getElem hi2, prodF_snoc]
    generalize prodF (fs.take i) = f at F b1 b2 et ⊢
    obtain ⟨m1, m2, m3, m4⟩ := mulF_is F Fi
    have lne : Nat.gcd f.1.natAbs fs[i].2.natAbs ≠ 0 := Nat.pos_iff_ne_zero.mp (Nat.gcd_pos_of_pos_right _ (by have := Fi.1; omega))
    have rne : Nat.gcd fs[i].1.natAbs f.2.natAbs ≠ 0 := Nat.pos_iff_ne_zero.mp (Nat.gcd_pos_of_pos_right _ (by have := F.1; omega))
    have up : ∀ {k m : Nat} {c : Int}, k ≤ m → Bd k c → c.natAbs < 2 ^ m := fun h1 h2 => h2.mono h1
    have ls : ((Nat.gcd f.1.natAbs fs[i].2.natAbs : Nat) : Int).natAbs < 2 ^ 9000 := by
      rw [Int.natAbs_natCast]
      exact Nat.lt_of_le_of_lt (Nat.gcd_le_right _ (by have := Fi.1; omega)) (up (by omega) c2)
    have rs : ((Nat.gcd fs[i].1.natAbs f.2.natAbs : Nat) : Int).natAbs < 2 ^ 9000 := by
      rw [Int.natAbs_natCast]
      exact Nat.lt_of_le_of_lt (Nat.gcd_le_right _ (by have := F.1; omega)) (up (by omega) b2)
    have dv : ∀ {k : Nat} {c : Int} {l : Nat}, l ≠ 0 → l ∣ c.natAbs → Bd k c → Bd k (c.fdiv (l : Int)) := fun h1 h2 h3 => by
      obtain ⟨y, _, e2, e3⟩ := fdiv_of (Nat.pos_of_ne_zero h1) h2
      rw [e2]
      exact Nat.lt_of_le_of_lt (by rw [e3]; exact Nat.div_le_self _ _) h3
    have q1 := dv lne (Nat.gcd_dvd_left _ _) b1
    have q2 := dv rne (Nat.gcd_dvd_left _ _) c1
    have q3 := dv rne (Nat.gcd_dvd_right _ _) b2
    have q4 := dv lne (Nat.gcd_dvd_right _ _) c2
    k_units
    refine ⟨_, ea, _, rfl, f.1, fs[i].2, rfl, up (by omega) c2, _, ea, _, rfl, fs[i].1, f.2, rfl, up (by omega) b2, _, rfl, by omega, ls, _, ea, _, rfl, _, rfl, _, rfl, by omega, rs, q1.fits q2 (by omega), _, rfl, by omega, rs, _, ea, _, rfl, _, rfl, _, rfl, by omega, ls, q3.fits q4 (by omega), ?_⟩
    have z1 : Bd (20000 * (i + 1) + 1) (mulF f fs[i]).1 := by
      have h := (show (f.1 * fs[i].1).natAbs < _ from (b1.mul c1).mono (show 20000 * i + 1 + 20000 ≤ 20000 * (i + 1) + 1 by omega))
      rw [Int.natAbs_mul] at h
      exact Nat.lt_of_le_of_lt m3 h
    have z2 : Bd (B * (i + 1) + 1) (mulF f fs[i]).2 := by
      have h := (show (f.2 * fs[i].2).natAbs < _ from (b2.mul c2).mono (show B * i + 1 + B ≤ B * (i + 1) + 1 by rw [Nat.mul_succ]; omega))
      rw [Int.natAbs_mul] at h
      exact Nat.lt_of_le_of_lt m4 h
    exact (hPv _ _ _).mpr ⟨_, _, _, by rw [et]; rfl, rfl, by rw [et]; exact m1, by rw [et]; exact z1, by rw [et]; exact z2⟩
  intro σ H' hp
  obtain ⟨r3, r4, r5, rfl, rfl, F, b1, b2⟩ := (hPv _ _ _).mp hp
  k_units
  rw [List.length_map, hT.len, List.take_of_length_le (Nat.le_refl _)] at F
  rw [List.length_map, hT.len, List.take_of_length_le (Nat.le_refl _)]
  exact ⟨by decide, q F⟩
theorem ix_tupK {X : Cx} {K : PySem.W.Frag} (hK : X.K = K) : IxR X (rIxT K) := by subst hK; exact ix_tup
def spOne : Sp := fun vs H Q _ => ∃ (x : Addr) (n k : Int), vs = [.ref x, .int n, .int k] ∧ mkT H Q 1 1
theorem ok_Part_worth {P : Program} {w : World} {K : PySem.W.Frag} {mg : Str → Option Value} {base : Heap} (T : Tx K mg) : FnOk P w K mg base CX0 1 T.a_Part_worth T.fd_Part_worth ["self", "n", "k"] spOne := by
  refine T.F_Part_worth.ok sc_Part_worth (fun vs H Q E h => ?_) (fun cdv A outer s H vs Q E hr h => ?_)
  · obtain ⟨x, n, k, rfl, _⟩ := h
    rfl
  obtain ⟨x, n, k, rfl, q⟩ := h
  refine ⟨_, ((pss_one (ps_ret (pe_tup (pa_cons pe_int (pa_cons pe_int pa_nil)))))), ?_⟩
  k_units
  exact ⟨by decide, q⟩
def spLowF (K : PySem.W.Frag) : Sp := fun vs H Q _ => ∃ (p q : Addr) (a b c d e f : Int), vs = [.ref p, .ref q] ∧ SqT K H p [.int a, .int b, .int c] ∧ SqT K H q [.int d, .int e, .int f] ∧
  ∀ (L t : Addr) (H' : Hp), Same H H' → H L = none → H t = none → H' L = some (.lst [.ref q, .ref t]) → H' t = some (.tup [.int (a - d), .int (b - e), .int (c - f)]) → Q (.ref L) H'
theorem ok_low_forms {P : Program} {w : World} {K : PySem.W.Frag} {mg : Str → Option Value} {base : Heap} (T : Tx K mg) : FnOk P w K mg base CX0 1 T.a_low_forms T.fd_low_forms ["upper", "lower"] (spLowF K) := by
  refine T.F_low_forms.ok sc_low_forms (fun vs H Q E h => ?_) (fun cdv A outer s H vs Q E hr h => ?_)
  · obtain ⟨p, q, a, b, c, d, e, f, rfl, _⟩ := h
    rfl
  obtain ⟨p, q, a, b, c, d, e, f, rfl, hp, hq, z⟩ := h
  refine ⟨_, ((pss_one (ps_ret (pe_lst (pa_cons (pv 1) (pa_cons (pe_tup (pa_cons (pe_op op_sub (pe_ix ix_tup (pv 0) pe_int (fun _ _ => rfl)) (pe_ix ix_tup (pv 1) pe_int (fun _ _ => rfl))) (pa_cons (pe_op op_sub (pe_ix ix_tup (pv 0) pe_int (fun _ _ => rfl)) (pe_ix ix_tup (pv 1) pe_int (fun _ _ => rfl))) (pa_cons (pe_op op_sub (pe_ix ix_tup (pv 0) pe_int (fun _ _ => rfl)) (pe_ix ix_tup (pv 1) pe_int (fun _ _ => rfl))) pa_nil)))) pa_nil)))))), ?_⟩
  k_units
  refine ⟨_, hp, _, rfl, _, hq, _, rfl, _, rfl, _, rfl, _, hp, _, rfl, _, hq, _, rfl, _, rfl, _, rfl, _, hp, _, rfl, _, hq, _, rfl, _, rfl, _, rfl, by decide, fun t nt => ⟨by decide, fun L nL => ?_⟩⟩
  have u1 := same_upd nt (.tup [V.int (a - d), V.int (b - e), V.int (c - f)])
  have u2 := same_upd nL (.lst [V.ref q, V.ref t])
  exact z L t _ (u1.trans u2) (u1.free nL) nt upd_same (u2 _ _ upd_same)
def wgtF (p : Addr) : List (Str × V) := [(Str.ofString "form", .ref p)]
def spWInit (C : Addr) : Sp := fun vs H Q _ => ∃ x dx p : Addr, vs = [.ref x, .ref p] ∧ H x = some (.ins C dx []) ∧ Q .non (upd H x (.ins C dx (wgtF p)))
theorem ok_Weight___init__ {P : Program} {w : World} {K : PySem.W.Frag} {mg : Str → Option Value} {base : Heap} (T : Tx K mg) : FnOk P w K mg base CX0 1 T.a_Weight___init__ T.fd_Weight___init__ ["self", "form"] (spWInit T.c_Weight) := by
  refine T.F_Weight___init__.ok sc_Weight___init__ (fun vs H Q E h => ?_) (fun cdv A outer s H vs Q E hr h => ?_)
  · obtain ⟨x, dx, p, rfl, _⟩ := h
    rfl
  obtain ⟨x, dx, p, rfl, hx, q⟩ := h
  refine ⟨_, ((pss_one (ps_fld (pv 0) (pv 1) rfl))), ?_⟩
  k_units
  exact ⟨T.c_Weight, dx, [], hx, T.cl_Weight, T.na_Weight_form, by decide, q⟩
def spWWorth (K : PySem.W.Frag) (C : Addr) : Sp := fun vs H Q _ => ∃ (x dx p : Addr) (a b c n k : Int), vs = [.ref x, .int n, .int k] ∧ H x = some (.ins C dx (wgtF p)) ∧ SqT K H p [.int a, .int b, .int c] ∧ Bd 400 a ∧ Bd 400 b ∧ Bd 20 n ∧ Bd 20 k ∧ mkT H Q (a * n + b * k + c) 1
theorem ok_Weight_worth {P : Program} {w : World} {K : PySem.W.Frag} {mg : Str → Option Value} {base : Heap} (T : Tx K mg) : FnOk P w K mg base CX0 2 T.a_Weight_worth T.fd_Weight_worth ["self", "n", "k"] (spWWorth K T.c_Weight) := by
  refine T.F_Weight_worth.ok sc_Weight_worth (fun vs H Q E h => ?_) (fun cdv A outer s H vs Q E hr h => ?_)
  · obtain ⟨x, dx, p, a, b, c, n, k, rfl, _⟩ := h
    rfl
  obtain ⟨x, dx, p, a, b, c, n, k, rfl, hx, hp, ba, bb, bn, bk, q⟩ := h
  refine ⟨_, ((pss_one (ps_ret (pe_tup (pa_cons (pe_call (FnOk.mono (ok_form_value T) (by decide)) hr rfl T.m_form_value T.F_form_value.kp T.b_form_value .nil pass0 (pa_cons (pe_fld (pv 0) rfl) (pa_cons (pv 1) (pa_cons (pv 2) pa_nil)))) (pa_cons pe_int pa_nil)))))), ?_⟩
  k_units
  exact ⟨T.c_Weight, dx, _, hx, T.cl_Weight, T.na_Weight_form, _, rfl, p, a, b, c, n, k, rfl, hp, ba, bb, bn, bk, by decide, q⟩
def powF (p : Addr) : List (Str × V) := [(Str.ofString "fraction", .ref p)]
def spPInit (C : Addr) : Sp := fun vs H Q _ => ∃ x dx p : Addr, vs = [.ref x, .ref p] ∧ H x = some (.ins C dx []) ∧ Q .non (upd H x (.ins C dx (powF p)))
theorem ok_Power___init__ {P : Program} {w : World} {K : PySem.W.Frag} {mg : Str → Option Value} {base : Heap} (T : Tx K mg) : FnOk P w K mg base CX0 1 T.a_Power___init__ T.fd_Power___init__ ["self", "fraction"] (spPInit T.c_Power) := by
  refine T.F_Power___init__.ok sc_Power___init__ (fun vs H Q E h => ?_) (fun cdv A outer s H vs Q E hr h => ?_)
  · obtain ⟨x, dx, p, rfl, _⟩ := h
    rfl
  obtain ⟨x, dx, p, rfl, hx, q⟩ := h
  refine ⟨_, ((pss_one (ps_fld (pv 0) (pv 1) rfl))), ?_⟩
  k_units
  exact ⟨T.c_Power, dx, [], hx, T.cl_Power, T.na_Power_fraction, by decide, q⟩
theorem ok_Growth___init__ {P : Program} {w : World} {K : PySem.W.Frag} {mg : Str → Option Value} {base : Heap} (T : Tx K mg) : FnOk P w K mg base CX0 1 T.a_Growth___init__ T.fd_Growth___init__ ["self", "fraction"] (spPInit T.c_Growth) := by
  refine T.F_Growth___init__.ok sc_Growth___init__ (fun vs H Q E h => ?_) (fun cdv A outer s H vs Q E hr h => ?_)
  · obtain ⟨x, dx, p, rfl, _⟩ := h
    rfl
  obtain ⟨x, dx, p, rfl, hx, q⟩ := h
  refine ⟨_, ((pss_one (ps_fld (pv 0) (pv 1) rfl))), ?_⟩
  k_units
  exact ⟨T.c_Growth, dx, [], hx, T.cl_Growth, T.na_Growth_fraction, by decide, q⟩
def spPWorth (K : PySem.W.Frag) (C : Addr) (up : Bool) : Sp := fun vs H Q _ => ∃ (x dx p : Addr) (a b : Int) (n k : Nat), vs = [.ref x, .int (n : Int), .int (k : Int)] ∧ H x = some (.ins C dx (powF p)) ∧ SqT K H p [.int a, .int b] ∧ Bd 100 a ∧ Bd 100 b ∧ n ≤ 500 ∧ k ≤ 500 ∧ mkT H Q (a ^ (if up then k else n)) (b ^ (if up then k else n))
theorem ok_Power_worth {P : Program} {w : World} {K : PySem.W.Frag} {mg : Str → Option Value} {base : Heap} (T : Tx K mg) : FnOk P w K mg base CX0 2 T.a_Power_worth T.fd_Power_worth ["self", "n", "k"] (spPWorth K T.c_Power true) := by
  refine T.F_Power_worth.ok sc_Power_worth (fun vs H Q E h => ?_) (fun cdv A outer s H vs Q E hr h => ?_)
  · obtain ⟨x, dx, p, a, b, n, k, rfl, _⟩ := h
    rfl
  obtain ⟨x, dx, p, a, b, n, k, rfl, hx, hp, ba, bb, n5, k5, q⟩ := h
  refine ⟨_, ((pss_one (ps_ret (pe_tup (pa_cons (pe_call (FnOk.mono (ok_power_of T) (by decide)) hr rfl T.m_power_of T.F_power_of.kp T.b_power_of .nil pass0 (pa_cons (pe_ix ix_tup (pe_fld (pv 0) rfl) pe_int (fun _ _ => rfl)) (pa_cons (pv 2) pa_nil))) (pa_cons (pe_call (FnOk.mono (ok_power_of T) (by decide)) hr rfl T.m_power_of T.F_power_of.kp T.b_power_of .nil pass0 (pa_cons (pe_ix ix_tup (pe_fld (pv 0) rfl) pe_int (fun _ _ => rfl)) (pa_cons (pv 2) pa_nil))) pa_nil)))))), ?_⟩
  k_units
  exact ⟨T.c_Power, dx, _, hx, T.cl_Power, T.na_Power_fraction, _, rfl, p, rfl, _, hp, _, rfl, a, k, rfl, ba, k5, T.c_Power, dx, _, hx, T.cl_Power, T.na_Power_fraction, _, rfl, p, rfl, _, hp, _, rfl, b, k, rfl, bb, k5, by decide, q⟩
theorem ok_Growth_worth {P : Program} {w : World} {K : PySem.W.Frag} {mg : Str → Option Value} {base : Heap} (T : Tx K mg) : FnOk P w K mg base CX0 2 T.a_Growth_worth T.fd_Growth_worth ["self", "n", "k"] (spPWorth K T.c_Growth false) := by
  refine T.F_Growth_worth.ok sc_Growth_worth (fun vs H Q E h => ?_) (fun cdv A outer s H vs Q E hr h => ?_)
  · obtain ⟨x, dx, p, a, b, n, k, rfl, _⟩ := h
    rfl
  obtain ⟨x, dx, p, a, b, n, k, rfl, hx, hp, ba, bb, n5, k5, q⟩ := h
  refine ⟨_, ((pss_one (ps_ret (pe_tup (pa_cons (pe_call (FnOk.mono (ok_power_of T) (by decide)) hr rfl T.m_power_of T.F_power_of.kp T.b_power_of .nil pass0 (pa_cons (pe_ix ix_tup (pe_fld (pv 0) rfl) pe_int (fun _ _ => rfl)) (pa_cons (pv 1) pa_nil))) (pa_cons (pe_call (FnOk.mono (ok_power_of T) (by decide)) hr rfl T.m_power_of T.F_power_of.kp T.b_power_of .nil pass0 (pa_cons (pe_ix ix_tup (pe_fld (pv 0) rfl) pe_int (fun _ _ => rfl)) (pa_cons (pv 1) pa_nil))) pa_nil)))))), ?_⟩
  k_units
  exact ⟨T.c_Growth, dx, _, hx, T.cl_Growth, T.na_Growth_fraction, _, rfl, p, rfl, _, hp, _, rfl, a, n, rfl, ba, n5, T.c_Growth, dx, _, hx, T.cl_Growth, T.na_Growth_fraction, _, rfl, p, rfl, _, hp, _, rfl, b, n, rfl, bb, n5, by decide, q⟩
def chsF (p L : Addr) : List (Str × V) := [(Str.ofString "above", .ref p), (Str.ofString "lows", .ref L)]
def spCInit (K : PySem.W.Frag) (C : Addr) : Sp := fun vs H Q _ => ∃ (x dx p q : Addr) (a b c d e f : Int), vs = [.ref x, .ref p, .ref q] ∧ H x = some (.ins C dx []) ∧ SqT K H p [.int a, .int b, .int c] ∧ SqT K H q [.int d, .int e, .int f] ∧
  ∀ (L t : Addr) (H' : Hp), (∀ y o, y ≠ x → H y = some o → H' y = some o) → H L = none → H t = none → H' x = some (.ins C dx (chsF p L)) → H' L = some (.lst [.ref q, .ref t]) → H' t = some (.tup [.int (a - d), .int (b - e), .int (c - f)]) → Q .non H'
theorem SqT.updI {K : PySem.W.Frag} {H : Hp} {a x C dx : Addr} {xs : List V} {fs : List (Str × V)} {o : HO} (h : SqT K H a xs) (e : H x = some (.ins C dx fs)) : SqT K (L2.upd H x o) a xs := by
  rcases h with (h | ⟨u, h⟩) | h
  · exact .inl (.inl (by rw [upd_ne (ne_of h e (fun z => nomatch z))]; exact h))
  · exact .inl (.inr ⟨u, by rw [upd_ne (ne_of h e (fun z => nomatch z))]; exact h⟩)
  · exact .inr h
theorem ok_Choose___init__ {P : Program} {w : World} {K : PySem.W.Frag} {mg : Str → Option Value} {base : Heap} (T : Tx K mg) : FnOk P w K mg base CX0 2 T.a_Choose___init__ T.fd_Choose___init__ ["self", "upper", "lower"] (spCInit K T.c_Choose) := by
  refine T.F_Choose___init__.ok sc_Choose___init__ (fun vs H Q E h => ?_) (fun cdv A outer s H vs Q E hr h => ?_)
  · obtain ⟨x, dx, p, q, a, b, c, d, e, f, rfl, _⟩ := h
    rfl
  obtain ⟨x, dx, p, q, a, b, c, d, e, f, rfl, hx, hp, hq, z⟩ := h
  refine ⟨_, ((pss_cons (ps_fld (pv 0) (pv 1) rfl)
    (pss_one (ps_fld (pv 0) (pe_call (FnOk.mono (ok_low_forms T) (by decide)) hr rfl T.m_low_forms T.F_low_forms.kp T.b_low_forms .nil pass0 (pa_cons (pv 1) (pa_cons (pv 2) pa_nil))) rfl)))), ?_⟩
  k_units
  refine ⟨T.c_Choose, dx, [], hx, T.cl_Choose, T.na_Choose_above, by decide, ?_⟩
  have ex1 : upd H x (.ins T.c_Choose dx (putF "above" (.ref p) [])) x = some (.ins T.c_Choose dx [("above", .ref p)]) := upd_same
  have hp1 := SqT.updI (o := .ins T.c_Choose dx (putF "above" (.ref p) [])) hp hx
  have hq1 := SqT.updI (o := .ins T.c_Choose dx (putF "above" (.ref p) [])) hq hx
  have k1 : ∀ y o, y ≠ x → H y = some o → upd H x (.ins T.c_Choose dx (putF "above" (.ref p) [])) y = some o := fun y o hy e => by rw [upd_ne hy]; exact e
  have n1 : ∀ y, upd H x (.ins T.c_Choose dx (putF "above" (.ref p) [])) y = none → H y = none := fun y e => by
    by_cases hy : y = x
    · rw [hy, upd_same] at e; cases e
    · rw [upd_ne hy] at e; exact e
  generalize upd H x (.ins T.c_Choose dx (putF "above" (.ref p) [])) = G at ex1 hp1 hq1 k1 n1 ⊢
  refine ⟨p, q, a, b, c, d, e, f, rfl, hp1, hq1, fun L t H1 s1 nL nt eL et => ?_⟩
  refine ⟨T.c_Choose, dx, _, s1 _ _ ex1, T.cl_Choose, T.na_Choose_lows, by show 1 < 1000; decide, ?_⟩
  have pf : putF "lows" (.ref L) [("above", V.ref p)] = chsF p L := rfl
  rw [pf]
  have nLx : L ≠ x := fun hz => by rw [hz, ex1] at nL; cases nL
  have ntx : t ≠ x := fun hz => by rw [hz, ex1] at nt; cases nt
  exact z L t _ (fun y o hy e => by rw [upd_ne hy]; exact s1 _ _ (k1 y o hy e)) (n1 _ nL) (n1 _ nt) upd_same (by rw [upd_ne nLx]; exact eL) (by rw [upd_ne ntx]; exact et)
def spRaised (K : PySem.W.Frag) : Sp := fun vs H Q _ => ∃ (p : Addr) (a b c y : Int), vs = [.ref p, .int y] ∧ SqT K H p [.int a, .int b, .int c] ∧ ∀ r, H r = none → Q (.ref r) (upd H r (.tup [.int a, .int b, .int (c + y)]))
theorem ok_raised {P : Program} {w : World} {K : PySem.W.Frag} {mg : Str → Option Value} {base : Heap} (T : Tx K mg) : FnOk P w K mg base CX0 1 T.a_raised T.fd_raised ["form", "by"] (spRaised K) := by
  refine T.F_raised.ok sc_raised (fun vs H Q E h => ?_) (fun cdv A outer s H vs Q E hr h => ?_)
  · obtain ⟨p, a, b, c, y, rfl, _⟩ := h
    rfl
  obtain ⟨p, a, b, c, y, rfl, hp, q⟩ := h
  refine ⟨_, ((pss_one (ps_ret (pe_tup (pa_cons (pe_ix ix_tup (pv 0) pe_int (fun _ _ => rfl)) (pa_cons (pe_ix ix_tup (pv 0) pe_int (fun _ _ => rfl)) (pa_cons (pe_op op_add (pe_ix ix_tup (pv 0) pe_int (fun _ _ => rfl)) (pv 1)) pa_nil))))))), ?_⟩
  k_units
  exact ⟨_, hp, _, rfl, _, hp, _, rfl, _, hp, _, rfl, _, rfl, by decide, q⟩
def liftF (far : Int) (f : Int × Int × Int) : Int × Int × Int := (f.1, f.2.1, f.2.2 + if 0 > far * f.1 then 0 else far * f.1)
def spLift (K : PySem.W.Frag) (C : Addr) : Sp := fun vs H Q _ => ∃ (x dx p L q t : Addr) (f g : Int × Int × Int) (far : Int), vs = [.ref x, .int far] ∧ H x = some (.ins C dx (chsF p L)) ∧ H L = some (.lst [.ref q, .ref t]) ∧ SqT K H q [.int f.1, .int f.2.1, .int f.2.2] ∧ SqT K H t [.int g.1, .int g.2.1, .int g.2.2] ∧ Bd 20 far ∧ Bd 20 f.1 ∧ Bd 20 g.1 ∧
  ∀ (D u v : Addr) (H' : Hp), Same H H' → H' D = some (.lst [.ref u, .ref v]) → H' u = some (.tup [.int (liftF far f).1, .int (liftF far f).2.1, .int (liftF far f).2.2]) → H' v = some (.tup [.int (liftF far g).1, .int (liftF far g).2.1, .int (liftF far g).2.2]) → Q (.ref D) H'
theorem ok_Choose_lifted {P : Program} {w : World} {K : PySem.W.Frag} {mg : Str → Option Value} {base : Heap} (T : Tx K mg) : FnOk P w K mg base CX0 2 T.a_Choose_lifted T.fd_Choose_lifted ["self", "far"] (spLift K T.c_Choose) := by
  refine T.F_Choose_lifted.ok sc_Choose_lifted (fun vs H Q E h => ?_) (fun cdv A outer s H vs Q E hr h => ?_)
  · obtain ⟨x, dx, p, L, q, t, f, g, far, rfl, _⟩ := h
    rfl
  obtain ⟨x, dx, p, L, q, t, f, g, far, rfl, hx, hL, hq, ht, bf, b1, b2, z⟩ := h
  refine ⟨_, ((pss_one (ps_ret (pe_lcomp rfl (blkok rfl (sub_cons rfl sub_nil) (fv_cons 1 "far" (by decide) rfl (Or.inl rfl) (Or.inl rfl) ⟨_, rfl⟩ fv_nil)) (pi_list (pe_fld (pv 0) rfl)) (fun _ _ _ _ => (pe_call (FnOk.mono (ok_raised T) (by decide)) hr rfl T.m_raised T.F_raised.kp T.b_raised .nil pass0 (pa_cons (pv 0) (pa_cons (pe_callB (call_max2 rfl) rfl T.z_max bt_max (pa_cons (pe_op op_mulZ (pv 1) (pe_ix (ix_tupK (K := K) rfl) (pv 0) pe_int (fun _ _ => rfl))) (pa_cons pe_int pa_nil))) pa_nil)))))))), ?_⟩
  k_units
  refine ⟨T.c_Choose, dx, _, hx, T.cl_Choose, T.na_Choose_lows, _, rfl, L, rfl, ⟨_, SqL.of hL⟩, fun D nD => ?_⟩
  obtain ⟨Pc, hPc⟩ : ∃ Pc : Nat → Hp → Prop, ∀ j Hx, Pc j Hx ↔ ∃ us : List Addr, Hx D = some (.lst (us.map V.ref)) ∧ us.length = j ∧ (∀ (i : Nat) (u : Addr) (h : Int × Int × Int), us[i]? = some u → [f, g][i]? = some h → Hx u = some (.tup [.int (liftF far h).1, .int (liftF far h).2.1, .int (liftF far h).2.2])) ∧ Same H Hx := ⟨_, fun _ _ => Iff.rfl⟩
  refine cl_list (xs := [V.ref q, V.ref t]) Pc ((hPc _ _).mpr ⟨[], upd_same, rfl, fun i u h h1 => by simp at h1, same_upd nD _⟩) (fun i Hx _ z => by obtain ⟨_, _, _, _, z⟩ := (hPc i Hx).mp z; exact z.seq (SqL.of hL)) ?_ ?_
  · intro j v Hx hv hc
    obtain ⟨us, k1, k2, k3, k4⟩ := (hPc _ _).mp hc
    obtain ⟨r, h, rfl, hh, er, bh⟩ : ∃ (r : Addr) (h : Int × Int × Int), v = V.ref r ∧ [f, g][j]? = some h ∧ SqT K H r [.int h.1, .int h.2.1, .int h.2.2] ∧ Bd 20 h.1 := by
      match j, hv with
      | 0, hv => exact ⟨q, f, (Option.some.inj hv).symm, rfl, hq, b1⟩
      | 1, hv => exact ⟨t, g, (Option.some.inj hv).symm, rfl, ht, b2⟩
      | j + 2, hv => simp at hv
    (iterate 3 (k_units; (try simp only [bst, Option.getD_some])); k_units)
    have er' := k4.seqT er
    have hj2 : j < 2 := by have := (List.getElem?_eq_some_iff.mp hh).1; simpa using this
    refine ⟨_, er', _, rfl, _, rfl, bf.fits bh (by decide), r, h.1, h.2.1, h.2.2, _, rfl, er', fun u nu => ?_⟩
    have uu := same_upd nu (.tup [V.int h.1, V.int h.2.1, V.int (h.2.2 + if 0 > far * h.1 then 0 else far * h.1)])
    refine ⟨_, uu _ _ k1, by rw [List.length_map]; exact small1000 (by omega), (hPc _ _).mpr ⟨us ++ [u], by rw [upd_same]; simp, by simp [k2], fun i u' h' q1 q2 => ?_, (k4.trans uu).more nD⟩⟩
    have nuD : u ≠ D := fun hz => by rw [hz, k1] at nu; cases nu
    by_cases hi : i < us.length
    · rw [List.getElem?_append_left hi] at q1
      have e := uu _ _ (k3 i u' h' q1 q2)
      rw [upd_ne (ne_of e (uu _ _ k1) (fun z => nomatch z))]; exact e
    · rw [List.getElem?_append_right (by omega)] at q1
      have hi2 : i - us.length = 0 := by
        have := (List.getElem?_eq_some_iff.mp q1).1
        simp at this; omega
      rw [hi2] at q1
      obtain rfl := Option.some.inj q1
      have hij : i = j := by omega
      rw [hij, hh] at q2
      obtain rfl := Option.some.inj q2
      rw [upd_ne nuD, upd_same]; rfl
  intro H' hc
  obtain ⟨us, k1, k2, k3, k4⟩ := (hPc _ _).mp hc
  match us, k2 with
  | [u, v], _ => exact z D u v H' k4 k1 (k3 0 u f rfl rfl) (k3 1 v g rfl rfl)
theorem asc_pos (a : Nat) : ∀ n : Nat, 0 < asc a n
  | 0 => Nat.one_pos
  | n + 1 => Nat.mul_pos (asc_pos a n) (by omega)
def atF (f : Int × Int × Int) (n k : Int) : Int := f.1 * n + f.2.1 * k + f.2.2
def spFloor (K : PySem.W.Frag) (C : Addr) : Sp := fun vs H Q _ => ∃ (x dx p L q t : Addr) (f g h : Int × Int × Int) (far : Int) (n k : Nat), vs = [.ref x, .int (n : Int), .int (k : Int), .int far] ∧ H x = some (.ins C dx (chsF p L)) ∧ H L = some (.lst [.ref q, .ref t]) ∧ SqT K H p [.int h.1, .int h.2.1, .int h.2.2] ∧ SqT K H q [.int f.1, .int f.2.1, .int f.2.2] ∧ SqT K H t [.int g.1, .int g.2.1, .int g.2.2] ∧ h.1 = f.1 + g.1 ∧ h.2.1 = f.2.1 + g.2.1 ∧ h.2.2 = f.2.2 + g.2.2 ∧ Bd 10 far ∧ Bd 10 f.1 ∧ Bd 10 g.1 ∧ Bd 10 f.2.1 ∧ Bd 10 g.2.1 ∧ n ≤ 500 ∧ k ≤ 500 ∧ far * f.1 ≤ 50 ∧ far * g.1 ≤ 50 ∧ atF (liftF far f) n k + atF (liftF far g) n k < 4000 ∧
  ∀ (z : Int × Int), (((atF (liftF far f) n k < 0 ∨ atF (liftF far g) n k < 0) ∧ z = (0, 1)) ∨ ∃ b0 b1 m : Nat, atF (liftF far f) n k = (b0 : Int) ∧ atF (liftF far g) n k = (b1 : Int) ∧ (m : Int) = (if 0 > atF h n k then 0 else atF h n k) ∧ m ≤ b0 + b1 ∧ Frc z ∧ z.1 * ((asc m (b0 + b1 - m) : Nat) : Int) = ((chs (b0 + b1) b1 : Nat) : Int) * z.2) → ∀ (r : Addr) (H' : Hp), Same H H' → H' r = some (.tup [.int z.1, .int z.2]) → Q (.ref r) H'
theorem ok_Choose_floor {P : Program} {w : World} {K : PySem.W.Frag} {mg : Str → Option Value} {base : Heap} (T : Tx K mg) : FnOk P w K mg base CX0 14 T.a_Choose_floor T.fd_Choose_floor ["self", "n", "k", "far"] (spFloor K T.c_Choose) := by
  refine T.F_Choose_floor.ok sc_Choose_floor (fun vs H Q E h => ?_) (fun cdv A outer s H vs Q E hr h => ?_)
  · obtain ⟨x, dx, p, L, q, t, f, g, h, far, n, k, rfl, _⟩ := h
    rfl
  obtain ⟨x, dx, p, L, q, t, f, g, h, far, n, k, rfl, hx, hL, hp, hq, ht, h1, h2, h3, bfar, bf, bg, bf2, bg2, n5, k5, ff, fg, lt4, z⟩ := h
  refine ⟨_, ((pss_cons (ps_set (i := 4) sc_Choose_floor.nd rfl (Or.inl rfl) (pe_call (FnOk.mono (ok_form_value T) (by decide)) hr rfl T.m_form_value T.F_form_value.kp T.b_form_value .nil pass0 (pa_cons (pe_fld (pv 0) rfl) (pa_cons (pv 1) (pa_cons (pv 2) pa_nil)))))
    (pss_cons (ps_setC (i := 5) rfl (blkok rfl (sub_cons rfl (sub_cons rfl sub_nil)) (fv_cons 1 "n" (by decide) rfl (Or.inl rfl) (Or.inl rfl) ⟨_, rfl⟩ (fv_cons 2 "k" (by decide) rfl (Or.inl rfl) (Or.inl rfl) ⟨_, rfl⟩ fv_nil))) (pi_list (pe_meth (pv 0) T.cl_Choose T.me_Choose_lifted (FnOk.mono (ok_Choose_lifted T) (by decide)) hr T.b_Choose_lifted .nil pass0 (pa_cons (pv 3) pa_nil))) (fun _ _ _ _ => (pe_call (FnOk.mono (ok_form_value T) (by decide)) hr rfl T.m_form_value T.F_form_value.kp T.b_form_value .nil pass0 (pa_cons (pv 0) (pa_cons (pv 1) (pa_cons (pv 2) pa_nil))))) sc_Choose_floor.nd rfl rfl)
    (pss_cons (ps_if (pt_cmpR op_lt (pe_callB (call_minL rfl) rfl T.z_min bt_min (pa_cons (pv 5) pa_nil)) pe_int (nomark _)) (pss_one (ps_ret (pe_tup (pa_cons pe_int (pa_cons pe_int pa_nil))))) pss_nil)
    (pss_one (ps_ret (pe_call (FnOk.mono (ok_ratio T) (by decide)) hr rfl T.m_ratio T.F_ratio.kp T.b_ratio .nil passF (pa_cons (pe_call (FnOk.mono (ok_choices T) (by decide)) hr rfl T.m_choices T.F_choices.kp T.b_choices .nil pass0 (pa_cons (pe_ix ix_list (pv 5) pe_int (fun _ _ => rfl)) (pa_cons (pe_ix ix_list (pv 5) pe_int (fun _ _ => rfl)) pa_nil))) (pa_cons (pe_call (FnOk.mono (ok_run_product T 9) (by decide)) hr rfl T.m_run_product T.F_run_product.kp T.b_run_product .nil pass0 (pa_cons (pe_op op_add (pe_callB (call_max2 rfl) rfl T.z_max bt_max (pa_cons (pv 4) (pa_cons pe_int pa_nil))) pe_int) (pa_cons (pe_op op_add (pe_ix ix_list (pv 5) pe_int (fun _ _ => rfl)) (pe_ix ix_list (pv 5) pe_int (fun _ _ => rfl))) pa_nil))) pa_nil))))))))), ?_⟩
  have bn : Bd 20 (n : Int) := Bd.of_lt (m := 501) (by omega) (by decide)
  have bk : Bd 20 (k : Int) := Bd.of_lt (m := 501) (by omega) (by decide)
  dsimp only [a_seq]
  k_typeOf
  refine ⟨T.c_Choose, dx, _, hx, T.cl_Choose, T.na_Choose_above, _, rfl, p, h.1, h.2.1, h.2.2, n, k, rfl, hp, by rw [h1]; exact (bf.add bg).mono (by decide), by rw [h2]; exact (bf2.add bg2).mono (by decide), bn, bk, ?_⟩
  dsimp only [a_seq]
  k_typeOf
  refine ⟨dx, _, hx, rfl, x, dx, p, L, q, t, f, g, far, rfl, hx, hL, hq, ht, bfar.mono (by decide), bf.mono (by decide), bg.mono (by decide), fun D u v H1 s1 eD eu ev => ⟨D, rfl, ⟨_, SqL.of eD⟩, fun D2 nD2 => ?_⟩⟩
  obtain ⟨B0, hB0⟩ : ∃ B0, atF (liftF far f) n k = B0 := ⟨_, rfl⟩
  obtain ⟨B1, hB1⟩ : ∃ B1, atF (liftF far g) n k = B1 := ⟨_, rfl⟩
  rw [hB0, hB1] at z lt4
  obtain ⟨Pc, hPc⟩ : ∃ Pc : Nat → Hp → Prop, ∀ j Hx, Pc j Hx ↔ Hx D2 = some (.lst (([B0, B1].take j).map V.int)) ∧ Same H1 Hx := ⟨_, fun _ _ => Iff.rfl⟩
  refine cl_list (xs := [V.ref u, V.ref v]) Pc ((hPc _ _).mpr ⟨upd_same, same_upd nD2 _⟩) (fun i Hx _ y => by obtain ⟨_, y⟩ := (hPc i Hx).mp y; exact y.seq (SqL.of eD)) ?_ ?_
  · intro j w' Hx hv hc
    obtain ⟨k1, k2⟩ := (hPc _ _).mp hc
    obtain ⟨r, l, rfl, er, bl, bl2, hB⟩ : ∃ (r : Addr) (l : Int × Int × Int), w' = V.ref r ∧ H1 r = some (.tup [.int l.1, .int l.2.1, .int l.2.2]) ∧ Bd 10 l.1 ∧ Bd 10 l.2.1 ∧ [B0, B1].take (j + 1) = [B0, B1].take j ++ [atF l n k] := by
      match j, hv with
      | 0, hv => exact ⟨u, liftF far f, (Option.some.inj hv).symm, eu, bf, bf2, by rw [hB0]; rfl⟩
      | 1, hv => exact ⟨v, liftF far g, (Option.some.inj hv).symm, ev, bg, bg2, by rw [hB1]; rfl⟩
      | j + 2, hv => simp at hv
    (iterate 3 (k_units; (try simp only [bst, Option.getD_some])); k_units)
    refine ⟨r, l.1, l.2.1, l.2.2, n, k, rfl, SqT.of (k2 _ _ er), bl.mono (by decide), bl2.mono (by decide), bn, bk, _, k1, by rw [List.length_map, List.length_take]; exact small1000 (by simp; omega), (hPc _ _).mpr ⟨?_, k2.more nD2⟩⟩
    rw [upd_same, hB, List.map_append]; rfl
  intro H2 hc
  obtain ⟨e2, k2⟩ := (hPc _ _).mp hc
  have e2' : H2 D2 = some (.lst ([B0, B1].map V.int)) := e2
  have s2 := s1.trans k2
  clear hc hPc Pc e2
  dsimp only [a_seq]
  k_typeOf
  refine ⟨[B0, B1], SqL.of e2', by simp, fun M hM hM2 => ite2 (fun hneg => ⟨by decide, fun r nr => z (0, 1) (.inl ⟨?_, rfl⟩) r _ (s2.trans (same_upd nr _)) upd_same⟩) (fun hpos => ?_)⟩
  · simp at hM
    rcases hM with rfl | rfl
    · exact .inl hneg
    · exact .inr hneg
  have p0 := hM2 B0 (by simp)
  have p1 := hM2 B1 (by simp)
  obtain ⟨b0, rfl⟩ : ∃ b0 : Nat, B0 = (b0 : Int) := ⟨B0.toNat, by omega⟩
  obtain ⟨b1, rfl⟩ : ∃ b1 : Nat, B1 = (b1 : Int) := ⟨B1.toNat, by omega⟩
  k_units
  have hA : h.1 * (n : Int) + h.2.1 * (k : Int) + h.2.2 = (f.1 * (n : Int) + f.2.1 * (k : Int) + f.2.2) + (g.1 * (n : Int) + g.2.1 * (k : Int) + g.2.2) := by rw [h1, h2, h3, Int.add_mul, Int.add_mul]; omega
  have q0 : f.1 * (n : Int) + f.2.1 * (k : Int) + (f.2.2 + if 0 > far * f.1 then 0 else far * f.1) = (b0 : Int) := hB0
  have q1 : g.1 * (n : Int) + g.2.1 * (k : Int) + (g.2.2 + if 0 > far * g.1 then 0 else far * g.1) = (b1 : Int) := hB1
  obtain ⟨m, hm⟩ : ∃ m : Nat, (m : Int) = (if 0 > h.1 * (n : Int) + h.2.1 * (k : Int) + h.2.2 then 0 else h.1 * (n : Int) + h.2.1 * (k : Int) + h.2.2) := ⟨(if 0 > h.1 * (n : Int) + h.2.1 * (k : Int) + h.2.2 then 0 else h.1 * (n : Int) + h.2.1 * (k : Int) + h.2.2).toNat, by split <;> omega⟩
  rw [hA] at hm
  have hle : m ≤ b0 + b1 ∧ b0 + b1 - m ≤ 100 := by
    generalize f.1 * (n : Int) + f.2.1 * (k : Int) = X at hm q0
    generalize g.1 * (n : Int) + g.2.1 * (k : Int) = Y at hm q1
    generalize far * f.1 = F0 at ff q0
    generalize far * g.1 = G0 at fg q1
    split at hm <;> split at q0 <;> split at q1 <;> omega
  rw [← hA] at hm
  rw [← hm]
  have l4 : b0 + b1 < 4000 := by omega
  refine ⟨_, SqL.of e2', _, rfl, _, SqL.of e2', _, rfl, b0, b1, rfl, l4, _, SqL.of e2', _, rfl, _, SqL.of e2', _, rfl, _, rfl, _, rfl, m, b0 + b1 - m, ?_, Nat.le_trans (show b0 + b1 - m ≤ 4096 by omega) (by decide), Nat.lt_of_lt_of_le (show m + (b0 + b1 - m) < 4096 by omega) (by decide), ?_⟩
  · rw [show m + (b0 + b1 - m) = b0 + b1 by omega]; rfl
  have ap := asc_pos m (b0 + b1 - m)
  refine ⟨_, _, rfl, (asc_bd (b0 + b1 - m) (Nat.lt_of_lt_of_le (show m + (b0 + b1 - m) < 4096 by omega) (by decide))).mono (by omega), .inl ⟨by omega, fun x y y1 cg e _ _ r nr => ?_⟩⟩
  exact z (x, y) (.inr ⟨b0, b1, m, rfl, rfl, hm, hle.1, ⟨y1, cg⟩, e⟩) r _ (s2.trans (same_upd nr _)) upd_same
def spCWorth (K : PySem.W.Frag) (C : Addr) : Sp := fun vs H Q E => ∃ (x : Addr) (n k : Nat), vs = [.ref x, .int (n : Int), .int (k : Int)] ∧ spFloor K C [.ref x, .int (n : Int), .int (k : Int), .int 0] H Q E
theorem ok_Choose_worth {P : Program} {w : World} {K : PySem.W.Frag} {mg : Str → Option Value} {base : Heap} (T : Tx K mg) : FnOk P w K mg base CX0 15 T.a_Choose_worth T.fd_Choose_worth ["self", "n", "k"] (spCWorth K T.c_Choose) := by
  refine T.F_Choose_worth.ok sc_Choose_worth (fun vs H Q E h => ?_) (fun cdv A outer s H vs Q E hr h => ?_)
  · obtain ⟨x, n, k, rfl, _⟩ := h
    rfl
  obtain ⟨x, n, k, rfl, z⟩ := h
  refine ⟨_, ((pss_one (ps_ret (pe_meth (pv 0) T.cl_Choose T.me_Choose_floor (FnOk.mono (ok_Choose_floor T) (by decide)) hr T.b_Choose_floor .nil pass0 (pa_cons (pv 1) (pa_cons (pv 2) (pa_cons pe_int pa_nil))))))), ?_⟩
  k_units
  have hx : ∃ dx p L, H x = some (.ins T.c_Choose dx (chsF p L)) := by
    obtain ⟨x', dx, p, L, q, t, f, g, h, far, n', k', e, hx, _⟩ := z
    obtain ⟨rfl⟩ : x = x' := by simpa using congrArg List.head? e
    exact ⟨dx, p, L, hx⟩
  obtain ⟨dx, p, L, hx⟩ := hx
  exact ⟨dx, _, hx, rfl, z⟩
inductive Prt where
  | cho (h l : Int × Int × Int)
  | wei (f : Int × Int × Int)
  | pow (f : Int × Int)
  | gro (f : Int × Int)
def subF (h l : Int × Int × Int) : Int × Int × Int := (h.1 - l.1, h.2.1 - l.2.1, h.2.2 - l.2.2)
theorem lift0 (f : Int × Int × Int) : liftF 0 f = f := by simp [liftF]
theorem at_sub (h l : Int × Int × Int) (n k : Int) : atF (subF h l) n k = atF h n k - atF l n k := by
  show (h.1 - l.1) * n + (h.2.1 - l.2.1) * k + (h.2.2 - l.2.2) = h.1 * n + h.2.1 * k + h.2.2 - (l.1 * n + l.2.1 * k + l.2.2)
  grind
def waysF (a b : Int) : Int := if a < 0 ∨ b < 0 then 0 else ((chs (a + b).toNat b.toNat : Nat) : Int)
def worF (p : Prt) (n k : Nat) : Int × Int := match p with
  | .cho h l => (waysF (atF l n k) (atF (subF h l) n k), 1)
  | .wei f => (atF f n k, 1)
  | .pow f => (f.1 ^ k, f.2 ^ k)
  | .gro f => (f.1 ^ n, f.2 ^ n)
def ChoOk (h l : Int × Int × Int) : Prop := (0 ≤ h.1 ∧ h.1 ≤ 3 ∧ 0 ≤ h.2.1 ∧ h.2.1 ≤ 3 ∧ 0 ≤ h.2.2 ∧ h.2.2 ≤ 9) ∧ (-3 ≤ l.1 ∧ l.1 ≤ 3 ∧ -3 ≤ l.2.1 ∧ l.2.1 ≤ 3 ∧ -9 ≤ l.2.2 ∧ l.2.2 ≤ 9) ∧ ¬ (l.1 = 0 ∧ l.2.1 < 0) ∧ ¬ (h.1 - l.1 = 0 ∧ h.2.1 - l.2.1 < 0)
def PrtOk : Prt → Prop
  | .cho h l => ChoOk h l
  | .wei f => Bd 300 f.1 ∧ Bd 300 f.2.1 ∧ Bd 300 f.2.2
  | .pow f => Frc f ∧ f.1 ≠ 0 ∧ Bd 70 f.1 ∧ Bd 20 f.2
  | .gro f => Frc f ∧ f.1 ≠ 0 ∧ Bd 70 f.1 ∧ Bd 20 f.2
theorem frc_one (x : Int) : Frc (x, 1) := ⟨Int.le_refl 1, by show Nat.gcd x.natAbs 1 = 1; exact Nat.gcd_one_right _⟩
theorem frc_pow {f : Int × Int} (h : Frc f) (k : Nat) : Frc (f.1 ^ k, f.2 ^ k) := by
  obtain ⟨h1, h2⟩ := h
  refine ⟨?_, ?_⟩
  · show 1 ≤ f.2 ^ k
    have : 0 < f.2 ^ k := Int.pow_pos (show 0 < f.2 by omega)
    omega
  · show Nat.gcd (f.1 ^ k).natAbs (f.2 ^ k).natAbs = 1
    rw [Int.natAbs_pow, Int.natAbs_pow]; exact Nat.Coprime.pow k k h2
theorem frc_int {z : Int × Int} {c : Int} (h : Frc z) (e : z.1 = c * z.2) : z = (c, 1) := by
  obtain ⟨h1, h2⟩ := h
  have d : z.2.natAbs ∣ z.1.natAbs := by rw [e, Int.natAbs_mul]; exact Nat.dvd_mul_left _ _
  rw [Nat.gcd_comm, Nat.gcd_eq_left d] at h2
  have e2 : z.2 = 1 := by omega
  rw [e2, Int.mul_one] at e
  exact Prod.ext e e2
theorem ways_of {h l : Int × Int × Int} {n k : Nat} {z : Int × Int} (hz : ((atF l n k < 0 ∨ atF (subF h l) n k < 0) ∧ z = (0, 1)) ∨ ∃ b0 b1 m : Nat, atF l n k = (b0 : Int) ∧ atF (subF h l) n k = (b1 : Int) ∧ (m : Int) = (if 0 > atF h n k then 0 else atF h n k) ∧ m ≤ b0 + b1 ∧ Frc z ∧ z.1 * ((asc m (b0 + b1 - m) : Nat) : Int) = ((chs (b0 + b1) b1 : Nat) : Int) * z.2) :
    z = (waysF (atF l n k) (atF (subF h l) n k), 1) := by
  rcases hz with ⟨h1, rfl⟩ | ⟨b0, b1, m, h1, h2, h3, h4, h5, h6⟩
  · unfold waysF; rw [if_pos h1]
  · have h7 := at_sub h l n k
    have hm : m = b0 + b1 := by split at h3 <;> omega
    rw [hm, Nat.sub_self, show asc (b0 + b1) 0 = 1 from rfl] at h6
    have e : waysF (atF l n k) (atF (subF h l) n k) = ((chs (b0 + b1) b1 : Nat) : Int) := by
      unfold waysF
      rw [h1, h2, if_neg (by omega), show ((b0 : Int) + (b1 : Int)).toNat = b0 + b1 by omega, Int.toNat_natCast]
    rw [e]
    exact frc_int h5 (by rw [← h6]; simp)
theorem at_bd {h : Int × Int × Int} {n k : Nat} (h1 : 0 ≤ h.1 ∧ h.1 ≤ 3) (h2 : 0 ≤ h.2.1 ∧ h.2.1 ≤ 3) (h3 : 0 ≤ h.2.2 ∧ h.2.2 ≤ 9) (hn : n ≤ 400) (hk : k ≤ 400) : atF h n k < 4000 := by
  have a1 : h.1 * (n : Int) ≤ 3 * (n : Int) := Int.mul_le_mul_of_nonneg_right h1.2 (by omega)
  have a2 : h.2.1 * (k : Int) ≤ 3 * (k : Int) := Int.mul_le_mul_of_nonneg_right h2.2 (by omega)
  show h.1 * (n : Int) + h.2.1 * (k : Int) + h.2.2 < 4000
  omega
theorem ways_bd {a b : Int} (h : a + b < 4000) : Bd 4000 (waysF a b) := by
  unfold waysF
  split
  · exact Bd.zero _
  · show (((chs (a + b).toNat b.toNat : Nat) : Int)).natAbs < 2 ^ 4000
    rw [Int.natAbs_natCast]
    exact Nat.lt_of_le_of_lt (chs_lt _ _) (Nat.pow_lt_pow_right (by decide) (by omega))
theorem bd_pw {l : Nat} {x : Int} (h : Bd l x) : ∀ n : Nat, Bd (l * n + 1) (x ^ n)
  | 0 => by rw [Int.pow_zero]; exact Bd.one (by omega)
  | n + 1 => by rw [Int.pow_succ]; exact ((bd_pw h n).mul h).mono (by rw [Nat.mul_succ]; omega)
def PtOk (B : Nat) (p : Prt) (n k : Nat) : Prop := PrtOk p ∧ n ≤ 400 ∧ k ≤ 400 ∧ Frc (worF p n k) ∧ Bd 20000 (worF p n k).1 ∧ Bd B (worF p n k).2
theorem near_ok {p : Prt} {n k : Nat} (h : PrtOk p) (hn : n ≤ 12) (hk : k ≤ 12) : PtOk 250 p n k := by
  refine ⟨h, by omega, by omega, ?_⟩
  match p, h with
  | .cho f l, h => exact ⟨frc_one _, (ways_bd (by
      have := at_sub f l n k
      obtain ⟨⟨q1, q2, q3, q4, q5, q6⟩, _⟩ := h
      have := at_bd (n := n) (k := k) ⟨q1, q2⟩ ⟨q3, q4⟩ ⟨q5, q6⟩ (by omega) (by omega)
      omega)).mono (by decide), Bd.one (by decide)⟩
  | .wei f, h =>
    obtain ⟨b1, b2, b3⟩ := h
    have bn : Bd 4 (n : Int) := Bd.of_lt (m := 13) (by omega) (by decide)
    have bk : Bd 4 (k : Int) := Bd.of_lt (m := 13) (by omega) (by decide)
    exact ⟨frc_one _, ((((b1.mul bn).add (b2.mul bk))).add (b3.mono (by decide : 300 ≤ 305))).mono (by decide), Bd.one (by decide)⟩
  | .pow f, h =>
    obtain ⟨h1, h2, b1, b2⟩ := h
    exact ⟨frc_pow h1 k, (bd_pw b1 k).mono (by omega), (bd_pw b2 k).mono (by omega)⟩
  | .gro f, h =>
    obtain ⟨h1, h2, b1, b2⟩ := h
    exact ⟨frc_pow h1 n, (bd_pw b1 n).mono (by omega), (bd_pw b2 n).mono (by omega)⟩
def Small : Prt → Prop
  | .cho _ _ => True
  | .pow f => Bd 4 f.1 ∧ Bd 4 f.2
  | _ => False
theorem far_ok {p : Prt} {n k : Nat} (h : PrtOk p) (s : Small p) (hn : n ≤ 400) (hk : k ≤ 400) : PtOk 1700 p n k := by
  refine ⟨h, hn, hk, ?_⟩
  match p, h, s with
  | .cho f l, h, _ => exact ⟨frc_one _, (ways_bd (by
      have := at_sub f l n k
      obtain ⟨⟨q1, q2, q3, q4, q5, q6⟩, _⟩ := h
      have := at_bd (n := n) (k := k) ⟨q1, q2⟩ ⟨q3, q4⟩ ⟨q5, q6⟩ (by omega) (by omega)
      omega)).mono (by decide), Bd.one (by decide)⟩
  | .pow f, h, s =>
    obtain ⟨h1, _⟩ := h
    obtain ⟨b1, b2⟩ := s
    exact ⟨frc_pow h1 k, (bd_pw b1 k).mono (by omega), (bd_pw b2 k).mono (by omega)⟩
def dueF (fs : List (Int × Int)) : Int × Int := fs.foldl (fun d f => (d.1 * f.1, d.2 * f.2)) (1, 1)
theorem dueF_snoc (fs : List (Int × Int)) (f : Int × Int) : dueF (fs ++ [f]) = ((dueF fs).1 * f.1, (dueF fs).2 * f.2) := by unfold dueF; rw [List.foldl_append]; rfl
theorem due_prod (fs : List (Int × Int)) (h : ∀ f ∈ fs, Frc f) : Frc (prodF fs) ∧ (prodF fs).1 * (dueF fs).2 = (dueF fs).1 * (prodF fs).2 := by
  obtain ⟨m, hm⟩ : ∃ m, fs.length = m := ⟨_, rfl⟩
  induction m generalizing fs with
  | zero =>
    obtain rfl := List.eq_nil_of_length_eq_zero hm
    exact ⟨frc_one 1, rfl⟩
  | succ m ih =>
    obtain ⟨gs, g, rfl⟩ : ∃ gs g, fs = gs ++ [g] := ⟨fs.dropLast, fs.getLast (fun z => by rw [z] at hm; simp at hm), (List.dropLast_concat_getLast _).symm⟩
    obtain ⟨i1, i2⟩ := ih gs (fun f hf => h f (List.mem_append_left _ hf)) (by simp at hm; exact hm)
    rw [prodF_snoc, dueF_snoc]
    have hg := h g (by simp)
    obtain ⟨m1, m2, _⟩ := mulF_is i1 hg
    refine ⟨m1, ?_⟩
    generalize mulF (prodF gs) g = M at *
    generalize prodF gs = P at *
    generalize dueF gs = D at *
    have p0 : P.2 ≠ 0 := by have := i1.1; omega
    refine Int.eq_of_mul_eq_mul_right p0 ?_
    show M.1 * (D.2 * g.2) * P.2 = D.1 * g.1 * M.2 * P.2
    have e1 : M.1 * (D.2 * g.2) * P.2 = M.1 * (P.2 * g.2) * D.2 := by grind
    have e2 : D.1 * g.1 * M.2 * P.2 = (D.1 * P.2) * (g.1 * M.2) := by grind
    rw [e1, m2, e2, ← i2]; grind
theorem due_bd (fs : List (Int × Int)) {B : Nat} (h : ∀ f ∈ fs, Bd 20000 f.1 ∧ Bd B f.2) : Bd (20000 * fs.length + 1) (dueF fs).1 ∧ Bd (B * fs.length + 1) (dueF fs).2 := by
  obtain ⟨m, hm⟩ : ∃ m, fs.length = m := ⟨_, rfl⟩
  induction m generalizing fs with
  | zero =>
    obtain rfl := List.eq_nil_of_length_eq_zero hm
    exact ⟨Bd.one (by decide), Bd.one (by simp)⟩
  | succ m ih =>
    obtain ⟨gs, g, rfl⟩ : ∃ gs g, fs = gs ++ [g] := ⟨fs.dropLast, fs.getLast (fun z => by rw [z] at hm; simp at hm), (List.dropLast_concat_getLast _).symm⟩
    obtain ⟨i1, i2⟩ := ih gs (fun f hf => h f (List.mem_append_left _ hf)) (by simp at hm; exact hm)
    obtain ⟨b1, b2⟩ := h g (by simp)
    rw [dueF_snoc, List.length_append, List.length_singleton, Nat.mul_add, Nat.mul_add]
    exact ⟨(i1.mul b1).mono (by omega), (i2.mul b2).mono (by omega)⟩
theorem prod_bd (fs : List (Int × Int)) {B : Nat} (h : ∀ f ∈ fs, Frc f ∧ Bd 20000 f.1 ∧ Bd B f.2) : Bd (20000 * fs.length + 1) (prodF fs).1 ∧ Bd (B * fs.length + 1) (prodF fs).2 := by
  obtain ⟨m, hm⟩ : ∃ m, fs.length = m := ⟨_, rfl⟩
  induction m generalizing fs with
  | zero =>
    obtain rfl := List.eq_nil_of_length_eq_zero hm
    exact ⟨Bd.one (by decide), Bd.one (by simp)⟩
  | succ m ih =>
    obtain ⟨gs, g, rfl⟩ : ∃ gs g, fs = gs ++ [g] := ⟨fs.dropLast, fs.getLast (fun z => by rw [z] at hm; simp at hm), (List.dropLast_concat_getLast _).symm⟩
    obtain ⟨i1, i2⟩ := ih gs (fun f hf => h f (List.mem_append_left _ hf)) (by simp at hm; exact hm)
    obtain ⟨hg, b1, b2⟩ := h g (by simp)
    have hF := (due_prod gs fun f hf => (h f (List.mem_append_left _ hf)).1).1
    obtain ⟨_, _, m3, m4⟩ := mulF_is hF hg
    rw [prodF_snoc, List.length_append, List.length_singleton, Nat.mul_add, Nat.mul_add]
    have z1 := (i1.mul b1).mono (show 20000 * gs.length + 1 + 20000 ≤ 20000 * gs.length + 20000 * 1 + 1 by omega)
    have z2 := (i2.mul b2).mono (show B * gs.length + 1 + B ≤ B * gs.length + B * 1 + 1 by omega)
    unfold Bd at z1 z2
    rw [Int.natAbs_mul] at z1 z2
    exact ⟨Nat.lt_of_le_of_lt m3 z1, Nat.lt_of_le_of_lt m4 z2⟩
theorem cl_zip3 {K : PySem.W.Frag} {a b c : Addr} {xs ys zs : List V} {fv : List (Nat × Str)} {te : TE} {Q : VK} {σ : L2.St} {H1 : Hp} {D : Addr} (Pv : Nat → Hp → Prop) (ly : ys.length = xs.length) (lz : zs.length = xs.length) (h0 : Pv 0 (L2.upd H1 D (.lst []))) (hl : ∀ i H, Pv i H → SqT K H a xs ∧ SqT K H b ys ∧ SqT K H c zs)
    (hs : ∀ i v1 v2 v3 p H, xs[i]? = some v1 → ys[i]? = some v2 → zs[i]? = some v3 → Pv i H → H p = none → te (bst3 fv σ (some v1) (some v2) (some v3)) (L2.upd H p (.tup [v1, v2, v3])) fun y H2 => ∃ us, H2 D = some (.lst us) ∧ us.length < sizeLine ∧ Pv (i + 1) (L2.upd H2 D (.lst (us ++ [y]))))
    (hd : ∀ H, Pv xs.length H → Q (.ref D) H) : CLoop3 K (Itz3 K a b c) fv te Q σ H1 D := by
  refine ⟨fun i m H => m = xs.length - i ∧ i ≤ xs.length ∧ Pv i H, ⟨_, rfl, Nat.zero_le _, h0⟩, ?_⟩
  rintro i m H ⟨rfl, hi, p⟩
  obtain ⟨q1, q2, q3⟩ := hl i H p
  by_cases hlt : i < xs.length
  · refine .inr ⟨⟨xs, ys, zs, xs[i], ys[i], zs[i], q1, q2, q3, List.getElem?_eq_getElem hlt, List.getElem?_eq_getElem (by omega), List.getElem?_eq_getElem (by omega)⟩, Pv (i + 1), fun H' p' => ⟨xs.length - (i + 1), by omega, rfl, hlt, p'⟩, fun v H' y => ?_⟩
    obtain ⟨pa, x1, x2, x3, hn, e1, e2, y1, y2, y3⟩ := y
    subst e1 e2
    exact ⟨pa, x1, x2, x3, rfl, .inl (.inl upd_same), hs i x1 x2 x3 pa H (y1 xs q1) (y2 ys q2) (y3 zs q3) p hn⟩
  · have e : i = xs.length := by omega
    refine .inl ⟨⟨xs, q1, by omega⟩, ?_⟩
    rw [e] at p
    exact hd H p
def spWithin (K : PySem.W.Frag) : Sp := fun vs H Q _ => ∃ (p q : Addr) (a b c x y z : Int), vs = [.ref p, .ref q] ∧ SqT K H p [.int a, .int b, .int c] ∧ SqT K H q [.int x, .int y, .int z] ∧ x ≤ a ∧ a ≤ 3 ∧ y ≤ b ∧ b ≤ 3 ∧ z ≤ c ∧ c ≤ 9 ∧ ∀ H', Same H H' → Q (.bl true) H'
theorem ok_within {P : Program} {w : World} {K : PySem.W.Frag} {mg : Str → Option Value} {base : Heap} (T : Tx K mg) : FnOk P w K mg base CX0 1 T.a_within T.fd_within ["form", "least"] (spWithin K) := by
  refine T.F_within.ok sc_within (fun vs H Q E h => ?_) (fun cdv A outer s H vs Q E hr h => ?_)
  · obtain ⟨p, q, a, b, c, x, y, z, rfl, _⟩ := h
    rfl
  obtain ⟨p, q, a, b, c, x, y, z, rfl, hp, hq, h1, h2, h3, h4, h5, h6, k⟩ := h
  refine ⟨_, ((pss_one (ps_ret (pe_callB (call_allL rfl) rfl T.z_all boot_all (pa_cons (pe_lcomp3 rfl (blkok3 rfl sub_nil fv_nil2) (pi_zip3 rfl T.z_zip (pa_cons (pv 1) (pa_cons (pv 0) (pa_cons (pe_glob (v := .ref T.gt_GREATEST.1) rfl T.gt_GREATEST.2.1 rfl) pa_nil)))) (fun _ _ _ _ => (pe_chain op_le op_le (pv 0) (pv 1) (pv 2)))) pa_nil))))), ?_⟩
  k_units
  refine ⟨_, hq, _, hp, _, T.gt_GREATEST.2.2 H, fun D nD => ?_⟩
  obtain ⟨Pc, hPc⟩ : ∃ Pc : Nat → Hp → Prop, ∀ j Hx, Pc j Hx ↔ Hx D = some (.lst ((List.replicate j true).map V.bl)) ∧ Same H Hx := ⟨_, fun _ _ => Iff.rfl⟩
  refine cl_zip3 (xs := [V.int x, V.int y, V.int z]) (ys := [V.int a, V.int b, V.int c]) (zs := [V.int 3, V.int 3, V.int 9]) Pc rfl rfl ((hPc _ _).mpr ⟨upd_same, same_upd nD _⟩) (fun i Hx y => by obtain ⟨_, y⟩ := (hPc i Hx).mp y; exact ⟨y.seqT hq, y.seqT hp, T.gt_GREATEST.2.2 Hx⟩) ?_ ?_
  · intro i v1 v2 v3 r Hx e1 e2 e3 hc nr
    obtain ⟨k1, k2⟩ := (hPc _ _).mp hc
    obtain ⟨x1, x2, x3, rfl, rfl, rfl, l1, l2, hi⟩ : ∃ x1 x2 x3 : Int, v1 = .int x1 ∧ v2 = .int x2 ∧ v3 = .int x3 ∧ x1 ≤ x2 ∧ x2 ≤ x3 ∧ i < 3 := by
      match i, e1, e2, e3 with
      | 0, e1, e2, e3 => exact ⟨_, _, _, (Option.some.inj e1).symm, (Option.some.inj e2).symm, (Option.some.inj e3).symm, h1, h2, by decide⟩
      | 1, e1, e2, e3 => exact ⟨_, _, _, (Option.some.inj e1).symm, (Option.some.inj e2).symm, (Option.some.inj e3).symm, h3, h4, by decide⟩
      | 2, e1, e2, e3 => exact ⟨_, _, _, (Option.some.inj e1).symm, (Option.some.inj e2).symm, (Option.some.inj e3).symm, h5, h6, by decide⟩
      | j + 3, e1, e2, e3 => simp at e1
    (iterate 3 (k_units; (try simp only [bst3])); k_units)
    rw [if_pos l1]
    have u := same_upd nr (.tup [V.int x1, V.int x2, V.int x3])
    refine ⟨_, u _ _ k1, by rw [List.length_map, List.length_replicate]; exact small1000 (by omega), (hPc _ _).mpr ⟨?_, (k2.trans u).more nD⟩⟩
    rw [upd_same, decide_eq_true l2, List.replicate_succ', List.map_append]; rfl
  intro Hx hc
  obtain ⟨k1, k2⟩ := (hPc _ _).mp hc
  refine ⟨D, rfl, _, SqL.of k1, ?_⟩
  exact k Hx k2
def spChk (K : PySem.W.Frag) : Sp := fun vs H Q _ => ∃ (p q : Addr) (h l : Int × Int × Int), vs = [.ref p, .ref q] ∧ SqT K H p [.int h.1, .int h.2.1, .int h.2.2] ∧ SqT K H q [.int l.1, .int l.2.1, .int l.2.2] ∧ ChoOk h l ∧ ∀ H', Same H H' → Q .non H'
theorem ok_check_choose {P : Program} {w : World} {K : PySem.W.Frag} {mg : Str → Option Value} {base : Heap} (T : Tx K mg) : FnOk P w K mg base (CXE P w) 2 T.a_check_choose T.fd_check_choose ["upper", "lower"] (spChk K) := by
  refine T.F_check_choose.okE sc_check_choose (fun vs H Q E h => ?_) (fun cdv A outer s H vs Q E hr h => ?_)
  · obtain ⟨p, q, h, l, rfl, _⟩ := h
    rfl
  obtain ⟨p, q, h, l, rfl, hp, hq, ⟨⟨a1, a2, a3, a4, a5, a6⟩, ⟨b1, b2, b3, b4, b5, b6⟩, f1, f2⟩, k⟩ := h
  refine ⟨_, ((pss_cons (ps_if (PT.nox (PW.pt (pw_or (pt_not (pt_val (pe_call (FnOk.mono (ok_within T) (by decide)) hr rfl T.m_within T.F_within.kp T.b_within .nil pass0 (pa_cons (pv 0) (pa_cons (pe_glob (v := .ref T.gt_UPPER_LEAST.1) rfl T.gt_UPPER_LEAST.2.1 rfl) pa_nil))))) (pw_or1 (pt_not (pt_val (pe_call (FnOk.mono (ok_within T) (by decide)) hr rfl T.m_within T.F_within.kp T.b_within .nil pass0 (pa_cons (pv 1) (pa_cons (pe_glob (v := .ref T.gt_LOWER_LEAST.1) rfl T.gt_LOWER_LEAST.2.1 rfl) pa_nil))))))))) (pss_one (ps_raise rfl throwE rfl T.mc_NoTerm T.xc_NoTerm (pa_cons pe_str pa_nil))) pss_nil)
    (pss_one (ps_for PassesOwn.leaving rfl (pi_list (pe_call (FnOk.mono (ok_low_forms T) (by decide)) hr rfl T.m_low_forms T.F_low_forms.kp T.b_low_forms .nil pass0 (pa_cons (pv 0) (pa_cons (pv 1) pa_nil)))) (pg_name (i := 2) sc_check_choose.nd rfl (Or.inl rfl)) (pss_one (ps_if (PT.nox (PW.pt (pw_and (pt_cmpR op_eq (pe_ix ix_tup (pv 2) pe_int (fun _ _ => rfl)) pe_int (nomark _)) (pw_and1 (pt_cmpR op_lt (pe_ix ix_tup (pv 2) pe_int (fun _ _ => rfl)) pe_int (nomark _)))))) (pss_one (ps_raise rfl throwE rfl T.mc_NoTerm T.xc_NoTerm (pa_cons pe_str pa_nil))) pss_nil)))))), ?_⟩
  k_units
  refine ⟨p, T.gt_UPPER_LEAST.1, h.1, h.2.1, h.2.2, 0, 0, 0, rfl, hp, T.gt_UPPER_LEAST.2.2 H, a1, a2, a3, a4, a5, a6, fun H1 s1 => ⟨true, rfl, ?_⟩⟩
  rw [if_neg (by decide)]
  refine ⟨q, T.gt_LOWER_LEAST.1, l.1, l.2.1, l.2.2, -3, -3, -9, rfl, s1.seqT hq, T.gt_LOWER_LEAST.2.2 H1, b1, b2, b3, b4, b5, b6, fun H2 s2 => ⟨true, rfl, ?_⟩⟩
  rw [if_neg (by decide)]
  have s12 := s1.trans s2
  refine ⟨p, q, h.1, h.2.1, h.2.2, l.1, l.2.1, l.2.2, rfl, s12.seqT hp, s12.seqT hq, fun L t H3 s3 nL nt eL et => ⟨L, rfl, ⟨_, SqL.of eL⟩, ?_⟩⟩
  have s13 := s12.trans s3
  refine lp_list (xs := [V.ref q, V.ref t]) (fun i σ H' => ∃ r : Option V, σ = [some (V.ref p), some (V.ref q), r] ∧ H' = H3) ⟨none, rfl, rfl⟩ (fun i σ H' _ z => by obtain ⟨_, _, rfl⟩ := z; exact SqL.of eL) ?_ ?_
  · rintro i v σ H' hv ⟨r, rfl, rfl⟩
    obtain ⟨u, f, rfl, eu, nf⟩ : ∃ (u : Addr) (f : Int × Int × Int), v = V.ref u ∧ SqT K H' u [.int f.1, .int f.2.1, .int f.2.2] ∧ ¬ (f.1 = 0 ∧ f.2.1 < 0) := by
      match i, hv with
      | 0, hv => exact ⟨q, l, (Option.some.inj hv).symm, s13.seqT hq, f1⟩
      | 1, hv => exact ⟨t, subF h l, (Option.some.inj hv).symm, SqT.of et, f2⟩
      | j + 2, hv => simp at hv
    k_units
    refine ⟨_, eu, _, rfl, ?_⟩
    k_units
    refine ite2 (fun z => ?_) (fun z => trivial)
    refine ⟨_, eu, _, rfl, ?_⟩
    k_units
    rw [if_neg (fun z2 => nf ⟨z, z2⟩)]
    trivial
  · rintro σ H' ⟨r, rfl, rfl⟩
    exact k H' s13
def spChkB (K : PySem.W.Frag) : Sp := fun vs H Q _ => ∃ (p : Addr) (f : Int × Int), vs = [.ref p] ∧ SqT K H p [.int f.1, .int f.2] ∧ f.1 ≠ 0 ∧ Q .non H
theorem ok_check_base {P : Program} {w : World} {K : PySem.W.Frag} {mg : Str → Option Value} {base : Heap} (T : Tx K mg) : FnOk P w K mg base (CXE P w) 1 T.a_check_base T.fd_check_base ["fraction"] (spChkB K) := by
  refine T.F_check_base.okE sc_check_base (fun vs H Q E h => ?_) (fun cdv A outer s H vs Q E hr h => ?_)
  · obtain ⟨p, f, rfl, _⟩ := h
    rfl
  obtain ⟨p, f, rfl, hp, f0, k⟩ := h
  refine ⟨_, ((pss_one (ps_if (PT.nox (pt_cmpR op_eq (pe_ix ix_tup (pv 0) pe_int (fun _ _ => rfl)) pe_int (nomark _))) (pss_one (ps_raise rfl throwE rfl T.mc_NoTerm T.xc_NoTerm (pa_cons pe_str pa_nil))) pss_nil))), ?_⟩
  k_units
  refine ⟨_, hp, _, rfl, ?_⟩
  k_units
  rw [if_neg f0]
  exact k
abbrev T3 (f : Int × Int × Int) : HO := .tup [.int f.1, .int f.2.1, .int f.2.2]
abbrev T2 (f : Int × Int) : HO := .tup [.int f.1, .int f.2]
def PtAt (H : Hp) (r : Addr) : Prt → Prop
  | .cho h l => ∃ a b, H r = some (.tup [.str (Str.ofString "choose"), .ref a, .ref b]) ∧ H a = some (T3 h) ∧ H b = some (T3 l)
  | .wei f => ∃ a, H r = some (.tup [.str (Str.ofString "weight"), .ref a]) ∧ H a = some (T3 f)
  | .pow f => ∃ a, H r = some (.tup [.str (Str.ofString "power"), .ref a]) ∧ H a = some (T2 f)
  | .gro f => ∃ a, H r = some (.tup [.str (Str.ofString "growth"), .ref a]) ∧ H a = some (T2 f)
def PcAt {K : PySem.W.Frag} {mg : Str → Option Value} (T : Tx K mg) (H0 H : Hp) (r : Addr) : Prt → Prop
  | .cho h l => ∃ dx a L b t, H r = some (.ins T.c_Choose dx (chsF a L)) ∧ H a = some (T3 h) ∧ H0 L = none ∧ H L = some (.lst [.ref b, .ref t]) ∧ H b = some (T3 l) ∧ H t = some (T3 (subF h l))
  | .wei f => ∃ dx a, H r = some (.ins T.c_Weight dx (wgtF a)) ∧ H a = some (T3 f)
  | .pow f => ∃ dx a, H r = some (.ins T.c_Power dx (powF a)) ∧ H a = some (T2 f)
  | .gro f => ∃ dx a, H r = some (.ins T.c_Growth dx (powF a)) ∧ H a = some (T2 f)
inductive Nice (H0 : Hp) (a : Addr) : HO → Prop where
  | lst {xs : List V} (h : H0 a = none) : Nice H0 a (.lst xs)
  | tup {xs : List V} : Nice H0 a (.tup xs)
  | ins {C dx : Addr} {fs : List (Str × V)} (h : fs.lookup (Str.ofString "parts") = none) : Nice H0 a (.ins C dx fs)
def Kp (H0 H H' : Hp) : Prop := ∀ a o, H a = some o → Nice H0 a o → H' a = some o
theorem kpS {H0 H H' : Hp} (s : Same H H') : Kp H0 H H' := fun a o h _ => s a o h
theorem kpD {H0 H H1 : Hp} {D : Addr} {xs ys : List V} (s : Same H H1) (h0 : H0 D ≠ none) (h : H D = some (.lst xs)) : Kp H0 H (L2.upd H1 D (.lst ys)) := fun a o e n => by
  have : a ≠ D := fun z => by
    subst z
    rw [h] at e
    cases e
    cases n with
    | lst z => exact h0 z
  rw [upd_ne this]; exact s _ _ e
theorem PtAt.kt {H H' : Hp} {r : Addr} {p : Prt} (h : PtAt H r p) (k : ∀ a xs, H a = some (.tup xs) → H' a = some (.tup xs)) : PtAt H' r p := by
  match p, h with
  | .cho f l, ⟨a, b, h1, h2, h3⟩ => exact ⟨a, b, k _ _ h1, k _ _ h2, k _ _ h3⟩
  | .wei f, ⟨a, h1, h2⟩ => exact ⟨a, k _ _ h1, k _ _ h2⟩
  | .pow f, ⟨a, h1, h2⟩ => exact ⟨a, k _ _ h1, k _ _ h2⟩
  | .gro f, ⟨a, h1, h2⟩ => exact ⟨a, k _ _ h1, k _ _ h2⟩
theorem PtAt.on {H H' : Hp} {r : Addr} {p : Prt} (h : PtAt H r p) (s : Same H H') : PtAt H' r p := h.kt fun a xs e => s a _ e
theorem PcAt.kp {K : PySem.W.Frag} {mg : Str → Option Value} {T : Tx K mg} {H0 H H' : Hp} {r : Addr} {p : Prt} (h : PcAt T H0 H r p) (k : Kp H0 H H') : PcAt T H0 H' r p := by
  match p, h with
  | .cho f l, ⟨dx, a, L, b, t, h1, h2, h3, h4, h5, h6⟩ => exact ⟨dx, a, L, b, t, k _ _ h1 (.ins rfl), k _ _ h2 .tup, h3, k _ _ h4 (.lst h3), k _ _ h5 .tup, k _ _ h6 .tup⟩
  | .wei f, ⟨dx, a, h1, h2⟩ => exact ⟨dx, a, k _ _ h1 (.ins rfl), k _ _ h2 .tup⟩
  | .pow f, ⟨dx, a, h1, h2⟩ => exact ⟨dx, a, k _ _ h1 (.ins rfl), k _ _ h2 .tup⟩
  | .gro f, ⟨dx, a, h1, h2⟩ => exact ⟨dx, a, k _ _ h1 (.ins rfl), k _ _ h2 .tup⟩
theorem PcAt.fr {K : PySem.W.Frag} {mg : Str → Option Value} {T : Tx K mg} {H00 H0 H : Hp} {r : Addr} {p : Prt} (h : PcAt T H0 H r p) (s : ∀ y, H0 y = none → H00 y = none) : PcAt T H00 H r p := by
  match p, h with
  | .cho f l, ⟨dx, a, L, b, t, h1, h2, h3, h4⟩ => exact ⟨dx, a, L, b, t, h1, h2, s _ h3, h4⟩
  | .wei f, h => exact h
  | .pow f, h => exact h
  | .gro f, h => exact h
theorem PcAt.from {K : PySem.W.Frag} {mg : Str → Option Value} {T : Tx K mg} {H00 H0 H : Hp} {r : Addr} {p : Prt} (h : PcAt T H0 H r p) (s : Same H00 H0) : PcAt T H00 H r p := h.fr fun y e => s.free e
def mkP {K : PySem.W.Frag} {mg : Str → Option Value} (T : Tx K mg) (H : Hp) (Q : VK) (p : Prt) : Prop := ∀ (x : Addr) (H' : Hp), Same H H' → PcAt T H H' x p → Q (.ref x) H'
def spPiece {K : PySem.W.Frag} {mg : Str → Option Value} (T : Tx K mg) : Sp := fun vs H Q _ => ∃ (r : Addr) (p : Prt), vs = [.ref r] ∧ PtAt H r p ∧ PrtOk p ∧ mkP T H Q p
theorem mkP.on {K : PySem.W.Frag} {mg : Str → Option Value} {T : Tx K mg} {H H1 : Hp} {Q : VK} {p : Prt} (k : mkP T H Q p) (s : Same H H1) : mkP T H1 Q p := fun x H' s' h => k x H' (s.trans s') (h.from s)
theorem same_new {H : Hp} {x dx : Addr} {o u : HO} (hx : H x = none) (hd : H dx = none) : Same H (L2.upd (L2.upd H dx u) x o) := fun b v e => by rw [upd_ne (ne_of_none e hx), upd_ne (ne_of_none e hd)]; exact e
theorem mk_cho {K : PySem.W.Frag} {mg : Str → Option Value} {T : Tx K mg} {H : Hp} {Q : VK} {E : XK} {a b : Addr} {h l : Int × Int × Int} (ha : H a = some (T3 h)) (hb : H b = some (T3 l)) (k : mkP T H Q (.cho h l)) (x dx : Addr) (hx : H x = none) (hd : H dx = none) (_ : dx ≠ x) :
    spCInit K T.c_Choose [.ref x, .ref a, .ref b] (L2.upd (L2.upd H dx (.own x)) x (.ins T.c_Choose dx [])) (fun v H2 => v = V.non ∧ Q (.ref x) H2) E := by
  have s1 : Same H (L2.upd (L2.upd H dx (.own x)) x (.ins T.c_Choose dx [])) := same_new hx hd
  refine ⟨x, dx, a, b, h.1, h.2.1, h.2.2, l.1, l.2.1, l.2.2, rfl, upd_same, SqT.of (s1 _ _ ha), SqT.of (s1 _ _ hb), fun L t H' s2 nL nt ex eL et => ⟨rfl, ?_⟩⟩
  have s3 : Same H H' := fun y o e => s2 y o (ne_of_none e hx) (s1 y o e)
  exact k x H' s3 ⟨dx, a, L, b, t, ex, s3 _ _ ha, s1.free nL, eL, s3 _ _ hb, et⟩
theorem mk_wei {K : PySem.W.Frag} {mg : Str → Option Value} {T : Tx K mg} {H : Hp} {Q : VK} {E : XK} {a : Addr} {f : Int × Int × Int} (ha : H a = some (T3 f)) (k : mkP T H Q (.wei f)) (x dx : Addr) (hx : H x = none) (hd : H dx = none) (_ : dx ≠ x) :
    spWInit T.c_Weight [.ref x, .ref a] (L2.upd (L2.upd H dx (.own x)) x (.ins T.c_Weight dx [])) (fun v H2 => v = V.non ∧ Q (.ref x) H2) E := by
  have s1 : Same H (L2.upd (L2.upd H dx (.own x)) x (.ins T.c_Weight dx [])) := same_new hx hd
  have s3 : Same H (L2.upd (L2.upd (L2.upd H dx (.own x)) x (.ins T.c_Weight dx [])) x (.ins T.c_Weight dx (wgtF a))) := fun y o e => by rw [upd_ne (ne_of_none e hx)]; exact s1 y o e
  exact ⟨x, dx, a, rfl, upd_same, rfl, k x _ s3 ⟨dx, a, upd_same, s3 _ _ ha⟩⟩
theorem mk_pow {K : PySem.W.Frag} {mg : Str → Option Value} {T : Tx K mg} {H : Hp} {Q : VK} {E : XK} {a : Addr} {f : Int × Int} (ha : H a = some (T2 f)) (k : mkP T H Q (.pow f)) (x dx : Addr) (hx : H x = none) (hd : H dx = none) (_ : dx ≠ x) :
    spPInit T.c_Power [.ref x, .ref a] (L2.upd (L2.upd H dx (.own x)) x (.ins T.c_Power dx [])) (fun v H2 => v = V.non ∧ Q (.ref x) H2) E := by
  have s1 : Same H (L2.upd (L2.upd H dx (.own x)) x (.ins T.c_Power dx [])) := same_new hx hd
  have s3 : Same H (L2.upd (L2.upd (L2.upd H dx (.own x)) x (.ins T.c_Power dx [])) x (.ins T.c_Power dx (powF a))) := fun y o e => by rw [upd_ne (ne_of_none e hx)]; exact s1 y o e
  exact ⟨x, dx, a, rfl, upd_same, rfl, k x _ s3 ⟨dx, a, upd_same, s3 _ _ ha⟩⟩
theorem mk_gro {K : PySem.W.Frag} {mg : Str → Option Value} {T : Tx K mg} {H : Hp} {Q : VK} {E : XK} {a : Addr} {f : Int × Int} (ha : H a = some (T2 f)) (k : mkP T H Q (.gro f)) (x dx : Addr) (hx : H x = none) (hd : H dx = none) (_ : dx ≠ x) :
    spPInit T.c_Growth [.ref x, .ref a] (L2.upd (L2.upd H dx (.own x)) x (.ins T.c_Growth dx [])) (fun v H2 => v = V.non ∧ Q (.ref x) H2) E := by
  have s1 : Same H (L2.upd (L2.upd H dx (.own x)) x (.ins T.c_Growth dx [])) := same_new hx hd
  have s3 : Same H (L2.upd (L2.upd (L2.upd H dx (.own x)) x (.ins T.c_Growth dx [])) x (.ins T.c_Growth dx (powF a))) := fun y o e => by rw [upd_ne (ne_of_none e hx)]; exact s1 y o e
  exact ⟨x, dx, a, rfl, upd_same, rfl, k x _ s3 ⟨dx, a, upd_same, s3 _ _ ha⟩⟩
theorem ok_piece_of {P : Program} {w : World} {K : PySem.W.Frag} {mg : Str → Option Value} {base : Heap} (T : Tx K mg) : FnOk P w K mg base (CXE P w) 4 T.a_piece_of T.fd_piece_of ["part"] (spPiece T) := by
  refine T.F_piece_of.okE sc_piece_of (fun vs H Q E h => ?_) (fun cdv A outer s H vs Q E hr h => ?_)
  · obtain ⟨r, p, rfl, _⟩ := h
    rfl
  obtain ⟨r, p, rfl, hp, ho, k⟩ := h
  refine ⟨_, ((pss_cons (ps_if (PT.nox (pt_cmpR op_eq (pe_ix ix_tup (pv 0) pe_int (fun _ _ => rfl)) pe_str (nomark _))) (pss_cons (ps_expr (pe_call (FnOk.mono (ok_check_choose T) (by decide)) hr rfl T.m_check_choose T.F_check_choose.kp T.b_check_choose .nil passE (pa_cons (pe_ix ix_tup (pv 0) pe_int (fun _ _ => rfl)) (pa_cons (pe_ix ix_tup (pv 0) pe_int (fun _ _ => rfl)) pa_nil))))
    (pss_one (PS.nox (ps_ret (pe_make T.mk_Choose (FnOk.mono (ok_Choose___init__ T) (by decide)) hr rfl T.mc_Choose T.b_Choose___init__ .nil pass0 (pa_cons (pe_ix ix_tup (pv 0) pe_int (fun _ _ => rfl)) (pa_cons (pe_ix ix_tup (pv 0) pe_int (fun _ _ => rfl)) pa_nil))))))) pss_nil)
    (pss_cons (PS.nox (ps_if (pt_cmpR op_eq (pe_ix ix_tup (pv 0) pe_int (fun _ _ => rfl)) pe_str (nomark _)) (pss_one (ps_ret (pe_make T.mk_Weight (FnOk.mono (ok_Weight___init__ T) (by decide)) hr rfl T.mc_Weight T.b_Weight___init__ .nil pass0 (pa_cons (pe_ix ix_tup (pv 0) pe_int (fun _ _ => rfl)) pa_nil)))) pss_nil))
    (pss_cons (ps_if (PT.nox (pt_cmpR op_eq (pe_ix ix_tup (pv 0) pe_int (fun _ _ => rfl)) pe_str (nomark _))) (pss_cons (ps_expr (pe_call (FnOk.mono (ok_check_base T) (by decide)) hr rfl T.m_check_base T.F_check_base.kp T.b_check_base .nil passE (pa_cons (pe_ix ix_tup (pv 0) pe_int (fun _ _ => rfl)) pa_nil)))
    (pss_one (PS.nox (ps_ret (pe_make T.mk_Power (FnOk.mono (ok_Power___init__ T) (by decide)) hr rfl T.mc_Power T.b_Power___init__ .nil pass0 (pa_cons (pe_ix ix_tup (pv 0) pe_int (fun _ _ => rfl)) pa_nil)))))) pss_nil)
    (pss_cons (ps_if (PT.nox (pt_cmpR op_eq (pe_ix ix_tup (pv 0) pe_int (fun _ _ => rfl)) pe_str (nomark _))) (pss_cons (ps_expr (pe_call (FnOk.mono (ok_check_base T) (by decide)) hr rfl T.m_check_base T.F_check_base.kp T.b_check_base .nil passE (pa_cons (pe_ix ix_tup (pv 0) pe_int (fun _ _ => rfl)) pa_nil)))
    (pss_one (PS.nox (ps_ret (pe_make T.mk_Growth (FnOk.mono (ok_Growth___init__ T) (by decide)) hr rfl T.mc_Growth T.b_Growth___init__ .nil pass0 (pa_cons (pe_ix ix_tup (pv 0) pe_int (fun _ _ => rfl)) pa_nil)))))) pss_nil)
    (pss_one (ps_raise rfl throwE rfl T.mc_NoTerm T.xc_NoTerm (pa_cons pe_str pa_nil)))))))), ?_⟩
  match p, hp, ho, k with
  | .cho h l, ⟨a, b, hr', ha, hb⟩, ho, k =>
    dsimp only [a_seq]
    k_typeOf
    refine ⟨_, SqT.of hr', _, rfl, ?_⟩
    k_units
    exact ⟨_, SqT.of hr', _, rfl, _, SqT.of hr', _, rfl, a, b, h, l, rfl, SqT.of ha, SqT.of hb, ho, fun H1 s1 => ⟨_, SqT.of (s1 _ _ hr'), _, rfl, _, SqT.of (s1 _ _ hr'), _, rfl, mk_cho (s1 _ _ ha) (s1 _ _ hb) (k.on s1)⟩⟩
  | .wei f, ⟨a, hr', ha⟩, ho, k =>
    dsimp only [a_seq]
    k_typeOf
    refine ⟨_, SqT.of hr', _, rfl, ?_⟩
    k_units
    rw [if_neg (by decide)]
    refine ⟨_, SqT.of hr', _, rfl, ?_⟩
    k_units
    exact ⟨_, SqT.of hr', _, rfl, mk_wei ha k⟩
  | .pow f, ⟨a, hr', ha⟩, ho, k =>
    dsimp only [a_seq]
    k_typeOf
    refine ⟨_, SqT.of hr', _, rfl, ?_⟩
    k_units
    rw [if_neg (by decide)]
    refine ⟨_, SqT.of hr', _, rfl, ?_⟩
    k_units
    rw [if_neg (by decide)]
    refine ⟨_, SqT.of hr', _, rfl, ?_⟩
    k_units
    exact ⟨_, SqT.of hr', _, rfl, a, f, rfl, SqT.of ha, ho.2.1, _, SqT.of hr', _, rfl, mk_pow ha k⟩
  | .gro f, ⟨a, hr', ha⟩, ho, k =>
    dsimp only [a_seq]
    k_typeOf
    refine ⟨_, SqT.of hr', _, rfl, ?_⟩
    k_units
    rw [if_neg (by decide)]
    refine ⟨_, SqT.of hr', _, rfl, ?_⟩
    k_units
    rw [if_neg (by decide)]
    refine ⟨_, SqT.of hr', _, rfl, ?_⟩
    k_units
    rw [if_neg (by decide)]
    refine ⟨_, SqT.of hr', _, rfl, ?_⟩
    k_units
    exact ⟨_, SqT.of hr', _, rfl, a, f, rfl, SqT.of ha, ho.2.1, _, SqT.of hr', _, rfl, mk_gro ha k⟩
structure Pts (H : Hp) (rs : List Addr) (ps : List Prt) : Prop where
  len : rs.length = ps.length
  get : ∀ (i : Nat) (r : Addr) (p : Prt), rs[i]? = some r → ps[i]? = some p → PtAt H r p
structure Pcs {K : PySem.W.Frag} {mg : Str → Option Value} (T : Tx K mg) (H0 H : Hp) (qs : List Addr) (ps : List Prt) : Prop where
  len : qs.length = ps.length
  get : ∀ (i : Nat) (q : Addr) (p : Prt), qs[i]? = some q → ps[i]? = some p → PcAt T H0 H q p
theorem Pts.kt {H H' : Hp} {rs : List Addr} {ps : List Prt} (h : Pts H rs ps) (k : ∀ a xs, H a = some (.tup xs) → H' a = some (.tup xs)) : Pts H' rs ps := ⟨h.len, fun i r p e1 e2 => (h.get i r p e1 e2).kt k⟩
theorem Pts.on {H H' : Hp} {rs : List Addr} {ps : List Prt} (h : Pts H rs ps) (s : Same H H') : Pts H' rs ps := h.kt fun a xs e => s a _ e
theorem Pcs.kp {K : PySem.W.Frag} {mg : Str → Option Value} {T : Tx K mg} {H0 H H' : Hp} {qs : List Addr} {ps : List Prt} (h : Pcs T H0 H qs ps) (k : Kp H0 H H') : Pcs T H0 H' qs ps := ⟨h.len, fun i r p e1 e2 => (h.get i r p e1 e2).kp k⟩
theorem Pcs.from {K : PySem.W.Frag} {mg : Str → Option Value} {T : Tx K mg} {H00 H0 H : Hp} {qs : List Addr} {ps : List Prt} (h : Pcs T H0 H qs ps) (s : ∀ y, H0 y = none → H00 y = none) : Pcs T H00 H qs ps := ⟨h.len, fun i r p e1 e2 => (h.get i r p e1 e2).fr s⟩
theorem Pcs.snoc {K : PySem.W.Frag} {mg : Str → Option Value} {T : Tx K mg} {H0 H : Hp} {qs : List Addr} {ps : List Prt} {q : Addr} {p : Prt} (h : Pcs T H0 H qs ps) (a : PcAt T H0 H q p) : Pcs T H0 H (qs ++ [q]) (ps ++ [p]) := by
  refine ⟨by simp [h.len], fun i r p' e1 e2 => ?_⟩
  by_cases hi : i < qs.length
  · rw [List.getElem?_append_left hi] at e1
    rw [List.getElem?_append_left (by rw [← h.len]; exact hi)] at e2
    exact h.get i r p' e1 e2
  · rw [List.getElem?_append_right (by omega)] at e1
    rw [List.getElem?_append_right (by have := h.len; omega), ← h.len] at e2
    obtain ⟨j, hj⟩ : ∃ j, i - qs.length = j := ⟨_, rfl⟩
    rw [hj] at e1 e2
    cases j with
    | zero => cases Option.some.inj e1; cases Option.some.inj e2; exact a
    | succ j => simp at e1
theorem Pts.snoc {H : Hp} {rs : List Addr} {ps : List Prt} {r : Addr} {p : Prt} (h : Pts H rs ps) (a : PtAt H r p) : Pts H (rs ++ [r]) (ps ++ [p]) := by
  refine ⟨by simp [h.len], fun i r' p' e1 e2 => ?_⟩
  by_cases hi : i < rs.length
  · rw [List.getElem?_append_left hi] at e1
    rw [List.getElem?_append_left (by rw [← h.len]; exact hi)] at e2
    exact h.get i r' p' e1 e2
  · rw [List.getElem?_append_right (by omega)] at e1
    rw [List.getElem?_append_right (by have := h.len; omega), ← h.len] at e2
    obtain ⟨j, hj⟩ : ∃ j, i - rs.length = j := ⟨_, rfl⟩
    rw [hj] at e1 e2
    cases j with
    | zero => cases Option.some.inj e1; cases Option.some.inj e2; exact a
    | succ j => simp at e1
def trmF (P1 P2 : Addr) : List (Str × V) := [(Str.ofString "parts", .ref P1), (Str.ofString "pieces", .ref P2)]
def TermAt {K : PySem.W.Frag} {mg : Str → Option Value} (T : Tx K mg) (H0 H : Hp) (x : Addr) (rs : List Addr) (ps : List Prt) : Prop := ∃ dx P1 P2 qs, H x = some (.ins T.c_Term dx (trmF P1 P2)) ∧ H0 P1 = none ∧ H P1 = some (.lst (rs.map V.ref)) ∧ H0 P2 = none ∧ H P2 = some (.lst (qs.map V.ref)) ∧ Pcs T H0 H qs ps
theorem TermAt.kp {K : PySem.W.Frag} {mg : Str → Option Value} {T : Tx K mg} {H0 H H' : Hp} {x : Addr} {rs : List Addr} {ps : List Prt} (h : TermAt T H0 H x rs ps) (k : Kp H0 H H') (kx : ∀ C dx fs, H x = some (.ins C dx fs) → H' x = some (.ins C dx fs)) : TermAt T H0 H' x rs ps := by
  obtain ⟨dx, P1, P2, qs, h1, h2, h3, h4, h5, h6⟩ := h
  exact ⟨dx, P1, P2, qs, kx _ _ _ h1, h2, k _ _ h3 (.lst h2), h4, k _ _ h5 (.lst h4), h6.kp k⟩
theorem TermAt.on {K : PySem.W.Frag} {mg : Str → Option Value} {T : Tx K mg} {H0 H H' : Hp} {x : Addr} {rs : List Addr} {ps : List Prt} (h : TermAt T H0 H x rs ps) (s : Same H H') : TermAt T H0 H' x rs ps := h.kp (kpS s) fun C dx fs e => s _ _ e
theorem TermAt.set {K : PySem.W.Frag} {mg : Str → Option Value} {T : Tx K mg} {H0 H : Hp} {x D : Addr} {rs : List Addr} {ps : List Prt} {xs ys : List V} (h : TermAt T H0 H x rs ps) (h0 : H0 D ≠ none) (hD : H D = some (.lst xs)) : TermAt T H0 (L2.upd H D (.lst ys)) x rs ps :=
  h.kp (kpD (Same.refl H) h0 hD) fun C dx fs e => by rw [upd_ne (ne_of e hD (fun z => nomatch z))]; exact e
def spTold {K : PySem.W.Frag} {mg : Str → Option Value} (T : Tx K mg) : Sp := fun vs H Q _ => ∃ (x : Addr) (H0 : Hp) (rs : List Addr) (ps : List Prt), vs = [.ref x] ∧ TermAt T H0 H x rs ps ∧ newL H Q (rs.map V.ref)
theorem ok_Term_told {P : Program} {w : World} {K : PySem.W.Frag} {mg : Str → Option Value} {base : Heap} (T : Tx K mg) : FnOk P w K mg base CX0 1 T.a_Term_told T.fd_Term_told ["self"] (spTold T) := by
  refine T.F_Term_told.ok sc_Term_told (fun vs H Q E h => ?_) (fun cdv A outer s H vs Q E hr h => ?_)
  · obtain ⟨x, H0, rs, ps, rfl, _⟩ := h
    rfl
  obtain ⟨x, H0, rs, ps, rfl, ⟨dx, P1, P2, qs, h1, h2, h3, h4, h5, h6⟩, k⟩ := h
  refine ⟨_, ((pss_one (ps_ret (pe_callTy call_list_of rfl T.z_list bt_list (pa_cons (pe_fld (pv 0) rfl) pa_nil))))), ?_⟩
  k_units
  exact ⟨_, _, _, h1, T.cl_Term, T.na_Term_parts, _, rfl, P1, rfl, _, .inl (SqL.of h3), fun r nr => k r _ (same_upd nr _) nr upd_same⟩
def Dyn {K : PySem.W.Frag} {mg : Str → Option Value} (T : Tx K mg) (H : Hp) (q : Addr) (n k : Nat) (Q : VK) (E : XK) : Prop :=
  (∃ x x_1, H q = some (HO.ins T.c_Choose x x_1) ∧ List.lookup (Str.ofString "worth") x_1 = none ∧ spCWorth K T.c_Choose [V.ref q, V.int (n : Int), V.int (k : Int)] H Q E) ∨
  (∃ x x_1, H q = some (HO.ins T.c_Weight x x_1) ∧ List.lookup (Str.ofString "worth") x_1 = none ∧ spWWorth K T.c_Weight [V.ref q, V.int (n : Int), V.int (k : Int)] H Q E) ∨
  (∃ x x_1, H q = some (HO.ins T.c_Power x x_1) ∧ List.lookup (Str.ofString "worth") x_1 = none ∧ spPWorth K T.c_Power true [V.ref q, V.int (n : Int), V.int (k : Int)] H Q E) ∨
  ∃ x x_1, H q = some (HO.ins T.c_Growth x x_1) ∧ List.lookup (Str.ofString "worth") x_1 = none ∧ spPWorth K T.c_Growth false [V.ref q, V.int (n : Int), V.int (k : Int)] H Q E
theorem dyn_worth {K : PySem.W.Frag} {mg : Str → Option Value} {T : Tx K mg} {H0 H : Hp} {q : Addr} {p : Prt} {n k B : Nat} {Q : VK} {E : XK} (hc : PcAt T H0 H q p) (ho : PtOk B p n k) (fin : ∀ (r : Addr) (Hy : Hp), Same H Hy → Hy r = some (T2 (worF p n k)) → Q (.ref r) Hy) : Dyn T H q n k Q E := by
  obtain ⟨ho, n4, k4, _, _, _⟩ := ho
  have nt : ∀ x y : Int, x = (worF p n k).1 → y = (worF p n k).2 → mkT H Q x y := fun x y e1 e2 r nr => fin r _ (same_upd nr _) (by rw [upd_same, e1, e2])
  match p, hc, ho, fin, nt with
  | .cho h l, ⟨dx, a, L, b, t, h1, h2, h3, h4, h5, h6⟩, ho, fin, nt =>
    obtain ⟨⟨a1, a2, a3, a4, a5, a6⟩, ⟨b1, b2, b3, b4, b5, b6⟩, _⟩ := ho
    have sm : ∀ x : Int, -12 ≤ x → x ≤ 12 → Bd 10 x := fun x p1 p2 => Bd.of_lt (m := 13) (by omega) (by decide)
    have hb := at_bd (n := n) (k := k) ⟨a1, a2⟩ ⟨a3, a4⟩ ⟨a5, a6⟩ n4 k4
    have hs := at_sub h l n k
    refine .inl ⟨dx, _, h1, rfl, q, n, k, rfl, q, dx, a, L, b, t, l, subF h l, h, 0, n, k, rfl, h1, h4, SqT.of h2, SqT.of h5, SqT.of h6, ?_, ?_, ?_, sm 0 (by decide) (by decide), sm _ (by omega) (by omega), sm _ ?_ ?_, sm _ (by omega) (by omega), sm _ ?_ ?_, by omega, by omega, by rw [Int.zero_mul]; decide, by rw [Int.zero_mul]; decide, ?_, ?_⟩
    · show h.1 = l.1 + (h.1 - l.1); omega
    · show h.2.1 = l.2.1 + (h.2.1 - l.2.1); omega
    · show h.2.2 = l.2.2 + (h.2.2 - l.2.2); omega
    · show -12 ≤ h.1 - l.1; omega
    · show h.1 - l.1 ≤ 12; omega
    · show -12 ≤ h.2.1 - l.2.1; omega
    · show h.2.1 - l.2.1 ≤ 12; omega
    · rw [lift0, lift0]; omega
    · rw [lift0, lift0]
      intro z hz r H' s1 e1
      exact fin r H' s1 (by rw [e1, ways_of hz]; rfl)
  | .wei f, ⟨dx, a, h1, h2⟩, ho, fin, nt =>
    obtain ⟨c1, c2, c3⟩ := ho
    exact .inr (.inl ⟨dx, _, h1, rfl, q, dx, a, f.1, f.2.1, f.2.2, n, k, rfl, h1, SqT.of h2, c1.mono (by decide), c2.mono (by decide), Bd.of_lt (m := 401) (by omega) (by decide), Bd.of_lt (m := 401) (by omega) (by decide), nt _ _ rfl rfl⟩)
  | .pow f, ⟨dx, a, h1, h2⟩, ho, fin, nt =>
    obtain ⟨_, _, c1, c2⟩ := ho
    exact .inr (.inr (.inl ⟨dx, _, h1, rfl, q, dx, a, f.1, f.2, n, k, rfl, h1, SqT.of h2, c1.mono (by decide), c2.mono (by decide), by omega, by omega, nt _ _ rfl rfl⟩))
  | .gro f, ⟨dx, a, h1, h2⟩, ho, fin, nt =>
    obtain ⟨_, _, c1, c2⟩ := ho
    exact .inr (.inr (.inr ⟨dx, _, h1, rfl, q, dx, a, f.1, f.2, n, k, rfl, h1, SqT.of h2, c1.mono (by decide), c2.mono (by decide), by omega, by omega, nt _ _ rfl rfl⟩))
def spTW {K : PySem.W.Frag} {mg : Str → Option Value} (T : Tx K mg) : Sp := fun vs H Q _ => ∃ (x : Addr) (H0 : Hp) (rs : List Addr) (ps : List Prt) (n k : Nat), vs = [.ref x, .int (n : Int), .int (k : Int)] ∧ TermAt T H0 H x rs ps ∧ ps.length ≤ 6 ∧ (∃ B, B * ps.length ≤ 3900 ∧ B ≤ 3900 ∧ ∀ p ∈ ps, PtOk B p n k) ∧ ∀ r H', Same H H' → H' r = some (T2 (prodF (ps.map fun p => worF p n k))) → Q (.ref r) H'
theorem ok_Term_worth {P : Program} {w : World} {K : PySem.W.Frag} {mg : Str → Option Value} {base : Heap} (T : Tx K mg) : FnOk P w K mg base CX0 17 T.a_Term_worth T.fd_Term_worth ["self", "n", "k"] (spTW T) := by
  refine T.F_Term_worth.ok sc_Term_worth (fun vs H Q E h => ?_) (fun cdv A outer s H vs Q E hr h => ?_)
  · obtain ⟨x, H0, rs, ps, n, k, rfl, _⟩ := h
    rfl
  obtain ⟨x, H0, rs, ps, n, k, rfl, ⟨dx, P1, P2, qs, h1, h2, h3, h4, h5, h6⟩, l6, hB, z⟩ := h
  refine ⟨_, ((pss_one (ps_ret (pe_call (FnOk.mono (ok_product T) (by decide)) hr rfl T.m_product T.F_product.kp T.b_product .nil pass0 (pa_cons (pe_lcomp rfl (blkok rfl (sub_cons rfl (sub_cons rfl sub_nil)) (fv_cons 1 "n" (by decide) rfl (Or.inl rfl) (Or.inl rfl) ⟨_, rfl⟩ (fv_cons 2 "k" (by decide) rfl (Or.inl rfl) (Or.inl rfl) ⟨_, rfl⟩ fv_nil))) (pi_list (pe_fld (pv 0) rfl)) (fun _ _ _ _ => (pe_either (pe_meth (pv 0) T.cl_Choose T.me_Choose_worth (FnOk.mono (ok_Choose_worth T) (by decide)) hr T.b_Choose_worth .nil pass0 (pa_cons (pv 1) (pa_cons (pv 2) pa_nil))) (pe_either (pe_meth (pv 0) T.cl_Weight T.me_Weight_worth (FnOk.mono (ok_Weight_worth T) (by decide)) hr T.b_Weight_worth .nil pass0 (pa_cons (pv 1) (pa_cons (pv 2) pa_nil))) (pe_either (pe_meth (pv 0) T.cl_Power T.me_Power_worth (FnOk.mono (ok_Power_worth T) (by decide)) hr T.b_Power_worth .nil pass0 (pa_cons (pv 1) (pa_cons (pv 2) pa_nil))) (pe_meth (pv 0) T.cl_Growth T.me_Growth_worth (FnOk.mono (ok_Growth_worth T) (by decide)) hr T.b_Growth_worth .nil pass0 (pa_cons (pv 1) (pa_cons (pv 2) pa_nil)))))))) pa_nil))))), ?_⟩
  k_units
  refine ⟨_, _, _, h1, T.cl_Term, T.na_Term_pieces, _, rfl, P2, rfl, ⟨_, SqL.of h5⟩, fun D nD => ?_⟩
  obtain ⟨Pc, hPc⟩ : ∃ Pc : Nat → Hp → Prop, ∀ j Hx, Pc j Hx ↔ ∃ us : List Addr, Hx D = some (.lst (us.map V.ref)) ∧ us.length = j ∧ (∀ (i : Nat) (u : Addr) (p : Prt), us[i]? = some u → ps[i]? = some p → Hx u = some (T2 (worF p n k))) ∧ Same H Hx := ⟨_, fun _ _ => Iff.rfl⟩
  refine cl_list (xs := qs.map V.ref) Pc ((hPc _ _).mpr ⟨[], upd_same, rfl, fun i u h h1 => by simp at h1, same_upd nD _⟩) (fun i Hx _ z => by obtain ⟨_, _, _, _, z⟩ := (hPc i Hx).mp z; exact z.seq (SqL.of h5)) ?_ ?_
  · intro j v Hx hv hc
    obtain ⟨us, k1, k2, k3, k4⟩ := (hPc _ _).mp hc
    rw [List.getElem?_map] at hv
    obtain ⟨q, hq, rfl⟩ := Option.map_eq_some_iff.mp hv
    have hj := (List.getElem?_eq_some_iff.mp hq).1
    have hj2 : j < ps.length := by have := h6.len; omega
    obtain ⟨B, _, _, hb⟩ := hB
    have hpo := hb _ (List.getElem_mem hj2)
    have hpc := (h6.get j q _ hq (List.getElem?_eq_getElem hj2)).kp (kpS (H0 := H0) k4)
    have fin : ∀ (r : Addr) (Hy : Hp), Same Hx Hy → Hy r = some (T2 (worF ps[j] n k)) → ∃ ys, Hy D = some (.lst ys) ∧ ys.length < sizeLine ∧ Pc (j + 1) (L2.upd Hy D (.lst (ys ++ [V.ref r]))) := fun r Hy s1 e1 => by
      refine ⟨_, s1 _ _ k1, by rw [List.length_map]; exact small1000 (by omega), (hPc _ _).mpr ⟨us ++ [r], by rw [upd_same]; simp, by simp [k2], fun i u' p' q1 q2 => ?_, (k4.trans s1).more nD⟩⟩
      by_cases hi : i < us.length
      · rw [List.getElem?_append_left hi] at q1
        have e := s1 _ _ (k3 i u' p' q1 q2)
        rw [upd_ne (ne_of e (s1 _ _ k1) (fun z => nomatch z))]; exact e
      · rw [List.getElem?_append_right (by omega)] at q1
        have hi2 : i - us.length = 0 := by
          have := (List.getElem?_eq_some_iff.mp q1).1
          simp at this; omega
        rw [hi2] at q1
        obtain rfl := Option.some.inj q1
        have hij : i = j := by omega
        subst hij
        rw [List.getElem?_eq_getElem hj2] at q2
        obtain rfl := Option.some.inj q2
        rw [upd_ne (ne_of e1 (s1 _ _ k1) (fun z => nomatch z))]; exact e1
    clear hc hPc
    generalize ps[j] = p at hpo hpc fin
    (iterate 3 (k_units; (try simp only [bst, Option.getD_some])); k_units)
    exact dyn_worth hpc hpo fin
  intro Hx hc
  obtain ⟨us, k1, k2, k3, k4⟩ := (hPc _ _).mp hc
  rw [List.length_map, h6.len] at k2
  obtain ⟨B, B1, B2, hb⟩ := hB
  refine ⟨D, us, ps.map fun p => worF p n k, rfl, SqL.of k1, ⟨by rw [List.length_map]; exact k2, fun i a f e1 e2 => ?_⟩, by rw [List.length_map]; exact l6, ⟨B, by rw [List.length_map]; exact B1, B2, fun f hf => ?_⟩, fun _ r nr => ?_⟩
  · rw [List.getElem?_map] at e2
    obtain ⟨p, hp, rfl⟩ := Option.map_eq_some_iff.mp e2
    exact SqT.of (k3 i a p e1 hp)
  · obtain ⟨p, hp, rfl⟩ := List.mem_map.mp hf
    obtain ⟨_, _, _, g1, g2, g3⟩ := hb p hp
    exact ⟨g1, g2, g3⟩
  · exact z r _ (k4.trans (same_upd nr _)) upd_same
def spTInit {K : PySem.W.Frag} {mg : Str → Option Value} (T : Tx K mg) : Sp := fun vs H Q _ => ∃ (x dx A : Addr) (rs : List Addr) (ps : List Prt), vs = [.ref x, .ref A] ∧ H x = some (.ins T.c_Term dx []) ∧ H A = some (.lst (rs.map V.ref)) ∧ Pts H rs ps ∧ (∀ p ∈ ps, PrtOk p) ∧ 1 ≤ ps.length ∧ ps.length ≤ 6 ∧
  ∀ (P1 P2 : Addr) (qs : List Addr) (H' : Hp), (∀ y o, y ≠ x → H y = some o → H' y = some o) → H P1 = none → H P2 = none → H' x = some (.ins T.c_Term dx (trmF P1 P2)) → H' P1 = some (.lst (rs.map V.ref)) → H' P2 = some (.lst (qs.map V.ref)) → Pcs T H H' qs ps → Q .non H'
theorem ok_Term___init__ {P : Program} {w : World} {K : PySem.W.Frag} {mg : Str → Option Value} {base : Heap} (T : Tx K mg) : FnOk P w K mg base (CXE P w) 5 T.a_Term___init__ T.fd_Term___init__ ["self", "parts"] (spTInit T) := by
  refine T.F_Term___init__.okE sc_Term___init__ (fun vs H Q E h => ?_) (fun cdv A outer s H vs Q E hr h => ?_)
  · obtain ⟨x, dx, A, rs, ps, rfl, _⟩ := h
    rfl
  obtain ⟨x, dx, A, rs, ps, rfl, hx, hA, hP, hO, l1, l6, k⟩ := h
  refine ⟨_, ((pss_cons (ps_if (PT.nox (PW.pt (pw_or (pt_cmpR op_eq (pe_callB call_len_seq rfl T.z_len bt_len (pa_cons (pv 1) pa_nil)) pe_int (nomark _)) (pw_or1 (pt_cmpR op_gt (pe_callB call_len_seq rfl T.z_len bt_len (pa_cons (pv 1) pa_nil)) (pe_glob (v := .int 6) rfl T.g_MOST_PARTS.2 ⟨_, rfl⟩) (nomark _)))))) pss_never pss_nil)
    (pss_cons (PS.nox (ps_fld (pv 0) (pe_callTy call_list_of rfl T.z_list bt_list (pa_cons (pv 1) pa_nil)) rfl))
    (pss_one (ps_fld (pv 0) (pe_lcomp rfl (blkok rfl sub_nil fv_nil) (pi_list (pv 1)) (fun _ _ _ _ => (pe_call (FnOk.mono (ok_piece_of T) (by decide)) hr rfl T.m_piece_of T.F_piece_of.kp T.b_piece_of .nil passF (pa_cons (pv 0) pa_nil)))) rfl))))), ?_⟩
  k_units
  have lr : (rs.map V.ref).length = ps.length := by rw [List.length_map]; exact hP.len
  refine ⟨_, .inl (SqL.of hA), ?_⟩
  rw [if_neg (by rw [lr]; omega)]
  refine ⟨_, .inl (SqL.of hA), ?_⟩
  rw [if_neg (by rw [lr]; omega)]
  refine ⟨_, .inl (SqL.of hA), fun P1 nP1 => ?_⟩
  have u1 := same_upd nP1 (.lst (rs.map V.ref))
  refine ⟨T.c_Term, dx, [], u1 _ _ hx, T.cl_Term, T.na_Term_parts, by decide, ?_⟩
  have pf1 : putF (Str.ofString "parts") (V.ref P1) [] = [(Str.ofString "parts", V.ref P1)] := rfl
  rw [pf1]
  have xA : A ≠ x := ne_of hA hx (fun z => nomatch z)
  have xP : P1 ≠ x := fun z => by rw [z, hx] at nP1; cases nP1
  obtain ⟨G, hG⟩ : ∃ G, G = L2.upd (L2.upd H P1 (.lst (rs.map V.ref))) x (.ins T.c_Term dx [(Str.ofString "parts", V.ref P1)]) := ⟨_, rfl⟩
  rw [← hG]
  have gx : G x = some (.ins T.c_Term dx [(Str.ofString "parts", V.ref P1)]) := by rw [hG]; exact upd_same
  have gk : ∀ y o, y ≠ x → H y = some o → G y = some o := fun y o hy e => by rw [hG, upd_ne hy]; exact u1 _ _ e
  have gP : G P1 = some (.lst (rs.map V.ref)) := by rw [hG, upd_ne xP, upd_same]
  have gn : ∀ y, G y = none → H y = none := fun y e => by
    by_cases hy : y = x
    · rw [hy, gx] at e; cases e
    · rw [hG, upd_ne hy] at e; exact u1.free e
  have gPt : Pts G rs ps := hP.kt fun a xs e => gk a _ (ne_of e hx (fun z => nomatch z)) e
  clear hG
  refine ⟨⟨_, SqL.of (gk _ _ xA hA)⟩, fun D nD => ?_⟩
  obtain ⟨G1, hG1⟩ : ∃ G1, G1 = L2.upd G D (.lst []) := ⟨_, rfl⟩
  have g1D : G1 D = some (.lst []) := by rw [hG1]; exact upd_same
  have g1n : ∀ y, G1 y = none → G y = none := fun y e => by rw [hG1] at e; exact (upd_none e).2
  have xD : D ≠ x := fun z => by rw [z, gx] at nD; cases nD
  obtain ⟨Pc, hPc⟩ : ∃ Pc : Nat → Hp → Prop, ∀ j Hx, Pc j Hx ↔ ∃ qs : List Addr, Hx D = some (.lst (qs.map V.ref)) ∧ Pcs T G1 Hx qs (ps.take j) ∧ Same G Hx := ⟨_, fun _ _ => Iff.rfl⟩
  refine cl_list (xs := rs.map V.ref) Pc ((hPc _ _).mpr ⟨[], upd_same, ⟨by simp, fun i q p e => by simp at e⟩, same_upd nD _⟩) (fun i Hx _ z => by obtain ⟨_, _, _, z⟩ := (hPc i Hx).mp z; exact z.seq (SqL.of (gk _ _ xA hA))) ?_ ?_
  · intro j v Hx hv hc
    obtain ⟨qs, k1, k2, k3⟩ := (hPc _ _).mp hc
    rw [List.getElem?_map] at hv
    obtain ⟨r, hr1, rfl⟩ := Option.map_eq_some_iff.mp hv
    have hj := (List.getElem?_eq_some_iff.mp hr1).1
    have hj2 : j < ps.length := by have := hP.len; omega
    (iterate 3 (k_units; (try simp only [bst, Option.getD_some])); k_units)
    refine ⟨r, ps[j], rfl, (gPt.get j r _ hr1 (List.getElem?_eq_getElem hj2)).on k3, hO _ (List.getElem_mem hj2), fun q H' s' hq => ?_⟩
    have lq := k2.len
    rw [List.length_take] at lq
    refine ⟨_, s' _ _ k1, by rw [List.length_map]; exact small1000 (by omega), (hPc _ _).mpr ⟨qs ++ [q], by rw [upd_same]; simp, ?_, (k3.trans s').more nD⟩⟩
    have kq : Kp G1 Hx (L2.upd H' D (.lst (qs.map V.ref ++ [V.ref q]))) := kpD s' (by rw [g1D]; simp) k1
    rw [← List.take_append_getElem hj2]
    refine (k2.kp kq).snoc ?_
    have hq1 : PcAt T Hx (L2.upd H' D (.lst (qs.map V.ref ++ [V.ref q]))) q ps[j] := hq.kp (kpD (Same.refl H') (by rw [k1]; simp) (s' _ _ k1))
    exact hq1.fr fun y e => by
      by_cases hy : y = D
      · rw [hy, k1] at e; cases e
      · rw [hG1, upd_ne hy]; exact k3.free e
  intro Hx hc
  obtain ⟨qs, k1, k2, k3⟩ := (hPc _ _).mp hc
  rw [List.length_map, hP.len, List.take_of_length_le (Nat.le_refl _)] at k2
  refine ⟨T.c_Term, dx, _, k3 _ _ gx, T.cl_Term, T.na_Term_pieces, by show 1 < 1000; decide, ?_⟩
  have pf2 : putF (Str.ofString "pieces") (V.ref D) [(Str.ofString "parts", V.ref P1)] = trmF P1 D := rfl
  rw [pf2]
  refine k P1 D qs _ (fun y o hy e => by rw [upd_ne hy]; exact k3 _ _ (gk y o hy e)) nP1 (gn _ nD) upd_same (by rw [upd_ne xP]; exact k3 _ _ gP) (by rw [upd_ne xD]; exact k1) ?_
  refine (k2.kp fun a o e n => ?_).from fun y e => gn _ (g1n _ e)
  have : a ≠ x := fun z => by
    subst z
    rw [k3 _ _ gx] at e
    cases e
    cases n with
    | ins z =>
      have z' : some (V.ref P1) = none := z
      cases z'
  rw [upd_ne this]; exact e
def cell (ns : List Int) (k : Nat) : Int := ns.getD k 0
def spCellAt (K : PySem.W.Frag) : Sp := fun vs H Q _ => ∃ (a : Addr) (ns : List Int) (k : Nat), vs = [.ref a, .int (k : Int)] ∧ SqL K H a (ns.map V.int) ∧ Q (.int (cell ns k)) H
theorem ok__law_cell_at {P : Program} {w : World} {K : PySem.W.Frag} {mg : Str → Option Value} {base : Heap} (T : Tx K mg) : FnOk P w K mg base CX0 1 T.a__law_cell_at T.fd__law_cell_at ["_law_script", "_law_k"] (spCellAt K) := by
  refine T.F__law_cell_at.ok sc__law_cell_at (fun vs H Q E h => ?_) (fun cdv A outer s H vs Q E hr h => ?_)
  · obtain ⟨a, ns, k, rfl, _⟩ := h
    rfl
  obtain ⟨a, ns, k, rfl, hS, q⟩ := h
  refine ⟨_, ((pss_cons (ps_if (pt_cmpR op_lt (pv 1) (pe_callB call_len_seq rfl T.z_len bt_len (pa_cons (pv 0) pa_nil)) (nomark _)) (pss_one (ps_ret (pe_ix ix_list (pv 0) (pv 1) (fun _ _ => rfl)))) pss_nil)
    (pss_one (ps_ret pe_int)))), ?_⟩
  k_units
  refine ⟨_, .inl hS, ?_⟩
  rw [List.length_map]
  unfold cell at q
  refine ite2 (fun h => ?_) (fun h => ?_)
  · have h' : k < ns.length := by omega
    rw [List.getD_eq_getElem?_getD, List.getElem?_eq_getElem h'] at q
    exact ⟨_, hS, _, at_int h', q⟩
  · rw [List.getD_eq_getElem?_getD, List.getElem?_eq_none (by omega)] at q
    exact q
def spWhole : Sp := fun vs H Q _ => ∃ i : Int, vs = [.int i] ∧ Q (.bl true) H
theorem ok__law_whole {P : Program} {w : World} {K : PySem.W.Frag} {mg : Str → Option Value} {base : Heap} (T : Tx K mg) : FnOk P w K mg base CX0 1 T.a__law_whole T.fd__law_whole ["_law_found"] spWhole := by
  refine T.F__law_whole.ok sc__law_whole (fun vs H Q E h => ?_) (fun cdv A outer s H vs Q E hr h => ?_)
  · obtain ⟨i, rfl, _⟩ := h
    rfl
  obtain ⟨i, rfl, q⟩ := h
  refine ⟨_, ((pss_one (ps_ret (pe_and (pe_callB call_isinst rfl T.z_isinstance bt_isinstance (pa_cons (pv 0) (pa_cons (pe_bltn (v := .ty "int") rfl T.z_int bt_int rfl) pa_nil))) (pe_one (pe_not (pe_callB call_isinst rfl T.z_isinstance bt_isinstance (pa_cons (pv 0) (pa_cons (pe_bltn (v := .ty "bool") rfl T.z_bool bt_bool rfl) pa_nil))))))))), ?_⟩
  k_units
  refine ⟨_, .int _, true, rfl, ?_⟩
  rw [if_pos rfl]
  refine ⟨_, .int _, false, rfl, ?_⟩
  simpa using q
def spNum13 : Sp := fun vs H Q _ => ∃ (c m : Int), vs = [.int c, .int m] ∧ (m = 10 ^ 60 ∨ m = 10 ^ 20) ∧ ∀ n : Int, n.natAbs < m.natAbs → Q (.int n) H
theorem ok__law_number {P : Program} {w : World} {K : PySem.W.Frag} {mg : Str → Option Value} {base : Heap} (T : Tx K mg) : FnOk P w K mg base CX0 1 T.a__law_number T.fd__law_number ["_law_cell", "_law_most"] spNum13 := by
  refine T.F__law_number.ok sc__law_number (fun vs H Q E h => ?_) (fun cdv A outer s H vs Q E hr h => ?_)
  · obtain ⟨c, m, rfl, _⟩ := h
    rfl
  obtain ⟨c, m, rfl, hm, q⟩ := h
  refine ⟨_, ((pss_cons (ps_if (pt_cmpR op_eq (pe_op op_mod (pv 0) pe_int) pe_int (nomark _)) (pss_one (ps_ret (pe_op op_add (pe_op op_sub (pe_op op_mod (pe_op op_fdiv (pv 0) pe_int) (pe_op op_sub (pe_op op_mul pe_int (pv 1)) pe_int)) (pv 1)) pe_int))) pss_nil)
    (pss_cons (ps_if (pt_cmpR op_eq (pe_op op_mod (pv 0) pe_int) pe_int (nomark _)) (pss_one (ps_ret (pe_op op_sub (pe_op op_mod (pe_op op_fdiv (pv 0) pe_int) pe_int) pe_int))) pss_nil)
    (pss_one (ps_ret (pe_op op_sub (pe_op op_mod (pe_op op_fdiv (pv 0) pe_int) pe_int) pe_int)))))), ?_⟩
  k_units
  have d : CDiv c 3 := ⟨by decide, by decide⟩
  have big : 10 ^ 18 ≤ m.natAbs ∧ (0 : Int) < m := by rcases hm with rfl | rfl <;> decide
  refine ⟨by decide, ite2 (fun h => ?_) (fun h => ⟨by decide, ite2 (fun h2 => ?_) (fun h2 => ?_)⟩)⟩
  · have h1 := Int.emod_nonneg (c / 3) (show (2 * m - 1 : Int) ≠ 0 by omega)
    have h2 := Int.emod_lt_of_pos (c / 3) (show (0 : Int) < 2 * m - 1 by omega)
    exact ⟨d, .inl ⟨by decide, by decide⟩, by omega, q _ (by omega)⟩
  · exact ⟨d, by decide, q _ (by omega)⟩
  · exact ⟨d, by decide, q _ (by omega)⟩
def spMixed : Sp := fun vs H Q _ => ∃ (c : Int) (k : Nat), vs = [.int c, .int (k : Int)] ∧ k ≤ 10 ∧ ∀ n : Int, 0 ≤ n → Q (.int n) H
theorem ok__law_mixed {P : Program} {w : World} {K : PySem.W.Frag} {mg : Str → Option Value} {base : Heap} (T : Tx K mg) : FnOk P w K mg base CX0 1 T.a__law_mixed T.fd__law_mixed ["_law_cell", "_law_k"] spMixed := by
  refine T.F__law_mixed.ok sc__law_mixed (fun vs H Q E h => ?_) (fun cdv A outer s H vs Q E hr h => ?_)
  · obtain ⟨c, k, rfl, _⟩ := h
    rfl
  obtain ⟨c, k, rfl, hk, q⟩ := h
  refine ⟨_, ((pss_cons (ps_if (pt_cmpR op_eq (pe_op op_mod (pv 0) pe_int) pe_int (nomark _)) (pss_cons (ps_set (i := 2) sc__law_mixed.nd rfl (Or.inl rfl) (pe_op op_fdiv (pe_callB call_abs rfl T.z_abs bt_abs (pa_cons (pv 0) pa_nil)) pe_int))
    (pss_cons (ps_for PassesOwn.never rfl (pi_range1 rfl T.z_range (pa_cons (pv 1) pa_nil)) (pg_name (i := 3) sc__law_mixed.nd rfl (Or.inl rfl)) (pss_one (ps_set (i := 2) sc__law_mixed.nd rfl (Or.inl rfl) (pe_op op_fdivB (pv 2) (pe_op op_pow pe_int pe_int)))))
    (pss_one (ps_ret (pv 2))))) pss_nil)
    (pss_cons (ps_set (i := 2) sc__law_mixed.nd rfl (Or.inl rfl) (pe_op op_mod (pe_op op_add (pv 0) (pe_op op_mul pe_int (pv 1))) pe_int))
    (pss_cons (ps_set (i := 2) sc__law_mixed.nd rfl (Or.inl rfl) (pe_op op_mod (pe_op op_add (pe_op op_add (pe_op op_mulZ (pv 2) (pv 2)) (pe_op op_mul pe_int (pv 2))) (pv 1)) pe_int))
    (pss_one (ps_ret (pe_op op_mod (pe_op op_mulZ (pv 2) (pv 2)) pe_int))))))), ?_⟩
  k_units
  have bd12 : ((10 : Int) ^ Int.toNat 12).natAbs < 2 ^ 9000 := Nat.lt_of_lt_of_le (show _ < 2 ^ 40 by decide) (Nat.pow_le_pow_right (by decide) (by decide))
  refine ⟨by decide, ite2 (fun h => ⟨⟨by decide, by decide⟩, by omega, by omega, ?_⟩) (fun h => ?_)⟩
  · have h0 : 0 ≤ (if c < 0 then -c else c) / 2 := by split <;> omega
    generalize (if c < 0 then -c else c) / 2 = n0 at h0
    rw [Int.toNat_natCast]
    obtain ⟨Pv, hPv⟩ : ∃ Pv : Nat → L2.St → Hp → Prop, ∀ i σ H', Pv i σ H' ↔ ∃ (n : Int) (r3 : Option V), σ = [some (V.int c), some (V.int (k : Int)), some (V.int n), r3] ∧ 0 ≤ n ∧ H' = H := ⟨_, fun _ _ _ => Iff.rfl⟩
    refine lp_range Pv ((hPv _ _ _).mpr ⟨n0, none, rfl, h0, rfl⟩) ?_ ?_
    · intro i σ H' hi hp
      obtain ⟨n, r3, rfl, hn, rfl⟩ := (hPv _ _ _).mp hp
      k_units
      exact ⟨⟨by decide, by decide, by decide⟩, by decide, bd12, (hPv _ _ _).mpr ⟨n.fdiv ((10 : Int) ^ Int.toNat 12), _, rfl, Int.fdiv_nonneg hn (by decide), rfl⟩⟩
    · intro σ H' hp
      obtain ⟨n, r3, rfl, hn, rfl⟩ := (hPv _ _ _).mp hp
      k_units
      exact q n hn
  · obtain ⟨m, hm, m0, m1⟩ : ∃ m : Int, (c + 7919 * (k : Int)) % 2147483629 = m ∧ 0 ≤ m ∧ m < 2147483629 := ⟨_, rfl, by omega, by omega⟩
    rw [hm]
    obtain ⟨m', hm', m0', m1'⟩ : ∃ m' : Int, (m * m + 16807 * m + (k : Int)) % 2147483629 = m' ∧ 0 ≤ m' ∧ m' < 2147483629 := ⟨_, rfl, Int.emod_nonneg _ (by decide), Int.emod_lt_of_pos _ (by decide)⟩
    rw [hm']
    have bm : Bd 31 m := Bd.of_lt (m := 2147483629) (by omega) (by decide)
    have bm' : Bd 31 m' := Bd.of_lt (m := 2147483629) (by omega) (by decide)
    exact ⟨.inl ⟨by decide, by decide⟩, by decide, bm.fits bm (by decide), .inl ⟨by decide, by decide⟩, by decide, bm'.fits bm' (by decide), by decide, q _ (Int.emod_nonneg _ (by decide))⟩
def spLAt (K : PySem.W.Frag) : Sp := fun vs H Q _ => ∃ (p : Addr) (f : Int × Int × Int) (n k : Nat), vs = [.ref p, .int (n : Int), .int (k : Int)] ∧ SqT K H p [.int f.1, .int f.2.1, .int f.2.2] ∧ Bd 400 f.1 ∧ Bd 400 f.2.1 ∧ n ≤ 400 ∧ k ≤ 400 ∧ Q (.int (atF f n k)) H
theorem ok__law_at {P : Program} {w : World} {K : PySem.W.Frag} {mg : Str → Option Value} {base : Heap} (T : Tx K mg) : FnOk P w K mg base CX0 1 T.a__law_at T.fd__law_at ["_law_form", "_law_n", "_law_k"] (spLAt K) := by
  refine T.F__law_at.ok sc__law_at (fun vs H Q E h => ?_) (fun cdv A outer s H vs Q E hr h => ?_)
  · obtain ⟨p, f, n, k, rfl, _⟩ := h
    rfl
  obtain ⟨p, f, n, k, rfl, hp, ba, bb, bn, bk, q⟩ := h
  refine ⟨_, ((pss_one (ps_ret (pe_op op_add (pe_op op_add (pe_op op_mulZ (pe_ix ix_tup (pv 0) pe_int (fun _ _ => rfl)) (pv 1)) (pe_op op_mulZ (pe_ix ix_tup (pv 0) pe_int (fun _ _ => rfl)) (pv 2))) (pe_ix ix_tup (pv 0) pe_int (fun _ _ => rfl)))))), ?_⟩
  k_units
  have bn' : Bd 20 (n : Int) := Bd.of_lt (m := 401) (by omega) (by decide)
  have bk' : Bd 20 (k : Int) := Bd.of_lt (m := 401) (by omega) (by decide)
  exact ⟨_, hp, _, rfl, _, rfl, ba.fits bn' (by decide), _, hp, _, rfl, _, rfl, bb.fits bk' (by decide), _, hp, _, rfl, _, rfl, q⟩
def spLPow (K : PySem.W.Frag) : Sp := fun vs H Q _ => ∃ (p : Addr) (f : Int × Int) (m : Nat), vs = [.ref p, .int (m : Int)] ∧ SqT K H p [.int f.1, .int f.2] ∧ Bd 100 f.1 ∧ Bd 100 f.2 ∧ m ≤ 500 ∧ mkT H Q (f.1 ^ m) (f.2 ^ m)
theorem ok__law_power {P : Program} {w : World} {K : PySem.W.Frag} {mg : Str → Option Value} {base : Heap} (T : Tx K mg) : FnOk P w K mg base CX0 1 T.a__law_power T.fd__law_power ["_law_fraction", "_law_many"] (spLPow K) := by
  refine T.F__law_power.ok sc__law_power (fun vs H Q E h => ?_) (fun cdv A outer s H vs Q E hr h => ?_)
  · obtain ⟨p, f, m, rfl, _⟩ := h
    rfl
  obtain ⟨p, f, m, rfl, hp, b1, b2, hm, q⟩ := h
  refine ⟨_, ((pss_cons (ps_set (i := 2) sc__law_power.nd rfl (Or.inl rfl) pe_int)
    (pss_cons (ps_set (i := 3) sc__law_power.nd rfl (Or.inl rfl) pe_int)
    (pss_cons (ps_for PassesOwn.never rfl (pi_range1 rfl T.z_range (pa_cons (pv 1) pa_nil)) (pg_name (i := 4) sc__law_power.nd rfl (Or.inl rfl)) (pss_cons (ps_set (i := 2) sc__law_power.nd rfl (Or.inl rfl) (pe_op op_mulZ (pv 2) (pe_ix ix_tup (pv 0) pe_int (fun _ _ => rfl))))
    (pss_one (ps_set (i := 3) sc__law_power.nd rfl (Or.inl rfl) (pe_op op_mulZ (pv 3) (pe_ix ix_tup (pv 0) pe_int (fun _ _ => rfl)))))))
    (pss_one (ps_ret (pe_tup (pa_cons (pv 2) (pa_cons (pv 3) pa_nil))))))))), ?_⟩
  k_units
  refine ⟨by omega, by omega, ?_⟩
  rw [Int.toNat_natCast]
  refine lp_range (fun i σ H' => ∃ r : Option V, σ = [some (V.ref p), some (V.int (m : Int)), some (V.int (f.1 ^ i)), some (V.int (f.2 ^ i)), r] ∧ H' = H) ⟨none, by simp, rfl⟩ ?_ ?_
  · rintro i σ H' hi ⟨r, rfl, rfl⟩
    k_units
    exact ⟨_, hp, _, rfl, _, rfl, (bd_pw b1 i).fits b1 (by omega), _, hp, _, rfl, _, rfl, (bd_pw b2 i).fits b2 (by omega), (Int.pow_succ _ _).symm, (Int.pow_succ _ _).symm, _, rfl⟩
  · rintro σ H' ⟨r, rfl, rfl⟩
    k_units
    exact ⟨by decide, q⟩
def spLWays : Sp := fun vs H Q _ => ∃ a b : Int, vs = [.int a, .int b] ∧ a + b < 4000 ∧ Q (.int (waysF a b)) H
theorem ok__law_ways {P : Program} {w : World} {K : PySem.W.Frag} {mg : Str → Option Value} {base : Heap} (T : Tx K mg) : FnOk P w K mg base CX0 1 T.a__law_ways T.fd__law_ways ["_law_low", "_law_rest"] spLWays := by
  refine T.F__law_ways.ok sc__law_ways (fun vs H Q E h => ?_) (fun cdv A outer s H vs Q E hr h => ?_)
  · obtain ⟨a, b, rfl, _⟩ := h
    rfl
  obtain ⟨a, b, rfl, h4, q⟩ := h
  refine ⟨_, ((pss_cons (ps_if (PW.pt (pw_or (pt_cmpR op_lt (pv 0) pe_int (nomark _)) (pw_or1 (pt_cmpR op_lt (pv 1) pe_int (nomark _))))) (pss_one (ps_ret pe_int)) pss_nil)
    (pss_cons (ps_set (i := 2) sc__law_ways.nd rfl (Or.inl rfl) pe_int)
    (pss_cons (ps_for PassesOwn.never rfl (pi_range2 rfl T.z_range (pa_cons pe_int (pa_cons (pe_op op_add (pv 1) pe_int) pa_nil))) (pg_name (i := 3) sc__law_ways.nd rfl (Or.inl rfl)) (pss_one (ps_set (i := 2) sc__law_ways.nd rfl (Or.inl rfl) (pe_op op_fdivB (pe_op op_mulZ (pv 2) (pe_op op_add (pv 0) (pv 3))) (pv 3)))))
    (pss_one (ps_ret (pv 2))))))), ?_⟩
  k_units
  refine ite2 (fun h => ?_) (fun h => ite2 (fun h2 => ?_) (fun h2 => ?_))
  · unfold waysF at q; rw [if_pos (.inl h)] at q; exact q
  · unfold waysF at q; rw [if_pos (.inr h2)] at q; exact q
  obtain ⟨x, rfl⟩ : ∃ x : Nat, a = (x : Int) := ⟨a.toNat, by omega⟩
  obtain ⟨y, rfl⟩ : ∃ y : Nat, b = (y : Int) := ⟨b.toNat, by omega⟩
  unfold waysF at q
  rw [if_neg (by omega), show ((x : Int) + (y : Int)).toNat = x + y by omega, Int.toNat_natCast] at q
  refine ⟨by decide, by decide, by omega, by omega, ?_⟩
  rw [show ((y : Int) + 1 - 1).toNat = y by omega]
  refine lp_range (fun i σ H' => ∃ r : Option V, σ = [some (V.int (x : Int)), some (V.int (y : Int)), some (V.int ((chs (x + i) i : Nat) : Int)), r] ∧ H' = H) ⟨none, by rw [chs_zero]; rfl, rfl⟩ ?_ ?_
  · rintro i σ H' hi ⟨r, rfl, rfl⟩
    k_units
    have e1 : (x : Int) + (1 + (i : Int)) = ((x + i + 1 : Nat) : Int) := by omega
    have e2 : 1 + (i : Int) = ((i + 1 : Nat) : Int) := by omega
    rw [e1, e2]
    have cb : Bd 4000 ((chs (x + i) i : Nat) : Int) := by
      show (((chs (x + i) i : Nat) : Int)).natAbs < 2 ^ 4000
      rw [Int.natAbs_natCast]
      exact Nat.lt_of_le_of_lt (chs_lt _ _) (Nat.pow_lt_pow_right (by decide) (by omega))
    refine ⟨cb.fits (Bd.of_lt (m := 4096) (k := 12) (by omega) (by decide)) (by decide), by omega, ?_, ?_, _, rfl⟩
    · rw [Int.natAbs_natCast]; exact Nat.lt_of_lt_of_le (show i + 1 < 2 ^ 12 by omega) (Nat.pow_le_pow_right (by decide) (by decide))
    · rw [Int.fdiv_eq_ediv_of_nonneg _ (by omega), ← Int.natCast_mul, ← Int.natCast_ediv, chs_next]
  · rintro σ H' ⟨r, rfl, rfl⟩
    k_units
    exact q
def spLW (K : PySem.W.Frag) : Sp := fun vs H Q _ => ∃ (r : Addr) (p : Prt) (n k B : Nat), vs = [.ref r, .int (n : Int), .int (k : Int)] ∧ PtAt H r p ∧ PtOk B p n k ∧ ∀ (u : Addr) (H' : Hp), Same H H' → H' u = some (T2 (worF p n k)) → Q (.ref u) H'
theorem ok__law_worth {P : Program} {w : World} {K : PySem.W.Frag} {mg : Str → Option Value} {base : Heap} (T : Tx K mg) : FnOk P w K mg base CX0 2 T.a__law_worth T.fd__law_worth ["_law_part_here", "_law_n", "_law_k"] (spLW K) := by
  refine T.F__law_worth.ok sc__law_worth (fun vs H Q E h => ?_) (fun cdv A outer s H vs Q E hr h => ?_)
  · obtain ⟨r, p, n, k, B, rfl, _⟩ := h
    rfl
  obtain ⟨r, p, n, k, B, rfl, hp, ho, fin⟩ := h
  refine ⟨_, ((pss_cons (ps_if (pt_cmpR op_eq (pe_ix ix_tup (pv 0) pe_int (fun _ _ => rfl)) pe_str (nomark _)) (pss_cons (ps_set (i := 3) sc__law_worth.nd rfl (Or.inl rfl) (pe_call (FnOk.mono (ok__law_at T) (by decide)) hr rfl T.m__law_at T.F__law_at.kp T.b__law_at .nil pass0 (pa_cons (pe_ix ix_tup (pv 0) pe_int (fun _ _ => rfl)) (pa_cons (pv 1) (pa_cons (pv 2) pa_nil)))))
    (pss_one (ps_ret (pe_tup (pa_cons (pe_call (FnOk.mono (ok__law_ways T) (by decide)) hr rfl T.m__law_ways T.F__law_ways.kp T.b__law_ways .nil pass0 (pa_cons (pv 3) (pa_cons (pe_op op_sub (pe_call (FnOk.mono (ok__law_at T) (by decide)) hr rfl T.m__law_at T.F__law_at.kp T.b__law_at .nil pass0 (pa_cons (pe_ix ix_tup (pv 0) pe_int (fun _ _ => rfl)) (pa_cons (pv 1) (pa_cons (pv 2) pa_nil)))) (pv 3)) pa_nil))) (pa_cons pe_int pa_nil)))))) pss_nil)
    (pss_cons (ps_if (pt_cmpR op_eq (pe_ix ix_tup (pv 0) pe_int (fun _ _ => rfl)) pe_str (nomark _)) (pss_one (ps_ret (pe_tup (pa_cons (pe_call (FnOk.mono (ok__law_at T) (by decide)) hr rfl T.m__law_at T.F__law_at.kp T.b__law_at .nil pass0 (pa_cons (pe_ix ix_tup (pv 0) pe_int (fun _ _ => rfl)) (pa_cons (pv 1) (pa_cons (pv 2) pa_nil)))) (pa_cons pe_int pa_nil))))) pss_nil)
    (pss_one (ps_ret (pe_call (FnOk.mono (ok__law_power T) (by decide)) hr rfl T.m__law_power T.F__law_power.kp T.b__law_power .nil pass0 (pa_cons (pe_ix ix_tup (pv 0) pe_int (fun _ _ => rfl)) (pa_cons (pe_ix ix_list (pe_lst (pa_cons (pv 2) (pa_cons (pv 1) pa_nil))) (pe_callTy call_int1 rfl T.z_int bt_int (pa_cons (pe_cmpR op_eq (pe_ix ix_tup (pv 0) pe_int (fun _ _ => rfl)) pe_str (nomark _)) pa_nil)) (fun _ _ => rfl)) pa_nil)))))))), ?_⟩
  have nt : ∀ x y : Int, x = (worF p n k).1 → y = (worF p n k).2 → mkT H Q x y := fun x y e1 e2 u nu => fin u _ (same_upd nu _) (by rw [upd_same, e1, e2])
  obtain ⟨ho, n4, k4, _, _, _⟩ := ho
  match p, hp, ho, fin, nt with
  | .cho h l, ⟨a, b, hr', ha, hb⟩, ho, fin, nt =>
    dsimp only [a_seq]
    k_typeOf
    refine ⟨_, SqT.of hr', _, rfl, ?_⟩
    k_units
    obtain ⟨⟨a1, a2, a3, a4, a5, a6⟩, ⟨b1, b2, b3, b4, b5, b6⟩, _⟩ := ho
    have sm : ∀ x : Int, -12 ≤ x → x ≤ 12 → Bd 400 x := fun x p1 p2 => (Bd.of_lt (m := 13) (k := 10) (by omega) (by decide)).mono (by decide)
    have hb4 := at_bd (n := n) (k := k) ⟨a1, a2⟩ ⟨a3, a4⟩ ⟨a5, a6⟩ n4 k4
    refine ⟨_, SqT.of hr', _, rfl, b, l, n, k, rfl, SqT.of hb, sm _ (by omega) (by omega), sm _ (by omega) (by omega), n4, k4, _, SqT.of hr', _, rfl, a, h, n, k, rfl, SqT.of ha, sm _ (by omega) (by omega), sm _ (by omega) (by omega), n4, k4, _, rfl, _, rfl, _, _, rfl, by omega, by decide, nt _ _ ?_ rfl⟩
    show _ = waysF _ _
    rw [at_sub]
  | .wei f, ⟨a, hr', ha⟩, ho, fin, nt =>
    dsimp only [a_seq]
    k_typeOf
    refine ⟨_, SqT.of hr', _, rfl, ?_⟩
    k_units
    rw [if_neg (by decide)]
    refine ⟨_, SqT.of hr', _, rfl, ?_⟩
    k_units
    obtain ⟨c1, c2, c3⟩ := ho
    exact ⟨_, SqT.of hr', _, rfl, a, f, n, k, rfl, SqT.of ha, c1.mono (by decide), c2.mono (by decide), n4, k4, by decide, nt _ _ rfl rfl⟩
  | .pow f, ⟨a, hr', ha⟩, ho, fin, nt =>
    dsimp only [a_seq]
    k_typeOf
    refine ⟨_, SqT.of hr', _, rfl, ?_⟩
    k_units
    rw [if_neg (by decide)]
    refine ⟨_, SqT.of hr', _, rfl, ?_⟩
    k_units
    rw [if_neg (by decide)]
    refine ⟨_, SqT.of hr', _, rfl, by decide, fun u nu => ?_⟩
    have u1 := same_upd nu (.lst [V.int (k : Int), V.int (n : Int)])
    refine ⟨_, SqT.of (u1 _ _ hr'), _, rfl, ?_⟩
    rw [a_eqS]
    obtain ⟨_, _, c1, c2⟩ := ho
    refine .inr ⟨_, rfl, _, SqL.of upd_same, .int (k : Int), ?_, a, f, k, rfl, SqT.of (u1 _ _ ha), c1.mono (by decide), c2.mono (by decide), by omega, fun p np => fin p _ (u1.trans (same_upd np _)) upd_same⟩
    rw [if_neg (by decide)]; rfl
  | .gro f, ⟨a, hr', ha⟩, ho, fin, nt =>
    dsimp only [a_seq]
    k_typeOf
    refine ⟨_, SqT.of hr', _, rfl, ?_⟩
    k_units
    rw [if_neg (by decide)]
    refine ⟨_, SqT.of hr', _, rfl, ?_⟩
    k_units
    rw [if_neg (by decide)]
    refine ⟨_, SqT.of hr', _, rfl, by decide, fun u nu => ?_⟩
    have u1 := same_upd nu (.lst [V.int (k : Int), V.int (n : Int)])
    refine ⟨_, SqT.of (u1 _ _ hr'), _, rfl, ?_⟩
    rw [a_eqS]
    obtain ⟨_, _, c1, c2⟩ := ho
    refine .inr ⟨_, rfl, _, SqL.of upd_same, .int (n : Int), ?_, a, f, n, rfl, SqT.of (u1 _ _ ha), c1.mono (by decide), c2.mono (by decide), by omega, fun p np => fin p _ (u1.trans (same_upd np _)) upd_same⟩
    rw [if_pos (by decide)]; rfl
def spAlk (K : PySem.W.Frag) : Sp := fun vs H Q _ => ∃ (p q : Addr) (f d : Int × Int), vs = [.ref p, .ref q] ∧ H p = some (T2 f) ∧ SqT K H q [.int d.1, .int d.2] ∧ Frc f ∧ f.1 * d.2 = d.1 * f.2 ∧ Bd 200000 f.1 ∧ Bd 200000 f.2 ∧ Bd 200000 d.1 ∧ Bd 200000 d.2 ∧ Q (.bl true) H
theorem ok__law_alike {P : Program} {w : World} {K : PySem.W.Frag} {mg : Str → Option Value} {base : Heap} (T : Tx K mg) : FnOk P w K mg base CX0 2 T.a__law_alike T.fd__law_alike ["_law_found", "_law_due"] (spAlk K) := by
  refine T.F__law_alike.ok sc__law_alike (fun vs H Q E h => ?_) (fun cdv A outer s H vs Q E hr h => ?_)
  · obtain ⟨p, q, f, d, rfl, _⟩ := h
    rfl
  obtain ⟨p, q', ⟨x, y⟩, d, rfl, hp, hd, ⟨y1, y2⟩, e, c1, c2, c3, c4, q⟩ := h
  refine ⟨_, ((pss_cons (ps_if (PW.pt (pw_or (pt_not (pt_val (pe_callB call_isinst rfl T.z_isinstance bt_isinstance (pa_cons (pv 0) (pa_cons (pe_bltn (v := .ty "tuple") rfl T.z_tuple bt_tuple rfl) pa_nil))))) (pw_or1 (pt_cmpR op_ne (pe_callB call_len_seq rfl T.z_len bt_len (pa_cons (pv 0) pa_nil)) pe_int (nomark _))))) (pss_one (ps_ret pe_bl)) pss_nil)
    (pss_cons (ps_if (PW.pt (pw_or (pt_not (pt_val (pe_call (FnOk.mono (ok__law_whole T) (by decide)) hr rfl T.m__law_whole T.F__law_whole.kp T.b__law_whole .nil pass0 (pa_cons (pe_ix ix_tup (pv 0) pe_int (fun _ _ => rfl)) pa_nil)))) (pw_or1 (pt_not (pt_val (pe_call (FnOk.mono (ok__law_whole T) (by decide)) hr rfl T.m__law_whole T.F__law_whole.kp T.b__law_whole .nil pass0 (pa_cons (pe_ix ix_tup (pv 0) pe_int (fun _ _ => rfl)) pa_nil))))))) (pss_one (ps_ret pe_bl)) pss_nil)
    (pss_cons (ps_if (PW.pt (pw_or (pt_cmpR op_lt (pe_ix ix_tup (pv 0) pe_int (fun _ _ => rfl)) pe_int (nomark _)) (pw_or1 (pt_cmpR op_ne (pe_call (FnOk.mono (ok__law_divisor T) (by decide)) hr rfl T.m__law_divisor T.F__law_divisor.kp T.b__law_divisor .nil pass0 (pa_cons (pe_ix ix_tup (pv 0) pe_int (fun _ _ => rfl)) (pa_cons (pe_ix ix_tup (pv 0) pe_int (fun _ _ => rfl)) pa_nil))) pe_int (nomark _))))) (pss_one (ps_ret pe_bl)) pss_nil)
    (pss_one (ps_ret (pe_cmpR op_eq (pe_op op_mulZ (pe_ix ix_tup (pv 0) pe_int (fun _ _ => rfl)) (pe_ix ix_tup (pv 1) pe_int (fun _ _ => rfl))) (pe_op op_mulZ (pe_ix ix_tup (pv 1) pe_int (fun _ _ => rfl)) (pe_ix ix_tup (pv 0) pe_int (fun _ _ => rfl))) (nomark _)))))))), ?_⟩
  k_units
  have y1' : 1 ≤ y := y1
  refine ⟨_, .tup hp, true, rfl, ?_⟩
  rw [if_neg (by decide)]
  refine ⟨_, .inr (SqT.of hp), ?_⟩
  rw [if_neg (by simp)]
  refine ⟨_, SqT.of hp, _, rfl, _, rfl, true, rfl, ?_⟩
  rw [if_neg (by decide)]
  refine ⟨_, SqT.of hp, _, rfl, _, rfl, true, rfl, ?_⟩
  rw [if_neg (by decide)]
  refine ⟨_, SqT.of hp, _, rfl, _, rfl, ?_⟩
  rw [if_neg (show ¬ y < 1 by omega)]
  refine ⟨_, SqT.of hp, _, rfl, _, SqT.of hp, _, rfl, x, y, rfl, ?_⟩
  k_units
  have y2' : Nat.gcd x.natAbs y.natAbs = 1 := y2
  rw [y2']
  have e' : x * d.2 = d.1 * y := e
  rw [if_neg (by simp)]
  exact ⟨_, SqT.of hp, _, rfl, _, hd, _, rfl, _, rfl, _, rfl, c1.fits c4 (by decide), _, hd, _, rfl, _, SqT.of hp, _, rfl, _, rfl, _, rfl, c3.fits c2 (by decide), by rw [decide_eq_true e']; exact q⟩
def spMade {K : PySem.W.Frag} {mg : Str → Option Value} (T : Tx K mg) : Sp := fun vs H Q _ => ∃ (r : Addr) (p : Prt), vs = [.ref r] ∧ PtAt H r p ∧ mkP T H Q p
theorem ok__law_made {P : Program} {w : World} {K : PySem.W.Frag} {mg : Str → Option Value} {base : Heap} (T : Tx K mg) : FnOk P w K mg base CX0 4 T.a__law_made T.fd__law_made ["_law_part_here"] (spMade T) := by
  refine T.F__law_made.ok sc__law_made (fun vs H Q E h => ?_) (fun cdv A outer s H vs Q E hr h => ?_)
  · obtain ⟨r, p, rfl, _⟩ := h
    rfl
  obtain ⟨r, p, rfl, hp, k⟩ := h
  refine ⟨_, ((pss_cons (ps_if (pt_cmpR op_eq (pe_ix ix_tup (pv 0) pe_int (fun _ _ => rfl)) pe_str (nomark _)) (pss_one (ps_ret (pe_make T.mk_Choose (FnOk.mono (ok_Choose___init__ T) (by decide)) hr rfl T.mc_Choose T.b_Choose___init__ .nil pass0 (pa_cons (pe_ix ix_tup (pv 0) pe_int (fun _ _ => rfl)) (pa_cons (pe_ix ix_tup (pv 0) pe_int (fun _ _ => rfl)) pa_nil))))) pss_nil)
    (pss_cons (ps_if (pt_cmpR op_eq (pe_ix ix_tup (pv 0) pe_int (fun _ _ => rfl)) pe_str (nomark _)) (pss_one (ps_ret (pe_make T.mk_Weight (FnOk.mono (ok_Weight___init__ T) (by decide)) hr rfl T.mc_Weight T.b_Weight___init__ .nil pass0 (pa_cons (pe_ix ix_tup (pv 0) pe_int (fun _ _ => rfl)) pa_nil)))) pss_nil)
    (pss_cons (ps_if (pt_cmpR op_eq (pe_ix ix_tup (pv 0) pe_int (fun _ _ => rfl)) pe_str (nomark _)) (pss_one (ps_ret (pe_make T.mk_Power (FnOk.mono (ok_Power___init__ T) (by decide)) hr rfl T.mc_Power T.b_Power___init__ .nil pass0 (pa_cons (pe_ix ix_tup (pv 0) pe_int (fun _ _ => rfl)) pa_nil)))) pss_nil)
    (pss_one (ps_ret (pe_make T.mk_Growth (FnOk.mono (ok_Growth___init__ T) (by decide)) hr rfl T.mc_Growth T.b_Growth___init__ .nil pass0 (pa_cons (pe_ix ix_tup (pv 0) pe_int (fun _ _ => rfl)) pa_nil)))))))), ?_⟩
  match p, hp, k with
  | .cho h l, ⟨a, b, hr', ha, hb⟩, k =>
    dsimp only [a_seq]
    k_typeOf
    refine ⟨_, SqT.of hr', _, rfl, ?_⟩
    k_units
    exact ⟨_, SqT.of hr', _, rfl, _, SqT.of hr', _, rfl, mk_cho ha hb k⟩
  | .wei f, ⟨a, hr', ha⟩, k =>
    dsimp only [a_seq]
    k_typeOf
    refine ⟨_, SqT.of hr', _, rfl, ?_⟩
    k_units
    rw [if_neg (by decide)]
    refine ⟨_, SqT.of hr', _, rfl, ?_⟩
    k_units
    exact ⟨_, SqT.of hr', _, rfl, mk_wei ha k⟩
  | .pow f, ⟨a, hr', ha⟩, k =>
    dsimp only [a_seq]
    k_typeOf
    refine ⟨_, SqT.of hr', _, rfl, ?_⟩
    k_units
    rw [if_neg (by decide)]
    refine ⟨_, SqT.of hr', _, rfl, ?_⟩
    k_units
    rw [if_neg (by decide)]
    refine ⟨_, SqT.of hr', _, rfl, ?_⟩
    k_units
    exact ⟨_, SqT.of hr', _, rfl, mk_pow ha k⟩
  | .gro f, ⟨a, hr', ha⟩, k =>
    dsimp only [a_seq]
    k_typeOf
    refine ⟨_, SqT.of hr', _, rfl, ?_⟩
    k_units
    rw [if_neg (by decide)]
    refine ⟨_, SqT.of hr', _, rfl, ?_⟩
    k_units
    rw [if_neg (by decide)]
    refine ⟨_, SqT.of hr', _, rfl, ?_⟩
    k_units
    rw [if_neg (by decide)]
    exact ⟨_, SqT.of hr', _, rfl, mk_gro ha k⟩
def mkPt (H : Hp) (Q : VK) (p : Prt) : Prop := ∀ (r : Addr) (H' : Hp), Same H H' → PtAt H' r p → Q (.ref r) H'
def spFms : Sp := fun vs H Q _ => ∃ a b : Int, vs = [.int a, .int b, .int 3] ∧ 0 ≤ a ∧ 0 ≤ b ∧ ∀ h l, ChoOk h l → mkPt H Q (.cho h l)
theorem ok__law_forms {P : Program} {w : World} {K : PySem.W.Frag} {mg : Str → Option Value} {base : Heap} (T : Tx K mg) : FnOk P w K mg base CX0 1 T.a__law_forms T.fd__law_forms ["_law_one", "_law_other", "_law_most"] spFms := by
  refine T.F__law_forms.ok sc__law_forms (fun vs H Q E h => ?_) (fun cdv A outer s H vs Q E hr h => ?_)
  · obtain ⟨a, b, rfl, _⟩ := h
    rfl
  obtain ⟨a, b, rfl, ha, hb, k⟩ := h
  refine ⟨_, ((pss_cons (ps_set (i := 3) sc__law_forms.nd rfl (Or.inl rfl) (pe_tup (pa_cons (pe_op op_mod (pv 0) (pe_op op_add (pv 2) pe_int)) (pa_cons (pe_op op_mod (pe_op op_fdiv (pv 0) pe_int) (pe_op op_add (pv 2) pe_int)) (pa_cons (pe_op op_mod (pe_op op_fdiv (pv 0) pe_int) pe_int) pa_nil)))))
    (pss_mid (ps_if (pt_cmpR op_eq (pe_op op_mod (pe_op op_fdiv (pv 0) pe_int) pe_int) pe_int (nomark _)) (pss_one (ps_set (i := 4) sc__law_forms.nd rfl (Or.inl rfl) (pe_tup (pa_cons (pe_op op_mod (pv 1) (pe_op op_add (pe_ix ix_tup (pv 3) pe_int (fun _ _ => rfl)) pe_int)) (pa_cons (pe_op op_sub (pe_op op_mod (pe_op op_fdiv (pv 1) pe_int) pe_int) pe_int) (pa_cons (pe_op op_mod (pe_op op_fdiv (pv 1) pe_int) (pe_op op_add (pe_ix ix_tup (pv 3) pe_int (fun _ _ => rfl)) pe_int)) pa_nil)))))) (pss_one (ps_set (i := 4) sc__law_forms.nd rfl (Or.inl rfl) (pe_tup (pa_cons (pe_op op_sub (pe_op op_mod (pv 1) (pe_op op_add (pe_op op_mul pe_int (pv 2)) pe_int)) (pv 2)) (pa_cons (pe_op op_sub (pe_op op_mod (pe_op op_fdiv (pv 1) pe_int) (pe_op op_add (pe_op op_mul pe_int (pv 2)) pe_int)) (pv 2)) (pa_cons (pe_op op_sub (pe_op op_mod (pe_op op_fdiv (pv 1) pe_int) pe_int) pe_int) pa_nil)))))))
    (pss_mid (ps_if (PW.pt (pw_and (pt_cmpR op_eq (pe_ix ix_tup (pv 4) pe_int (fun _ _ => rfl)) pe_int (nomark _)) (pw_and1 (pt_cmpR op_lt (pe_ix ix_tup (pv 4) pe_int (fun _ _ => rfl)) pe_int (nomark _))))) (pss_one (ps_set (i := 4) sc__law_forms.nd rfl (Or.inl rfl) (pe_tup (pa_cons pe_int (pa_cons (pe_un un_neg (pe_ix ix_tup (pv 4) pe_int (fun _ _ => rfl))) (pa_cons (pe_ix ix_tup (pv 4) pe_int (fun _ _ => rfl)) pa_nil)))))) pss_nil)
    (pss_mid (ps_if (PW.pt (pw_and (pt_cmpR op_eq (pe_ix ix_tup (pv 4) pe_int (fun _ _ => rfl)) (pe_ix ix_tup (pv 3) pe_int (fun _ _ => rfl)) (nomark _)) (pw_and1 (pt_cmpR op_gt (pe_ix ix_tup (pv 4) pe_int (fun _ _ => rfl)) (pe_ix ix_tup (pv 3) pe_int (fun _ _ => rfl)) (nomark _))))) (pss_one (ps_set (i := 4) sc__law_forms.nd rfl (Or.inl rfl) (pe_tup (pa_cons (pe_ix ix_tup (pv 4) pe_int (fun _ _ => rfl)) (pa_cons (pe_ix ix_tup (pv 3) pe_int (fun _ _ => rfl)) (pa_cons (pe_ix ix_tup (pv 4) pe_int (fun _ _ => rfl)) pa_nil)))))) pss_nil)
    (pss_one (ps_ret (pe_tup (pa_cons pe_str (pa_cons (pv 3) (pa_cons (pv 4) pa_nil))))))))))), ?_⟩
  have d : ∀ c : Int, 0 < c → c < 2 ^ 30 → CDiv a c ∧ CDiv b c := fun c h1 h2 => ⟨⟨h1, h2⟩, ⟨h1, h2⟩⟩
  dsimp only [a_seq]
  k_typeOf
  refine ⟨by decide, (d _ (by decide) (by decide)).1, by decide, (d _ (by decide) (by decide)).1, by decide, by decide, fun p np => ?_⟩
  obtain ⟨h, hh⟩ : ∃ h : Int × Int × Int, h = (a % (3 + 1), a / 4 % (3 + 1), a / 16 % 10) := ⟨_, rfl⟩
  have hb' : 0 ≤ h.1 ∧ h.1 ≤ 3 ∧ 0 ≤ h.2.1 ∧ h.2.1 ≤ 3 ∧ 0 ≤ h.2.2 ∧ h.2.2 ≤ 9 := by rw [hh]; refine ⟨?_, ?_, ?_, ?_, ?_, ?_⟩ <;> (dsimp only; omega)
  obtain ⟨G, hG⟩ : ∃ G, G = L2.upd H p (.tup [V.int (a % (3 + 1)), V.int (a / 4 % (3 + 1)), V.int (a / 16 % 10)]) := ⟨_, rfl⟩
  have gp : G p = some (T3 h) := by rw [hG, hh]; exact upd_same
  have s0 : Same H G := by rw [hG]; exact same_upd np _
  rw [← hG]
  clear hG hh
  obtain ⟨M, hM⟩ : ∃ M : (Int × Int × Int → Prop) → L2.St → Hp → Prop, ∀ C σ H', M C σ H' ↔ ∃ (q : Addr) (l : Int × Int × Int), σ = [some (V.int a), some (V.int b), some (V.int 3), some (V.ref p), some (V.ref q)] ∧ H' q = some (T3 l) ∧ (-3 ≤ l.1 ∧ l.1 ≤ 3 ∧ -3 ≤ l.2.1 ∧ l.2.1 ≤ 3 ∧ -9 ≤ l.2.2 ∧ l.2.2 ≤ 9) ∧ C l ∧ Same G H' := ⟨_, fun _ _ _ => Iff.rfl⟩
  refine mid_of (M fun _ => True) ?_ ?_
  · k_units
    refine ⟨(d _ (by decide) (by decide)).1, by decide, ite2 (fun z => ?_) (fun z => ?_)⟩
    · refine ⟨_, SqT.of gp, _, rfl, _, rfl, by omega, (d _ (by decide) (by decide)).2, by decide, (d _ (by decide) (by decide)).2, _, SqT.of gp, _, rfl, _, rfl, by omega, by decide, fun q nq => ?_⟩
      have e1 := Int.emod_nonneg b (show h.1 + 1 ≠ 0 by omega)
      have e2 := Int.emod_lt_of_pos b (show 0 < h.1 + 1 by omega)
      have e3 := Int.emod_nonneg (b / 12) (show h.2.2 + 1 ≠ 0 by omega)
      have e4 := Int.emod_lt_of_pos (b / 12) (show 0 < h.2.2 + 1 by omega)
      exact (hM _ _ _).mpr ⟨q, (b % (h.1 + 1), b / 4 % 3 - 1, b / 12 % (h.2.2 + 1)), rfl, upd_same, ⟨by dsimp only; omega, by dsimp only; omega, by dsimp only; omega, by dsimp only; omega, by dsimp only; omega, by dsimp only; omega⟩, trivial, same_upd nq _⟩
    · refine ⟨.inl ⟨by decide, by decide⟩, by decide, (d _ (by decide) (by decide)).2, .inl ⟨by decide, by decide⟩, by decide, (d _ (by decide) (by decide)).2, by decide, by decide, fun q nq => ?_⟩
      exact (hM _ _ _).mpr ⟨q, (b % (2 * 3 + 1) - 3, b / 7 % (2 * 3 + 1) - 3, b / 49 % 19 - 9), rfl, upd_same, ⟨by dsimp only; omega, by dsimp only; omega, by dsimp only; omega, by dsimp only; omega, by dsimp only; omega, by dsimp only; omega⟩, trivial, same_upd nq _⟩
  intro σ H1 hm
  obtain ⟨q, l, rfl, eq, lb, _, s1⟩ := (hM _ _ _).mp hm
  refine mid_of (M fun l => ¬ (l.1 = 0 ∧ l.2.1 < 0)) ?_ ?_
  · k_units
    refine ⟨_, SqT.of eq, _, rfl, ?_⟩
    k_units
    refine ite2 (fun z => ⟨_, SqT.of eq, _, rfl, ?_⟩) (fun z => (hM _ _ _).mpr ⟨q, l, rfl, eq, lb, fun y => z y.1, s1⟩)
    k_units
    refine ite2 (fun z2 => ?_) (fun z2 => (hM _ _ _).mpr ⟨q, l, rfl, eq, lb, fun y => z2 y.2, s1⟩)
    exact ⟨_, SqT.of eq, _, rfl, _, rfl, _, SqT.of eq, _, rfl, by decide, fun q2 nq2 => (hM _ _ _).mpr ⟨q2, (0, -l.2.1, l.2.2), rfl, upd_same, ⟨by dsimp only; omega, by dsimp only; omega, by dsimp only; omega, by dsimp only; omega, by dsimp only; omega, by dsimp only; omega⟩, by dsimp only; omega, s1.trans (same_upd nq2 _)⟩⟩
  clear hm lb eq s1
  intro σ H1 hm
  obtain ⟨q, l, rfl, eq, lb, c1, s1⟩ := (hM _ _ _).mp hm
  refine mid_of (M fun l => ¬ (l.1 = 0 ∧ l.2.1 < 0) ∧ ¬ (h.1 - l.1 = 0 ∧ h.2.1 - l.2.1 < 0)) ?_ ?_
  · k_units
    refine ⟨_, SqT.of eq, _, rfl, _, SqT.of (s1 _ _ gp), _, rfl, ?_⟩
    k_units
    refine ite2 (fun z => ⟨_, SqT.of eq, _, rfl, _, SqT.of (s1 _ _ gp), _, rfl, _, rfl, _, rfl, ite2 (fun z2 => ?_) (fun z2 => (hM _ _ _).mpr ⟨q, l, rfl, eq, lb, ⟨c1, fun y => z2 (by omega)⟩, s1⟩)⟩) (fun z => (hM _ _ _).mpr ⟨q, l, rfl, eq, lb, ⟨c1, fun y => z (by omega)⟩, s1⟩)
    exact ⟨_, SqT.of eq, _, rfl, _, SqT.of (s1 _ _ gp), _, rfl, _, SqT.of eq, _, rfl, by decide, fun q2 nq2 => (hM _ _ _).mpr ⟨q2, (l.1, h.2.1, l.2.2), rfl, upd_same, ⟨by dsimp only; omega, by dsimp only; omega, by dsimp only; omega, by dsimp only; omega, by dsimp only; omega, by dsimp only; omega⟩, by dsimp only; omega, s1.trans (same_upd nq2 _)⟩⟩
  clear hm lb eq s1
  intro σ H1 hm
  obtain ⟨q, l, rfl, eq, lb, ⟨c1, c2⟩, s1⟩ := (hM _ _ _).mp hm
  k_units
  exact ⟨by decide, fun r nr => k h l ⟨hb', lb, c1, c2⟩ r _ ((s0.trans s1).trans (same_upd nr _)) ⟨p, q, upd_same, same_upd nr _ _ _ (s1 _ _ gp), same_upd nr _ _ _ eq⟩⟩
def spRat : Sp := fun vs H Q _ => ∃ a b : Int, vs = [.int a, .int b] ∧ ∀ f : Int × Int, Frc f → f.1 ≠ 0 → Bd 70 f.1 → Bd 20 f.2 → ∀ (r : Addr) (H' : Hp), Same H H' → H' r = some (T2 f) → Q (.ref r) H'
theorem ok__law_ratio {P : Program} {w : World} {K : PySem.W.Frag} {mg : Str → Option Value} {base : Heap} (T : Tx K mg) : FnOk P w K mg base CX0 2 T.a__law_ratio T.fd__law_ratio ["_law_one", "_law_other"] spRat := by
  refine T.F__law_ratio.ok sc__law_ratio (fun vs H Q E h => ?_) (fun cdv A outer s H vs Q E hr h => ?_)
  · obtain ⟨a, b, rfl, _⟩ := h
    rfl
  obtain ⟨a, b, rfl, k⟩ := h
  refine ⟨_, ((pss_cons (ps_set (i := 2) sc__law_ratio.nd rfl (Or.inl rfl) (pe_call (FnOk.mono (ok__law_number T) (by decide)) hr rfl T.m__law_number T.F__law_number.kp T.b__law_number .nil pass0 (pa_cons (pv 0) (pa_cons (pe_op op_pow pe_int pe_int) pa_nil))))
    (pss_mid (ps_if (pt_cmpR op_eq (pv 2) pe_int (nomark _)) (pss_one (ps_set (i := 2) sc__law_ratio.nd rfl (Or.inl rfl) pe_int)) pss_nil)
    (pss_cons (ps_set (i := 3) sc__law_ratio.nd rfl (Or.inl rfl) (pe_call (FnOk.mono (ok__law_mixed T) (by decide)) hr rfl T.m__law_mixed T.F__law_mixed.kp T.b__law_mixed .nil pass0 (pa_cons (pv 1) (pa_cons pe_int pa_nil))))
    (pss_cons (ps_set (i := 4) sc__law_ratio.nd rfl (Or.inl rfl) (pe_ix ix_list (pe_lst (pa_cons pe_int (pa_cons (pe_op op_add pe_int (pe_op op_mod (pe_op op_fdiv (pv 3) pe_int) pe_int)) (pa_cons (pe_op op_add pe_int (pe_op op_mod (pe_op op_fdiv (pv 3) pe_int) (pe_op op_pow pe_int pe_int))) pa_nil)))) (pe_op op_mod (pv 3) pe_int) (fun _ _ => rfl)))
    (pss_cons (ps_set (i := 5) sc__law_ratio.nd rfl (Or.inl rfl) (pe_call (FnOk.mono (ok__law_divisor T) (by decide)) hr rfl T.m__law_divisor T.F__law_divisor.kp T.b__law_divisor .nil pass0 (pa_cons (pv 2) (pa_cons (pv 4) pa_nil))))
    (pss_one (ps_ret (pe_tup (pa_cons (pe_op op_fdivB (pv 2) (pv 5)) (pa_cons (pe_op op_fdivB (pv 4) (pv 5)) pa_nil))))))))))), ?_⟩
  dsimp only [a_seq]
  k_typeOf
  refine ⟨⟨by decide, by decide, by decide⟩, a, _, rfl, .inr rfl, fun t ht => ?_⟩
  obtain ⟨M, hM⟩ : ∃ M : L2.St → Hp → Prop, ∀ σ H', M σ H' ↔ ∃ t : Int, σ = [some (V.int a), some (V.int b), some (V.int t), none, none, none] ∧ t ≠ 0 ∧ Bd 70 t ∧ H' = H := ⟨_, fun _ _ => Iff.rfl⟩
  have bt : Bd 70 t := Nat.lt_of_lt_of_le ht (by decide)
  refine mid_of M ?_ ?_
  · k_units
    exact ite2 (fun z => (hM _ _).mpr ⟨1, rfl, by decide, Bd.one (by decide), rfl⟩) (fun z => (hM _ _).mpr ⟨t, rfl, z, bt, rfl⟩)
  clear bt ht
  intro σ H1 hm
  obtain ⟨t', rfl, t0, bt, rfl⟩ := (hM _ _).mp hm
  dsimp only [a_seq]
  k_typeOf
  refine ⟨b, 3, rfl, by decide, fun m hm0 => ?_⟩
  dsimp only [a_seq]
  k_typeOf
  refine ⟨⟨by decide, by decide⟩, by decide, ⟨by decide, by decide⟩, ⟨by decide, by decide, by decide⟩, by decide, by decide, fun p np => ⟨by decide, _, SqL.of upd_same, ?_⟩⟩
  have e6 : (10 : Int) ^ Int.toNat 6 = 1000000 := rfl
  obtain ⟨bo, hbo, b1, b2⟩ : ∃ bo : Int, atI [V.int 1, V.int (1 + m / 3 % 9), V.int (1 + m / 3 % (10 : Int) ^ Int.toNat 6)] (m % 3) = some (V.int bo) ∧ 1 ≤ bo ∧ bo ≤ 1000000 := by
    rw [e6]
    have : m % 3 = 0 ∨ m % 3 = 1 ∨ m % 3 = 2 := by omega
    rcases this with z | z | z <;> rw [z]
    · exact ⟨_, rfl, by omega, by omega⟩
    · exact ⟨_, rfl, by omega, by omega⟩
    · exact ⟨_, rfl, by omega, by omega⟩
  refine ⟨_, hbo, ?_⟩
  clear hbo
  have u1 := same_upd np (.lst [V.int 1, V.int (1 + m / 3 % 9), V.int (1 + m / 3 % (10 : Int) ^ Int.toNat 6)])
  generalize L2.upd H1 p (.lst [V.int 1, V.int (1 + m / 3 % 9), V.int (1 + m / 3 % (10 : Int) ^ Int.toNat 6)]) = G at u1
  dsimp only [a_seq]
  k_typeOf
  refine ⟨t', bo, rfl, ?_⟩
  k_units
  obtain ⟨g1, g2, g3, g4, g5, g6⟩ := gcd_split (t := t') (b := bo) (s := ((Nat.gcd t'.natAbs bo.natAbs : Nat) : Int)) (by omega) (by rw [if_neg (by omega)])
  have small : (((Nat.gcd t'.natAbs bo.natAbs : Nat) : Int)).natAbs < 2 ^ 9000 := by
    rw [Int.natAbs_natCast]
    exact Nat.lt_of_le_of_lt (Nat.gcd_le_right _ (by omega)) (Nat.lt_of_le_of_lt (show bo.natAbs ≤ 1000000 by omega) (Nat.lt_of_lt_of_le (show 1000000 < 2 ^ 20 by decide) (Nat.pow_le_pow_right (by decide) (by decide))))
  have f0 : t'.fdiv ((Nat.gcd t'.natAbs bo.natAbs : Nat) : Int) ≠ 0 := fun z => by rw [z] at g3; omega
  refine ⟨g1, small, g1, small, by decide, fun r nr => k (_, _) ⟨g5, g6⟩ f0 (bd_le (fdiv_le g1 g3) bt) (bd_le (fdiv_le g1 g4) (Bd.of_lt (m := 1000001) (by omega) (by decide))) r _ (u1.trans (same_upd nr _)) upd_same⟩
theorem ite3 {a b X Y : Prop} [Decidable a] [Decidable b] (h1 : a → b → X) (h2 : Y) : if a then (if b then X else Y) else Y := by
  by_cases ha : a
  · rw [if_pos ha]
    by_cases hb : b
    · rw [if_pos hb]; exact h1 ha hb
    · rw [if_neg hb]; exact h2
  · rw [if_neg ha]; exact h2
theorem PtAt.head {H : Hp} {r : Addr} {p : Prt} (h : PtAt H r p) : ∃ (s : Str) (xs : List V), H r = some (.tup (.str s :: xs)) := by
  match p, h with
  | .cho f l, ⟨a, b, h1, _⟩ => exact ⟨_, _, h1⟩
  | .wei f, ⟨a, h1, _⟩ => exact ⟨_, _, h1⟩
  | .pow f, ⟨a, h1, _⟩ => exact ⟨_, _, h1⟩
  | .gro f, ⟨a, h1, _⟩ => exact ⟨_, _, h1⟩
def spPrt (K : PySem.W.Frag) : Sp := fun vs H Q _ => ∃ (A : Addr) (x y z m : Int), vs = [.ref A, .int m] ∧ H A = some (.lst [.int x, .int y, .int z]) ∧ (m = 3 ∨ m = 0) ∧ ∀ p, PrtOk p → mkPt H Q p
theorem ok__law_part {P : Program} {w : World} {K : PySem.W.Frag} {mg : Str → Option Value} {base : Heap} (T : Tx K mg) : FnOk P w K mg base CX0 3 T.a__law_part T.fd__law_part ["_law_cells", "_law_most"] (spPrt K) := by
  refine T.F__law_part.ok sc__law_part (fun vs H Q E h => ?_) (fun cdv A outer s H vs Q E hr h => ?_)
  · obtain ⟨A, x, y, z, m, rfl, _⟩ := h
    rfl
  obtain ⟨A, x, y, z, m, rfl, hA, hm, k⟩ := h
  refine ⟨_, ((pss_cons (ps_set (i := 2) sc__law_part.nd rfl (Or.inl rfl) (pe_op op_mod (pe_call (FnOk.mono (ok__law_mixed T) (by decide)) hr rfl T.m__law_mixed T.F__law_mixed.kp T.b__law_mixed .nil pass0 (pa_cons (pe_ix ix_list (pv 0) pe_int (fun _ _ => rfl)) (pa_cons pe_int pa_nil))) pe_int))
    (pss_cons (ps_if (PW.pt (pw_and (pt_cmpR op_lt (pv 2) pe_int (nomark _)) (pw_and1 (pt_cmpR op_gt (pv 1) pe_int (nomark _))))) (pss_one (ps_ret (pe_call (FnOk.mono (ok__law_forms T) (by decide)) hr rfl T.m__law_forms T.F__law_forms.kp T.b__law_forms .nil pass0 (pa_cons (pe_call (FnOk.mono (ok__law_mixed T) (by decide)) hr rfl T.m__law_mixed T.F__law_mixed.kp T.b__law_mixed .nil pass0 (pa_cons (pe_ix ix_list (pv 0) pe_int (fun _ _ => rfl)) (pa_cons pe_int pa_nil))) (pa_cons (pe_call (FnOk.mono (ok__law_mixed T) (by decide)) hr rfl T.m__law_mixed T.F__law_mixed.kp T.b__law_mixed .nil pass0 (pa_cons (pe_ix ix_list (pv 0) pe_int (fun _ _ => rfl)) (pa_cons pe_int pa_nil))) (pa_cons (pv 1) pa_nil)))))) pss_nil)
    (pss_cons (ps_if (pt_cmpR op_eq (pv 2) pe_int (nomark _)) (pss_one (ps_ret (pe_tup (pa_cons pe_str (pa_cons (pe_call (FnOk.mono (ok__law_ratio T) (by decide)) hr rfl T.m__law_ratio T.F__law_ratio.kp T.b__law_ratio .nil pass0 (pa_cons (pe_ix ix_list (pv 0) pe_int (fun _ _ => rfl)) (pa_cons (pe_ix ix_list (pv 0) pe_int (fun _ _ => rfl)) pa_nil))) pa_nil))))) pss_nil)
    (pss_cons (ps_if (pt_cmpR op_eq (pv 2) pe_int (nomark _)) (pss_one (ps_ret (pe_tup (pa_cons pe_str (pa_cons (pe_call (FnOk.mono (ok__law_ratio T) (by decide)) hr rfl T.m__law_ratio T.F__law_ratio.kp T.b__law_ratio .nil pass0 (pa_cons (pe_ix ix_list (pv 0) pe_int (fun _ _ => rfl)) (pa_cons (pe_ix ix_list (pv 0) pe_int (fun _ _ => rfl)) pa_nil))) pa_nil))))) pss_nil)
    (pss_one (ps_ret (pe_tup (pa_cons pe_str (pa_cons (pe_callTy call_tuple_of rfl T.z_tuple bt_tuple (pa_cons (pe_lcomp rfl (blkok rfl sub_nil fv_nil) (pi_list (pv 0)) (fun _ _ _ _ => (pe_call (FnOk.mono (ok__law_number T) (by decide)) hr rfl T.m__law_number T.F__law_number.kp T.b__law_number .nil pass0 (pa_cons (pv 0) (pa_cons (pe_op op_pow pe_int pe_int) pa_nil))))) pa_nil)) pa_nil)))))))))), ?_⟩
  dsimp only [a_seq]
  k_typeOf
  refine ⟨_, SqL.of hA, _, rfl, x, 0, rfl, by decide, fun wy w0 => ⟨wy, rfl, by decide, ?_⟩⟩
  dsimp only [a_seq]
  k_typeOf
  refine ite3 (fun _ m0 => ⟨_, SqL.of hA, _, rfl, y, 1, rfl, by decide, fun n1 p1 => ⟨_, SqL.of hA, _, rfl, z, 2, rfl, by decide, fun n2 p2 => ⟨n1, n2, ?_, p1, p2, fun h l c => k (.cho h l) c⟩⟩⟩) ?_
  · rw [show m = 3 by omega]
  dsimp only [a_seq]
  k_typeOf
  refine ite2 (fun _ => ⟨_, SqL.of hA, _, rfl, _, SqL.of hA, _, rfl, y, z, rfl, fun f h1 h2 h3 h4 a H1 s1 ea => ⟨by decide, fun r nr => ?_⟩⟩) (fun _ => ?_)
  · exact k (.pow f) ⟨h1, h2, h3, h4⟩ r _ (s1.trans (same_upd nr _)) ⟨a, upd_same, same_upd nr _ _ _ ea⟩
  dsimp only [a_seq]
  k_typeOf
  refine ite2 (fun _ => ⟨_, SqL.of hA, _, rfl, _, SqL.of hA, _, rfl, y, z, rfl, fun f h1 h2 h3 h4 a H1 s1 ea => ⟨by decide, fun r nr => ?_⟩⟩) (fun _ => ?_)
  · exact k (.gro f) ⟨h1, h2, h3, h4⟩ r _ (s1.trans (same_upd nr _)) ⟨a, upd_same, same_upd nr _ _ _ ea⟩
  k_units
  refine ⟨⟨_, SqL.of hA⟩, fun D nD => ?_⟩
  obtain ⟨Pc, hPc⟩ : ∃ Pc : Nat → Hp → Prop, ∀ j Hx, Pc j Hx ↔ ∃ us : List Int, Hx D = some (.lst (us.map V.int)) ∧ us.length = j ∧ (∀ u ∈ us, Bd 300 u) ∧ Same H Hx := ⟨_, fun _ _ => Iff.rfl⟩
  refine cl_list (xs := [V.int x, V.int y, V.int z]) Pc ((hPc _ _).mpr ⟨[], upd_same, rfl, fun u hu => by simp at hu, same_upd nD _⟩) (fun i Hx _ y => by obtain ⟨_, _, _, _, y⟩ := (hPc i Hx).mp y; exact y.seq (SqL.of hA)) ?_ ?_
  · intro j v Hx hv hc
    obtain ⟨us, k1, k2, k3, k4⟩ := (hPc _ _).mp hc
    obtain ⟨c, rfl, hj⟩ : ∃ c : Int, v = V.int c ∧ j < 3 := by
      match j, hv with
      | 0, hv => exact ⟨x, (Option.some.inj hv).symm, by decide⟩
      | 1, hv => exact ⟨y, (Option.some.inj hv).symm, by decide⟩
      | 2, hv => exact ⟨z, (Option.some.inj hv).symm, by decide⟩
      | j + 3, hv => simp at hv
    (iterate 3 (k_units; (try simp only [bst, Option.getD_some])); k_units)
    refine ⟨⟨by decide, by decide, by decide⟩, c, _, rfl, .inl rfl, fun u hu => ⟨_, k1, by rw [List.length_map]; exact small1000 (by omega), (hPc _ _).mpr ⟨us ++ [u], by rw [upd_same]; simp, by simp [k2], fun v hv => ?_, k4.more nD⟩⟩⟩
    rcases List.mem_append.mp hv with hv | hv
    · exact k3 v hv
    · rw [List.mem_singleton.mp hv]
      exact Nat.lt_of_lt_of_le hu (Nat.le_trans (show _ ≤ 2 ^ 200 by decide) (Nat.pow_le_pow_right (by decide) (by decide)))
  intro Hx hc
  obtain ⟨us, k1, k2, k3, k4⟩ := (hPc _ _).mp hc
  match us, k2 with
  | [a, b, c], _ =>
    refine ⟨D, rfl, _, .inl ⟨SqL.of k1, fun q nq => ⟨by decide, fun r nr => ?_⟩⟩⟩
    have u1 := same_upd nq (.tup ([a, b, c].map V.int))
    exact k (.wei (a, b, c)) ⟨k3 a (by simp), k3 b (by simp), k3 c (by simp)⟩ r _ ((k4.trans u1).trans (same_upd nr _)) ⟨q, upd_same, same_upd nr _ _ _ upd_same⟩
def spPts (K : PySem.W.Frag) : Sp := fun vs H Q _ => ∃ (A M : Addr) (ns : List Int), vs = [.ref A, .ref M] ∧ SqL K H A (ns.map V.int) ∧ H M = some (.lst [.int 3, .int 3, .int 3, .int 3, .int 3, .int 3]) ∧
  ∀ (L : Addr) (rs : List Addr) (ps : List Prt) (H' : Hp), Same H H' → H L = none → H' L = some (.lst (rs.map V.ref)) → Pts H' rs ps → (∀ p ∈ ps, PrtOk p) → 1 ≤ ps.length → ps.length ≤ 6 → Q (.ref L) H'
theorem ok__law_parts {P : Program} {w : World} {K : PySem.W.Frag} {mg : Str → Option Value} {base : Heap} (T : Tx K mg) : FnOk P w K mg base CX0 4 T.a__law_parts T.fd__law_parts ["_law_script", "_law_mosts"] (spPts K) := by
  refine T.F__law_parts.ok sc__law_parts (fun vs H Q E h => ?_) (fun cdv A outer s H vs Q E hr h => ?_)
  · obtain ⟨A, M, ns, rfl, _⟩ := h
    rfl
  obtain ⟨A, M, ns, rfl, hA, hM, k⟩ := h
  refine ⟨_, ((pss_cons (ps_set (i := 2) sc__law_parts.nd rfl (Or.inl rfl) (pe_lst pa_nil))
    (pss_cons (ps_for PassesOwn.never rfl (pi_range1 rfl T.z_range (pa_cons (pe_op op_add pe_int (pe_op op_mod (pe_call (FnOk.mono (ok__law_cell_at T) (by decide)) hr rfl T.m__law_cell_at T.F__law_cell_at.kp T.b__law_cell_at .nil pass0 (pa_cons (pv 0) (pa_cons pe_int pa_nil))) pe_int)) pa_nil)) (pg_name (i := 3) sc__law_parts.nd rfl (Or.inr rfl)) (pss_cons (ps_set (i := 4) sc__law_parts.nd rfl (Or.inl rfl) (pe_call (FnOk.mono (ok__law_part T) (by decide)) hr rfl T.m__law_part T.F__law_part.kp T.b__law_part .nil pass0 (pa_cons (pe_lcomp rfl (blkok rfl (sub_cons rfl (sub_cons rfl sub_nil)) (fv_cons 0 "_law_script" (by decide) rfl (Or.inl rfl) (Or.inl rfl) ⟨_, rfl⟩ (fv_cons 3 "_law_k" (by decide) rfl (Or.inl rfl) (Or.inl rfl) ⟨_, rfl⟩ fv_nil))) (pi_range1 rfl T.z_range (pa_cons pe_int pa_nil)) (fun _ _ _ _ => (pe_call (FnOk.mono (ok__law_cell_at T) (by decide)) hr rfl T.m__law_cell_at T.F__law_cell_at.kp T.b__law_cell_at .nil pass0 (pa_cons (pv 1) (pa_cons (pe_op op_add (pe_op op_add pe_int (pe_op op_mul pe_int (pv 2))) (pv 0)) pa_nil))))) (pa_cons (pe_ix ix_list (pv 1) pe_int (fun _ _ => rfl)) pa_nil))))
    (pss_mid (ps_if (pt_cmpR op_eq (pe_ix ix_tup (pv 4) pe_int (fun _ _ => rfl)) pe_str (nomark _)) (pss_one (ps_set (i := 1) sc__law_parts.nd rfl (Or.inl rfl) (pe_op op_cat (pe_slice sl_list (pv 1) (po_some pe_int) po_none) (pe_lst (pa_cons pe_int pa_nil))))) pss_nil)
    (pss_one (ps_expr (pe_bm PySem.F.plainAttrs_list PySem.F.slot_list_append PySem.F.type_list_append mt_append (pv 2) (pa_cons (pv 4) pa_nil)))))))
    (pss_one (ps_ret (pv 2)))))), ?_⟩
  dsimp only [a_seq]
  k_typeOf
  refine ⟨by decide, fun L nL => ?_⟩
  k_units
  have u0 := same_upd nL (.lst [])
  refine ⟨A, ns, 0, rfl, u0.seq hA, _, rfl, by decide, by omega, by omega, ?_⟩
  have i0 := Int.emod_nonneg (cell ns 0) (show (6 : Int) ≠ 0 by decide)
  have i6 := Int.emod_lt_of_pos (cell ns 0) (show (0 : Int) < 6 by decide)
  obtain ⟨N, hN, N1, N6⟩ : ∃ N, (1 + cell ns 0 % 6).toNat = N ∧ 1 ≤ N ∧ N ≤ 6 := ⟨_, rfl, by omega, by omega⟩
  rw [hN]
  obtain ⟨Pv, hPv⟩ : ∃ Pv : Nat → L2.St → Hp → Prop, ∀ i σ H', Pv i σ H' ↔ ∃ (rs : List Addr) (ps : List Prt) (M' : Addr) (ms : List Int) (r3 r4 : Option V), σ = [some (V.ref A), some (V.ref M'), some (V.ref L), r3, r4] ∧ H' L = some (.lst (rs.map V.ref)) ∧ Pts H' rs ps ∧ (∀ p ∈ ps, PrtOk p) ∧ ps.length = i ∧ H' M' = some (.lst (ms.map V.int)) ∧ ms.length = 6 ∧ (∀ x ∈ ms, x = 3 ∨ x = 0) ∧ Same H H' ∧ M' ≠ L := ⟨_, fun _ _ _ => Iff.rfl⟩
  have nML : M ≠ L := fun z => by rw [z, nL] at hM; cases hM
  refine lp_range Pv ((hPv _ _ _).mpr ⟨[], [], M, [3, 3, 3, 3, 3, 3], none, none, rfl, upd_same, ⟨rfl, fun i r p e => by simp at e⟩, fun p hp => by simp at hp, rfl, u0 _ _ hM, rfl, fun x hx => by simp at hx; exact .inl hx, u0, nML⟩) ?_ ?_
  · intro i σ H1 hi hp
    obtain ⟨rs, ps, M', ms, r3, r4, rfl, eL, hP, hO, lp, eM, l6, h30, s1, nML'⟩ := (hPv _ _ _).mp hp
    dsimp only [a_seq]
    k_typeOf
    refine ⟨by decide, by decide, fun D nD => ?_⟩
    obtain ⟨Pc, hPc⟩ : ∃ Pc : Nat → Hp → Prop, ∀ j Hx, Pc j Hx ↔ Hx D = some (.lst (((List.range j).map fun j => cell ns (1 + 3 * i + j)).map V.int)) ∧ Same H1 Hx := ⟨_, fun _ _ => Iff.rfl⟩
    refine cl_range Pc ((hPc _ _).mpr ⟨upd_same, same_upd nD _⟩) ?_ ?_
    · intro j Hx hj hc
      obtain ⟨k1, k2⟩ := (hPc _ _).mp hc
      (iterate 3 (k_units; (try simp only [bst, Option.getD_some])); k_units)
      have e : (1 : Int) + 3 * (0 + (i : Int)) + (0 + (j : Int)) = ((1 + 3 * i + j : Nat) : Int) := by omega
      have hj3 : j < 3 := hj
      refine ⟨.inl ⟨by decide, by decide⟩, A, ns, 1 + 3 * i + j, by rw [e], (s1.trans k2).seq hA, _, k1, by rw [List.length_map, List.length_map, List.length_range]; exact small1000 (by omega), (hPc _ _).mpr ⟨?_, k2.more nD⟩⟩
      rw [upd_same, List.range_succ, List.map_append, List.map_append]; rfl
    intro Hx hc
    obtain ⟨k1, k2⟩ := (hPc _ _).mp hc
    obtain ⟨m0, m1, m2, m3, m4, m5, rfl⟩ : ∃ m0 m1 m2 m3 m4 m5, ms = [m0, m1, m2, m3, m4, m5] := by
      match ms, l6 with
      | [m0, m1, m2, m3, m4, m5], _ => exact ⟨m0, m1, m2, m3, m4, m5, rfl⟩
    refine ⟨_, SqL.of (k2 _ _ eM), _, (show atI ([m0, m1, m2, m3, m4, m5].map V.int) ((0 : Nat) : Int) = some (V.int m0) from atI_nat rfl), D, _, _, _, m0, rfl, k1, h30 m0 (by simp), fun p hp r H2 s2 hr2 => ?_⟩
    have s12 := k2.trans s2
    obtain ⟨M2, hM2⟩ : ∃ M2 : L2.St → Hp → Prop, ∀ σ H', M2 σ H' ↔ ∃ (M'' : Addr) (ms : List Int), σ = [some (V.ref A), some (V.ref M''), some (V.ref L), some (V.int (0 + (i : Int))), some (V.ref r)] ∧ H' M'' = some (.lst (ms.map V.int)) ∧ ms.length = 6 ∧ (∀ x ∈ ms, x = 3 ∨ x = 0) ∧ Same H2 H' ∧ M'' ≠ L := ⟨_, fun _ _ => Iff.rfl⟩
    refine mid_of M2 ?_ ?_
    · obtain ⟨sh, xs, er⟩ := hr2.head
      k_units
      refine ⟨_, SqT.of er, _, (show atI (V.str sh :: xs) ((0 : Nat) : Int) = some (V.str sh) from atI_nat rfl), ?_⟩
      k_units
      refine ite2 (fun _ => ?_) (fun _ => (hM2 _ _).mpr ⟨M', _, rfl, s12 _ _ eM, l6, h30, Same.refl _, nML'⟩)
      have ec : cutV ([m0, m1, m2, m3, m4, m5].map V.int) (some 1) none = [m1, m2, m3, m4, m5].map V.int := rfl
      refine ⟨_, SqL.of (s12 _ _ eM), fun p1 n1 => ⟨by decide, fun p2 n2 => ?_⟩⟩
      rw [ec] at n2 ⊢
      have v1 := same_upd n1 (.lst ([m1, m2, m3, m4, m5].map V.int))
      have v2 := same_upd n2 (.lst [V.int 0])
      refine ⟨_, v2 _ _ upd_same, _, upd_same, by show 5 + 1 ≤ sizeLine; decide, fun p3 n3 => ?_⟩
      have v3 := same_upd n3 (.lst ([m1, m2, m3, m4, m5].map V.int ++ [V.int 0]))
      have eLx := (v1.trans v2) _ _ (s12 _ _ eL)
      exact (hM2 _ _).mpr ⟨p3, [m1, m2, m3, m4, m5, 0], rfl, upd_same, rfl, fun x hx => by
        simp only [List.mem_cons, List.not_mem_nil, or_false] at hx
        rcases hx with rfl | rfl | rfl | rfl | rfl | rfl
        · exact h30 _ (by simp)
        · exact h30 _ (by simp)
        · exact h30 _ (by simp)
        · exact h30 _ (by simp)
        · exact h30 _ (by simp)
        · exact .inr rfl, (v1.trans v2).trans v3, fun z => by rw [z, eLx] at n3; cases n3⟩
    intro σ H3 hm
    obtain ⟨M'', ms2, rfl, eM2, l62, h302, s3, nML2⟩ := (hM2 _ _).mp hm
    k_units
    have eL3 := s3 _ _ (s12 _ _ eL)
    have kt : ∀ a xs, H1 a = some (.tup xs) → L2.upd H3 L (.lst (rs.map V.ref ++ [V.ref r])) a = some (.tup xs) := fun a xs e => by
      rw [upd_ne (ne_of e eL (fun z => nomatch z))]; exact s3 _ _ (s12 _ _ e)
    refine ⟨a_tyL (SqL.of eL3), _, eL3, by rw [List.length_map, hP.len]; exact small1000 (by omega), (hPv _ _ _).mpr ⟨rs ++ [r], ps ++ [p], M'', ms2, _, _, rfl, by rw [upd_same, List.map_append]; rfl, ?_, fun p' hp' => ?_, by simp [lp], by rw [upd_ne nML2]; exact eM2, l62, h302, ((s1.trans s12).trans s3).more nL, nML2⟩⟩
    · refine (hP.kt kt).snoc (hr2.kt fun a xs e => ?_)
      rw [upd_ne (ne_of (s3 _ _ e) eL3 (fun z => nomatch z))]; exact s3 _ _ e
    · rcases List.mem_append.mp hp' with z | z
      · exact hO p' z
      · rw [List.mem_singleton.mp z]; exact hp
  · intro σ H1 hp
    obtain ⟨rs, ps, M', ms, r3, r4, rfl, eL, hP, hO, lp, eM, l6, h30, s1, nML'⟩ := (hPv _ _ _).mp hp
    k_units
    exact k L rs ps H1 s1 nL eL hP hO (by omega) (by omega)
structure PtsOk (B : Nat) (ps : List Prt) (n k : Nat) : Prop where
  one : 1 ≤ ps.length
  six : ps.length ≤ 6
  b1 : B * ps.length ≤ 3900
  b2 : B ≤ 3900
  all : ∀ p ∈ ps, PtOk B p n k
theorem PcAt.isPart {K : PySem.W.Frag} {mg : Str → Option Value} {T : Tx K mg} {H0 H : Hp} {q : Addr} {p : Prt} (h : PcAt T H0 H q p) : ∃ C, TyOf K H (.ref q) (.ref C) ∧ PySem.W.kitOne K (.ref C) (.ref T.c_Part) = some true := by
  match p, h with
  | .cho f l, ⟨dx, a, L, b, t, h1, _⟩ => exact ⟨_, T.oc_Choose.ty T.cl_Choose h1, T.ki_Choose_Part⟩
  | .wei f, ⟨dx, a, h1, _⟩ => exact ⟨_, T.oc_Weight.ty T.cl_Weight h1, T.ki_Weight_Part⟩
  | .pow f, ⟨dx, a, h1, _⟩ => exact ⟨_, T.oc_Power.ty T.cl_Power h1, T.ki_Power_Part⟩
  | .gro f, ⟨dx, a, h1, _⟩ => exact ⟨_, T.oc_Growth.ty T.cl_Growth h1, T.ki_Growth_Part⟩
def spPoint {K : PySem.W.Frag} {mg : Str → Option Value} (T : Tx K mg) : Sp := fun vs H Q _ => ∃ (x A M : Addr) (H0 H0' : Hp) (ts rs qs : List Addr) (ps : List Prt) (n k B : Nat), vs = [.ref x, .ref A, .ref M, .int (n : Int), .int (k : Int)] ∧ TermAt T H0 H x ts ps ∧ H A = some (.lst (rs.map V.ref)) ∧ Pts H rs ps ∧ H M = some (.lst (qs.map V.ref)) ∧ Pcs T H0' H qs ps ∧ PtsOk B ps n k ∧ ∀ H', Same H H' → Q (.bl true) H'
theorem ok__law_point {P : Program} {w : World} {K : PySem.W.Frag} {mg : Str → Option Value} {base : Heap} (T : Tx K mg) : FnOk P w K mg base CX0 18 T.a__law_point T.fd__law_point ["_law_term", "_law_parts_here", "_law_made_here", "_law_n", "_law_k"] (spPoint T) := by
  refine T.F__law_point.ok sc__law_point (fun vs H Q E h => ?_) (fun cdv A outer s H vs Q E hr h => ?_)
  · obtain ⟨x, A, M, H0, H0', ts, rs, qs, ps, n, k, B, rfl, _⟩ := h
    rfl
  obtain ⟨x, A, M, H0, H0', ts, rs, qs, ps, n, k, B, rfl, hx, hA, hP, hM, hC, hO, fin⟩ := h
  refine ⟨_, ((pss_cons (ps_set (i := 5) sc__law_point.nd rfl (Or.inl rfl) (pe_tup (pa_cons pe_int (pa_cons pe_int pa_nil))))
    (pss_cons (ps_for PassesOwn.never rfl (pi_zip rfl T.z_zip (pa_cons (pv 1) (pa_cons (pv 2) pa_nil))) (pg_tup rfl (pgs_cons (pg_name (i := 6) sc__law_point.nd rfl (Or.inl rfl)) (pgs_cons (pg_name (i := 7) sc__law_point.nd rfl (Or.inl rfl)) pgs_nil))) (pss_cons (ps_set (i := 8) sc__law_point.nd rfl (Or.inl rfl) (pe_call (FnOk.mono (ok__law_worth T) (by decide)) hr rfl T.m__law_worth T.F__law_worth.kp T.b__law_worth .nil pass0 (pa_cons (pv 6) (pa_cons (pv 3) (pa_cons (pv 4) pa_nil)))))
    (pss_cons (ps_if (PW.pt (pw_or (pt_not (pt_val (pe_callB call_isinstC rfl T.z_isinstance bt_isinstance (pa_cons (pv 7) (pa_cons (pe_glob (v := .ref T.c_Part) rfl T.mc_Part rfl) pa_nil))))) (pw_or1 (pt_not (pt_val (pe_call (FnOk.mono (ok__law_alike T) (by decide)) hr rfl T.m__law_alike T.F__law_alike.kp T.b__law_alike .nil pass0 (pa_cons (pe_either (pe_meth (pv 7) T.cl_Choose T.me_Choose_worth (FnOk.mono (ok_Choose_worth T) (by decide)) hr T.b_Choose_worth .nil pass0 (pa_cons (pv 3) (pa_cons (pv 4) pa_nil))) (pe_either (pe_meth (pv 7) T.cl_Weight T.me_Weight_worth (FnOk.mono (ok_Weight_worth T) (by decide)) hr T.b_Weight_worth .nil pass0 (pa_cons (pv 3) (pa_cons (pv 4) pa_nil))) (pe_either (pe_meth (pv 7) T.cl_Power T.me_Power_worth (FnOk.mono (ok_Power_worth T) (by decide)) hr T.b_Power_worth .nil pass0 (pa_cons (pv 3) (pa_cons (pv 4) pa_nil))) (pe_meth (pv 7) T.cl_Growth T.me_Growth_worth (FnOk.mono (ok_Growth_worth T) (by decide)) hr T.b_Growth_worth .nil pass0 (pa_cons (pv 3) (pa_cons (pv 4) pa_nil)))))) (pa_cons (pv 8) pa_nil)))))))) (pss_one (ps_ret pe_bl)) pss_nil)
    (pss_one (ps_set (i := 5) sc__law_point.nd rfl (Or.inl rfl) (pe_tup (pa_cons (pe_op op_mulZ (pe_ix ix_tup (pv 5) pe_int (fun _ _ => rfl)) (pe_ix ix_tup (pv 8) pe_int (fun _ _ => rfl))) (pa_cons (pe_op op_mulZ (pe_ix ix_tup (pv 5) pe_int (fun _ _ => rfl)) (pe_ix ix_tup (pv 8) pe_int (fun _ _ => rfl))) pa_nil))))))))
    (pss_one (ps_ret (pe_and (pe_call (FnOk.mono (ok__law_alike T) (by decide)) hr rfl T.m__law_alike T.F__law_alike.kp T.b__law_alike .nil pass0 (pa_cons (pe_meth (pv 0) T.cl_Term T.me_Term_worth (FnOk.mono (ok_Term_worth T) (by decide)) hr T.b_Term_worth .nil pass0 (pa_cons (pv 3) (pa_cons (pv 4) pa_nil))) (pa_cons (pv 5) pa_nil))) (pe_one (pe_cmpR (op_eqD hr.units) (pe_meth (pe_makeN T.mk0_Part rfl T.mc_Part) T.cl_Part T.me_Part_worth (FnOk.mono (ok_Part_worth T) (by decide)) hr T.b_Part_worth .nil pass0 (pa_cons (pv 3) (pa_cons (pv 4) pa_nil))) (pe_tup (pa_cons pe_int (pa_cons pe_int pa_nil))) (nomark _))))))))), ?_⟩
  dsimp only [a_seq]
  k_typeOf
  refine ⟨by decide, fun d0 nd0 => ?_⟩
  dsimp only [a_seq]
  k_typeOf
  have u0 := same_upd nd0 (.tup [V.int 1, V.int 1])
  have lw : (ps.map fun p => worF p n k).length = ps.length := List.length_map _
  have l6 := hO.six
  obtain ⟨Pv, hPv⟩ : ∃ Pv : Nat → L2.St → Hp → Prop, ∀ i σ H', Pv i σ H' ↔ ∃ (d : Addr) (r6 r7 r8 : Option V), σ = [some (V.ref x), some (V.ref A), some (V.ref M), some (V.int (n : Int)), some (V.int (k : Int)), some (V.ref d), r6, r7, r8] ∧ H' d = some (T2 (dueF ((ps.map fun p => worF p n k).take i))) ∧ Same H H' := ⟨_, fun _ _ _ => Iff.rfl⟩
  refine ⟨_, SqL.of (u0 _ _ hA), _, SqL.of (u0 _ _ hM), lp_zip (xs := rs.map V.ref) (ys := qs.map V.ref) Pv ((hPv _ _ _).mpr ⟨d0, none, none, none, rfl, upd_same, u0⟩) (fun i σ H' _ _ z => by obtain ⟨_, _, _, _, _, _, z⟩ := (hPv i σ H').mp z; exact ⟨z.seq (SqL.of hA), z.seq (SqL.of hM)⟩) ?_ ?_⟩
  · intro i v1 v2 pr σ H1 e1 e2 hp npr
    obtain ⟨d, r6, r7, r8, rfl, ed, s1⟩ := (hPv _ _ _).mp hp
    rw [List.getElem?_map] at e1 e2
    obtain ⟨r, hr1, rfl⟩ := Option.map_eq_some_iff.mp e1
    obtain ⟨q, hq1, rfl⟩ := Option.map_eq_some_iff.mp e2
    have hi2 : i < ps.length := by have := hP.len; have := (List.getElem?_eq_some_iff.mp hr1).1; omega
    have hpi := List.getElem?_eq_getElem hi2
    have hpo := hO.all _ (List.getElem_mem hi2)
    have hpt := hP.get i r _ hr1 hpi
    have hpc := hC.get i q _ hq1 hpi
    have et : dueF ((ps.map fun p => worF p n k).take (i + 1)) = ((dueF ((ps.map fun p => worF p n k).take i)).1 * (worF ps[i] n k).1, (dueF ((ps.map fun p => worF p n k).take i)).2 * (worF ps[i] n k).2) := by
      rw [← List.take_append_getElem (by rw [lw]; exact hi2), dueF_snoc, List.getElem_map]
    have bd := due_bd (B := B) ((ps.map fun p => worF p n k).take i) fun f hf => by
      obtain ⟨p, hp, rfl⟩ := List.mem_map.mp (List.mem_of_mem_take hf)
      obtain ⟨_, _, _, _, g2, g3⟩ := hO.all p hp
      exact ⟨g2, g3⟩
    rw [List.length_take, lw, Nat.min_eq_left (by omega)] at bd
    generalize dueF ((ps.map fun p => worF p n k).take i) = D at ed et bd
    generalize ps[i] = p at hpo hpt hpc et
    have u1 := same_upd npr (.tup [V.ref r, V.ref q])
    have s2 := s1.trans u1
    have ed1 := u1 _ _ ed
    clear ed
    dsimp only [a_seq]
    k_typeOf
    refine ⟨_, SqT.of upd_same, rfl, _, _, rfl, _, _, rfl, rfl, r, p, n, k, B, rfl, hpt.on s2, hpo, fun u H2 s3 eu => ?_⟩
    have s13 := s2.trans s3
    have hpc2 := hpc.kp (kpS s13)
    obtain ⟨C, ty, ki⟩ := hpc2.isPart
    dsimp only [a_seq]
    k_typeOf
    refine ⟨_, ty, true, ki, ?_⟩
    rw [if_neg (by decide)]
    obtain ⟨_, _, _, g1, g2, g3⟩ := id hpo
    have hB := hO.b2
    have hBi : B * i ≤ 3900 := Nat.le_trans (Nat.mul_le_mul_left _ (by omega)) hO.b1
    refine dyn_worth hpc2 hpo fun f H3 s4 ef => ?_
    have eu3 := s4 _ _ eu
    have ed3 := s4 _ _ (s3 _ _ ed1)
    refine ⟨f, u, worF p n k, worF p n k, rfl, ef, SqT.of eu3, g1, rfl, g2.mono (by decide), g3.mono (by omega), g2.mono (by decide), g3.mono (by omega), true, rfl, ?_⟩
    rw [if_neg (by decide)]
    exact ⟨_, SqT.of ed3, _, rfl, _, SqT.of eu3, _, rfl, _, rfl, _, rfl, bd.1.fits g2 (by omega), _, SqT.of ed3, _, rfl, _, SqT.of eu3, _, rfl, _, rfl, _, rfl, bd.2.fits g3 (by omega), by decide, fun d2 nd2 => (hPv _ _ _).mpr ⟨d2, _, _, _, rfl, by rw [upd_same, et], (s13.trans s4).trans (same_upd nd2 _)⟩⟩
  intro σ H1 hp
  obtain ⟨d, r6, r7, r8, rfl, ed, s1⟩ := (hPv _ _ _).mp hp
  have hmin : min (rs.map V.ref).length (qs.map V.ref).length = ps.length := by rw [List.length_map, List.length_map, hP.len, hC.len, Nat.min_self]
  rw [hmin, ← lw, List.take_of_length_le (Nat.le_refl _)] at ed
  k_units
  obtain ⟨dx, P1, P2, qs2, h1, h2⟩ := id hx
  have hfr : ∀ f ∈ ps.map (fun p => worF p n k), Frc f ∧ Bd 20000 f.1 ∧ Bd B f.2 := fun f hf => by
    obtain ⟨p, hp, rfl⟩ := List.mem_map.mp hf
    obtain ⟨_, _, _, g1, g2, g3⟩ := hO.all p hp
    exact ⟨g1, g2, g3⟩
  obtain ⟨d1, d2⟩ := due_prod _ fun f hf => (hfr f hf).1
  obtain ⟨d3, d4⟩ := due_bd _ fun f hf => (hfr f hf).2
  obtain ⟨d5, d6⟩ := prod_bd _ hfr
  rw [lw] at d3 d4 d5 d6
  have hBl := hO.b1
  refine ⟨dx, _, s1 _ _ h1, rfl, x, H0, ts, ps, n, k, rfl, hx.on s1, l6, ⟨B, hO.b1, hO.b2, hO.all⟩, fun r H2 s2 er => ⟨r, d, _, _, rfl, er, SqT.of (s2 _ _ ed), d1, d2, d5.mono (by omega), d6.mono (by omega), d3.mono (by omega), d4.mono (by omega), true, rfl, ?_⟩⟩
  rw [if_pos rfl]
  intro y dy ny ndy nyd
  have s3 : Same H2 (L2.upd (L2.upd H2 dy (.own y)) y (.ins T.c_Part dy [])) := same_new ny ndy
  refine ⟨dy, [], upd_same, rfl, y, n, k, rfl, fun e ne => ⟨by decide, fun p np => ?_⟩⟩
  have s4 := same_upd ne (.tup [V.int 1, V.int 1])
  have s5 := same_upd np (.tup [V.int 1, V.int 1])
  refine ⟨_, DV.tup (SqT.of (s5 _ _ upd_same)) (.cons (.int 1) (.cons (.int 1) .nil)), _, DV.tup (SqT.of upd_same) (.cons (.int 1) (.cons (.int 1) .nil)), by decide, by decide, by decide, ?_⟩
  rw [show PyData.eqv (PyData.tuple [PyData.int 1, PyData.int 1]) (PyData.tuple [PyData.int 1, PyData.int 1]) = true by decide]
  exact fin _ ((((s1.trans s2).trans s3).trans s4).trans s5)
theorem cut_from (bs : List Addr) (k : Nat) : cutV (bs.map V.ref) (some (k : Int)) none = (bs.drop k).map V.ref := by
  unfold cutV
  rw [HT.sIx_nat, HT.sIx_none, List.length_map, ← List.map_drop, List.take_of_length_le (by rw [List.length_map, List.length_drop]; omega)]
  congr 1
  by_cases z : k ≤ bs.length
  · rw [Nat.min_eq_left z]
  · rw [Nat.min_eq_right (by omega), List.drop_of_length_le (Nat.le_refl _), List.drop_of_length_le (by omega)]
theorem cut_upto (bs : List Addr) (k : Nat) : cutV (bs.map V.ref) none (some (k : Int)) = (bs.take k).map V.ref := by
  unfold cutV
  rw [HT.sIx_nat, HT.sIx_none, List.length_map, List.drop_zero, ← List.map_take]
  congr 1
  by_cases z : k ≤ bs.length
  · rw [Nat.min_eq_left z]; rfl
  · rw [Nat.min_eq_right (by omega), Nat.sub_zero, List.take_of_length_le (Nat.le_refl _), List.take_of_length_le (by omega)]
theorem mk_term {K : PySem.W.Frag} {mg : Str → Option Value} {T : Tx K mg} {H : Hp} {Q : Addr → Hp → Prop} {E : XK} {A : Addr} {rs : List Addr} {ps : List Prt} (hA : H A = some (.lst (rs.map V.ref))) (hP : Pts H rs ps) (hO : ∀ p ∈ ps, PrtOk p) (l1 : 1 ≤ ps.length) (l6 : ps.length ≤ 6)
    (k : ∀ (x : Addr) (H' : Hp), Same H H' → TermAt T H H' x rs ps → Q x H') (x dx : Addr) (hx : H x = none) (hd : H dx = none) (_ : dx ≠ x) :
    spTInit T [.ref x, .ref A] (L2.upd (L2.upd H dx (.own x)) x (.ins T.c_Term dx [])) (fun v H2 => v = V.non ∧ Q x H2) E := by
  have s1 : Same H (L2.upd (L2.upd H dx (.own x)) x (.ins T.c_Term dx [])) := same_new hx hd
  refine ⟨x, dx, A, rs, ps, rfl, upd_same, s1 _ _ hA, hP.on s1, hO, l1, l6, fun P1 P2 qs H' s2 n1 n2 ex e1 e2 hq => ⟨rfl, ?_⟩⟩
  have s3 : Same H H' := fun y o e => s2 y o (ne_of_none e hx) (s1 y o e)
  exact k x H' s3 ⟨dx, P1, P2, qs, ex, s1.free n1, e1, s1.free n2, e2, hq.from fun y e => s1.free e⟩
theorem cl_made {K : PySem.W.Frag} {mg : Str → Option Value} {T : Tx K mg} {H : Hp} {Q : VK} {σ : L2.St} {L D : Addr} {rs : List Addr} {ps : List Prt} (hL : H L = some (.lst (rs.map V.ref))) (hP : Pts H rs ps) (l6 : ps.length ≤ 6) (nD : H D = none)
    (k : ∀ (qs : List Addr) (H' : Hp), Same H H' → H' D = some (.lst (qs.map V.ref)) → Pcs T (L2.upd H D (.lst [])) H' qs ps → Q (.ref D) H') :
    CLoop (Itl K L) [] (tCall (spMade T) [] E0 (tCons (tVar 0) tNil)) Q σ H D := by
  obtain ⟨G1, hG1⟩ : ∃ G1, G1 = L2.upd H D (.lst []) := ⟨_, rfl⟩
  rw [← hG1] at k
  have g1D : G1 D = some (.lst []) := by rw [hG1]; exact upd_same
  obtain ⟨Pc, hPc⟩ : ∃ Pc : Nat → Hp → Prop, ∀ j Hx, Pc j Hx ↔ ∃ qs : List Addr, Hx D = some (.lst (qs.map V.ref)) ∧ Pcs T G1 Hx qs (ps.take j) ∧ Same H Hx := ⟨_, fun _ _ => Iff.rfl⟩
  refine cl_list (xs := rs.map V.ref) Pc ((hPc _ _).mpr ⟨[], upd_same, ⟨by simp, fun i q p e => by simp at e⟩, same_upd nD _⟩) (fun i Hx _ z => by obtain ⟨_, _, _, z⟩ := (hPc i Hx).mp z; exact z.seq (SqL.of hL)) ?_ ?_
  · intro j v Hx hv hc
    obtain ⟨qs, k1, k2, k3⟩ := (hPc _ _).mp hc
    rw [List.getElem?_map] at hv
    obtain ⟨r, hr1, rfl⟩ := Option.map_eq_some_iff.mp hv
    have hj := (List.getElem?_eq_some_iff.mp hr1).1
    have hj2 : j < ps.length := by have := hP.len; omega
    (iterate 3 (k_units; (try simp only [bst, Option.getD_some])); k_units)
    refine ⟨r, ps[j], rfl, (hP.get j r _ hr1 (List.getElem?_eq_getElem hj2)).on k3, fun q H' s' hq => ?_⟩
    have lq := k2.len
    rw [List.length_take] at lq
    refine ⟨_, s' _ _ k1, by rw [List.length_map]; exact small1000 (by omega), (hPc _ _).mpr ⟨qs ++ [q], by rw [upd_same]; simp, ?_, (k3.trans s').more nD⟩⟩
    have kq : Kp G1 Hx (L2.upd H' D (.lst (qs.map V.ref ++ [V.ref q]))) := kpD s' (by rw [g1D]; simp) k1
    rw [← List.take_append_getElem hj2]
    refine (k2.kp kq).snoc ?_
    have hq1 : PcAt T Hx (L2.upd H' D (.lst (qs.map V.ref ++ [V.ref q]))) q ps[j] := hq.kp (kpD (Same.refl H') (by rw [k1]; simp) (s' _ _ k1))
    exact hq1.fr fun y e => by
      by_cases hy : y = D
      · rw [hy, k1] at e; cases e
      · rw [hG1, upd_ne hy]; exact k3.free e
  intro Hx hc
  obtain ⟨qs, k1, k2, k3⟩ := (hPc _ _).mp hc
  rw [List.length_map, hP.len, List.take_of_length_le (Nat.le_refl _)] at k2
  exact k qs Hx k3 k1 k2
def spFar (K : PySem.W.Frag) : Sp := fun vs H Q _ => ∃ (A L : Addr) (ns : List Int) (rs : List Addr) (ps : List Prt), vs = [.ref A, .ref L] ∧ SqL K H A (ns.map V.int) ∧ H L = some (.lst (rs.map V.ref)) ∧ Pts H rs ps ∧ (∀ p ∈ ps, PrtOk p) ∧ ps.length ≤ 6 ∧ ∀ H', Same H H' → Q (.bl true) H'
theorem ok__law_far {P : Program} {w : World} {K : PySem.W.Frag} {mg : Str → Option Value} {base : Heap} (T : Tx K mg) : FnOk P w K mg base CX0 19 T.a__law_far T.fd__law_far ["_law_script", "_law_parts_here"] (spFar K) := by
  refine T.F__law_far.ok sc__law_far (fun vs H Q E h => ?_) (fun cdv A outer s H vs Q E hr h => ?_)
  · obtain ⟨A, L, ns, rs, ps, rfl, _⟩ := h
    rfl
  obtain ⟨A, L, ns, rs, ps, rfl, hA, hL, hP, hO, l6, fin⟩ := h
  refine ⟨_, ((pss_cons (ps_set (i := 2) sc__law_far.nd rfl (Or.inl rfl) (pe_call (FnOk.mono (ok__law_mixed T) (by decide)) hr rfl T.m__law_mixed T.F__law_mixed.kp T.b__law_mixed .nil pass0 (pa_cons (pe_call (FnOk.mono (ok__law_cell_at T) (by decide)) hr rfl T.m__law_cell_at T.F__law_cell_at.kp T.b__law_cell_at .nil pass0 (pa_cons (pv 0) (pa_cons pe_int pa_nil))) (pa_cons pe_int pa_nil))))
    (pss_cons (ps_set (i := 3) sc__law_far.nd rfl (Or.inl rfl) (pe_op op_sub (pe_op op_mod (pv 2) pe_int) pe_int))
    (pss_mid (ps_if (pt_cmpR op_eq (pv 3) pe_int (nomark _)) (pss_one (ps_set (i := 3) sc__law_far.nd rfl (Or.inl rfl) pe_int)) pss_nil)
    (pss_cons (ps_set (i := 4) sc__law_far.nd rfl (Or.inl rfl) (pe_op op_add pe_int (pe_op op_mod (pe_op op_fdiv (pv 2) pe_int) pe_int)))
    (pss_cons (ps_set (i := 5) sc__law_far.nd rfl (Or.inl rfl) (pe_call (FnOk.mono (ok__law_divisor T) (by decide)) hr rfl T.m__law_divisor T.F__law_divisor.kp T.b__law_divisor .nil pass0 (pa_cons (pv 3) (pa_cons (pv 4) pa_nil))))
    (pss_cons (ps_set (i := 6) sc__law_far.nd rfl (Or.inl rfl) (pe_op op_cat (pe_slice sl_list (pe_lcompIf rfl (blkok rfl sub_nil fv_nil) (pi_list (pv 1)) (fun _ _ _ _ => (pt_cmpR op_eq (pe_ix (ix_tupK (K := K) rfl) (pv 0) pe_int (fun _ _ => rfl)) pe_str (nomark _))) (fun _ _ _ _ => (pv 0))) po_none (po_some pe_int)) (pe_lst (pa_cons (pe_tup (pa_cons pe_str (pa_cons (pe_tup (pa_cons (pe_op op_fdivB (pv 3) (pv 5)) (pa_cons (pe_op op_fdivB (pv 4) (pv 5)) pa_nil))) pa_nil))) pa_nil))))
    (pss_cons (ps_set (i := 7) sc__law_far.nd rfl (Or.inl rfl) (pe_op op_mod (pe_call (FnOk.mono (ok__law_mixed T) (by decide)) hr rfl T.m__law_mixed T.F__law_mixed.kp T.b__law_mixed .nil pass0 (pa_cons (pe_call (FnOk.mono (ok__law_cell_at T) (by decide)) hr rfl T.m__law_cell_at T.F__law_cell_at.kp T.b__law_cell_at .nil pass0 (pa_cons (pv 0) (pa_cons pe_int pa_nil))) (pa_cons pe_int pa_nil))) pe_int))
    (pss_cons (ps_set (i := 8) sc__law_far.nd rfl (Or.inl rfl) (pe_op op_mod (pe_call (FnOk.mono (ok__law_mixed T) (by decide)) hr rfl T.m__law_mixed T.F__law_mixed.kp T.b__law_mixed .nil pass0 (pa_cons (pe_call (FnOk.mono (ok__law_cell_at T) (by decide)) hr rfl T.m__law_cell_at T.F__law_cell_at.kp T.b__law_cell_at .nil pass0 (pa_cons (pv 0) (pa_cons pe_int pa_nil))) (pa_cons pe_int pa_nil))) pe_int))
    (pss_one (ps_ret (pe_call (FnOk.mono (ok__law_point T) (by decide)) hr rfl T.m__law_point T.F__law_point.kp T.b__law_point .nil pass0 (pa_cons (pe_make T.mk_Term (FnOk.mono (ok_Term___init__ T) (by decide)) hr rfl T.mc_Term T.b_Term___init__ .nil passF (pa_cons (pv 6) pa_nil)) (pa_cons (pv 6) (pa_cons (pe_lcomp rfl (blkok rfl sub_nil fv_nil) (pi_list (pv 6)) (fun _ _ _ _ => (pe_call (FnOk.mono (ok__law_made T) (by decide)) hr rfl T.m__law_made T.F__law_made.kp T.b__law_made .nil pass0 (pa_cons (pv 0) pa_nil)))) (pa_cons (pv 7) (pa_cons (pv 8) pa_nil))))))))))))))))), ?_⟩
  dsimp only [a_seq]
  k_typeOf
  refine ⟨A, ns, 37, rfl, hA, _, 8, rfl, by decide, fun m m0 => ?_⟩
  dsimp only [a_seq]
  k_typeOf
  refine ⟨by decide, ?_⟩
  obtain ⟨M1, hM1⟩ : ∃ M1 : L2.St → Hp → Prop, ∀ σ H', M1 σ H' ↔ ∃ t : Int, σ = [some (V.ref A), some (V.ref L), some (V.int m), some (V.int t), none, none, none, none, none] ∧ t ≠ 0 ∧ -9 ≤ t ∧ t ≤ 9 ∧ H' = H := ⟨_, fun _ _ => Iff.rfl⟩
  refine mid_of M1 ?_ ?_
  · k_units
    exact ite2 (fun z => (hM1 _ _).mpr ⟨9, rfl, by decide, by decide, by decide, rfl⟩) (fun z => (hM1 _ _).mpr ⟨m % 18 - 9, rfl, z, by omega, by omega, rfl⟩)
  intro σ H1 hm
  obtain ⟨t, rfl, t0, t1, t2, rfl⟩ := (hM1 _ _).mp hm
  clear hm hM1 M1
  dsimp only [a_seq]
  k_typeOf
  refine ⟨⟨by decide, by decide⟩, by decide, ?_⟩
  obtain ⟨b, hb, b1, b2⟩ : ∃ b, 1 + m / 18 % 9 = b ∧ 1 ≤ b ∧ b ≤ 9 := ⟨_, rfl, by omega, by omega⟩
  rw [hb]
  dsimp only [a_seq]
  k_typeOf
  refine ⟨t, b, rfl, ?_⟩
  obtain ⟨g1, g2, g3, g4, g5, g6⟩ := gcd_split (t := t) (b := b) (s := ((Nat.gcd t.natAbs b.natAbs : Nat) : Int)) (by omega) (by rw [if_neg (by omega)])
  have small : (((Nat.gcd t.natAbs b.natAbs : Nat) : Int)).natAbs < 2 ^ 9000 := by
    rw [Int.natAbs_natCast]
    exact Nat.lt_of_le_of_lt (Nat.gcd_le_right _ (by omega)) (Nat.lt_of_le_of_lt (show b.natAbs ≤ 9 by omega) (Nat.lt_of_lt_of_le (show 9 < 2 ^ 20 by decide) (Nat.pow_le_pow_right (by decide) (by decide))))
  have f0 : t.fdiv ((Nat.gcd t.natAbs b.natAbs : Nat) : Int) ≠ 0 := fun z => by rw [z] at g3; omega
  have bt := bd_le (k := 4) (fdiv_le g1 g3) (Bd.of_lt (m := 10) (by omega) (by decide))
  have bb := bd_le (k := 4) (fdiv_le g1 g4) (Bd.of_lt (m := 10) (by omega) (by decide))
  generalize ((Nat.gcd t.natAbs b.natAbs : Nat) : Int) = g at g1 small f0 bt bb g5 g6 ⊢
  clear g2 g3 g4
  dsimp only [a_seq]
  k_typeOf
  refine ⟨⟨_, SqL.of hL⟩, fun D nD => ?_⟩
  obtain ⟨Pc, hPc⟩ : ∃ Pc : Nat → Hp → Prop, ∀ j Hx, Pc j Hx ↔ ∃ (us : List Addr) (ws : List Prt), Hx D = some (.lst (us.map V.ref)) ∧ Pts Hx us ws ∧ (∀ p ∈ ws, PrtOk p ∧ Small p) ∧ ws.length ≤ j ∧ Same H1 Hx := ⟨_, fun _ _ => Iff.rfl⟩
  refine cl_listIf (xs := rs.map V.ref) Pc ((hPc _ _).mpr ⟨[], [], upd_same, ⟨rfl, fun i q p e => by simp at e⟩, fun p hp => by simp at hp, Nat.le_refl _, same_upd nD _⟩) (fun i Hx _ z => by obtain ⟨_, _, _, _, _, _, z⟩ := (hPc i Hx).mp z; exact z.seq (SqL.of hL)) ?_ ?_
  · intro j v Hx hv hc
    obtain ⟨us, ws, k1, k2, k3, k4, k5⟩ := (hPc _ _).mp hc
    rw [List.getElem?_map] at hv
    obtain ⟨r, hr1, rfl⟩ := Option.map_eq_some_iff.mp hv
    have hj2 : j < ps.length := by have := hP.len; have := (List.getElem?_eq_some_iff.mp hr1).1; omega
    have hpt := (hP.get j r _ hr1 (List.getElem?_eq_getElem hj2)).on k5
    have hpo := hO _ (List.getElem_mem hj2)
    have hno : Pc (j + 1) Hx := (hPc _ _).mpr ⟨us, ws, k1, k2, k3, by omega, k5⟩
    generalize ps[j] = p at hpt hpo
    match p, hpt, hpo with
    | .cho h l, hpt, hpo =>
      obtain ⟨a', b', er, _⟩ := id hpt
      (iterate 3 (k_units; (try simp only [bst, Option.getD_some])); k_units)
      refine ⟨_, SqT.of er, _, rfl, ?_⟩
      (iterate 3 (k_units; (try simp only [bst, Option.getD_some])); k_units)
      refine ⟨_, k1, by rw [List.length_map, k2.len]; exact small1000 (by omega), (hPc _ _).mpr ⟨us ++ [r], ws ++ [.cho h l], by rw [upd_same, List.map_append]; rfl, ?_, fun p' hp' => ?_, by simp; omega, k5.more nD⟩⟩
      · have kt : ∀ a xs, Hx a = some (.tup xs) → L2.upd Hx D (.lst (us.map V.ref ++ [V.ref r])) a = some (.tup xs) := fun a xs e => by
          rw [upd_ne (ne_of e k1 (fun z => nomatch z))]; exact e
        exact (k2.kt kt).snoc (hpt.kt kt)
      · rcases List.mem_append.mp hp' with z | z
        · exact k3 p' z
        · rw [List.mem_singleton.mp z]; exact ⟨hpo, trivial⟩
    | .wei f, hpt, hpo =>
      obtain ⟨a', er, _⟩ := id hpt
      (iterate 3 (k_units; (try simp only [bst, Option.getD_some])); k_units)
      refine ⟨_, SqT.of er, _, rfl, ?_⟩
      (iterate 3 (k_units; (try simp only [bst, Option.getD_some])); k_units)
      rw [if_neg (by decide)]; exact hno
    | .pow f, hpt, hpo =>
      obtain ⟨a', er, _⟩ := id hpt
      (iterate 3 (k_units; (try simp only [bst, Option.getD_some])); k_units)
      refine ⟨_, SqT.of er, _, rfl, ?_⟩
      (iterate 3 (k_units; (try simp only [bst, Option.getD_some])); k_units)
      rw [if_neg (by decide)]; exact hno
    | .gro f, hpt, hpo =>
      obtain ⟨a', er, _⟩ := id hpt
      (iterate 3 (k_units; (try simp only [bst, Option.getD_some])); k_units)
      refine ⟨_, SqT.of er, _, rfl, ?_⟩
      (iterate 3 (k_units; (try simp only [bst, Option.getD_some])); k_units)
      rw [if_neg (by decide)]; exact hno
  intro H2 hc
  obtain ⟨us, ws, k1, k2, k3, k4, k5⟩ := (hPc _ _).mp hc
  clear hc hPc Pc
  refine ⟨D, rfl, _, SqL.of k1, fun c1 n1 => ⟨g1, small, g1, small, by decide, fun c2 n2 => ⟨by decide, fun c3 n3 => ⟨by decide, fun c4 n4 => ?_⟩⟩⟩⟩
  have ec : cutV (us.map V.ref) none (some 1) = (us.take 1).map V.ref := cut_upto us 1
  rw [ec] at n2 n3 n4 ⊢
  have v1 := same_upd n1 (.lst ((us.take 1).map V.ref))
  have v2 := same_upd n2 (.tup [V.int (t.fdiv g), V.int (b.fdiv g)])
  have v3 := same_upd n3 (.tup [V.str (Str.ofString "power"), V.ref c2])
  have v4 := same_upd n4 (.lst [V.ref c3])
  refine ⟨_, v4 _ _ (v3 _ _ (v2 _ _ upd_same)), _, upd_same, ?_, fun c5 n5 => ?_⟩
  · rw [List.length_map, List.length_take]; exact Nat.le_trans (show min 1 us.length + 1 ≤ 2 by omega) (by decide)
  have v5 := same_upd n5 (.lst ((us.take 1).map V.ref ++ [V.ref c3]))
  have e5 := upd_same (H := L2.upd (L2.upd (L2.upd (L2.upd H2 c1 (.lst ((us.take 1).map V.ref))) c2 (.tup [V.int (t.fdiv g), V.int (b.fdiv g)])) c3 (.tup [V.str (Str.ofString "power"), V.ref c2])) c4 (.lst [V.ref c3])) (a := c5) (o := .lst ((us.take 1).map V.ref ++ [V.ref c3]))
  have hp5 : PtAt (L2.upd (L2.upd (L2.upd (L2.upd (L2.upd H2 c1 (.lst ((us.take 1).map V.ref))) c2 (.tup [V.int (t.fdiv g), V.int (b.fdiv g)])) c3 (.tup [V.str (Str.ofString "power"), V.ref c2])) c4 (.lst [V.ref c3])) c5 (.lst ((us.take 1).map V.ref ++ [V.ref c3]))) c3 (.pow (t.fdiv g, b.fdiv g)) :=
    ⟨c2, v5 _ _ (v4 _ _ upd_same), v5 _ _ (v4 _ _ (v3 _ _ upd_same))⟩
  have s25 := (((v1.trans v2).trans v3).trans v4).trans v5
  generalize L2.upd (L2.upd (L2.upd (L2.upd (L2.upd H2 c1 (.lst ((us.take 1).map V.ref))) c2 (.tup [V.int (t.fdiv g), V.int (b.fdiv g)])) c3 (.tup [V.str (Str.ofString "power"), V.ref c2])) c4 (.lst [V.ref c3])) c5 (.lst ((us.take 1).map V.ref ++ [V.ref c3])) = H3 at e5 hp5 s25 ⊢
  have s3 := k5.trans s25
  have pt : Pts H3 (us.take 1) (ws.take 1) := ⟨by rw [List.length_take, List.length_take, k2.len], fun i r p e1 e2 => by
    have hi : i < 1 := by have := (List.getElem?_eq_some_iff.mp e1).1; rw [List.length_take] at this; omega
    rw [List.getElem?_take_of_lt hi] at e1 e2
    exact (k2.get i r p e1 e2).on s25⟩
  have pt2 := pt.snoc hp5
  have e5' : H3 c5 = some (.lst ((us.take 1 ++ [c3]).map V.ref)) := by rw [e5, List.map_append]; rfl
  have o2 : ∀ p ∈ ws.take 1 ++ [.pow (t.fdiv g, b.fdiv g)], PrtOk p ∧ Small p := fun p hp => by
    rcases List.mem_append.mp hp with z | z
    · exact k3 p (List.mem_of_mem_take z)
    · rw [List.mem_singleton.mp z]; exact ⟨⟨⟨g5, g6⟩, f0, bt.mono (by decide), bb.mono (by decide)⟩, bt, bb⟩
  have lw2 : 1 ≤ (ws.take 1 ++ [Prt.pow (t.fdiv g, b.fdiv g)]).length ∧ (ws.take 1 ++ [Prt.pow (t.fdiv g, b.fdiv g)]).length ≤ 2 := by
    rw [List.length_append, List.length_take]; simp; omega
  generalize ws.take 1 ++ [Prt.pow (t.fdiv g, b.fdiv g)] = wz at pt2 o2 lw2
  generalize us.take 1 ++ [c3] = uz at pt2 e5'
  clear v1 v2 v3 v4 v5 n1 n2 n3 n4 n5 ec e5 hp5 pt k1 k2 k3
  dsimp only [a_seq]
  k_typeOf
  refine ⟨A, ns, 35, rfl, s3.seq hA, _, 6, rfl, by decide, fun m1 hm1 => ⟨m1, rfl, by decide, ?_⟩⟩
  dsimp only [a_seq]
  k_typeOf
  refine ⟨A, ns, 36, rfl, s3.seq hA, _, 7, rfl, by decide, fun m2 hm2 => ⟨m2, rfl, by decide, ?_⟩⟩
  k_units
  obtain ⟨n, hn, n4⟩ : ∃ n : Nat, m1 % 401 = (n : Int) ∧ n ≤ 400 := ⟨(m1 % 401).toNat, by omega, by omega⟩
  obtain ⟨k, hk, k4'⟩ : ∃ k : Nat, m2 % 401 = (k : Int) ∧ k ≤ 400 := ⟨(m2 % 401).toNat, by omega, by omega⟩
  rw [hn, hk]
  exact mk_term e5' pt2 (fun p hp => (o2 p hp).1) lw2.1 (by omega) fun x H4 s4 hx => ⟨⟨_, SqL.of (s4 _ _ e5')⟩, fun D2 nD2 => cl_made (s4 _ _ e5') (pt2.on s4) (by omega) nD2 fun qs H5 s5 eD hq => ⟨x, c5, D2, H3, _, uz, uz, qs, wz, n, k, 1700, rfl, hx.on s5, s5 _ _ (s4 _ _ e5'), (pt2.on s4).on s5, eD, hq, ⟨lw2.1, by omega, by omega, by decide, fun p hp => far_ok (o2 p hp).1 (o2 p hp).2 n4 k4'⟩, fun H6 s6 => fin H6 (((s3.trans s4).trans s5).trans s6)⟩⟩
def d3 (f : Int × Int × Int) : PyData := .tuple [.int f.1, .int f.2.1, .int f.2.2]
def d2 (f : Int × Int) : PyData := .tuple [.int f.1, .int f.2]
def dPt : Prt → PyData
  | .cho h l => .tuple [.str (Str.ofString "choose"), d3 h, d3 l]
  | .wei f => .tuple [.str (Str.ofString "weight"), d3 f]
  | .pow f => .tuple [.str (Str.ofString "power"), d2 f]
  | .gro f => .tuple [.str (Str.ofString "growth"), d2 f]
def dPts (ps : List Prt) : PyData := .list (ps.map dPt)
theorem dv3 {K : PySem.W.Frag} {H : Hp} {a : Addr} {f : Int × Int × Int} (h : H a = some (T3 f)) : DV K H (.ref a) (d3 f) := .tup (SqT.of h) (.cons (.int _) (.cons (.int _) (.cons (.int _) .nil)))
theorem dv2 {K : PySem.W.Frag} {H : Hp} {a : Addr} {f : Int × Int} (h : H a = some (T2 f)) : DV K H (.ref a) (d2 f) := .tup (SqT.of h) (.cons (.int _) (.cons (.int _) .nil))
theorem dv_pt {K : PySem.W.Frag} {H : Hp} {r : Addr} {p : Prt} (h : PtAt H r p) : DV K H (.ref r) (dPt p) := by
  match p, h with
  | .cho f l, ⟨a, b, h1, h2, h3⟩ => exact .tup (SqT.of h1) (.cons (.str _) (.cons (dv3 h2) (.cons (dv3 h3) .nil)))
  | .wei f, ⟨a, h1, h2⟩ => exact .tup (SqT.of h1) (.cons (.str _) (.cons (dv3 h2) .nil))
  | .pow f, ⟨a, h1, h2⟩ => exact .tup (SqT.of h1) (.cons (.str _) (.cons (dv2 h2) .nil))
  | .gro f, ⟨a, h1, h2⟩ => exact .tup (SqT.of h1) (.cons (.str _) (.cons (dv2 h2) .nil))
theorem dvs_pts {K : PySem.W.Frag} {H : Hp} : ∀ (rs : List Addr) (ps : List Prt), Pts H rs ps → DVs K H (rs.map V.ref) (ps.map dPt)
  | [], [], _ => .nil
  | r :: rs, p :: ps, h => .cons (dv_pt (h.get 0 r p rfl rfl)) (dvs_pts rs ps ⟨by have := h.len; simpa using this, fun i r p e1 e2 => h.get (i + 1) r p e1 e2⟩)
  | [], _ :: _, h => by have := h.len; simp at this
  | _ :: _, [], h => by have := h.len; simp at this
theorem dv_pts {K : PySem.W.Frag} {H : Hp} {B : Addr} {rs : List Addr} {ps : List Prt} (e : SqL K H B (rs.map V.ref)) (h : Pts H rs ps) : DV K H (.ref B) (dPts ps) := .lst e (dvs_pts rs ps h)
theorem pt_ok (p : Prt) : (dPt p).canLay0 = true ∧ (dPt p).depth ≤ 60 ∧ PyData.eqv (dPt p) (dPt p) = true := by
  cases p <;> simp [dPt, d3, d2, PyData.canLay0, PyData.canLayAll0, PyData.depth, PyData.depthAll, PyData.eqv, PyData.eqvAll] <;> decide +kernel
theorem pts_ok (ps : List Prt) : (dPts ps).canLay0 = true ∧ (dPts ps).depth ≤ 64 ∧ PyData.eqv (dPts ps) (dPts ps) = true := by
  have h : PyData.canLayAll0 (ps.map dPt) = true ∧ PyData.depthAll (ps.map dPt) ≤ 60 ∧ PyData.eqvAll (ps.map dPt) (ps.map dPt) = true := by
    induction ps with
    | nil => exact ⟨rfl, Nat.zero_le _, rfl⟩
    | cons p ps ih =>
      obtain ⟨a, b, c⟩ := pt_ok p
      obtain ⟨i1, i2, i3⟩ := ih
      refine ⟨by simp [PyData.canLayAll0, a, i1], ?_, by simp [PyData.eqvAll, c, i3]⟩
      simp only [List.map_cons, PyData.depthAll]; omega
  obtain ⟨h1, h2, h3⟩ := h
  unfold dPts
  refine ⟨by simp [PyData.canLay0, h1], ?_, by simp [PyData.eqv, h3]⟩
  simp only [PyData.depth]; omega
def spLaw (K : PySem.W.Frag) : Sp := fun vs H Q _ => ∃ (a : Addr) (ns : List Int), vs = [.ref a] ∧ SqL K H a (ns.map V.int) ∧ ns.length ≤ 63 ∧ ∀ H', Q (.bl true) H'
theorem ok_law {P : Program} {w : World} {K : PySem.W.Frag} {mg : Str → Option Value} {base : Heap} (T : Tx K mg) : FnOk P w K mg base CX0 20 T.a_law T.fd_law ["_law_script"] (spLaw K) := by
  refine T.F_law.ok sc_law (fun vs H Q E h => ?_) (fun cdv A outer s H vs Q E hr h => ?_)
  · obtain ⟨a, ns, rfl, _⟩ := h
    rfl
  obtain ⟨A, ns, rfl, hA, hns, q⟩ := h
  refine ⟨_, ((pss_cons (ps_set (i := 1) sc_law.nd rfl (Or.inl rfl) (pe_call (FnOk.mono (ok__law_parts T) (by decide)) hr rfl T.m__law_parts T.F__law_parts.kp T.b__law_parts .nil pass0 (pa_cons (pv 0) (pa_cons (pe_lst (pa_cons pe_int (pa_cons pe_int (pa_cons pe_int (pa_cons pe_int (pa_cons pe_int (pa_cons pe_int pa_nil))))))) pa_nil))))
    (pss_cons (ps_set (i := 2) sc_law.nd rfl (Or.inl rfl) (pe_callTy call_list_of rfl T.z_list bt_list (pa_cons (pv 1) pa_nil)))
    (pss_cons (ps_set (i := 3) sc_law.nd rfl (Or.inl rfl) (pe_make T.mk_Term (FnOk.mono (ok_Term___init__ T) (by decide)) hr rfl T.mc_Term T.b_Term___init__ .nil passF (pa_cons (pv 2) pa_nil)))
    (pss_cons (ps_expr (pe_bm0 PySem.F.plainAttrs_list PySem.F.slot_list_clear PySem.F.type_list_clear mt_clear (pv 2)))
    (pss_cons (ps_setC (i := 4) rfl (blkok rfl sub_nil fv_nil) (pi_list (pv 1)) (fun _ _ _ _ => (pe_call (FnOk.mono (ok__law_made T) (by decide)) hr rfl T.m__law_made T.F__law_made.kp T.b__law_made .nil pass0 (pa_cons (pv 0) pa_nil))) sc_law.nd rfl rfl)
    (pss_cons (ps_set (i := 5) sc_law.nd rfl (Or.inl rfl) (pe_lst pa_nil))
    (pss_cons (ps_for PassesOwn.never rfl (pi_list (pe_slice sl_list (pv 0) (po_some pe_int) (po_some pe_int))) (pg_name (i := 6) sc_law.nd rfl (Or.inl rfl)) (pss_cons (ps_set (i := 7) sc_law.nd rfl (Or.inl rfl) (pe_call (FnOk.mono (ok__law_mixed T) (by decide)) hr rfl T.m__law_mixed T.F__law_mixed.kp T.b__law_mixed .nil pass0 (pa_cons (pv 6) (pa_cons pe_int pa_nil))))
    (pss_one (ps_expr (pe_bm PySem.F.plainAttrs_list PySem.F.slot_list_append PySem.F.type_list_append mt_append (pv 5) (pa_cons (pe_tup (pa_cons (pe_op op_mod (pv 7) pe_int) (pa_cons (pe_op op_mod (pe_op op_fdiv (pv 7) pe_int) pe_int) pa_nil))) pa_nil))))))
    (pss_cons (ps_for PassesOwn.never rfl (pi_list (pe_op op_cat (pv 5) (pe_lst (pa_cons (pe_tup (pa_cons pe_int (pa_cons pe_int pa_nil))) pa_nil)))) (pg_tup rfl (pgs_cons (pg_name (i := 8) sc_law.nd rfl (Or.inl rfl)) (pgs_cons (pg_name (i := 9) sc_law.nd rfl (Or.inl rfl)) pgs_nil))) (pss_one (ps_if (pt_not (pt_val (pe_call (FnOk.mono (ok__law_point T) (by decide)) hr rfl T.m__law_point T.F__law_point.kp T.b__law_point .nil pass0 (pa_cons (pv 3) (pa_cons (pv 1) (pa_cons (pv 4) (pa_cons (pv 8) (pa_cons (pv 9) pa_nil)))))))) (pss_one (ps_ret pe_bl)) pss_nil)))
    (pss_mid (ps_if (PW.pt (pw_and (pt_cmpR op_eq (pe_op op_mod (pe_op op_fdiv (pe_call (FnOk.mono (ok__law_cell_at T) (by decide)) hr rfl T.m__law_cell_at T.F__law_cell_at.kp T.b__law_cell_at .nil pass0 (pa_cons (pv 0) (pa_cons pe_int pa_nil))) pe_int) pe_int) pe_int (nomark _)) (pw_and1 (pt_not (pt_val (pe_call (FnOk.mono (ok__law_far T) (by decide)) hr rfl T.m__law_far T.F__law_far.kp T.b__law_far .nil pass0 (pa_cons (pv 0) (pa_cons (pv 1) pa_nil)))))))) (pss_one (ps_ret pe_bl)) pss_nil)
    (pss_cons (ps_set (i := 10) sc_law.nd rfl (Or.inl rfl) (pe_meth0 (pv 3) T.cl_Term T.me_Term_told (FnOk.mono (ok_Term_told T) (by decide)) hr T.b_Term_told .nil pass0))
    (pss_cons (ps_if (PW.pt (pw_or (pt_not (pt_val (pe_callB call_isinst rfl T.z_isinstance bt_isinstance (pa_cons (pv 10) (pa_cons (pe_bltn (v := .ty "list") rfl T.z_list bt_list rfl) pa_nil))))) (pw_or1 (pt_cmpR (op_neD hr.units) (pv 10) (pv 1) (nomark _))))) (pss_one (ps_ret pe_bl)) pss_nil)
    (pss_cons (ps_expr (pe_bm0 PySem.F.plainAttrs_list PySem.F.slot_list_clear PySem.F.type_list_clear mt_clear (pv 10)))
    (pss_one (ps_ret (pe_and (pe_cmpR (op_eqD hr.units) (pe_meth0 (pv 3) T.cl_Term T.me_Term_told (FnOk.mono (ok_Term_told T) (by decide)) hr T.b_Term_told .nil pass0) (pv 1) (nomark _)) (pe_one (pe_call (FnOk.mono (ok__law_point T) (by decide)) hr rfl T.m__law_point T.F__law_point.kp T.b__law_point .nil pass0 (pa_cons (pv 3) (pa_cons (pv 1) (pa_cons (pv 4) (pa_cons pe_int (pa_cons pe_int pa_nil))))))))))))))))))))))), ?_⟩
  dsimp only [a_seq]
  k_typeOf
  refine ⟨by decide, fun p0 n0 => ?_⟩
  have w0 := same_upd n0 (.lst [V.int 3, V.int 3, V.int 3, V.int 3, V.int 3, V.int 3])
  refine ⟨A, p0, ns, rfl, w0.seq hA, upd_same, fun L rs ps H1 w1 nL eL hP hO l1 l6 => ?_⟩
  have s1 := w0.trans w1
  clear w0 w1 nL
  dsimp only [a_seq]
  k_typeOf
  refine ⟨_, .inl (SqL.of eL), fun P2 nP2 => ?_⟩
  have w2 := same_upd nP2 (.lst (rs.map V.ref))
  obtain ⟨H2, hH2⟩ : ∃ H2, H2 = L2.upd H1 P2 (.lst (rs.map V.ref)) := ⟨_, rfl⟩
  rw [← hH2] at w2 ⊢
  have e2 : H2 P2 = some (.lst (rs.map V.ref)) := by rw [hH2]; exact upd_same
  dsimp only [a_seq]
  k_typeOf
  refine mk_term e2 (hP.on w2) hO l1 l6 fun x H3 w3 hx => ?_
  have e3 := w3 _ _ e2
  have tx := hx.set (ys := []) (by rw [e2]; simp) e3
  have w4 : Same H1 (L2.upd H3 P2 (.lst [])) := (w2.trans w3).more nP2
  dsimp only [a_seq]
  k_typeOf
  refine ⟨a_tyL (SqL.of e3), _, e3, ?_⟩
  generalize L2.upd H3 P2 (.lst []) = H4 at tx w4 ⊢
  clear hx e3 w3 hH2
  dsimp only [a_seq]
  k_typeOf
  refine ⟨⟨_, SqL.of (w4 _ _ eL)⟩, fun D nD => ?_⟩
  refine cl_made (w4 _ _ eL) (hP.on w4) l6 nD fun qs H5 w5 eD hq => ?_
  have w15 := w4.trans w5
  have tx5 := tx.on w5
  have eL5 := w15 _ _ eL
  have hP5 := hP.on w15
  have hA5 := (s1.trans w15).seq hA
  clear tx w4 w5 w15 eL hP s1 hA nP2 e2 w2 nD
  generalize L2.upd H4 D (.lst []) = G4 at hq
  have pnt : ∀ (n k : Nat) (H' : Hp) (Q' : VK), n ≤ 12 → k ≤ 12 → Same H5 H' → (∀ H'', Same H' H'' → Q' (.bl true) H'') → spPoint T [.ref x, .ref L, .ref D, .int (n : Int), .int (k : Int)] H' Q' E0 := fun n k H' Q' hn hk w z =>
    ⟨x, L, D, H2, G4, rs, rs, qs, ps, n, k, 250, rfl, tx5.on w, w _ _ eL5, hP5.on w, w _ _ eD, hq.kp (kpS w), ⟨l1, l6, by omega, by decide, fun p hp => near_ok (hO p hp) hn hk⟩, z⟩
  dsimp only [a_seq]
  k_typeOf
  refine ⟨by decide, fun P5 nP5 => ?_⟩
  dsimp only [a_seq]
  k_typeOf
  have v5 := same_upd nP5 (.lst [])
  refine ⟨_, v5.seq hA5, fun S nS => ?_⟩
  obtain ⟨cs, hcs, lcs⟩ : ∃ cs : List Int, cutV (ns.map V.int) (some 19) (some 35) = cs.map V.int ∧ cs.length ≤ 63 := ⟨_, cutV_map _ _ _, by rw [List.length_take, List.length_drop]; omega⟩
  rw [hcs]
  have v6 := same_upd nS (.lst (cs.map V.int))
  have nSP : S ≠ P5 := fun z => by rw [z, upd_same] at nS; cases nS
  obtain ⟨Pv, hPv⟩ : ∃ Pv : Nat → L2.St → Hp → Prop, ∀ i σ H', Pv i σ H' ↔ ∃ (us : List Addr) (r6 r7 : Option V), σ = [some (V.ref A), some (V.ref L), some (V.ref P2), some (V.ref x), some (V.ref D), some (V.ref P5), r6, r7, none, none, none] ∧ H' P5 = some (.lst (us.map V.ref)) ∧ us.length = i ∧ (∀ u ∈ us, ∃ n k : Nat, n ≤ 12 ∧ k ≤ 12 ∧ H' u = some (.tup [.int (n : Int), .int (k : Int)])) ∧ Same H5 H' ∧ H' S = some (.lst (cs.map V.int)) := ⟨_, fun _ _ _ => Iff.rfl⟩
  refine ⟨⟨_, SqL.of upd_same⟩, lp_list (xs := cs.map V.int) Pv ((hPv _ _ _).mpr ⟨[], none, none, rfl, v6 _ _ upd_same, rfl, fun u hu => by simp at hu, v5.trans v6, upd_same⟩) (fun i σ H' _ z => by obtain ⟨_, _, _, _, _, _, _, _, z⟩ := (hPv i σ H').mp z; exact SqL.of z) ?_ ?_⟩
  · intro i v σ H' hv hp
    obtain ⟨us, r6, r7, rfl, eP, lu, hu, w, eS⟩ := (hPv _ _ _).mp hp
    rw [List.getElem?_map] at hv
    obtain ⟨c, hc, rfl⟩ := Option.map_eq_some_iff.mp hv
    have hi := (List.getElem?_eq_some_iff.mp hc).1
    k_units
    refine ⟨c, 5, rfl, by decide, fun m m0 => ⟨a_tyL (SqL.of eP), m, rfl, by decide, m, rfl, ⟨by decide, by decide⟩, by decide, by decide, fun t nt => ?_⟩⟩
    have u1 := same_upd nt (.tup [V.int (m % 13), V.int (m / 13 % 13)])
    refine ⟨_, u1 _ _ eP, by rw [List.length_map]; exact small1000 (by omega), (hPv _ _ _).mpr ⟨us ++ [t], _, _, rfl, by rw [upd_same, List.map_append]; rfl, by simp [lu], fun u hu' => ?_, (w.trans u1).more nP5, by rw [upd_ne nSP]; exact u1 _ _ eS⟩⟩
    rcases List.mem_append.mp hu' with h | h
    · obtain ⟨n, k, h1, h2, h3⟩ := hu u h
      exact ⟨n, k, h1, h2, by rw [upd_ne (ne_of (u1 _ _ h3) (u1 _ _ eP) (fun z => nomatch z))]; exact u1 _ _ h3⟩
    · rw [List.mem_singleton.mp h]
      refine ⟨(m % 13).toNat, (m / 13 % 13).toNat, by omega, by omega, ?_⟩
      rw [upd_ne (ne_of (upd_same (H := H') (a := t) (o := .tup [V.int (m % 13), V.int (m / 13 % 13)])) (u1 _ _ eP) (fun z => nomatch z)), upd_same, Int.toNat_of_nonneg (by omega), Int.toNat_of_nonneg (by omega)]
  intro σ H' hp
  obtain ⟨us, r6, r7, rfl, eP, lu, hu, w, eS⟩ := (hPv _ _ _).mp hp
  rw [List.length_map] at lu
  clear hp hPv Pv v5 v6 nSP eS hcs nS nP5
  dsimp only [a_seq]
  k_typeOf
  refine ⟨by decide, fun z nz => ⟨by decide, fun Z nZ => ?_⟩⟩
  have y1 := same_upd nz (.tup [V.int 0, V.int 0])
  have y2 := same_upd nZ (.lst [V.ref z])
  refine ⟨_, y2 _ _ (y1 _ _ eP), _, upd_same, ?_, fun C nC => ⟨⟨_, SqL.of upd_same⟩, ?_⟩⟩
  · rw [List.length_map, lu]; exact Nat.le_trans (show cs.length + 1 ≤ 64 by omega) (by decide)
  have y3 := same_upd nC (.lst (us.map V.ref ++ [V.ref z]))
  have eC := upd_same (H := L2.upd (L2.upd H' z (.tup [V.int 0, V.int 0])) Z (.lst [V.ref z])) (a := C) (o := .lst (us.map V.ref ++ [V.ref z]))
  have ez := y3 _ _ (y2 _ _ (upd_same (H := H') (a := z) (o := .tup [V.int 0, V.int 0])))
  have y := (y1.trans y2).trans y3
  generalize L2.upd (L2.upd (L2.upd H' z (.tup [V.int 0, V.int 0])) Z (.lst [V.ref z])) C (.lst (us.map V.ref ++ [V.ref z])) = G at eC ez y ⊢
  have hu2 : ∀ v ∈ us.map V.ref ++ [V.ref z], ∃ (u : Addr) (n k : Nat), v = .ref u ∧ n ≤ 12 ∧ k ≤ 12 ∧ G u = some (.tup [.int (n : Int), .int (k : Int)]) := fun v hv => by
    rcases List.mem_append.mp hv with h | h
    · obtain ⟨u, h1, rfl⟩ := List.mem_map.mp h
      obtain ⟨n, k, h2, h3, h4⟩ := hu u h1
      exact ⟨u, n, k, rfl, h2, h3, y _ _ h4⟩
    · rw [List.mem_singleton.mp h]; exact ⟨z, 0, 0, rfl, by decide, by decide, ez⟩
  have wG := w.trans y
  clear y1 y2 y3 nz nZ nC ez y w hu eP
  obtain ⟨Pw, hPw⟩ : ∃ Pw : Nat → L2.St → Hp → Prop, ∀ i σ H', Pw i σ H' ↔ ∃ r8 r9 : Option V, σ = [some (V.ref A), some (V.ref L), some (V.ref P2), some (V.ref x), some (V.ref D), some (V.ref P5), r6, r7, r8, r9, none] ∧ Same G H' := ⟨_, fun _ _ _ => Iff.rfl⟩
  refine lp_list (xs := us.map V.ref ++ [V.ref z]) Pw ((hPw _ _ _).mpr ⟨none, none, rfl, Same.refl _⟩) (fun i σ H' _ z => by obtain ⟨_, _, _, z⟩ := (hPw i σ H').mp z; exact z.seq (SqL.of eC)) ?_ ?_
  · intro i v σ Hx hv hp
    obtain ⟨r8, r9, rfl, wx⟩ := (hPw _ _ _).mp hp
    obtain ⟨u, n, k, rfl, hn, hk, eu⟩ := hu2 v (List.mem_of_getElem? hv)
    k_units
    refine ⟨_, SqT.of (wx _ _ eu), rfl, _, _, rfl, _, _, rfl, rfl, pnt n k Hx _ hn hk (wG.trans wx) fun H3 w3 => ⟨true, rfl, ?_⟩⟩
    rw [if_neg (by decide)]
    exact (hPw _ _ _).mpr ⟨_, _, rfl, wx.trans w3⟩
  intro σ H6 hp
  obtain ⟨r8, r9, rfl, wx⟩ := (hPw _ _ _).mp hp
  have w6 := wG.trans wx
  clear hp hPw Pw wx wG eC hu2
  obtain ⟨M7, hM7⟩ : ∃ M7 : L2.St → Hp → Prop, ∀ σ H', M7 σ H' ↔ ∃ r8 r9 : Option V, σ = [some (V.ref A), some (V.ref L), some (V.ref P2), some (V.ref x), some (V.ref D), some (V.ref P5), r6, r7, r8, r9, none] ∧ Same H5 H' := ⟨_, fun _ _ => Iff.rfl⟩
  refine mid_of M7 ?_ ?_
  · k_units
    refine ⟨A, ns, 0, rfl, w6.seq hA5, _, rfl, ⟨by decide, by decide⟩, by decide, ite2 (fun _ => ⟨A, L, ns, rs, ps, rfl, w6.seq hA5, w6 _ _ eL5, hP5.on w6, hO, l6, fun H7 w7 => ⟨true, rfl, ?_⟩⟩) (fun _ => (hM7 _ _).mpr ⟨_, _, rfl, w6⟩)⟩
    rw [if_neg (by decide)]
    exact (hM7 _ _).mpr ⟨_, _, rfl, w6.trans w7⟩
  clear w6
  intro σ H7 hm
  obtain ⟨r8, r9, rfl, w7⟩ := (hM7 _ _).mp hm
  dsimp only [a_seq]
  k_typeOf
  obtain ⟨dx, Q1, Q2, qs2, h1, h2⟩ := id tx5
  refine ⟨dx, _, w7 _ _ h1, rfl, x, H2, rs, ps, rfl, tx5.on w7, fun R H8 w8 nR eR => ?_⟩
  have w58 := w7.trans w8
  have dv : ∀ (H' : Hp) (B : Addr), Same H5 H' → H' B = some (.lst (rs.map V.ref)) → DV K H' (.ref B) (dPts ps) := fun H' B w e => dv_pts (SqL.of e) (hP5.on w)
  obtain ⟨y1, y2, y3⟩ := pts_ok ps
  dsimp only [a_seq]
  k_typeOf
  refine ⟨_, .lst eR, true, rfl, ?_⟩
  rw [if_neg (by decide)]
  refine ⟨_, dv H8 R w58 eR, _, dv H8 L w58 (w58 _ _ eL5), y1, y1, y2, ?_⟩
  rw [y3, if_neg (by decide)]
  dsimp only [a_seq]
  k_typeOf
  refine ⟨a_tyL (SqL.of eR), _, eR, ?_⟩
  have w59 : Same H5 (L2.upd H8 R (.lst [])) := w58.more (w7.free nR)
  generalize L2.upd H8 R (.lst []) = H9 at w59 ⊢
  k_units
  refine ⟨dx, _, w59 _ _ h1, rfl, x, H2, rs, ps, rfl, tx5.on w59, fun R2 H10 w10 nR2 eR2 => ?_⟩
  have w510 := w59.trans w10
  refine ⟨_, dv H10 R2 w510 eR2, _, dv H10 L w510 (w510 _ _ eL5), y1, y1, y2, ?_⟩
  rw [y3, if_pos rfl]
  exact pnt 3 2 H10 _ (by decide) (by decide) w510 fun H11 _ => q H11
theorem ln_1 {us : List Value} (h : us.length = 1) : ∃ x0, us = [x0] := by
  match us, h with
  | [x0], _ => exact ⟨x0, rfl⟩
theorem ln_2 {us : List Value} (h : us.length = 2) : ∃ x0 x1, us = [x0, x1] := by
  match us, h with
  | [x0, x1], _ => exact ⟨x0, x1, rfl⟩
theorem ln_3 {us : List Value} (h : us.length = 3) : ∃ x0 x1 x2, us = [x0, x1, x2] := by
  match us, h with
  | [x0, x1, x2], _ => exact ⟨x0, x1, x2, rfl⟩
theorem ln_4 {us : List Value} (h : us.length = 4) : ∃ x0 x1 x2 x3, us = [x0, x1, x2, x3] := by
  match us, h with
  | [x0, x1, x2, x3], _ => exact ⟨x0, x1, x2, x3, rfl⟩
theorem ln_5 {us : List Value} (h : us.length = 5) : ∃ x0 x1 x2 x3 x4, us = [x0, x1, x2, x3, x4] := by
  match us, h with
  | [x0, x1, x2, x3, x4], _ => exact ⟨x0, x1, x2, x3, x4, rfl⟩
theorem all_mk {K : PySem.W.Frag} {h : Heap} {mg : Str → Option Value} {fa f0 f1 f2 f3 f4 f5 f6 f7 f8 f9 f10 f11 f12 f13 f14 f15 f16 f17 f18 f19 f20 f21 f22 f23 f24 f25 f26 f27 f28 f29 f30 f31 f32 f33 f34 f35 f36 f37 f38 f39 f40 f41 f42 f43 f44 : Addr} (X : K.In h) (G : h.Ns mainGlobals mg) (hfa : mg "law" = some (.ref fa))
    {od0 an0 : Option Addr} {sl0 : Array (Option Value)} {oc0 kV0 dc0 pm0 cd0 ct0 : Value}
    (a0 : PySem.W.nsIn K mainGlobals "divisor" = some (some (.ref f0))) (l0 : K.lookup f0 = some ⟨oc0, od0, .func (PySem.W.fnOf "divisor" "divisor" (defArgs s_divisor) (defBody s_divisor) (defScope s_divisor) .none kV0 dc0 pm0 an0 cd0 ct0), sl0⟩) (c0 : PySem.W.codeIn K cd0 "divisor" = true) (k0 : PySem.W.keepIn K (.ref f0) = true)
    {od1 an1 : Option Addr} {sl1 : Array (Option Value)} {oc1 kV1 dc1 pm1 cd1 ct1 : Value}
    (a1 : PySem.W.nsIn K mainGlobals "ratio" = some (some (.ref f1))) (l1 : K.lookup f1 = some ⟨oc1, od1, .func (PySem.W.fnOf "ratio" "ratio" (defArgs s_ratio) (defBody s_ratio) (defScope s_ratio) .none kV1 dc1 pm1 an1 cd1 ct1), sl1⟩) (c1 : PySem.W.codeIn K cd1 "ratio" = true) (k1 : PySem.W.keepIn K (.ref f1) = true)
    {od2 an2 : Option Addr} {sl2 : Array (Option Value)} {oc2 kV2 dc2 pm2 cd2 ct2 : Value}
    (a2 : PySem.W.nsIn K mainGlobals "form_value" = some (some (.ref f2))) (l2 : K.lookup f2 = some ⟨oc2, od2, .func (PySem.W.fnOf "form_value" "form_value" (defArgs s_form_value) (defBody s_form_value) (defScope s_form_value) .none kV2 dc2 pm2 an2 cd2 ct2), sl2⟩) (c2 : PySem.W.codeIn K cd2 "form_value" = true) (k2 : PySem.W.keepIn K (.ref f2) = true)
    {od3 an3 : Option Addr} {sl3 : Array (Option Value)} {oc3 kV3 dc3 pm3 cd3 ct3 : Value}
    (a3 : PySem.W.nsIn K mainGlobals "raised" = some (some (.ref f3))) (l3 : K.lookup f3 = some ⟨oc3, od3, .func (PySem.W.fnOf "raised" "raised" (defArgs s_raised) (defBody s_raised) (defScope s_raised) .none kV3 dc3 pm3 an3 cd3 ct3), sl3⟩) (c3 : PySem.W.codeIn K cd3 "raised" = true) (k3 : PySem.W.keepIn K (.ref f3) = true)
    {od4 an4 : Option Addr} {sl4 : Array (Option Value)} {oc4 kV4 dc4 pm4 cd4 ct4 : Value}
    (a4 : PySem.W.nsIn K mainGlobals "low_forms" = some (some (.ref f4))) (l4 : K.lookup f4 = some ⟨oc4, od4, .func (PySem.W.fnOf "low_forms" "low_forms" (defArgs s_low_forms) (defBody s_low_forms) (defScope s_low_forms) .none kV4 dc4 pm4 an4 cd4 ct4), sl4⟩) (c4 : PySem.W.codeIn K cd4 "low_forms" = true) (k4 : PySem.W.keepIn K (.ref f4) = true)
    {od5 an5 : Option Addr} {sl5 : Array (Option Value)} {oc5 kV5 dc5 pm5 cd5 ct5 : Value}
    (a5 : PySem.W.nsIn K mainGlobals "power_of" = some (some (.ref f5))) (l5 : K.lookup f5 = some ⟨oc5, od5, .func (PySem.W.fnOf "power_of" "power_of" (defArgs s_power_of) (defBody s_power_of) (defScope s_power_of) .none kV5 dc5 pm5 an5 cd5 ct5), sl5⟩) (c5 : PySem.W.codeIn K cd5 "power_of" = true) (k5 : PySem.W.keepIn K (.ref f5) = true)
    {od6 an6 : Option Addr} {sl6 : Array (Option Value)} {oc6 kV6 dc6 pm6 cd6 ct6 : Value}
    (a6 : PySem.W.nsIn K mainGlobals "run_product" = some (some (.ref f6))) (l6 : K.lookup f6 = some ⟨oc6, od6, .func (PySem.W.fnOf "run_product" "run_product" (defArgs s_run_product) (defBody s_run_product) (defScope s_run_product) .none kV6 dc6 pm6 an6 cd6 ct6), sl6⟩) (c6 : PySem.W.codeIn K cd6 "run_product" = true) (k6 : PySem.W.keepIn K (.ref f6) = true)
    {od7 an7 : Option Addr} {sl7 : Array (Option Value)} {oc7 kV7 dc7 pm7 cd7 ct7 : Value}
    (a7 : PySem.W.nsIn K mainGlobals "choices" = some (some (.ref f7))) (l7 : K.lookup f7 = some ⟨oc7, od7, .func (PySem.W.fnOf "choices" "choices" (defArgs s_choices) (defBody s_choices) (defScope s_choices) .none kV7 dc7 pm7 an7 cd7 ct7), sl7⟩) (c7 : PySem.W.codeIn K cd7 "choices" = true) (k7 : PySem.W.keepIn K (.ref f7) = true)
    {od8 an8 : Option Addr} {sl8 : Array (Option Value)} {oc8 kV8 dc8 pm8 cd8 ct8 : Value}
    (a8 : PySem.W.nsIn K mainGlobals "within" = some (some (.ref f8))) (l8 : K.lookup f8 = some ⟨oc8, od8, .func (PySem.W.fnOf "within" "within" (defArgs s_within) (defBody s_within) (defScope s_within) .none kV8 dc8 pm8 an8 cd8 ct8), sl8⟩) (c8 : PySem.W.codeIn K cd8 "within" = true) (k8 : PySem.W.keepIn K (.ref f8) = true)
    {od9 an9 : Option Addr} {sl9 : Array (Option Value)} {oc9 kV9 dc9 pm9 cd9 ct9 : Value}
    (a9 : PySem.W.nsIn K mainGlobals "check_choose" = some (some (.ref f9))) (l9 : K.lookup f9 = some ⟨oc9, od9, .func (PySem.W.fnOf "check_choose" "check_choose" (defArgs s_check_choose) (defBody s_check_choose) (defScope s_check_choose) .none kV9 dc9 pm9 an9 cd9 ct9), sl9⟩) (c9 : PySem.W.codeIn K cd9 "check_choose" = true) (k9 : PySem.W.keepIn K (.ref f9) = true)
    {od10 an10 : Option Addr} {sl10 : Array (Option Value)} {oc10 kV10 dc10 pm10 cd10 ct10 : Value}
    (a10 : PySem.W.nsIn K mainGlobals "check_base" = some (some (.ref f10))) (l10 : K.lookup f10 = some ⟨oc10, od10, .func (PySem.W.fnOf "check_base" "check_base" (defArgs s_check_base) (defBody s_check_base) (defScope s_check_base) .none kV10 dc10 pm10 an10 cd10 ct10), sl10⟩) (c10 : PySem.W.codeIn K cd10 "check_base" = true) (k10 : PySem.W.keepIn K (.ref f10) = true)
    {od11 an11 : Option Addr} {sl11 : Array (Option Value)} {oc11 kV11 dc11 pm11 cd11 ct11 : Value}
    (a11 : PySem.W.nsIn K mainGlobals "piece_of" = some (some (.ref f11))) (l11 : K.lookup f11 = some ⟨oc11, od11, .func (PySem.W.fnOf "piece_of" "piece_of" (defArgs s_piece_of) (defBody s_piece_of) (defScope s_piece_of) .none kV11 dc11 pm11 an11 cd11 ct11), sl11⟩) (c11 : PySem.W.codeIn K cd11 "piece_of" = true) (k11 : PySem.W.keepIn K (.ref f11) = true)
    {od12 an12 : Option Addr} {sl12 : Array (Option Value)} {oc12 kV12 dc12 pm12 cd12 ct12 : Value}
    (a12 : PySem.W.nsIn K mainGlobals "product" = some (some (.ref f12))) (l12 : K.lookup f12 = some ⟨oc12, od12, .func (PySem.W.fnOf "product" "product" (defArgs s_product) (defBody s_product) (defScope s_product) .none kV12 dc12 pm12 an12 cd12 ct12), sl12⟩) (c12 : PySem.W.codeIn K cd12 "product" = true) (k12 : PySem.W.keepIn K (.ref f12) = true)
    {od13 an13 : Option Addr} {sl13 : Array (Option Value)} {oc13 kV13 dc13 pm13 cd13 ct13 : Value}
    (a13 : PySem.W.nsIn K mainGlobals "_law_cell_at" = some (some (.ref f13))) (l13 : K.lookup f13 = some ⟨oc13, od13, .func (PySem.W.fnOf "_law_cell_at" "_law_cell_at" (defArgs s__law_cell_at) (defBody s__law_cell_at) (defScope s__law_cell_at) .none kV13 dc13 pm13 an13 cd13 ct13), sl13⟩) (c13 : PySem.W.codeIn K cd13 "_law_cell_at" = true) (k13 : PySem.W.keepIn K (.ref f13) = true)
    {od14 an14 : Option Addr} {sl14 : Array (Option Value)} {oc14 kV14 dc14 pm14 cd14 ct14 : Value}
    (a14 : PySem.W.nsIn K mainGlobals "_law_number" = some (some (.ref f14))) (l14 : K.lookup f14 = some ⟨oc14, od14, .func (PySem.W.fnOf "_law_number" "_law_number" (defArgs s__law_number) (defBody s__law_number) (defScope s__law_number) .none kV14 dc14 pm14 an14 cd14 ct14), sl14⟩) (c14 : PySem.W.codeIn K cd14 "_law_number" = true) (k14 : PySem.W.keepIn K (.ref f14) = true)
    {od15 an15 : Option Addr} {sl15 : Array (Option Value)} {oc15 kV15 dc15 pm15 cd15 ct15 : Value}
    (a15 : PySem.W.nsIn K mainGlobals "_law_whole" = some (some (.ref f15))) (l15 : K.lookup f15 = some ⟨oc15, od15, .func (PySem.W.fnOf "_law_whole" "_law_whole" (defArgs s__law_whole) (defBody s__law_whole) (defScope s__law_whole) .none kV15 dc15 pm15 an15 cd15 ct15), sl15⟩) (c15 : PySem.W.codeIn K cd15 "_law_whole" = true) (k15 : PySem.W.keepIn K (.ref f15) = true)
    {od16 an16 : Option Addr} {sl16 : Array (Option Value)} {oc16 kV16 dc16 pm16 cd16 ct16 : Value}
    (a16 : PySem.W.nsIn K mainGlobals "_law_divisor" = some (some (.ref f16))) (l16 : K.lookup f16 = some ⟨oc16, od16, .func (PySem.W.fnOf "_law_divisor" "_law_divisor" (defArgs s__law_divisor) (defBody s__law_divisor) (defScope s__law_divisor) .none kV16 dc16 pm16 an16 cd16 ct16), sl16⟩) (c16 : PySem.W.codeIn K cd16 "_law_divisor" = true) (k16 : PySem.W.keepIn K (.ref f16) = true)
    {od17 an17 : Option Addr} {sl17 : Array (Option Value)} {oc17 kV17 dc17 pm17 cd17 ct17 : Value}
    (a17 : PySem.W.nsIn K mainGlobals "_law_mixed" = some (some (.ref f17))) (l17 : K.lookup f17 = some ⟨oc17, od17, .func (PySem.W.fnOf "_law_mixed" "_law_mixed" (defArgs s__law_mixed) (defBody s__law_mixed) (defScope s__law_mixed) .none kV17 dc17 pm17 an17 cd17 ct17), sl17⟩) (c17 : PySem.W.codeIn K cd17 "_law_mixed" = true) (k17 : PySem.W.keepIn K (.ref f17) = true)
    {od18 an18 : Option Addr} {sl18 : Array (Option Value)} {oc18 kV18 dc18 pm18 cd18 ct18 : Value}
    (a18 : PySem.W.nsIn K mainGlobals "_law_forms" = some (some (.ref f18))) (l18 : K.lookup f18 = some ⟨oc18, od18, .func (PySem.W.fnOf "_law_forms" "_law_forms" (defArgs s__law_forms) (defBody s__law_forms) (defScope s__law_forms) .none kV18 dc18 pm18 an18 cd18 ct18), sl18⟩) (c18 : PySem.W.codeIn K cd18 "_law_forms" = true) (k18 : PySem.W.keepIn K (.ref f18) = true)
    {od19 an19 : Option Addr} {sl19 : Array (Option Value)} {oc19 kV19 dc19 pm19 cd19 ct19 : Value}
    (a19 : PySem.W.nsIn K mainGlobals "_law_ratio" = some (some (.ref f19))) (l19 : K.lookup f19 = some ⟨oc19, od19, .func (PySem.W.fnOf "_law_ratio" "_law_ratio" (defArgs s__law_ratio) (defBody s__law_ratio) (defScope s__law_ratio) .none kV19 dc19 pm19 an19 cd19 ct19), sl19⟩) (c19 : PySem.W.codeIn K cd19 "_law_ratio" = true) (k19 : PySem.W.keepIn K (.ref f19) = true)
    {od20 an20 : Option Addr} {sl20 : Array (Option Value)} {oc20 kV20 dc20 pm20 cd20 ct20 : Value}
    (a20 : PySem.W.nsIn K mainGlobals "_law_part" = some (some (.ref f20))) (l20 : K.lookup f20 = some ⟨oc20, od20, .func (PySem.W.fnOf "_law_part" "_law_part" (defArgs s__law_part) (defBody s__law_part) (defScope s__law_part) .none kV20 dc20 pm20 an20 cd20 ct20), sl20⟩) (c20 : PySem.W.codeIn K cd20 "_law_part" = true) (k20 : PySem.W.keepIn K (.ref f20) = true)
    {od21 an21 : Option Addr} {sl21 : Array (Option Value)} {oc21 kV21 dc21 pm21 cd21 ct21 : Value}
    (a21 : PySem.W.nsIn K mainGlobals "_law_parts" = some (some (.ref f21))) (l21 : K.lookup f21 = some ⟨oc21, od21, .func (PySem.W.fnOf "_law_parts" "_law_parts" (defArgs s__law_parts) (defBody s__law_parts) (defScope s__law_parts) .none kV21 dc21 pm21 an21 cd21 ct21), sl21⟩) (c21 : PySem.W.codeIn K cd21 "_law_parts" = true) (k21 : PySem.W.keepIn K (.ref f21) = true)
    {od22 an22 : Option Addr} {sl22 : Array (Option Value)} {oc22 kV22 dc22 pm22 cd22 ct22 : Value}
    (a22 : PySem.W.nsIn K mainGlobals "_law_at" = some (some (.ref f22))) (l22 : K.lookup f22 = some ⟨oc22, od22, .func (PySem.W.fnOf "_law_at" "_law_at" (defArgs s__law_at) (defBody s__law_at) (defScope s__law_at) .none kV22 dc22 pm22 an22 cd22 ct22), sl22⟩) (c22 : PySem.W.codeIn K cd22 "_law_at" = true) (k22 : PySem.W.keepIn K (.ref f22) = true)
    {od23 an23 : Option Addr} {sl23 : Array (Option Value)} {oc23 kV23 dc23 pm23 cd23 ct23 : Value}
    (a23 : PySem.W.nsIn K mainGlobals "_law_power" = some (some (.ref f23))) (l23 : K.lookup f23 = some ⟨oc23, od23, .func (PySem.W.fnOf "_law_power" "_law_power" (defArgs s__law_power) (defBody s__law_power) (defScope s__law_power) .none kV23 dc23 pm23 an23 cd23 ct23), sl23⟩) (c23 : PySem.W.codeIn K cd23 "_law_power" = true) (k23 : PySem.W.keepIn K (.ref f23) = true)
    {od24 an24 : Option Addr} {sl24 : Array (Option Value)} {oc24 kV24 dc24 pm24 cd24 ct24 : Value}
    (a24 : PySem.W.nsIn K mainGlobals "_law_ways" = some (some (.ref f24))) (l24 : K.lookup f24 = some ⟨oc24, od24, .func (PySem.W.fnOf "_law_ways" "_law_ways" (defArgs s__law_ways) (defBody s__law_ways) (defScope s__law_ways) .none kV24 dc24 pm24 an24 cd24 ct24), sl24⟩) (c24 : PySem.W.codeIn K cd24 "_law_ways" = true) (k24 : PySem.W.keepIn K (.ref f24) = true)
    {od25 an25 : Option Addr} {sl25 : Array (Option Value)} {oc25 kV25 dc25 pm25 cd25 ct25 : Value}
    (a25 : PySem.W.nsIn K mainGlobals "_law_worth" = some (some (.ref f25))) (l25 : K.lookup f25 = some ⟨oc25, od25, .func (PySem.W.fnOf "_law_worth" "_law_worth" (defArgs s__law_worth) (defBody s__law_worth) (defScope s__law_worth) .none kV25 dc25 pm25 an25 cd25 ct25), sl25⟩) (c25 : PySem.W.codeIn K cd25 "_law_worth" = true) (k25 : PySem.W.keepIn K (.ref f25) = true)
    {od26 an26 : Option Addr} {sl26 : Array (Option Value)} {oc26 kV26 dc26 pm26 cd26 ct26 : Value}
    (a26 : PySem.W.nsIn K mainGlobals "_law_alike" = some (some (.ref f26))) (l26 : K.lookup f26 = some ⟨oc26, od26, .func (PySem.W.fnOf "_law_alike" "_law_alike" (defArgs s__law_alike) (defBody s__law_alike) (defScope s__law_alike) .none kV26 dc26 pm26 an26 cd26 ct26), sl26⟩) (c26 : PySem.W.codeIn K cd26 "_law_alike" = true) (k26 : PySem.W.keepIn K (.ref f26) = true)
    {od27 an27 : Option Addr} {sl27 : Array (Option Value)} {oc27 kV27 dc27 pm27 cd27 ct27 : Value}
    (a27 : PySem.W.nsIn K mainGlobals "_law_made" = some (some (.ref f27))) (l27 : K.lookup f27 = some ⟨oc27, od27, .func (PySem.W.fnOf "_law_made" "_law_made" (defArgs s__law_made) (defBody s__law_made) (defScope s__law_made) .none kV27 dc27 pm27 an27 cd27 ct27), sl27⟩) (c27 : PySem.W.codeIn K cd27 "_law_made" = true) (k27 : PySem.W.keepIn K (.ref f27) = true)
    {od28 an28 : Option Addr} {sl28 : Array (Option Value)} {oc28 kV28 dc28 pm28 cd28 ct28 : Value}
    (a28 : PySem.W.nsIn K mainGlobals "_law_point" = some (some (.ref f28))) (l28 : K.lookup f28 = some ⟨oc28, od28, .func (PySem.W.fnOf "_law_point" "_law_point" (defArgs s__law_point) (defBody s__law_point) (defScope s__law_point) .none kV28 dc28 pm28 an28 cd28 ct28), sl28⟩) (c28 : PySem.W.codeIn K cd28 "_law_point" = true) (k28 : PySem.W.keepIn K (.ref f28) = true)
    {od29 an29 : Option Addr} {sl29 : Array (Option Value)} {oc29 kV29 dc29 pm29 cd29 ct29 : Value}
    (a29 : PySem.W.nsIn K mainGlobals "_law_far" = some (some (.ref f29))) (l29 : K.lookup f29 = some ⟨oc29, od29, .func (PySem.W.fnOf "_law_far" "_law_far" (defArgs s__law_far) (defBody s__law_far) (defScope s__law_far) .none kV29 dc29 pm29 an29 cd29 ct29), sl29⟩) (c29 : PySem.W.codeIn K cd29 "_law_far" = true) (k29 : PySem.W.keepIn K (.ref f29) = true)
    {od30 an30 : Option Addr} {sl30 : Array (Option Value)} {oc30 kV30 dc30 pm30 cd30 ct30 : Value}
    (a30 : PySem.W.nsIn K mainGlobals "law" = some (some (.ref f30))) (l30 : K.lookup f30 = some ⟨oc30, od30, .func (PySem.W.fnOf "law" "law" (defArgs s_law) (defBody s_law) (defScope s_law) .none kV30 dc30 pm30 an30 cd30 ct30), sl30⟩) (c30 : PySem.W.codeIn K cd30 "law" = true) (k30 : PySem.W.keepIn K (.ref f30) = true)
    {od31 an31 : Option Addr} {sl31 : Array (Option Value)} {oc31 kV31 dc31 pm31 cd31 ct31 : Value}
    (l31 : K.lookup f31 = some ⟨oc31, od31, .func (PySem.W.fnOf "worth" "Part.worth" (defArgs s_Part_worth) (defBody s_Part_worth) (defScope s_Part_worth) .none kV31 dc31 pm31 an31 cd31 ct31), sl31⟩) (c31 : PySem.W.codeIn K cd31 "Part.worth" = true) (k31 : PySem.W.keepIn K (.ref f31) = true)
    {od32 an32 : Option Addr} {sl32 : Array (Option Value)} {oc32 kV32 dc32 pm32 cd32 ct32 : Value}
    (l32 : K.lookup f32 = some ⟨oc32, od32, .func (PySem.W.fnOf "__init__" "Choose.__init__" (defArgs s_Choose___init__) (defBody s_Choose___init__) (defScope s_Choose___init__) .none kV32 dc32 pm32 an32 cd32 ct32), sl32⟩) (c32 : PySem.W.codeIn K cd32 "Choose.__init__" = true) (k32 : PySem.W.keepIn K (.ref f32) = true)
    {od33 an33 : Option Addr} {sl33 : Array (Option Value)} {oc33 kV33 dc33 pm33 cd33 ct33 : Value}
    (l33 : K.lookup f33 = some ⟨oc33, od33, .func (PySem.W.fnOf "lifted" "Choose.lifted" (defArgs s_Choose_lifted) (defBody s_Choose_lifted) (defScope s_Choose_lifted) .none kV33 dc33 pm33 an33 cd33 ct33), sl33⟩) (c33 : PySem.W.codeIn K cd33 "Choose.lifted" = true) (k33 : PySem.W.keepIn K (.ref f33) = true)
    {od34 an34 : Option Addr} {sl34 : Array (Option Value)} {oc34 kV34 dc34 pm34 cd34 ct34 : Value}
    (l34 : K.lookup f34 = some ⟨oc34, od34, .func (PySem.W.fnOf "worth" "Choose.worth" (defArgs s_Choose_worth) (defBody s_Choose_worth) (defScope s_Choose_worth) .none kV34 dc34 pm34 an34 cd34 ct34), sl34⟩) (c34 : PySem.W.codeIn K cd34 "Choose.worth" = true) (k34 : PySem.W.keepIn K (.ref f34) = true)
    {od35 an35 : Option Addr} {sl35 : Array (Option Value)} {oc35 kV35 dc35 pm35 cd35 ct35 : Value}
    (l35 : K.lookup f35 = some ⟨oc35, od35, .func (PySem.W.fnOf "floor" "Choose.floor" (defArgs s_Choose_floor) (defBody s_Choose_floor) (defScope s_Choose_floor) .none kV35 dc35 pm35 an35 cd35 ct35), sl35⟩) (c35 : PySem.W.codeIn K cd35 "Choose.floor" = true) (k35 : PySem.W.keepIn K (.ref f35) = true)
    {od36 an36 : Option Addr} {sl36 : Array (Option Value)} {oc36 kV36 dc36 pm36 cd36 ct36 : Value}
    (l36 : K.lookup f36 = some ⟨oc36, od36, .func (PySem.W.fnOf "__init__" "Weight.__init__" (defArgs s_Weight___init__) (defBody s_Weight___init__) (defScope s_Weight___init__) .none kV36 dc36 pm36 an36 cd36 ct36), sl36⟩) (c36 : PySem.W.codeIn K cd36 "Weight.__init__" = true) (k36 : PySem.W.keepIn K (.ref f36) = true)
    {od37 an37 : Option Addr} {sl37 : Array (Option Value)} {oc37 kV37 dc37 pm37 cd37 ct37 : Value}
    (l37 : K.lookup f37 = some ⟨oc37, od37, .func (PySem.W.fnOf "worth" "Weight.worth" (defArgs s_Weight_worth) (defBody s_Weight_worth) (defScope s_Weight_worth) .none kV37 dc37 pm37 an37 cd37 ct37), sl37⟩) (c37 : PySem.W.codeIn K cd37 "Weight.worth" = true) (k37 : PySem.W.keepIn K (.ref f37) = true)
    {od38 an38 : Option Addr} {sl38 : Array (Option Value)} {oc38 kV38 dc38 pm38 cd38 ct38 : Value}
    (l38 : K.lookup f38 = some ⟨oc38, od38, .func (PySem.W.fnOf "__init__" "Power.__init__" (defArgs s_Power___init__) (defBody s_Power___init__) (defScope s_Power___init__) .none kV38 dc38 pm38 an38 cd38 ct38), sl38⟩) (c38 : PySem.W.codeIn K cd38 "Power.__init__" = true) (k38 : PySem.W.keepIn K (.ref f38) = true)
    {od39 an39 : Option Addr} {sl39 : Array (Option Value)} {oc39 kV39 dc39 pm39 cd39 ct39 : Value}
    (l39 : K.lookup f39 = some ⟨oc39, od39, .func (PySem.W.fnOf "worth" "Power.worth" (defArgs s_Power_worth) (defBody s_Power_worth) (defScope s_Power_worth) .none kV39 dc39 pm39 an39 cd39 ct39), sl39⟩) (c39 : PySem.W.codeIn K cd39 "Power.worth" = true) (k39 : PySem.W.keepIn K (.ref f39) = true)
    {od40 an40 : Option Addr} {sl40 : Array (Option Value)} {oc40 kV40 dc40 pm40 cd40 ct40 : Value}
    (l40 : K.lookup f40 = some ⟨oc40, od40, .func (PySem.W.fnOf "__init__" "Growth.__init__" (defArgs s_Growth___init__) (defBody s_Growth___init__) (defScope s_Growth___init__) .none kV40 dc40 pm40 an40 cd40 ct40), sl40⟩) (c40 : PySem.W.codeIn K cd40 "Growth.__init__" = true) (k40 : PySem.W.keepIn K (.ref f40) = true)
    {od41 an41 : Option Addr} {sl41 : Array (Option Value)} {oc41 kV41 dc41 pm41 cd41 ct41 : Value}
    (l41 : K.lookup f41 = some ⟨oc41, od41, .func (PySem.W.fnOf "worth" "Growth.worth" (defArgs s_Growth_worth) (defBody s_Growth_worth) (defScope s_Growth_worth) .none kV41 dc41 pm41 an41 cd41 ct41), sl41⟩) (c41 : PySem.W.codeIn K cd41 "Growth.worth" = true) (k41 : PySem.W.keepIn K (.ref f41) = true)
    {od42 an42 : Option Addr} {sl42 : Array (Option Value)} {oc42 kV42 dc42 pm42 cd42 ct42 : Value}
    (l42 : K.lookup f42 = some ⟨oc42, od42, .func (PySem.W.fnOf "__init__" "Term.__init__" (defArgs s_Term___init__) (defBody s_Term___init__) (defScope s_Term___init__) .none kV42 dc42 pm42 an42 cd42 ct42), sl42⟩) (c42 : PySem.W.codeIn K cd42 "Term.__init__" = true) (k42 : PySem.W.keepIn K (.ref f42) = true)
    {od43 an43 : Option Addr} {sl43 : Array (Option Value)} {oc43 kV43 dc43 pm43 cd43 ct43 : Value}
    (l43 : K.lookup f43 = some ⟨oc43, od43, .func (PySem.W.fnOf "told" "Term.told" (defArgs s_Term_told) (defBody s_Term_told) (defScope s_Term_told) .none kV43 dc43 pm43 an43 cd43 ct43), sl43⟩) (c43 : PySem.W.codeIn K cd43 "Term.told" = true) (k43 : PySem.W.keepIn K (.ref f43) = true)
    {od44 an44 : Option Addr} {sl44 : Array (Option Value)} {oc44 kV44 dc44 pm44 cd44 ct44 : Value}
    (l44 : K.lookup f44 = some ⟨oc44, od44, .func (PySem.W.fnOf "worth" "Term.worth" (defArgs s_Term_worth) (defBody s_Term_worth) (defScope s_Term_worth) .none kV44 dc44 pm44 an44 cd44 ct44), sl44⟩) (c44 : PySem.W.codeIn K cd44 "Term.worth" = true) (k44 : PySem.W.keepIn K (.ref f44) = true)
    {e_NoNumber : Addr} (xa_NoNumber : PySem.W.nsIn K mainGlobals "NoNumber" = some (some (.ref e_NoNumber))) (xx_NoNumber : PySem.W.excIn K e_NoNumber bmV "ValueError.__new__" = true)
    {e_NoTerm : Addr} (xa_NoTerm : PySem.W.nsIn K mainGlobals "NoTerm" = some (some (.ref e_NoTerm))) (xx_NoTerm : PySem.W.excIn K e_NoTerm bmV "ValueError.__new__" = true)
    {e_Choose : Addr} (xa_Choose : PySem.W.nsIn K mainGlobals "Choose" = some (some (.ref e_Choose)))
    (xc_Choose : Cls K e_Choose)
    (xm_Choose : Mk K e_Choose f32)
    (xe_Choose_lifted : Meth K e_Choose "lifted" f33)
    (xe_Choose_worth : Meth K e_Choose "worth" f34)
    (xe_Choose_floor : Meth K e_Choose "floor" f35)
    (xn_Choose_above : NoAttr K e_Choose "above")
    (xn_Choose_lows : NoAttr K e_Choose "lows")
    (xo_Choose : OCl K e_Choose)
    {e_Growth : Addr} (xa_Growth : PySem.W.nsIn K mainGlobals "Growth" = some (some (.ref e_Growth)))
    (xc_Growth : Cls K e_Growth)
    (xm_Growth : Mk K e_Growth f40)
    (xe_Growth_worth : Meth K e_Growth "worth" f41)
    (xn_Growth_fraction : NoAttr K e_Growth "fraction")
    (xo_Growth : OCl K e_Growth)
    {e_Part : Addr} (xa_Part : PySem.W.nsIn K mainGlobals "Part" = some (some (.ref e_Part)))
    (xc_Part : Cls K e_Part)
    (xe_Part_worth : Meth K e_Part "worth" f31)
    (x0_Part : Mk0 K e_Part)
    {e_Power : Addr} (xa_Power : PySem.W.nsIn K mainGlobals "Power" = some (some (.ref e_Power)))
    (xc_Power : Cls K e_Power)
    (xm_Power : Mk K e_Power f38)
    (xe_Power_worth : Meth K e_Power "worth" f39)
    (xn_Power_fraction : NoAttr K e_Power "fraction")
    (xo_Power : OCl K e_Power)
    {e_Term : Addr} (xa_Term : PySem.W.nsIn K mainGlobals "Term" = some (some (.ref e_Term)))
    (xc_Term : Cls K e_Term)
    (xm_Term : Mk K e_Term f42)
    (xe_Term_told : Meth K e_Term "told" f43)
    (xe_Term_worth : Meth K e_Term "worth" f44)
    (xn_Term_parts : NoAttr K e_Term "parts")
    (xn_Term_pieces : NoAttr K e_Term "pieces")
    {e_Weight : Addr} (xa_Weight : PySem.W.nsIn K mainGlobals "Weight" = some (some (.ref e_Weight)))
    (xc_Weight : Cls K e_Weight)
    (xm_Weight : Mk K e_Weight f36)
    (xe_Weight_worth : Meth K e_Weight "worth" f37)
    (xn_Weight_form : NoAttr K e_Weight "form")
    (xo_Weight : OCl K e_Weight)
    (xk_Choose_Part : PySem.W.kitOne K (.ref e_Choose) (.ref e_Part) = some true)
    (xk_Weight_Part : PySem.W.kitOne K (.ref e_Weight) (.ref e_Part) = some true)
    (xk_Power_Part : PySem.W.kitOne K (.ref e_Power) (.ref e_Part) = some true)
    (xk_Growth_Part : PySem.W.kitOne K (.ref e_Growth) (.ref e_Part) = some true)
    (z0 : PySem.W.nsIn K mainGlobals "abs" = some none)
    (z1 : PySem.W.nsIn K mainGlobals "range" = some none)
    (z2 : PySem.W.nsIn K mainGlobals "min" = some none)
    (z3 : PySem.W.nsIn K mainGlobals "all" = some none)
    (z4 : PySem.W.nsIn K mainGlobals "zip" = some none)
    (z5 : PySem.W.nsIn K mainGlobals "len" = some none)
    (z6 : PySem.W.nsIn K mainGlobals "isinstance" = some none)
    (z7 : PySem.W.nsIn K mainGlobals "int" = some none)
    (z8 : PySem.W.nsIn K mainGlobals "bool" = some none)
    (z9 : PySem.W.nsIn K mainGlobals "tuple" = some none)
    (z10 : PySem.W.nsIn K mainGlobals "list" = some none)
    (z11 : PySem.W.nsIn K mainGlobals "max" = some none)
    {t0 : Tok} (g0 : PySem.W.nsIn K mainGlobals "LONG" = some (some (.int 4000 t0)))
    {t1 : Tok} (g1 : PySem.W.nsIn K mainGlobals "FEW" = some (some (.int 16 t1)))
    {t2 : Tok} (g2 : PySem.W.nsIn K mainGlobals "MOST_PARTS" = some (some (.int 6 t2)))
    {u0 : Addr} (gu0 : PySem.W.nsIn K mainGlobals "GREATEST" = some (some (.ref u0))) (gv0 : ∀ H : Hp, SqT K H u0 [.int (3), .int (3), .int (9)])
    {u1 : Addr} (gu1 : PySem.W.nsIn K mainGlobals "UPPER_LEAST" = some (some (.ref u1))) (gv1 : ∀ H : Hp, SqT K H u1 [.int (0), .int (0), .int (0)])
    {u2 : Addr} (gu2 : PySem.W.nsIn K mainGlobals "LOWER_LEAST" = some (some (.ref u2))) (gv2 : ∀ H : Hp, SqT K H u2 [.int (-3), .int (-3), .int (-9)])
    : ∃ T : Tx K mg, T.a_law = fa ∧ ∀ (s : Shared) (v : Value), BindsTo s T.fd_law ⟨[v], []⟩ [("_law_script", v)] := by
  have e := hfa.symm.trans (PySem.W.mg_of X G a30)
  cases e
  have F0 := fun_mk (st := s_divisor) l0 c0 k0
  have b0 := F0.binds (ps := ["one", "other"]) fun _ _ _ _ _ _ us hl => by obtain ⟨x0, x1, rfl⟩ := ln_2 hl; rfl
  have F1 := fun_mk (st := s_ratio) l1 c1 k1
  have b1 := F1.binds (ps := ["top", "bottom"]) fun _ _ _ _ _ _ us hl => by obtain ⟨x0, x1, rfl⟩ := ln_2 hl; rfl
  have F2 := fun_mk (st := s_form_value) l2 c2 k2
  have b2 := F2.binds (ps := ["form", "n", "k"]) fun _ _ _ _ _ _ us hl => by obtain ⟨x0, x1, x2, rfl⟩ := ln_3 hl; rfl
  have F3 := fun_mk (st := s_raised) l3 c3 k3
  have b3 := F3.binds (ps := ["form", "by"]) fun _ _ _ _ _ _ us hl => by obtain ⟨x0, x1, rfl⟩ := ln_2 hl; rfl
  have F4 := fun_mk (st := s_low_forms) l4 c4 k4
  have b4 := F4.binds (ps := ["upper", "lower"]) fun _ _ _ _ _ _ us hl => by obtain ⟨x0, x1, rfl⟩ := ln_2 hl; rfl
  have F5 := fun_mk (st := s_power_of) l5 c5 k5
  have b5 := F5.binds (ps := ["number", "exponent"]) fun _ _ _ _ _ _ us hl => by obtain ⟨x0, x1, rfl⟩ := ln_2 hl; rfl
  have F6 := fun_mk (st := s_run_product) l6 c6 k6
  have b6 := F6.binds (ps := ["low", "high"]) fun _ _ _ _ _ _ us hl => by obtain ⟨x0, x1, rfl⟩ := ln_2 hl; rfl
  have F7 := fun_mk (st := s_choices) l7 c7 k7
  have b7 := F7.binds (ps := ["one", "other"]) fun _ _ _ _ _ _ us hl => by obtain ⟨x0, x1, rfl⟩ := ln_2 hl; rfl
  have F8 := fun_mk (st := s_within) l8 c8 k8
  have b8 := F8.binds (ps := ["form", "least"]) fun _ _ _ _ _ _ us hl => by obtain ⟨x0, x1, rfl⟩ := ln_2 hl; rfl
  have F9 := fun_mk (st := s_check_choose) l9 c9 k9
  have b9 := F9.binds (ps := ["upper", "lower"]) fun _ _ _ _ _ _ us hl => by obtain ⟨x0, x1, rfl⟩ := ln_2 hl; rfl
  have F10 := fun_mk (st := s_check_base) l10 c10 k10
  have b10 := F10.binds (ps := ["fraction"]) fun _ _ _ _ _ _ us hl => by obtain ⟨x0, rfl⟩ := ln_1 hl; rfl
  have F11 := fun_mk (st := s_piece_of) l11 c11 k11
  have b11 := F11.binds (ps := ["part"]) fun _ _ _ _ _ _ us hl => by obtain ⟨x0, rfl⟩ := ln_1 hl; rfl
  have F12 := fun_mk (st := s_product) l12 c12 k12
  have b12 := F12.binds (ps := ["fractions"]) fun _ _ _ _ _ _ us hl => by obtain ⟨x0, rfl⟩ := ln_1 hl; rfl
  have F13 := fun_mk (st := s__law_cell_at) l13 c13 k13
  have b13 := F13.binds (ps := ["_law_script", "_law_k"]) fun _ _ _ _ _ _ us hl => by obtain ⟨x0, x1, rfl⟩ := ln_2 hl; rfl
  have F14 := fun_mk (st := s__law_number) l14 c14 k14
  have b14 := F14.binds (ps := ["_law_cell", "_law_most"]) fun _ _ _ _ _ _ us hl => by obtain ⟨x0, x1, rfl⟩ := ln_2 hl; rfl
  have F15 := fun_mk (st := s__law_whole) l15 c15 k15
  have b15 := F15.binds (ps := ["_law_found"]) fun _ _ _ _ _ _ us hl => by obtain ⟨x0, rfl⟩ := ln_1 hl; rfl
  have F16 := fun_mk (st := s__law_divisor) l16 c16 k16
  have b16 := F16.binds (ps := ["_law_one", "_law_other"]) fun _ _ _ _ _ _ us hl => by obtain ⟨x0, x1, rfl⟩ := ln_2 hl; rfl
  have F17 := fun_mk (st := s__law_mixed) l17 c17 k17
  have b17 := F17.binds (ps := ["_law_cell", "_law_k"]) fun _ _ _ _ _ _ us hl => by obtain ⟨x0, x1, rfl⟩ := ln_2 hl; rfl
  have F18 := fun_mk (st := s__law_forms) l18 c18 k18
  have b18 := F18.binds (ps := ["_law_one", "_law_other", "_law_most"]) fun _ _ _ _ _ _ us hl => by obtain ⟨x0, x1, x2, rfl⟩ := ln_3 hl; rfl
  have F19 := fun_mk (st := s__law_ratio) l19 c19 k19
  have b19 := F19.binds (ps := ["_law_one", "_law_other"]) fun _ _ _ _ _ _ us hl => by obtain ⟨x0, x1, rfl⟩ := ln_2 hl; rfl
  have F20 := fun_mk (st := s__law_part) l20 c20 k20
  have b20 := F20.binds (ps := ["_law_cells", "_law_most"]) fun _ _ _ _ _ _ us hl => by obtain ⟨x0, x1, rfl⟩ := ln_2 hl; rfl
  have F21 := fun_mk (st := s__law_parts) l21 c21 k21
  have b21 := F21.binds (ps := ["_law_script", "_law_mosts"]) fun _ _ _ _ _ _ us hl => by obtain ⟨x0, x1, rfl⟩ := ln_2 hl; rfl
  have F22 := fun_mk (st := s__law_at) l22 c22 k22
  have b22 := F22.binds (ps := ["_law_form", "_law_n", "_law_k"]) fun _ _ _ _ _ _ us hl => by obtain ⟨x0, x1, x2, rfl⟩ := ln_3 hl; rfl
  have F23 := fun_mk (st := s__law_power) l23 c23 k23
  have b23 := F23.binds (ps := ["_law_fraction", "_law_many"]) fun _ _ _ _ _ _ us hl => by obtain ⟨x0, x1, rfl⟩ := ln_2 hl; rfl
  have F24 := fun_mk (st := s__law_ways) l24 c24 k24
  have b24 := F24.binds (ps := ["_law_low", "_law_rest"]) fun _ _ _ _ _ _ us hl => by obtain ⟨x0, x1, rfl⟩ := ln_2 hl; rfl
  have F25 := fun_mk (st := s__law_worth) l25 c25 k25
  have b25 := F25.binds (ps := ["_law_part_here", "_law_n", "_law_k"]) fun _ _ _ _ _ _ us hl => by obtain ⟨x0, x1, x2, rfl⟩ := ln_3 hl; rfl
  have F26 := fun_mk (st := s__law_alike) l26 c26 k26
  have b26 := F26.binds (ps := ["_law_found", "_law_due"]) fun _ _ _ _ _ _ us hl => by obtain ⟨x0, x1, rfl⟩ := ln_2 hl; rfl
  have F27 := fun_mk (st := s__law_made) l27 c27 k27
  have b27 := F27.binds (ps := ["_law_part_here"]) fun _ _ _ _ _ _ us hl => by obtain ⟨x0, rfl⟩ := ln_1 hl; rfl
  have F28 := fun_mk (st := s__law_point) l28 c28 k28
  have b28 := F28.binds (ps := ["_law_term", "_law_parts_here", "_law_made_here", "_law_n", "_law_k"]) fun _ _ _ _ _ _ us hl => by obtain ⟨x0, x1, x2, x3, x4, rfl⟩ := ln_5 hl; rfl
  have F29 := fun_mk (st := s__law_far) l29 c29 k29
  have b29 := F29.binds (ps := ["_law_script", "_law_parts_here"]) fun _ _ _ _ _ _ us hl => by obtain ⟨x0, x1, rfl⟩ := ln_2 hl; rfl
  have F30 := fun_mk (st := s_law) l30 c30 k30
  have b30 := F30.binds (ps := ["_law_script"]) fun _ _ _ _ _ _ us hl => by obtain ⟨x0, rfl⟩ := ln_1 hl; rfl
  have F31 := fun_mk (st := s_Part_worth) l31 c31 k31
  have b31 := F31.binds (ps := ["self", "n", "k"]) fun _ _ _ _ _ _ us hl => by obtain ⟨x0, x1, x2, rfl⟩ := ln_3 hl; rfl
  have F32 := fun_mk (st := s_Choose___init__) l32 c32 k32
  have b32 := F32.binds (ps := ["self", "upper", "lower"]) fun _ _ _ _ _ _ us hl => by obtain ⟨x0, x1, x2, rfl⟩ := ln_3 hl; rfl
  have F33 := fun_mk (st := s_Choose_lifted) l33 c33 k33
  have b33 := F33.binds (ps := ["self", "far"]) fun _ _ _ _ _ _ us hl => by obtain ⟨x0, x1, rfl⟩ := ln_2 hl; rfl
  have F34 := fun_mk (st := s_Choose_worth) l34 c34 k34
  have b34 := F34.binds (ps := ["self", "n", "k"]) fun _ _ _ _ _ _ us hl => by obtain ⟨x0, x1, x2, rfl⟩ := ln_3 hl; rfl
  have F35 := fun_mk (st := s_Choose_floor) l35 c35 k35
  have b35 := F35.binds (ps := ["self", "n", "k", "far"]) fun _ _ _ _ _ _ us hl => by obtain ⟨x0, x1, x2, x3, rfl⟩ := ln_4 hl; rfl
  have F36 := fun_mk (st := s_Weight___init__) l36 c36 k36
  have b36 := F36.binds (ps := ["self", "form"]) fun _ _ _ _ _ _ us hl => by obtain ⟨x0, x1, rfl⟩ := ln_2 hl; rfl
  have F37 := fun_mk (st := s_Weight_worth) l37 c37 k37
  have b37 := F37.binds (ps := ["self", "n", "k"]) fun _ _ _ _ _ _ us hl => by obtain ⟨x0, x1, x2, rfl⟩ := ln_3 hl; rfl
  have F38 := fun_mk (st := s_Power___init__) l38 c38 k38
  have b38 := F38.binds (ps := ["self", "fraction"]) fun _ _ _ _ _ _ us hl => by obtain ⟨x0, x1, rfl⟩ := ln_2 hl; rfl
  have F39 := fun_mk (st := s_Power_worth) l39 c39 k39
  have b39 := F39.binds (ps := ["self", "n", "k"]) fun _ _ _ _ _ _ us hl => by obtain ⟨x0, x1, x2, rfl⟩ := ln_3 hl; rfl
  have F40 := fun_mk (st := s_Growth___init__) l40 c40 k40
  have b40 := F40.binds (ps := ["self", "fraction"]) fun _ _ _ _ _ _ us hl => by obtain ⟨x0, x1, rfl⟩ := ln_2 hl; rfl
  have F41 := fun_mk (st := s_Growth_worth) l41 c41 k41
  have b41 := F41.binds (ps := ["self", "n", "k"]) fun _ _ _ _ _ _ us hl => by obtain ⟨x0, x1, x2, rfl⟩ := ln_3 hl; rfl
  have F42 := fun_mk (st := s_Term___init__) l42 c42 k42
  have b42 := F42.binds (ps := ["self", "parts"]) fun _ _ _ _ _ _ us hl => by obtain ⟨x0, x1, rfl⟩ := ln_2 hl; rfl
  have F43 := fun_mk (st := s_Term_told) l43 c43 k43
  have b43 := F43.binds (ps := ["self"]) fun _ _ _ _ _ _ us hl => by obtain ⟨x0, rfl⟩ := ln_1 hl; rfl
  have F44 := fun_mk (st := s_Term_worth) l44 c44 k44
  have b44 := F44.binds (ps := ["self", "n", "k"]) fun _ _ _ _ _ _ us hl => by obtain ⟨x0, x1, x2, rfl⟩ := ln_3 hl; rfl
  exact ⟨⟨_, _, F0, PySem.W.mg_of X G a0, b0, _, _, F1, PySem.W.mg_of X G a1, b1, _, _, F2, PySem.W.mg_of X G a2, b2, _, _, F3, PySem.W.mg_of X G a3, b3, _, _, F4, PySem.W.mg_of X G a4, b4, _, _, F5, PySem.W.mg_of X G a5, b5, _, _, F6, PySem.W.mg_of X G a6, b6, _, _, F7, PySem.W.mg_of X G a7, b7, _, _, F8, PySem.W.mg_of X G a8, b8, _, _, F9, PySem.W.mg_of X G a9, b9, _, _, F10, PySem.W.mg_of X G a10, b10, _, _, F11, PySem.W.mg_of X G a11, b11, _, _, F12, PySem.W.mg_of X G a12, b12, _, _, F13, PySem.W.mg_of X G a13, b13, _, _, F14, PySem.W.mg_of X G a14, b14, _, _, F15, PySem.W.mg_of X G a15, b15, _, _, F16, PySem.W.mg_of X G a16, b16, _, _, F17, PySem.W.mg_of X G a17, b17, _, _, F18, PySem.W.mg_of X G a18, b18, _, _, F19, PySem.W.mg_of X G a19, b19, _, _, F20, PySem.W.mg_of X G a20, b20, _, _, F21, PySem.W.mg_of X G a21, b21, _, _, F22, PySem.W.mg_of X G a22, b22, _, _, F23, PySem.W.mg_of X G a23, b23, _, _, F24, PySem.W.mg_of X G a24, b24, _, _, F25, PySem.W.mg_of X G a25, b25, _, _, F26, PySem.W.mg_of X G a26, b26, _, _, F27, PySem.W.mg_of X G a27, b27, _, _, F28, PySem.W.mg_of X G a28, b28, _, _, F29, PySem.W.mg_of X G a29, b29, _, _, F30, PySem.W.mg_of X G a30, b30, _, _, F31, b31, _, _, F32, b32, _, _, F33, b33, _, _, F34, b34, _, _, F35, b35, _, _, F36, b36, _, _, F37, b37, _, _, F38, b38, _, _, F39, b39, _, _, F40, b40, _, _, F41, b41, _, _, F42, b42, _, _, F43, b43, _, _, F44, b44, _, PySem.W.mg_of X G xa_NoNumber, xx_NoNumber, _, PySem.W.mg_of X G xa_NoTerm, xx_NoTerm, _, PySem.W.mg_of X G xa_Choose, xc_Choose, xm_Choose, xe_Choose_lifted, xe_Choose_worth, xe_Choose_floor, xn_Choose_above, xn_Choose_lows, xo_Choose, _, PySem.W.mg_of X G xa_Growth, xc_Growth, xm_Growth, xe_Growth_worth, xn_Growth_fraction, xo_Growth, _, PySem.W.mg_of X G xa_Part, xc_Part, xe_Part_worth, x0_Part, _, PySem.W.mg_of X G xa_Power, xc_Power, xm_Power, xe_Power_worth, xn_Power_fraction, xo_Power, _, PySem.W.mg_of X G xa_Term, xc_Term, xm_Term, xe_Term_told, xe_Term_worth, xn_Term_parts, xn_Term_pieces, _, PySem.W.mg_of X G xa_Weight, xc_Weight, xm_Weight, xe_Weight_worth, xn_Weight_form, xo_Weight, xk_Choose_Part, xk_Weight_Part, xk_Power_Part, xk_Growth_Part, PySem.W.mg_none_of X G z0, PySem.W.mg_none_of X G z1, PySem.W.mg_none_of X G z2, PySem.W.mg_none_of X G z3, PySem.W.mg_none_of X G z4, PySem.W.mg_none_of X G z5, PySem.W.mg_none_of X G z6, PySem.W.mg_none_of X G z7, PySem.W.mg_none_of X G z8, PySem.W.mg_none_of X G z9, PySem.W.mg_none_of X G z10, PySem.W.mg_none_of X G z11, ⟨_, PySem.W.mg_of X G g0⟩, ⟨_, PySem.W.mg_of X G g1⟩, ⟨_, PySem.W.mg_of X G g2⟩, ⟨_, PySem.W.mg_of X G gu0, gv0⟩, ⟨_, PySem.W.mg_of X G gu1, gv1⟩, ⟨_, PySem.W.mg_of X G gu2, gv2⟩⟩, rfl, fun s v => .of_eq rfl⟩
theorem walk {l : PySem.W.OpenLaw} {q : Program} {loose : List Str} {XP : (Str → Option Value) → Heap → Prop} {YP : World → Heap → Prop} {d : DefRec} {K : Params → PySem.W.Frag} (hn : l.most = some 63) (hdf : d.params.defaults = [])
    (hY : ∀ (w : World) (h : Heap), YP w h → (K w.params).In h)
    (F : ∀ (w : World) (mg : Str → Option Value) (fa : Addr) (h : Heap), (K w.params).In h → h.Ns mainGlobals mg → mg d.name = some (.ref fa) →
      ∃ T : Tx (K w.params) mg, T.a_law = fa ∧ ∀ (s : Shared) (v : Value), BindsTo s T.fd_law ⟨[v], []⟩ [("_law_script", v)]) :
    PySem.W.WalkO q loose XP YP l.row.toRowW d [] (fun f vs => PySem.call f vs) :=
  L2.walk_of (n := 63) (k := 30) (x := "_law_script") (CX := fun _ => CX0) (sp := fun w => spLaw (K w.params)) hn (by decide) hdf ⟨rfl, by decide, by decide⟩ hY
    (fun w mg fa h KX G hmg => by
      obtain ⟨T, e, hb⟩ := F w mg fa h KX G hmg
      subst e
      exact ⟨T.fd_law, hb, fun base _ _ => FnOk.mono (ok_law T) (by decide)⟩)
    (fun _ H a ns hl _ hS => ⟨a, ns, rfl, hS, hl, fun _ => rfl⟩) fun _ _ _ _ _ z => z
theorem ka0 (P : Params) : PySem.W.nsIn (KK P) mainGlobals "divisor" = some (some (.ref 91)) := by kernel_rfl
theorem kl0 (P : Params) : (KK P).lookup 91 = some ⟨.type "function", none, .func (PySem.W.fnOf "divisor" "divisor" (defArgs s_divisor) (defBody s_divisor) (defScope s_divisor) .none .none .none (.str "sumcraft.ratios" 277) none (.ref 90) .none), #[]⟩ := by kernel_rfl
theorem kc0 (P : Params) : PySem.W.codeIn (KK P) (.ref 90) "divisor" = true := by kernel_rfl
theorem kk0 (P : Params) : PySem.W.keepIn (KK P) (.ref 91) = true := by kernel_rfl
theorem ka1 (P : Params) : PySem.W.nsIn (KK P) mainGlobals "ratio" = some (some (.ref 98)) := by kernel_rfl
theorem kl1 (P : Params) : (KK P).lookup 98 = some ⟨.type "function", none, .func (PySem.W.fnOf "ratio" "ratio" (defArgs s_ratio) (defBody s_ratio) (defScope s_ratio) .none .none .none (.str "sumcraft.ratios" 277) none (.ref 97) .none), #[]⟩ := by kernel_rfl
theorem kc1 (P : Params) : PySem.W.codeIn (KK P) (.ref 97) "ratio" = true := by kernel_rfl
theorem kk1 (P : Params) : PySem.W.keepIn (KK P) (.ref 98) = true := by kernel_rfl
theorem ka2 (P : Params) : PySem.W.nsIn (KK P) mainGlobals "form_value" = some (some (.ref 105)) := by kernel_rfl
theorem kl2 (P : Params) : (KK P).lookup 105 = some ⟨.type "function", none, .func (PySem.W.fnOf "form_value" "form_value" (defArgs s_form_value) (defBody s_form_value) (defScope s_form_value) .none .none .none (.str "sumcraft.parts" 321) none (.ref 104) .none), #[]⟩ := by kernel_rfl
theorem kc2 (P : Params) : PySem.W.codeIn (KK P) (.ref 104) "form_value" = true := by kernel_rfl
theorem kk2 (P : Params) : PySem.W.keepIn (KK P) (.ref 105) = true := by kernel_rfl
theorem ka3 (P : Params) : PySem.W.nsIn (KK P) mainGlobals "raised" = some (some (.ref 112)) := by kernel_rfl
theorem kl3 (P : Params) : (KK P).lookup 112 = some ⟨.type "function", none, .func (PySem.W.fnOf "raised" "raised" (defArgs s_raised) (defBody s_raised) (defScope s_raised) .none .none .none (.str "sumcraft.parts" 321) none (.ref 111) .none), #[]⟩ := by kernel_rfl
theorem kc3 (P : Params) : PySem.W.codeIn (KK P) (.ref 111) "raised" = true := by kernel_rfl
theorem kk3 (P : Params) : PySem.W.keepIn (KK P) (.ref 112) = true := by kernel_rfl
theorem ka4 (P : Params) : PySem.W.nsIn (KK P) mainGlobals "low_forms" = some (some (.ref 124)) := by kernel_rfl
theorem kl4 (P : Params) : (KK P).lookup 124 = some ⟨.type "function", none, .func (PySem.W.fnOf "low_forms" "low_forms" (defArgs s_low_forms) (defBody s_low_forms) (defScope s_low_forms) .none .none .none (.str "sumcraft.parts" 321) none (.ref 123) .none), #[]⟩ := by kernel_rfl
theorem kc4 (P : Params) : PySem.W.codeIn (KK P) (.ref 123) "low_forms" = true := by kernel_rfl
theorem kk4 (P : Params) : PySem.W.keepIn (KK P) (.ref 124) = true := by kernel_rfl
theorem ka5 (P : Params) : PySem.W.nsIn (KK P) mainGlobals "power_of" = some (some (.ref 131)) := by kernel_rfl
theorem kl5 (P : Params) : (KK P).lookup 131 = some ⟨.type "function", none, .func (PySem.W.fnOf "power_of" "power_of" (defArgs s_power_of) (defBody s_power_of) (defScope s_power_of) .none .none .none (.str "sumcraft.parts" 321) none (.ref 130) .none), #[]⟩ := by kernel_rfl
theorem kc5 (P : Params) : PySem.W.codeIn (KK P) (.ref 130) "power_of" = true := by kernel_rfl
theorem kk5 (P : Params) : PySem.W.keepIn (KK P) (.ref 131) = true := by kernel_rfl
theorem ka6 (P : Params) : PySem.W.nsIn (KK P) mainGlobals "run_product" = some (some (.ref 138)) := by kernel_rfl
theorem kl6 (P : Params) : (KK P).lookup 138 = some ⟨.type "function", none, .func (PySem.W.fnOf "run_product" "run_product" (defArgs s_run_product) (defBody s_run_product) (defScope s_run_product) .none .none .none (.str "sumcraft.parts" 321) none (.ref 137) .none), #[]⟩ := by kernel_rfl
theorem kc6 (P : Params) : PySem.W.codeIn (KK P) (.ref 137) "run_product" = true := by kernel_rfl
theorem kk6 (P : Params) : PySem.W.keepIn (KK P) (.ref 138) = true := by kernel_rfl
theorem ka7 (P : Params) : PySem.W.nsIn (KK P) mainGlobals "choices" = some (some (.ref 145)) := by kernel_rfl
theorem kl7 (P : Params) : (KK P).lookup 145 = some ⟨.type "function", none, .func (PySem.W.fnOf "choices" "choices" (defArgs s_choices) (defBody s_choices) (defScope s_choices) .none .none .none (.str "sumcraft.parts" 321) none (.ref 144) .none), #[]⟩ := by kernel_rfl
theorem kc7 (P : Params) : PySem.W.codeIn (KK P) (.ref 144) "choices" = true := by kernel_rfl
theorem kk7 (P : Params) : PySem.W.keepIn (KK P) (.ref 145) = true := by kernel_rfl
theorem ka8 (P : Params) : PySem.W.nsIn (KK P) mainGlobals "within" = some (some (.ref 379)) := by kernel_rfl
theorem kl8 (P : Params) : (KK P).lookup 379 = some ⟨.type "function", none, .func (PySem.W.fnOf "within" "within" (defArgs s_within) (defBody s_within) (defScope s_within) .none .none .none (.str "sumcraft.terms" 685) none (.ref 378) .none), #[]⟩ := by kernel_rfl
theorem kc8 (P : Params) : PySem.W.codeIn (KK P) (.ref 378) "within" = true := by kernel_rfl
theorem kk8 (P : Params) : PySem.W.keepIn (KK P) (.ref 379) = true := by kernel_rfl
theorem ka9 (P : Params) : PySem.W.nsIn (KK P) mainGlobals "check_choose" = some (some (.ref 386)) := by kernel_rfl
theorem kl9 (P : Params) : (KK P).lookup 386 = some ⟨.type "function", none, .func (PySem.W.fnOf "check_choose" "check_choose" (defArgs s_check_choose) (defBody s_check_choose) (defScope s_check_choose) .none .none .none (.str "sumcraft.terms" 685) none (.ref 385) .none), #[]⟩ := by kernel_rfl
theorem kc9 (P : Params) : PySem.W.codeIn (KK P) (.ref 385) "check_choose" = true := by kernel_rfl
theorem kk9 (P : Params) : PySem.W.keepIn (KK P) (.ref 386) = true := by kernel_rfl
theorem ka10 (P : Params) : PySem.W.nsIn (KK P) mainGlobals "check_base" = some (some (.ref 393)) := by kernel_rfl
theorem kl10 (P : Params) : (KK P).lookup 393 = some ⟨.type "function", none, .func (PySem.W.fnOf "check_base" "check_base" (defArgs s_check_base) (defBody s_check_base) (defScope s_check_base) .none .none .none (.str "sumcraft.terms" 685) none (.ref 392) .none), #[]⟩ := by kernel_rfl
theorem kc10 (P : Params) : PySem.W.codeIn (KK P) (.ref 392) "check_base" = true := by kernel_rfl
theorem kk10 (P : Params) : PySem.W.keepIn (KK P) (.ref 393) = true := by kernel_rfl
theorem ka11 (P : Params) : PySem.W.nsIn (KK P) mainGlobals "piece_of" = some (some (.ref 400)) := by kernel_rfl
theorem kl11 (P : Params) : (KK P).lookup 400 = some ⟨.type "function", none, .func (PySem.W.fnOf "piece_of" "piece_of" (defArgs s_piece_of) (defBody s_piece_of) (defScope s_piece_of) .none .none .none (.str "sumcraft.terms" 685) none (.ref 399) .none), #[]⟩ := by kernel_rfl
theorem kc11 (P : Params) : PySem.W.codeIn (KK P) (.ref 399) "piece_of" = true := by kernel_rfl
theorem kk11 (P : Params) : PySem.W.keepIn (KK P) (.ref 400) = true := by kernel_rfl
theorem ka12 (P : Params) : PySem.W.nsIn (KK P) mainGlobals "product" = some (some (.ref 407)) := by kernel_rfl
theorem kl12 (P : Params) : (KK P).lookup 407 = some ⟨.type "function", none, .func (PySem.W.fnOf "product" "product" (defArgs s_product) (defBody s_product) (defScope s_product) .none .none .none (.str "sumcraft.terms" 685) none (.ref 406) .none), #[]⟩ := by kernel_rfl
theorem kc12 (P : Params) : PySem.W.codeIn (KK P) (.ref 406) "product" = true := by kernel_rfl
theorem kk12 (P : Params) : PySem.W.keepIn (KK P) (.ref 407) = true := by kernel_rfl
theorem ka13 (P : Params) : PySem.W.nsIn (KK P) mainGlobals "_law_cell_at" = some (some (.ref 455)) := by kernel_rfl
theorem kl13 (P : Params) : (KK P).lookup 455 = some ⟨.type "function", none, .func (PySem.W.fnOf "_law_cell_at" "_law_cell_at" (defArgs s__law_cell_at) (defBody s__law_cell_at) (defScope s__law_cell_at) .none .none .none (.str "law_sumcraft_k53_what_terms_are_worth" 798) none (.ref 454) .none), #[]⟩ := by kernel_rfl
theorem kc13 (P : Params) : PySem.W.codeIn (KK P) (.ref 454) "_law_cell_at" = true := by kernel_rfl
theorem kk13 (P : Params) : PySem.W.keepIn (KK P) (.ref 455) = true := by kernel_rfl
theorem ka14 (P : Params) : PySem.W.nsIn (KK P) mainGlobals "_law_number" = some (some (.ref 462)) := by kernel_rfl
theorem kl14 (P : Params) : (KK P).lookup 462 = some ⟨.type "function", none, .func (PySem.W.fnOf "_law_number" "_law_number" (defArgs s__law_number) (defBody s__law_number) (defScope s__law_number) .none .none .none (.str "law_sumcraft_k53_what_terms_are_worth" 798) none (.ref 461) .none), #[]⟩ := by kernel_rfl
theorem kc14 (P : Params) : PySem.W.codeIn (KK P) (.ref 461) "_law_number" = true := by kernel_rfl
theorem kk14 (P : Params) : PySem.W.keepIn (KK P) (.ref 462) = true := by kernel_rfl
theorem ka15 (P : Params) : PySem.W.nsIn (KK P) mainGlobals "_law_whole" = some (some (.ref 469)) := by kernel_rfl
theorem kl15 (P : Params) : (KK P).lookup 469 = some ⟨.type "function", none, .func (PySem.W.fnOf "_law_whole" "_law_whole" (defArgs s__law_whole) (defBody s__law_whole) (defScope s__law_whole) .none .none .none (.str "law_sumcraft_k53_what_terms_are_worth" 798) none (.ref 468) .none), #[]⟩ := by kernel_rfl
theorem kc15 (P : Params) : PySem.W.codeIn (KK P) (.ref 468) "_law_whole" = true := by kernel_rfl
theorem kk15 (P : Params) : PySem.W.keepIn (KK P) (.ref 469) = true := by kernel_rfl
theorem ka16 (P : Params) : PySem.W.nsIn (KK P) mainGlobals "_law_divisor" = some (some (.ref 476)) := by kernel_rfl
theorem kl16 (P : Params) : (KK P).lookup 476 = some ⟨.type "function", none, .func (PySem.W.fnOf "_law_divisor" "_law_divisor" (defArgs s__law_divisor) (defBody s__law_divisor) (defScope s__law_divisor) .none .none .none (.str "law_sumcraft_k53_what_terms_are_worth" 798) none (.ref 475) .none), #[]⟩ := by kernel_rfl
theorem kc16 (P : Params) : PySem.W.codeIn (KK P) (.ref 475) "_law_divisor" = true := by kernel_rfl
theorem kk16 (P : Params) : PySem.W.keepIn (KK P) (.ref 476) = true := by kernel_rfl
theorem ka17 (P : Params) : PySem.W.nsIn (KK P) mainGlobals "_law_mixed" = some (some (.ref 483)) := by kernel_rfl
theorem kl17 (P : Params) : (KK P).lookup 483 = some ⟨.type "function", none, .func (PySem.W.fnOf "_law_mixed" "_law_mixed" (defArgs s__law_mixed) (defBody s__law_mixed) (defScope s__law_mixed) .none .none .none (.str "law_sumcraft_k53_what_terms_are_worth" 798) none (.ref 482) .none), #[]⟩ := by kernel_rfl
theorem kc17 (P : Params) : PySem.W.codeIn (KK P) (.ref 482) "_law_mixed" = true := by kernel_rfl
theorem kk17 (P : Params) : PySem.W.keepIn (KK P) (.ref 483) = true := by kernel_rfl
theorem ka18 (P : Params) : PySem.W.nsIn (KK P) mainGlobals "_law_forms" = some (some (.ref 490)) := by kernel_rfl
theorem kl18 (P : Params) : (KK P).lookup 490 = some ⟨.type "function", none, .func (PySem.W.fnOf "_law_forms" "_law_forms" (defArgs s__law_forms) (defBody s__law_forms) (defScope s__law_forms) .none .none .none (.str "law_sumcraft_k53_what_terms_are_worth" 798) none (.ref 489) .none), #[]⟩ := by kernel_rfl
theorem kc18 (P : Params) : PySem.W.codeIn (KK P) (.ref 489) "_law_forms" = true := by kernel_rfl
theorem kk18 (P : Params) : PySem.W.keepIn (KK P) (.ref 490) = true := by kernel_rfl
theorem ka19 (P : Params) : PySem.W.nsIn (KK P) mainGlobals "_law_ratio" = some (some (.ref 497)) := by kernel_rfl
theorem kl19 (P : Params) : (KK P).lookup 497 = some ⟨.type "function", none, .func (PySem.W.fnOf "_law_ratio" "_law_ratio" (defArgs s__law_ratio) (defBody s__law_ratio) (defScope s__law_ratio) .none .none .none (.str "law_sumcraft_k53_what_terms_are_worth" 798) none (.ref 496) .none), #[]⟩ := by kernel_rfl
theorem kc19 (P : Params) : PySem.W.codeIn (KK P) (.ref 496) "_law_ratio" = true := by kernel_rfl
theorem kk19 (P : Params) : PySem.W.keepIn (KK P) (.ref 497) = true := by kernel_rfl
theorem ka20 (P : Params) : PySem.W.nsIn (KK P) mainGlobals "_law_part" = some (some (.ref 502)) := by kernel_rfl
theorem kl20 (P : Params) : (KK P).lookup 502 = some ⟨.type "function", none, .func (PySem.W.fnOf "_law_part" "_law_part" (defArgs s__law_part) (defBody s__law_part) (defScope s__law_part) .none .none .none (.str "law_sumcraft_k53_what_terms_are_worth" 798) none (.ref 501) .none), #[]⟩ := by kernel_rfl
theorem kc20 (P : Params) : PySem.W.codeIn (KK P) (.ref 501) "_law_part" = true := by kernel_rfl
theorem kk20 (P : Params) : PySem.W.keepIn (KK P) (.ref 502) = true := by kernel_rfl
theorem ka21 (P : Params) : PySem.W.nsIn (KK P) mainGlobals "_law_parts" = some (some (.ref 507)) := by kernel_rfl
theorem kl21 (P : Params) : (KK P).lookup 507 = some ⟨.type "function", none, .func (PySem.W.fnOf "_law_parts" "_law_parts" (defArgs s__law_parts) (defBody s__law_parts) (defScope s__law_parts) .none .none .none (.str "law_sumcraft_k53_what_terms_are_worth" 798) none (.ref 506) .none), #[]⟩ := by kernel_rfl
theorem kc21 (P : Params) : PySem.W.codeIn (KK P) (.ref 506) "_law_parts" = true := by kernel_rfl
theorem kk21 (P : Params) : PySem.W.keepIn (KK P) (.ref 507) = true := by kernel_rfl
theorem ka22 (P : Params) : PySem.W.nsIn (KK P) mainGlobals "_law_at" = some (some (.ref 514)) := by kernel_rfl
theorem kl22 (P : Params) : (KK P).lookup 514 = some ⟨.type "function", none, .func (PySem.W.fnOf "_law_at" "_law_at" (defArgs s__law_at) (defBody s__law_at) (defScope s__law_at) .none .none .none (.str "law_sumcraft_k53_what_terms_are_worth" 798) none (.ref 513) .none), #[]⟩ := by kernel_rfl
theorem kc22 (P : Params) : PySem.W.codeIn (KK P) (.ref 513) "_law_at" = true := by kernel_rfl
theorem kk22 (P : Params) : PySem.W.keepIn (KK P) (.ref 514) = true := by kernel_rfl
theorem ka23 (P : Params) : PySem.W.nsIn (KK P) mainGlobals "_law_power" = some (some (.ref 521)) := by kernel_rfl
theorem kl23 (P : Params) : (KK P).lookup 521 = some ⟨.type "function", none, .func (PySem.W.fnOf "_law_power" "_law_power" (defArgs s__law_power) (defBody s__law_power) (defScope s__law_power) .none .none .none (.str "law_sumcraft_k53_what_terms_are_worth" 798) none (.ref 520) .none), #[]⟩ := by kernel_rfl
theorem kc23 (P : Params) : PySem.W.codeIn (KK P) (.ref 520) "_law_power" = true := by kernel_rfl
theorem kk23 (P : Params) : PySem.W.keepIn (KK P) (.ref 521) = true := by kernel_rfl
theorem ka24 (P : Params) : PySem.W.nsIn (KK P) mainGlobals "_law_ways" = some (some (.ref 528)) := by kernel_rfl
theorem kl24 (P : Params) : (KK P).lookup 528 = some ⟨.type "function", none, .func (PySem.W.fnOf "_law_ways" "_law_ways" (defArgs s__law_ways) (defBody s__law_ways) (defScope s__law_ways) .none .none .none (.str "law_sumcraft_k53_what_terms_are_worth" 798) none (.ref 527) .none), #[]⟩ := by kernel_rfl
theorem kc24 (P : Params) : PySem.W.codeIn (KK P) (.ref 527) "_law_ways" = true := by kernel_rfl
theorem kk24 (P : Params) : PySem.W.keepIn (KK P) (.ref 528) = true := by kernel_rfl
theorem ka25 (P : Params) : PySem.W.nsIn (KK P) mainGlobals "_law_worth" = some (some (.ref 535)) := by kernel_rfl
theorem kl25 (P : Params) : (KK P).lookup 535 = some ⟨.type "function", none, .func (PySem.W.fnOf "_law_worth" "_law_worth" (defArgs s__law_worth) (defBody s__law_worth) (defScope s__law_worth) .none .none .none (.str "law_sumcraft_k53_what_terms_are_worth" 798) none (.ref 534) .none), #[]⟩ := by kernel_rfl
theorem kc25 (P : Params) : PySem.W.codeIn (KK P) (.ref 534) "_law_worth" = true := by kernel_rfl
theorem kk25 (P : Params) : PySem.W.keepIn (KK P) (.ref 535) = true := by kernel_rfl
theorem ka26 (P : Params) : PySem.W.nsIn (KK P) mainGlobals "_law_alike" = some (some (.ref 542)) := by kernel_rfl
theorem kl26 (P : Params) : (KK P).lookup 542 = some ⟨.type "function", none, .func (PySem.W.fnOf "_law_alike" "_law_alike" (defArgs s__law_alike) (defBody s__law_alike) (defScope s__law_alike) .none .none .none (.str "law_sumcraft_k53_what_terms_are_worth" 798) none (.ref 541) .none), #[]⟩ := by kernel_rfl
theorem kc26 (P : Params) : PySem.W.codeIn (KK P) (.ref 541) "_law_alike" = true := by kernel_rfl
theorem kk26 (P : Params) : PySem.W.keepIn (KK P) (.ref 542) = true := by kernel_rfl
theorem ka27 (P : Params) : PySem.W.nsIn (KK P) mainGlobals "_law_made" = some (some (.ref 549)) := by kernel_rfl
theorem kl27 (P : Params) : (KK P).lookup 549 = some ⟨.type "function", none, .func (PySem.W.fnOf "_law_made" "_law_made" (defArgs s__law_made) (defBody s__law_made) (defScope s__law_made) .none .none .none (.str "law_sumcraft_k53_what_terms_are_worth" 798) none (.ref 548) .none), #[]⟩ := by kernel_rfl
theorem kc27 (P : Params) : PySem.W.codeIn (KK P) (.ref 548) "_law_made" = true := by kernel_rfl
theorem kk27 (P : Params) : PySem.W.keepIn (KK P) (.ref 549) = true := by kernel_rfl
theorem ka28 (P : Params) : PySem.W.nsIn (KK P) mainGlobals "_law_point" = some (some (.ref 556)) := by kernel_rfl
theorem kl28 (P : Params) : (KK P).lookup 556 = some ⟨.type "function", none, .func (PySem.W.fnOf "_law_point" "_law_point" (defArgs s__law_point) (defBody s__law_point) (defScope s__law_point) .none .none .none (.str "law_sumcraft_k53_what_terms_are_worth" 798) none (.ref 555) .none), #[]⟩ := by kernel_rfl
theorem kc28 (P : Params) : PySem.W.codeIn (KK P) (.ref 555) "_law_point" = true := by kernel_rfl
theorem kk28 (P : Params) : PySem.W.keepIn (KK P) (.ref 556) = true := by kernel_rfl
theorem ka29 (P : Params) : PySem.W.nsIn (KK P) mainGlobals "_law_far" = some (some (.ref 561)) := by kernel_rfl
theorem kl29 (P : Params) : (KK P).lookup 561 = some ⟨.type "function", none, .func (PySem.W.fnOf "_law_far" "_law_far" (defArgs s__law_far) (defBody s__law_far) (defScope s__law_far) .none .none .none (.str "law_sumcraft_k53_what_terms_are_worth" 798) none (.ref 560) .none), #[]⟩ := by kernel_rfl
theorem kc29 (P : Params) : PySem.W.codeIn (KK P) (.ref 560) "_law_far" = true := by kernel_rfl
theorem kk29 (P : Params) : PySem.W.keepIn (KK P) (.ref 561) = true := by kernel_rfl
theorem ka30 (P : Params) : PySem.W.nsIn (KK P) mainGlobals "law" = some (some (.ref 566)) := by kernel_rfl
theorem kl30 (P : Params) : (KK P).lookup 566 = some ⟨.type "function", none, .func (PySem.W.fnOf "law" "law" (defArgs s_law) (defBody s_law) (defScope s_law) .none .none .none (.str "law_sumcraft_k53_what_terms_are_worth" 798) none (.ref 565) .none), #[]⟩ := by kernel_rfl
theorem kc30 (P : Params) : PySem.W.codeIn (KK P) (.ref 565) "law" = true := by kernel_rfl
theorem kk30 (P : Params) : PySem.W.keepIn (KK P) (.ref 566) = true := by kernel_rfl
theorem kl31 (P : Params) : (KK P).lookup 159 = some ⟨.type "function", none, .func (PySem.W.fnOf "worth" "Part.worth" (defArgs s_Part_worth) (defBody s_Part_worth) (defScope s_Part_worth) .none .none .none (.str "sumcraft.parts" 321) none (.ref 158) .none), #[]⟩ := by kernel_rfl
theorem kc31 (P : Params) : PySem.W.codeIn (KK P) (.ref 158) "Part.worth" = true := by kernel_rfl
theorem kk31 (P : Params) : PySem.W.keepIn (KK P) (.ref 159) = true := by kernel_rfl
theorem kl32 (P : Params) : (KK P).lookup 208 = some ⟨.type "function", none, .func (PySem.W.fnOf "__init__" "Choose.__init__" (defArgs s_Choose___init__) (defBody s_Choose___init__) (defScope s_Choose___init__) .none .none .none (.str "sumcraft.parts" 321) none (.ref 207) .none), #[]⟩ := by kernel_rfl
theorem kc32 (P : Params) : PySem.W.codeIn (KK P) (.ref 207) "Choose.__init__" = true := by kernel_rfl
theorem kk32 (P : Params) : PySem.W.keepIn (KK P) (.ref 208) = true := by kernel_rfl
theorem kl33 (P : Params) : (KK P).lookup 213 = some ⟨.type "function", none, .func (PySem.W.fnOf "lifted" "Choose.lifted" (defArgs s_Choose_lifted) (defBody s_Choose_lifted) (defScope s_Choose_lifted) .none .none .none (.str "sumcraft.parts" 321) none (.ref 212) .none), #[]⟩ := by kernel_rfl
theorem kc33 (P : Params) : PySem.W.codeIn (KK P) (.ref 212) "Choose.lifted" = true := by kernel_rfl
theorem kk33 (P : Params) : PySem.W.keepIn (KK P) (.ref 213) = true := by kernel_rfl
theorem kl34 (P : Params) : (KK P).lookup 220 = some ⟨.type "function", none, .func (PySem.W.fnOf "worth" "Choose.worth" (defArgs s_Choose_worth) (defBody s_Choose_worth) (defScope s_Choose_worth) .none .none .none (.str "sumcraft.parts" 321) none (.ref 219) .none), #[]⟩ := by kernel_rfl
theorem kc34 (P : Params) : PySem.W.codeIn (KK P) (.ref 219) "Choose.worth" = true := by kernel_rfl
theorem kk34 (P : Params) : PySem.W.keepIn (KK P) (.ref 220) = true := by kernel_rfl
theorem kl35 (P : Params) : (KK P).lookup 246 = some ⟨.type "function", none, .func (PySem.W.fnOf "floor" "Choose.floor" (defArgs s_Choose_floor) (defBody s_Choose_floor) (defScope s_Choose_floor) .none .none .none (.str "sumcraft.parts" 321) none (.ref 245) .none), #[]⟩ := by kernel_rfl
theorem kc35 (P : Params) : PySem.W.codeIn (KK P) (.ref 245) "Choose.floor" = true := by kernel_rfl
theorem kk35 (P : Params) : PySem.W.keepIn (KK P) (.ref 246) = true := by kernel_rfl
theorem kl36 (P : Params) : (KK P).lookup 265 = some ⟨.type "function", none, .func (PySem.W.fnOf "__init__" "Weight.__init__" (defArgs s_Weight___init__) (defBody s_Weight___init__) (defScope s_Weight___init__) .none .none .none (.str "sumcraft.parts" 321) none (.ref 264) .none), #[]⟩ := by kernel_rfl
theorem kc36 (P : Params) : PySem.W.codeIn (KK P) (.ref 264) "Weight.__init__" = true := by kernel_rfl
theorem kk36 (P : Params) : PySem.W.keepIn (KK P) (.ref 265) = true := by kernel_rfl
theorem kl37 (P : Params) : (KK P).lookup 272 = some ⟨.type "function", none, .func (PySem.W.fnOf "worth" "Weight.worth" (defArgs s_Weight_worth) (defBody s_Weight_worth) (defScope s_Weight_worth) .none .none .none (.str "sumcraft.parts" 321) none (.ref 271) .none), #[]⟩ := by kernel_rfl
theorem kc37 (P : Params) : PySem.W.codeIn (KK P) (.ref 271) "Weight.worth" = true := by kernel_rfl
theorem kk37 (P : Params) : PySem.W.keepIn (KK P) (.ref 272) = true := by kernel_rfl
theorem kl38 (P : Params) : (KK P).lookup 298 = some ⟨.type "function", none, .func (PySem.W.fnOf "__init__" "Power.__init__" (defArgs s_Power___init__) (defBody s_Power___init__) (defScope s_Power___init__) .none .none .none (.str "sumcraft.parts" 321) none (.ref 297) .none), #[]⟩ := by kernel_rfl
theorem kc38 (P : Params) : PySem.W.codeIn (KK P) (.ref 297) "Power.__init__" = true := by kernel_rfl
theorem kk38 (P : Params) : PySem.W.keepIn (KK P) (.ref 298) = true := by kernel_rfl
theorem kl39 (P : Params) : (KK P).lookup 305 = some ⟨.type "function", none, .func (PySem.W.fnOf "worth" "Power.worth" (defArgs s_Power_worth) (defBody s_Power_worth) (defScope s_Power_worth) .none .none .none (.str "sumcraft.parts" 321) none (.ref 304) .none), #[]⟩ := by kernel_rfl
theorem kc39 (P : Params) : PySem.W.codeIn (KK P) (.ref 304) "Power.worth" = true := by kernel_rfl
theorem kk39 (P : Params) : PySem.W.keepIn (KK P) (.ref 305) = true := by kernel_rfl
theorem kl40 (P : Params) : (KK P).lookup 345 = some ⟨.type "function", none, .func (PySem.W.fnOf "__init__" "Growth.__init__" (defArgs s_Growth___init__) (defBody s_Growth___init__) (defScope s_Growth___init__) .none .none .none (.str "sumcraft.parts" 321) none (.ref 344) .none), #[]⟩ := by kernel_rfl
theorem kc40 (P : Params) : PySem.W.codeIn (KK P) (.ref 344) "Growth.__init__" = true := by kernel_rfl
theorem kk40 (P : Params) : PySem.W.keepIn (KK P) (.ref 345) = true := by kernel_rfl
theorem kl41 (P : Params) : (KK P).lookup 352 = some ⟨.type "function", none, .func (PySem.W.fnOf "worth" "Growth.worth" (defArgs s_Growth_worth) (defBody s_Growth_worth) (defScope s_Growth_worth) .none .none .none (.str "sumcraft.parts" 321) none (.ref 351) .none), #[]⟩ := by kernel_rfl
theorem kc41 (P : Params) : PySem.W.codeIn (KK P) (.ref 351) "Growth.worth" = true := by kernel_rfl
theorem kk41 (P : Params) : PySem.W.keepIn (KK P) (.ref 352) = true := by kernel_rfl
theorem kl42 (P : Params) : (KK P).lookup 419 = some ⟨.type "function", none, .func (PySem.W.fnOf "__init__" "Term.__init__" (defArgs s_Term___init__) (defBody s_Term___init__) (defScope s_Term___init__) .none .none .none (.str "sumcraft.terms" 685) none (.ref 418) .none), #[]⟩ := by kernel_rfl
theorem kc42 (P : Params) : PySem.W.codeIn (KK P) (.ref 418) "Term.__init__" = true := by kernel_rfl
theorem kk42 (P : Params) : PySem.W.keepIn (KK P) (.ref 419) = true := by kernel_rfl
theorem kl43 (P : Params) : (KK P).lookup 426 = some ⟨.type "function", none, .func (PySem.W.fnOf "told" "Term.told" (defArgs s_Term_told) (defBody s_Term_told) (defScope s_Term_told) .none .none .none (.str "sumcraft.terms" 685) none (.ref 425) .none), #[]⟩ := by kernel_rfl
theorem kc43 (P : Params) : PySem.W.codeIn (KK P) (.ref 425) "Term.told" = true := by kernel_rfl
theorem kk43 (P : Params) : PySem.W.keepIn (KK P) (.ref 426) = true := by kernel_rfl
theorem kl44 (P : Params) : (KK P).lookup 431 = some ⟨.type "function", none, .func (PySem.W.fnOf "worth" "Term.worth" (defArgs s_Term_worth) (defBody s_Term_worth) (defScope s_Term_worth) .none .none .none (.str "sumcraft.terms" 685) none (.ref 430) .none), #[]⟩ := by kernel_rfl
theorem kc44 (P : Params) : PySem.W.codeIn (KK P) (.ref 430) "Term.worth" = true := by kernel_rfl
theorem kk44 (P : Params) : PySem.W.keepIn (KK P) (.ref 431) = true := by kernel_rfl
theorem kx0 (P : Params) : PySem.W.nsIn (KK P) mainGlobals "NoNumber" = some (some (.ref 37)) := by kernel_rfl
theorem kx1 (P : Params) : PySem.W.excIn (KK P) 37 bmV "ValueError.__new__" = true := by kernel_rfl
theorem kx2 (P : Params) : PySem.W.nsIn (KK P) mainGlobals "NoTerm" = some (some (.ref 49)) := by kernel_rfl
theorem kx3 (P : Params) : PySem.W.excIn (KK P) 49 bmV "ValueError.__new__" = true := by kernel_rfl
theorem kx4 (P : Params) : PySem.W.nsIn (KK P) mainGlobals "Choose" = some (some (.ref 249)) := by kernel_rfl
theorem kx5 (P : Params) : Cls (KK P) 249 := ⟨by kernel_rfl, by kernel_rfl, by kernel_rfl, by kernel_rfl⟩
theorem kx6 (P : Params) : Mk (KK P) 249 208 := ⟨by kernel_rfl, by kernel_rfl, by kernel_rfl, by kernel_rfl⟩
theorem kx7 (P : Params) : Meth (KK P) 249 "lifted" 213 := ⟨by kernel_rfl, by kernel_rfl, by kernel_rfl⟩
theorem kx8 (P : Params) : Meth (KK P) 249 "worth" 220 := ⟨by kernel_rfl, by kernel_rfl, by kernel_rfl⟩
theorem kx9 (P : Params) : Meth (KK P) 249 "floor" 246 := ⟨by kernel_rfl, by kernel_rfl, by kernel_rfl⟩
theorem kx10 (P : Params) : NoAttr (KK P) 249 "above" := by show PySem.W.findIn _ _ _ = _; kernel_rfl
theorem kx11 (P : Params) : NoAttr (KK P) 249 "lows" := by show PySem.W.findIn _ _ _ = _; kernel_rfl
theorem kx12 (P : Params) : OCl (KK P) 249 := ⟨by kernel_rfl, by kernel_rfl, by kernel_rfl, by kernel_rfl⟩
theorem kx13 (P : Params) : PySem.W.nsIn (KK P) mainGlobals "Growth" = some (some (.ref 369)) := by kernel_rfl
theorem kx14 (P : Params) : Cls (KK P) 369 := ⟨by kernel_rfl, by kernel_rfl, by kernel_rfl, by kernel_rfl⟩
theorem kx15 (P : Params) : Mk (KK P) 369 345 := ⟨by kernel_rfl, by kernel_rfl, by kernel_rfl, by kernel_rfl⟩
theorem kx16 (P : Params) : Meth (KK P) 369 "worth" 352 := ⟨by kernel_rfl, by kernel_rfl, by kernel_rfl⟩
theorem kx17 (P : Params) : NoAttr (KK P) 369 "fraction" := by show PySem.W.findIn _ _ _ = _; kernel_rfl
theorem kx18 (P : Params) : OCl (KK P) 369 := ⟨by kernel_rfl, by kernel_rfl, by kernel_rfl, by kernel_rfl⟩
theorem kx19 (P : Params) : PySem.W.nsIn (KK P) mainGlobals "Part" = some (some (.ref 190)) := by kernel_rfl
theorem kx20 (P : Params) : Cls (KK P) 190 := ⟨by kernel_rfl, by kernel_rfl, by kernel_rfl, by kernel_rfl⟩
theorem kx21 (P : Params) : Meth (KK P) 190 "worth" 159 := ⟨by kernel_rfl, by kernel_rfl, by kernel_rfl⟩
theorem kx22 (P : Params) : Mk0 (KK P) 190 := ⟨by kernel_rfl, by kernel_rfl, by kernel_rfl⟩
theorem kx23 (P : Params) : PySem.W.nsIn (KK P) mainGlobals "Power" = some (some (.ref 329)) := by kernel_rfl
theorem kx24 (P : Params) : Cls (KK P) 329 := ⟨by kernel_rfl, by kernel_rfl, by kernel_rfl, by kernel_rfl⟩
theorem kx25 (P : Params) : Mk (KK P) 329 298 := ⟨by kernel_rfl, by kernel_rfl, by kernel_rfl, by kernel_rfl⟩
theorem kx26 (P : Params) : Meth (KK P) 329 "worth" 305 := ⟨by kernel_rfl, by kernel_rfl, by kernel_rfl⟩
theorem kx27 (P : Params) : NoAttr (KK P) 329 "fraction" := by show PySem.W.findIn _ _ _ = _; kernel_rfl
theorem kx28 (P : Params) : OCl (KK P) 329 := ⟨by kernel_rfl, by kernel_rfl, by kernel_rfl, by kernel_rfl⟩
theorem kx29 (P : Params) : PySem.W.nsIn (KK P) mainGlobals "Term" = some (some (.ref 444)) := by kernel_rfl
theorem kx30 (P : Params) : Cls (KK P) 444 := ⟨by kernel_rfl, by kernel_rfl, by kernel_rfl, by kernel_rfl⟩
theorem kx31 (P : Params) : Mk (KK P) 444 419 := ⟨by kernel_rfl, by kernel_rfl, by kernel_rfl, by kernel_rfl⟩
theorem kx32 (P : Params) : Meth (KK P) 444 "told" 426 := ⟨by kernel_rfl, by kernel_rfl, by kernel_rfl⟩
theorem kx33 (P : Params) : Meth (KK P) 444 "worth" 431 := ⟨by kernel_rfl, by kernel_rfl, by kernel_rfl⟩
theorem kx34 (P : Params) : NoAttr (KK P) 444 "parts" := by show PySem.W.findIn _ _ _ = _; kernel_rfl
theorem kx35 (P : Params) : NoAttr (KK P) 444 "pieces" := by show PySem.W.findIn _ _ _ = _; kernel_rfl
theorem kx36 (P : Params) : PySem.W.nsIn (KK P) mainGlobals "Weight" = some (some (.ref 282)) := by kernel_rfl
theorem kx37 (P : Params) : Cls (KK P) 282 := ⟨by kernel_rfl, by kernel_rfl, by kernel_rfl, by kernel_rfl⟩
theorem kx38 (P : Params) : Mk (KK P) 282 265 := ⟨by kernel_rfl, by kernel_rfl, by kernel_rfl, by kernel_rfl⟩
theorem kx39 (P : Params) : Meth (KK P) 282 "worth" 272 := ⟨by kernel_rfl, by kernel_rfl, by kernel_rfl⟩
theorem kx40 (P : Params) : NoAttr (KK P) 282 "form" := by show PySem.W.findIn _ _ _ = _; kernel_rfl
theorem kx41 (P : Params) : OCl (KK P) 282 := ⟨by kernel_rfl, by kernel_rfl, by kernel_rfl, by kernel_rfl⟩
theorem kx42 (P : Params) : PySem.W.kitOne (KK P) (.ref 249) (.ref 190) = some true := by kernel_rfl
theorem kx43 (P : Params) : PySem.W.kitOne (KK P) (.ref 282) (.ref 190) = some true := by kernel_rfl
theorem kx44 (P : Params) : PySem.W.kitOne (KK P) (.ref 329) (.ref 190) = some true := by kernel_rfl
theorem kx45 (P : Params) : PySem.W.kitOne (KK P) (.ref 369) (.ref 190) = some true := by kernel_rfl
theorem kx46 (P : Params) : PySem.W.nsIn (KK P) mainGlobals "abs" = some none := by kernel_rfl
theorem kx47 (P : Params) : PySem.W.nsIn (KK P) mainGlobals "range" = some none := by kernel_rfl
theorem kx48 (P : Params) : PySem.W.nsIn (KK P) mainGlobals "min" = some none := by kernel_rfl
theorem kx49 (P : Params) : PySem.W.nsIn (KK P) mainGlobals "all" = some none := by kernel_rfl
theorem kx50 (P : Params) : PySem.W.nsIn (KK P) mainGlobals "zip" = some none := by kernel_rfl
theorem kx51 (P : Params) : PySem.W.nsIn (KK P) mainGlobals "len" = some none := by kernel_rfl
theorem kx52 (P : Params) : PySem.W.nsIn (KK P) mainGlobals "isinstance" = some none := by kernel_rfl
theorem kx53 (P : Params) : PySem.W.nsIn (KK P) mainGlobals "int" = some none := by kernel_rfl
theorem kx54 (P : Params) : PySem.W.nsIn (KK P) mainGlobals "bool" = some none := by kernel_rfl
theorem kx55 (P : Params) : PySem.W.nsIn (KK P) mainGlobals "tuple" = some none := by kernel_rfl
theorem kx56 (P : Params) : PySem.W.nsIn (KK P) mainGlobals "list" = some none := by kernel_rfl
theorem kx57 (P : Params) : PySem.W.nsIn (KK P) mainGlobals "max" = some none := by kernel_rfl
theorem kx58 (P : Params) : PySem.W.nsIn (KK P) mainGlobals "LONG" = some (some (.int 4000 279)) := by kernel_rfl
theorem kx59 (P : Params) : PySem.W.nsIn (KK P) mainGlobals "FEW" = some (some (.int 16 323)) := by kernel_rfl
theorem kx60 (P : Params) : PySem.W.nsIn (KK P) mainGlobals "MOST_PARTS" = some (some (.int 6 687)) := by kernel_rfl
theorem kx61 (P : Params) : PySem.W.nsIn (KK P) mainGlobals "GREATEST" = some (some (.ref 374)) := by kernel_rfl
theorem kx62 (P : Params) : ∀ H : Hp, SqT (KK P) H 374 [.int (3), .int (3), .int (9)] := fun H => .inr ⟨⟨.type "tuple", none, .seq #[.int (3) 700, .int (3) 701, .int (9) 702], #[]⟩, _, _, by kernel_rfl, rfl, rfl, by decide, .cons ⟨_, rfl⟩ (.cons ⟨_, rfl⟩ (.cons ⟨_, rfl⟩ .nil))⟩
theorem kx63 (P : Params) : PySem.W.nsIn (KK P) mainGlobals "UPPER_LEAST" = some (some (.ref 372)) := by kernel_rfl
theorem kx64 (P : Params) : ∀ H : Hp, SqT (KK P) H 372 [.int (0), .int (0), .int (0)] := fun H => .inr ⟨⟨.type "tuple", none, .seq #[.int (0) 689, .int (0) 690, .int (0) 691], #[]⟩, _, _, by kernel_rfl, rfl, rfl, by decide, .cons ⟨_, rfl⟩ (.cons ⟨_, rfl⟩ (.cons ⟨_, rfl⟩ .nil))⟩
theorem kx65 (P : Params) : PySem.W.nsIn (KK P) mainGlobals "LOWER_LEAST" = some (some (.ref 373)) := by kernel_rfl
theorem kx66 (P : Params) : ∀ H : Hp, SqT (KK P) H 373 [.int (-3), .int (-3), .int (-9)] := fun H => .inr ⟨⟨.type "tuple", none, .seq #[.int (-3) 694, .int (-3) 696, .int (-9) 698], #[]⟩, _, _, by kernel_rfl, rfl, rfl, by decide, .cons ⟨_, rfl⟩ (.cons ⟨_, rfl⟩ (.cons ⟨_, rfl⟩ .nil))⟩
theorem facts (w : World) (mg : Str → Option Value) (fa : Addr) (h : Heap) (KX : (KK w.params).In h) (G : h.Ns mainGlobals mg) (hmg : mg "law" = some (.ref fa)) :
    ∃ T : Tx (KK w.params) mg, T.a_law = fa ∧ ∀ (s : Shared) (v : Value), BindsTo s T.fd_law ⟨[v], []⟩ [("_law_script", v)] :=
  all_mk KX G hmg (ka0 _) (kl0 _) (kc0 _) (kk0 _) (ka1 _) (kl1 _) (kc1 _) (kk1 _) (ka2 _) (kl2 _) (kc2 _) (kk2 _) (ka3 _) (kl3 _) (kc3 _) (kk3 _) (ka4 _) (kl4 _) (kc4 _) (kk4 _) (ka5 _) (kl5 _) (kc5 _) (kk5 _) (ka6 _) (kl6 _) (kc6 _) (kk6 _) (ka7 _) (kl7 _) (kc7 _) (kk7 _) (ka8 _) (kl8 _) (kc8 _) (kk8 _) (ka9 _) (kl9 _) (kc9 _) (kk9 _) (ka10 _) (kl10 _) (kc10 _) (kk10 _) (ka11 _) (kl11 _) (kc11 _) (kk11 _) (ka12 _) (kl12 _) (kc12 _) (kk12 _) (ka13 _) (kl13 _) (kc13 _) (kk13 _) (ka14 _) (kl14 _) (kc14 _) (kk14 _) (ka15 _) (kl15 _) (kc15 _) (kk15 _) (ka16 _) (kl16 _) (kc16 _) (kk16 _) (ka17 _) (kl17 _) (kc17 _) (kk17 _) (ka18 _) (kl18 _) (kc18 _) (kk18 _) (ka19 _) (kl19 _) (kc19 _) (kk19 _) (ka20 _) (kl20 _) (kc20 _) (kk20 _) (ka21 _) (kl21 _) (kc21 _) (kk21 _) (ka22 _) (kl22 _) (kc22 _) (kk22 _) (ka23 _) (kl23 _) (kc23 _) (kk23 _) (ka24 _) (kl24 _) (kc24 _) (kk24 _) (ka25 _) (kl25 _) (kc25 _) (kk25 _) (ka26 _) (kl26 _) (kc26 _) (kk26 _) (ka27 _) (kl27 _) (kc27 _) (kk27 _) (ka28 _) (kl28 _) (kc28 _) (kk28 _) (ka29 _) (kl29 _) (kc29 _) (kk29 _) (ka30 _) (kl30 _) (kc30 _) (kk30 _) (kl31 _) (kc31 _) (kk31 _) (kl32 _) (kc32 _) (kk32 _) (kl33 _) (kc33 _) (kk33 _) (kl34 _) (kc34 _) (kk34 _) (kl35 _) (kc35 _) (kk35 _) (kl36 _) (kc36 _) (kk36 _) (kl37 _) (kc37 _) (kk37 _) (kl38 _) (kc38 _) (kk38 _) (kl39 _) (kc39 _) (kk39 _) (kl40 _) (kc40 _) (kk40 _) (kl41 _) (kc41 _) (kk41 _) (kl42 _) (kc42 _) (kk42 _) (kl43 _) (kc43 _) (kk43 _) (kl44 _) (kc44 _) (kk44 _) (kx0 _) (kx1 _) (kx2 _) (kx3 _) (kx4 _) (kx5 _) (kx6 _) (kx7 _) (kx8 _) (kx9 _) (kx10 _) (kx11 _) (kx12 _) (kx13 _) (kx14 _) (kx15 _) (kx16 _) (kx17 _) (kx18 _) (kx19 _) (kx20 _) (kx21 _) (kx22 _) (kx23 _) (kx24 _) (kx25 _) (kx26 _) (kx27 _) (kx28 _) (kx29 _) (kx30 _) (kx31 _) (kx32 _) (kx33 _) (kx34 _) (kx35 _) (kx36 _) (kx37 _) (kx38 _) (kx39 _) (kx40 _) (kx41 _) (kx42 _) (kx43 _) (kx44 _) (kx45 _) (kx46 _) (kx47 _) (kx48 _) (kx49 _) (kx50 _) (kx51 _) (kx52 _) (kx53 _) (kx54 _) (kx55 _) (kx56 _) (kx57 _) (kx58 _) (kx59 _) (kx60 _) (kx61 _) (kx62 _) (kx63 _) (kx64 _) (kx65 _) (kx66 _)
end My
open PySem PySem.W PyProof.Rows
set_option maxRecDepth 100000 in
set_option maxHeartbeats 0 in
theorem PySem.Challenge.cw_sumcraft_k53_what_terms_are_worth_holds : PySem.Challenge.rw_sumcraft_k53_what_terms_are_worth.Holds := by
  refine holds_law My.h_well fun said => ?_
  refine holds_open (r := PySem.Challenge.rw_sumcraft_k53_what_terms_are_worth.row)
    (q := My.qv) (loose := []) (Xt := My.xt)
    (XP := XL My.qv []) (Yf := My.hk.obs) (Ya := My.hk.val)
    (YP := My.hk.says) (N := 8224)
    My.left My.hk.of My.hk.keeps
    (fun s e => xl_of s (Bool.and_eq_true_iff.mp e).1)
    XL.keeps (by rfl) (by rfl) (by rfl)
    (fun s e => recFacts_of (Bool.and_eq_true_iff.mp e).2)
    (by rfl) said (by decide +kernel)
    My.h_bare ?wit ?go
  case wit => w_witness2
  case go => exact My.walk (l := PySem.Challenge.rw_sumcraft_k53_what_terms_are_worth) rfl rfl (fun w h Y => kIn_of Y) My.facts
