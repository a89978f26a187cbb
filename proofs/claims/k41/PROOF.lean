import PyProof.Rows.All
import Wide.All
import OpenK.AllK
import Wide.FinOn
import Lean
import PyProof.EqAt
import PyProof.EqKinds
import PyProof.TupleCall
import PySem.Str
import PyProof.ZipIter
import PyProof.Draws
import PyProof.StrLawsChain
import PyProof.StrLawsTight
import KE.KIntText
import OpenK.KTop
import PyProof.StationsW
import PyProof.ExcClass2
import PyProof.ExcBaseAll.ValueError
import PyProof.Rows.Catch
import OpenK.KOwn
import KE.KTryMore
import KE.FramesApart
import PyProof.RulesAs
import PyProof.NsDelKeeps
import PyProof.ExcArgs
import PyProof.Rows.SortStr
import KE.KDictSum
import PyProof.DictWalks
import PyProof.IsiH_list
import KE.KDictOf
import PyProof.NeKinds
import PyProof.StrCalls6
import PyProof.FString
import KE.KUnpack
import KE.KItemsList
import KE.KRevIter
import KE.IntBitsLaws
import PyProof.FString5
import PyProof.TupleKey
import Wide.Seal
import PyProof.Rows.SortShellK
import PyProof.DictRoadsH
import PyProof.Rows.SortRev
import PyProof.Rows.SetFrom
import PyProof.FactsAll.set_2
import PyProof.FactsAll.set_1
import PyProof.Rows.SortShell
import PyProof.Tail
import KE.KMinKey
import PyProof.ExcArgsOwn
import PyProof.ExcAttrAll.ValueError
import KE.KRevSl
import PyProof.FactsAll.dict_itemiterator_1
import PyProof.TupleOfSeq
import PyProof.WalksMore
import KE.KDictLaws
import PyProof.Rows.Range3
import PySem.Challenge.RW_askwright_k41_papers_are_right
local macro_rules|`(↑$x)=>`(($x).length)
local macro_rules|`(tactic|simp! [$x,*] $[$l:location]?)=>`(tactic|simp only [$x,*] $[$l]?)|`(tactic|dsimp! [$x,*] $[$l:location]?)=>`(tactic|dsimp only [$x,*] $[$l]?)
set_option hygiene false in
local macro_rules | `(command| #print $s:str) => do { let mut a := #[]; let mut n := 0; let mut k := 0; for c in s.getString.toList do { let v := c.toNat; n := n*64+(if v<58 then v-48 else if v<91 then v-55 else if v==95 then 62 else if v==126 then 63 else v-61); k := k+1; if k%11==0 then { a := a.push (Lean.mkIdent (Lean.Name.mkSimple ("tw"++toString n))); n := 0 } }; `(structure PySem.W.Fast:Prop where ($a*:True)) }
set_option maxRecDepth 100000 in
#print "8Bh3u~jDErh5xfBX9W1YnY4BPmUoUMamYDlqJVstsY8CFXoGZoD4elMC18vDvp7~Do4Ky7g~nrUP7ChqXb6wbVQ55P9LadiKdfP0SHvofShU5c5FGf8CPGins6U6Upq3IrZ0B_a4GOL1C9z2a67NwfiANt9Q089XgWw4T606Ig0Rngv_8elBgdiTdAK11qeppOmKdKEQ2K56FsASvCYhwV~dWp5oFZ2_c7PeodiC9RlGGCTsmSFYxkzZIcnI9E6137H~Lav5DTfzikYkrf59oQJT8PCsUF1PQQ6neRlG8CbDovkeselw0rpSmQ~TsBgFzwjSpY9ST69dz2RBmEbNfFIFJfsf9uWc3Rvkf5QSIhT9~k1SujR_ppCXDlHPwCc1n8IXq5XnQEaKDsuxvMajkGn0Hi5MQSbtyS4cirPNtW2QX7fDdy34ARZtAb338s08Dp~4RGXnLW8igSB4olLMaV92nEq~Ho0~QVOB67dIPEuS8JvCQKb58r9GpU5R2_mdkl~82AOpz2tgf4VS41I49ZFaSUXAUe8FBE_SZ4FQmZ_HX89rtB9ln_Zrki9C3sthHaOtlTf88pSqAs28o87nYu9aHKXUgDo8QGYNGzdm2YrZ4nNRNJx0cu60bW90fV76~cPFLY5Rg3YXDze6s1m83IjURd3L5vy6tu2kTzmIxb0xlRD1bVmnT1twnyEcKWa~Dmg~K7tRAHv0cmM8NAmHCCCaWmjm~KVPYCc6ThdSz9uZDILThuiC4FeFZCGZR3hWkr5uewwRgQWvp5DN8v4du06eCUraBLI892k8X0gGpQQ8N84fiph3Emt_l7jRTE5xbkAGFIYb_VSp1bQAWTFFFsVwZ95Tv7fjWenpJDyAUPO2jgyWE1IKWoJvG1Z9h0UG_rj6NJA9AcJB_88QM21f3MyJaNMr4yyG2hDiM66FdWKHh3rnVM0MmSTaamSrzFNF1bsxqyqdChNtjwrjC3n8wAHy8TIxr~AnLvb1rB25I2I4ylP468Ed81WrEqX9VzlFRbwBvlGAfO5Sr9TziQ9uLBHslDp6A55x3ZZa7Hkz0XXAh5hf9sBYg9Fo5H7Q99BhWCswXrTxqtRx16PMTY3DD7e3C__lilW0zK7JpYANb7ARq1mIq27wiZLx1JQVAg1XU~W2J8Zse01ODeF0TddzBIz186ZnwqN6opr~9vdTGWtZfDtEfBKA9vZStpED6hX2fBm629K58~aw5BYFDX52LOXuaxQ0DpS86dghybCK7XiK2tzkTEprV3Bfj~LZ9xwagWL~xfJ8tdLe4JSeDi3r6v9z0DGKU1ZWFi6F0LWpE95b5AIOjY~9eO2adYxSNe1KOXY9OGWTM3SB2VRLl~vU1qfdMvGhtmB7eFXgDHzgjf8wWsT6MT2_J60nEyM2KCaS0fEw72o9604CdhE7KJDLkyEIPYD3Y4TVt5UrrHpcOvx~FqadvR58JqSDnsnC1fcnDCEgvYT4ajcf72QVY9K7_mYX5W1xPGtKQG321gNcReGbUk2U78Y~fCr6e401rK1iHbFLEhfeqUqoFnv2OkjdiZuM8e5Dlwrd4wsptAjWY5I1AAajArchYMpvRPO6rq8sEO4l4BE_ZhD_LEqKX4ghfprHwI0j7a13ArkOCf17I509S9eIgeAYvKX0MANpF8WkL4LWN~JBEJIPicvGaK98tFeywHdKhm7A7vjEib0zeFmGqS5tXk9373b8HLr8qnY4bR4FVN9gYHEaYdVsi4BVU0OiyTNwmvZ8BOklI1HlHQ0BAK7lq5SsNj3tk2cp40j00CkqbsALd~G5AD0qF8RMM8H3KnPdvdDYBa2sVoQswaXJJ3Un3jdKdZRc6pOwUEZQu2M0BogDdeh47nA2JYOpl1igpFuBUq7YFJJcFntv~mxO9em2vkxDorswtu4iZ0s~qQJ~W1ZptLaov4Q6CBrjWmmyFBPF60hDOT7ctUFj0HnGi9vI4DBx3ZTNbGt596af1xTJDrKCBLz4OvyuOi7q_UUr9s_L2FQ2OU9FtwBI7eL1nX06aWo3x0pDTqnv~T8jdvsHxIoIGADCVtBgVECJ3SGtlx2Kk8q3hnxihr7fFy9yml0OCQ9J7CjGxveYqCV8BkmXSecMGHGC3~izgDlUVh3LB6VCUkJKs80FUrd1ss5N9ubbM8WkT0oBaYqAltcIVgAfQRzU03eqv7e_TxsbXHHL2EETC3AELrj1xID60mUsVs7Ih9NeCk4lF6XzxpiTycsf6WYepVfjjtd4Ox2QbbQ9Ku5whSscr1zIV7R7KJJX0M6y6XgheHCaYv5C5BOv9xbExB0l7q5rhXiNL0QfNHSKgcWD8zG5o5svYyb2MJe9cAWTIP8tGKZyqPpH~6CTFtCf1yXN7JMMjbSCOuo0PF8hqLeZTe1y46AsypPtu6nu78sIc26o7mtUd1_9u3uEbH~wOE52gMDZMSPeQ48t~1oWkJ1AfDmn9c8nb0z7CrdDuFUAbOhT0EA5OPVpIjASrDl5Y458~~kl154zxAmKNic1PifB5Bxhnq8~5tWv_m9XtBEXBtR98zFtAUPqtiBwX2D6KQ19SS0RDr8h050_rsEms4xKndB8iadfFtnKNNHMusFB_nFU2sNBLN0tyaJdrcWO60eBXuzI5YgM4Po0r~q1bWrAlTKAgkRdpCCNiMVOlts7wBxsT68604LK7fcXZ5pX7ro3qTWHzQv1Xt1wHjOZFK2qcFmb03~sOsZy6HkUZG0u_tM8mfYDqg6DkHE4EY4T_BtAE10m6EMcNAgoB1jgGQp6ibH0Au~IUmgBTEASneJPn5hLN5mi1_y3eUyZ8TgLR7cCjkNDQPcYqWsNxC3PWCOpPrB1z8~yVmepUIwH55vNy6ZxPUJEindlAUwigiDtNzLh8REuZFa_5CNiSHmJ4Kb3jh4KLwN7rGt_vxOwodFg64lw~Mkf76~zX4Q3GHhX4YUVtep2UbE92bgT1I8wPN0nCXNh8UWdx2bnIrFZvqVs7gzYCwopYXpFMbRUBHVCxY6JopXmtmxwIBEkVagKLqs04GGSyxAhX6nCCIKr9YcvDOAqUW0AMc_nPB3PqfrZp0Xs4LXfCVWXMsl9QTkMW4C4UXCIBKStq46LB2Gl~ZoxkP3Q7fXNP0KU51O8lLvZXQSF~l4hjH2kVyZ9C1oRQKcvqV8A0FTbpCZ8wvD4OKNKOnxJ7YC42auIWvwIr7zZn5y_OC3K4zILRnZ8~iK3OUMVdQwrOXDbFnWGECaht06d59wSZK0t5j2q2VyHsby9KRLkJUuKoBBN7Jq_UVj5jCCaz0bt3bZEANmZLxGgJ202ZqCGiVK_iJ4F1kbLeR86MEQ50iwCd2tD15jI20PLwlD1rUH~nvDG6CFDBZnCQYTkmBPdNbQSq~Eo1gxipjR1l6DDiZwxPKxG9S6OIxX1ScDBxALZelto1KXyD8hwY8zIJjI0ViyvJCuymt1gO8VWHQoYb7HIJmE96Jty6yJq~rRZ5Ik6LKg8efZbas1fQtdiPosvU4DAZWoInApX1s4WU6gx70q8L0rQ5ASC1cFBphNeunU2X8H5st8F2wBS4DicXs8CQi8FJ64tacyWt85dqMVD5uuq_CXdUZERLV4oA2OUYbfxD_RFQqyk2_WwdN56tNcwAe88h5yF0kDbP1zm3N8wpd18H6j6Mn6vN6hhgPCvaUf9dU2a2FipLKICX1dQCtBG0ROSQxY9sukk5giYwT3zhVcfzClMbDT7JpVm218S1yLQN6oAIaq2HD8_DiRkgW5049yf3aRhDCLlFQFDS5627GYgg6KYpCq4ihP~suUG7iAyREKjz_wQjAISZwwTOJ7n2b3J9XZwWfJ7OqSfxwzkMA2arCAkyS2dhAZRiM27QJfvBn2_HvLTOSFDNDqlufcWWHFdxCBJGiJ4Y2tmY13d51sf5PKW~plhz9GBGu1jx7tpYHFJDXZj9xKKj3nnnxX2di4KCdrc7XFSFoe8ogpB12S43V85YkosievTpDqTLFFwAUpd48ObUYj~oCn2VGnRj_IN6215tyTP230f99Oew_iCzXE~ETRBOjXaW2s8dwD1J09KJ073tkR5WqJeLF17RAEBFFKf5P48qPAYL_2ADmoGM95zm53Do1T_auko66YkFoks65sCALrDGua~HMf1jcbWQaFKV49YnMSRXHVy0CUaNF5Xwvp38wBXJgj48bLCkGyWvurlXU8ddipwkjwFf47J2cE6iPxZ5jleR7_elPUCCr_~faJGpA0DQpXatWVHXF4Q7m1xA1drBjrsI9~HBse7fAeehaG9Ep3N9_PvpprYM1dJV65F~YFt6nA0j1R88TmFrOyNZLiYcA1fZv5aCv60t5EQauFrjLOI35uAbFaR3L94UjWIdYjktr2IsZ05Hc9BW2dd8vXlGZwhEL~BTVGuvoG4WoT7ckFZRV4ybM~s4rlVcCPn_8CKtY0V9J4WDEbDE051w4SanqdaCk6ONWd78NgAI99Qut_zok4o98zPZ_3SmPrFhHtUimq9V5A2B0DAdIkqvDn1X18jLrJa55X3OTeWdId5djP2J9PzNcEiTiYFRjdA~023E1jC4gGkDtvdd74pJSD8VzZEHFqKX26rm5RjJ_BN6Bqbvq1Vd22BEcVGR5bYM1e04c5jCCqR6v3BXvV4cX5xY0jE169QmXrG4mCVYsDtgB3DUT_lvFAdpZFCsv1H83aq0AN8PDXECBFo79GOHVUtAb7Fm3MP5C6F8uA2Ijif3rjavFCt3u6SqjAJ4L25Xxxziig4rC~7c98ELQ807jbxqa8AX8TOaLcoJjJn6z~9dLb3jqODrN_pp3Yon93jjXizU03j257vaEC7Z5us0hJz8VmF1Rv7Ywi9iMGtbJ8ff6qppq5UBABF~6J5GtsZ4sxfPdFZZt~D4XaAIGarqI0bI0lNCTQA_3v4jvEvb8ktD7GrfmQa3Lw0AsuZ1YfqHG1ueSJjaMU7a0TroqhMyIq~EhioGlRYKaf73SvzCB6Ni24kWrAdlhcgVAZgo_CXn2l2F1KXp39A70x5igA_8ovWMh4HqQ0dxa2RG3II4pgDeuYL1pV9Gc_kgeB5RdLK3AqgkhCmCbUeOvfFD00JJ2bbQXOq8f5hQ65AyAY4RwR2UNLWsv5AM6SZArrN12uOj3NizQle4L0j6snBguQ8o7idIi6jdE1hDBkhaRcY15csvn9Ux7JJ7ROKRzemcAq2zUN5LESlx61pZvQ6GiHg362RbozA5jgI0yTBBG_i6CWCuF1ztfm9OO1mGmesVjtPY6mTAFIXLQqO9HEZFsTq_es0W8WUX6OajZ1nATTF5eKWT8S~XOfyeiya7e3~PuLRxFiE2ijmCXmrgn0jUjqprBK0U9igSrAT1fiN3J8tSlXywub06eTJ1zaUaj1SKkjYPFIOhC7SQZgNy8dc2BSK7VKixF~CtHyHLHvE4hCmhFik1Z2Sf12IoGL4CT6i0nRomq5rrzPC4okHGWgMG87EZckEnGthwAkEJbTvBkwIFpRBoSiZMlm7ewaWT0bDhy2OwFPIJxSz69A2iT~J5oyR8NdAsrvc4glFUuQrHOJoSpFyiaN357hR3BZtxHO0YlXQ9E_8BadD930Biuy0mjwVNgEVpQjKzCvBi7Cc7xBRVamQ4BYtwtjCx243GbsGXpmNa18NBzdMdx~os0lERdS2Be5a4akSVKWtgSd4UOzIepocGt78ygZRfcLaSAzqHMqOUwSMAT5BR3ZYqXq1Yj4aynsWbT1phPiC9jZWW5VwFUKCC~hm"
set_option bootstrap.genMatcherCode false
set_option genSizeOf false
set_option compiler.extract_closed false
local macro_rules | `(tactic| trivial) => `(tactic| first | rfl | exact .inl rfl | exact .inr rfl | exact .inr (.inl rfl) | decide +kernel | (intro _; rfl) | omega | exact ⟨rfl,rfl,rfl,by decide +kernel,rfl,by decide +kernel,by decide +kernel⟩ | (intro _ _ _ _ _ _ us hl; rcases us with _|⟨_,_|⟨_,_|⟨_,_|⟨_,_|⟨_,_|⟨_,_⟩⟩⟩⟩⟩⟩ <;> first | rfl | cases hl) | (intro _ _ _ _ h; cases h; subst_vars; rfl))
set_option hygiene false in
local macro_rules | `(tactic| ac_rfl) => `(tactic| ((try dsimp only);first|assumption|exact Inv.tk (by assumption)|exact Nat.succ_pos _|exact Nat.lt_of_lt_of_le (Inv.tk (by assumption)) (by assumption)|exact Nat.add_pos_left (Inv.tk (by assumption)) _|omega))
local macro_rules | `(()) => `(by trivial)
local macro_rules | `(#[$f:ident,$n:num,$xs,*]) => do let h ← `(_); let b ← `(by trivial); let mut a := Array.replicate n.getNat h; for x in xs.getElems do { match x.raw.isNatLit? with | some k => a := a ++ Array.replicate k h | none => a := a.push (if x.raw.isOfKind ``Lean.Parser.Term.hole then b else x) }; `(@$f $a*)
local macro_rules | `(⟨$xs,*⟩) => do let h ← `(_); let r ← `(rfl); let mut a := #[]; let mut c := false; for x in xs.getElems do { match x.raw.isNatLit? with | some 0 => { a := (a.push h).push r; c := true } | some _ => { a := a.push r; c := true } | none => a := a.push x }; if c then `(⟨$a,*⟩) else Lean.Macro.throwUnsupported
set_option hygiene false
local macro_rules | `(#v[$xs,*]) => do let mut r ← `(qd); for x in xs.getElems.reverse do { r ← `(#[qb,5,$x,$r,_]) }; return r
local macro_rules | `(%[$xs,*|$k]) => do let mut r ← `(#[qe,3,$k]); for x in xs.getElems.reverse do { r ← `(#[qc,5,$x,$r]) }; return r
local macro_rules|`(#[w])=>`((by with_unfolding_all rfl))|`(#[X,X])=>`((model X.prog X.w))|`(#[w,w])=>`((model prog w))|`(#[Y,$a,$b])=>`((⟨$a,$b⟩:Sy.Ss (SyP qs)))|`(#[K,$a,$b,$c,$d,$e])=>`(FnOk P w K mg base CX0 $a $b $c $d $e)|`(#[K,$s:str])=>`((PySem.W.nsIn K mainGlobals $s))|`(#[K,$x,$s:str])=>`((PySem.W.findIn K (.ref $x) $s=some none))|`(#[0,$s:ident])=>`($(Lean.mkIdent (s.getId++`heap.objs.size)))|`(#[I])=>`(Inv X oq σ H s)|`(#[$f:ident,T])=>`($f (P:=P) (w:=w) (base:=base) T)|`(#[$f:ident,T,C])=>`($f (P:=P) (w:=w) (base:=base) T C)
local macro_rules|`(#[$f:ident,$xs,*])=>do{let a:=xs.getElems;let k:=f.getId.toString++":"++toString a.size;match ("xl:27ab Qi:14a Qb:13a_ qz:49a_bcd____ yh:32a2_bcA__ jt:14a qp:48abcd qav:14_a_ qo:14a YO:38BAabc_ qP:22a1bAC_ qE:32a4bACc__ Q7:14a qD:15a qH:27abDE Qa:14a_ j0:6iabcdef_____ zd:62aFb9cAdeGf_ xI:14a qV:38abc qF:38abc qq:3maH_#b$b%bIJc___ Qp:38abcK ya:38abc pe_gR:14_a_ qS:49a_bcd____ xg:4gabcd jN:13a pi_tup:14a QE:26LabE ZL:27ab zl:15a Qh:18MaA Js:39LabcA Qj:5qab&cdH%cIJe___ QN:4nab&cdH%cIJ_ WG:16a_ pc_din:35abc Wm:14a jH:16_Na_ Xz:6nabH_c%dIef___".splitOn " ").find? (·.startsWith k) with|none=>Lean.Macro.throwUnsupported|some e=>let t:Array Lean.Term:=#[←`(rfl),←`(uR),←`(Or.inl rfl),←`(qi),←`((λ_ _=>rfl)),←`((1)),←`((λ_ _ _ _ _ _=> @yq _)),←`(hr.mono ()),←`(.nil),←`(qy),←`(qw _),←`(QT hr),←`(pv 0),←`(T.J2)];let mut r:=#[];let mut q:=Lean.Name.anonymous;for c in (e.drop k.length).toString.toList do{let v:=c.toNat;if v<48 then q:=#[`m,`F.kp,`b,`h][v-35]! else if v<58||v>102 then r:=r.push ⟨Lean.Syntax.mkNumLit (toString (if v<58 then v-48 else v-93))⟩ else if v<91 then r:=r.push t[v-65]! else if v==95 then r:=r.push ⟨Lean.mkNode ``Lean.Parser.Term.hole #[Lean.mkAtom "_"]⟩ else{let x:=a[v-97]!;r:=r.push (if q.isAnonymous then x else Lean.mkIdent (x.raw.getId++q));q:=Lean.Name.anonymous}};`(#[$f:ident,$r,*])}
local macro_rules|`(tactic|exists $es,*)=>do{let a:=es.getElems;match a[0]!.raw.isNatLit? with|some 2=>let b:=a.extract 1 a.size;`(tactic|intro oq s σ H $b*)|some 6=>let x:Lean.Ident:=⟨a[1]!.raw⟩;let y:Lean.Ident:=⟨a[2]!.raw⟩;`(tactic|obtain ⟨$x:ident,$y:ident⟩:=$(a[3]!) X G $(a[4]!) $(a[5]!) (by rfl'))|some 7=>`(tactic|try dsimp only [cxOf,Cx.nox])|some 3=>`(tactic|(refine ⟨_,$(a[1]!),?_⟩;exists 7;exists 4))|some 4=>`(tactic|try (apply cl_i (a:=K) (b:=a);intro _ _))|some 5=>`(tactic|repeat (first|(with_reducible refine gN_ ?_)|(with_reducible refine seq_0 ?_;intro _ _ _)|(with_reducible refine if_C ?_;intro _ _)|(with_reducible refine while_C ?_;intro _ _)|(with_reducible refine for_C ?_;intro _ _)))|some 8=>let x:Lean.Ident:=⟨a[1]!.raw⟩;let y:Lean.Ident:=⟨a[2]!.raw⟩;`(tactic|((first|refine seq_oC ?_|(exists 4;refine seq_oC ?_));intro _ _ $x $y _))|some 9=>let x:=Lean.mkIdent (a[1]!.raw.getId++`F.ok);let y:Lean.Ident:=⟨(a.getD 3 (Lean.mkIdent `hr)).raw⟩;`(tactic|refine $x $(a[2]!) (by trivial) (λ_ _ _ s H _ Q E $y h=>?_))|_=>let h←`(?_);let b:=if a.any fun x=>(x.raw.find? (·.isOfKind `Lean.Parser.Term.syntheticHole)).isSome then a else a.push h;`(tactic|(exists 5;refine ⟨$b,*⟩))}
set_option hygiene true
set_option hygiene false in
local macro_rules | `(tactic| rfl') => `(tactic| first | exact bo1 (fun _ _ _ _ _ _ _ => rfl) | exact bo2 (fun _ _ _ _ _ _ _ _ => rfl) | exact bo3 (fun _ _ _ _ _ _ _ _ _ => rfl) | exact bo4 (fun _ _ _ _ _ _ _ _ _ _ => rfl))
set_option hygiene false in
local macro_rules|`(tactic|erw [$rs,*])=>do{let rec f (e:Lean.Syntax):Nat->Lean.MacroM (Lean.TSyntax `Lean.Parser.Tactic.rcasesPatLo)|0=>`(Lean.Parser.Tactic.rcasesPatLo|_)|n+1=>do{if e.isIdent then{let x:Lean.Ident:=⟨e⟩;`(Lean.Parser.Tactic.rcasesPatLo|$x:ident)}else{match e with|`([$xs,*])=>do{let mut p:=#[];for x in xs.getElems do{p:=p.push (← f x n)};let q:=p;let t←`(rcasesPat|⟨$q,*⟩);`(Lean.Parser.Tactic.rcasesPatLo|$t:rcasesPat)}|_=>`(Lean.Parser.Tactic.rcasesPatLo|_)}};let mut p:=#[];let mut h:Array Lean.Term:=#[];for r in rs.getElems do{match r with|`(Lean.Parser.Tactic.rwRule|$e:term)=>{if h.size==0 then h:=h.push e else p:=p.push (← f e 9)}|_=>Lean.Macro.throwUnsupported};let q:=p;let g:=h[0]!;`(tactic|obtain ⟨$q,*⟩:=$g)}
local macro_rules|`([$a:term : $b:term])=>`(⟨$a,$b⟩)|`([$a:term : $b:term : $c:term])=>`(⟨$a,$b,$c⟩)
set_option hygiene false in
local macro_rules(kind:=Lean.Parser.Command.declaration)|x=>do{let d:=x[1];let h:=x[0];let k:=d.getKind;let s:=d[2][1][0];let p:=fun (n:Lean.Name) (f:Lean.Name) (t:Array Lean.Name)=>Lean.mkNode `Lean.Parser.Term.explicitBinder #[Lean.mkAtom "(",Lean.mkNullNode #[Lean.mkIdent n],Lean.mkNullNode #[Lean.mkAtom ":",if t.isEmpty then Lean.mkIdent f else Lean.mkNode `Lean.Parser.Term.app #[Lean.mkIdent f,Lean.mkNullNode (t.map fun u=>(Lean.mkIdent u).raw)]],Lean.mkNullNode,Lean.mkAtom ")"];let b:=fun l=>Lean.mkNullNode (d[2][0].getArgs++l);if k==`Lean.Parser.Command.inductive&&s[1].getId==`Sp then return x.setArg 1 (d.setArg 2 (Lean.mkNode d[2].getKind #[b #[p `vs `List #[`V],p `H `Hp #[],p `Q `VK #[],p `E_ `XK #[]],Lean.mkNullNode #[s.setArg 1 (Lean.mkNode `Lean.Parser.Term.prop #[Lean.mkAtom "Prop"])]]))else if k==`Lean.Parser.Command.abbrev then{let y:=x.setArg 0 ((h.setArg 6 Lean.mkNullNode).setArg 4 (Lean.mkNullNode #[Lean.mkNode `Lean.Parser.Command.noncomputable #[Lean.mkAtom "noncomputable"]]));if h[6].getNumArgs>0 then return y else if (h.find? (·.isAtom)).isSome||d[1][0].getId==`VE then Lean.Macro.throwUnsupported else return y.setArg 1 (Lean.mkNode `Lean.Parser.Command.definition #[Lean.mkAtom "def",d[1],d[2],d[3],Lean.mkNullNode])}else if k != `Lean.Parser.Command.definition then Lean.Macro.throwUnsupported else if (h.find? (·.isAtom)).isSome||d[2][1].getNumArgs==0 then Lean.Macro.throwUnsupported else{let t:=s[1];let n:=t[1][0].getId;let o:=t[0].getAtomVal=="#["&&(n==`C||n==`T);let l:=if o then #[p `T `Tx #[`K,`mg,`a]]++(if n==`C then #[p `C `Fx #[`K,`w,`mg,`g,`a]]else #[])else #[];return x.setArg 1 (Lean.mkNode `Lean.Parser.Command.theorem #[Lean.mkAtom "theorem",d[1],Lean.mkNode `Lean.Parser.Command.declSig #[b l,if o then s.setArg 1 (t.setArg 1 (t[1].setArg 0 (Lean.mkIdent `K)))else s],d[3]])}}
local macro_rules|`(-$x:ident)=>`(.ref $x)|`(-$x:str)=>`(.str $x)|`(-[$x,*])=>`(.tup [$x,*])
local macro_rules|`(!$x:ident)=>`(.str $x)
local macro_rules|`(¬$x:ident)=>`(.tup $x)
local macro_rules|`($x>$y)=>`($x∈$y)
noncomputable section
set_option Elab.async false
set_option linter.all false
set_option maxRecDepth 100000
set_option maxHeartbeats 4000000
open PySem.W renaming Frag->o0,mg_of->uO,kia_one->vw,callWith_K->U4
open PySem renaming Addr->o3,Value->o6,Shared->o7,Heap->o8,Program->o9,World->og,Around->oh,wpAny_bind->A7,wpAny_pure->uw,sizeLine_eq->uB,boot_len->uL,wpAny_with_toks->uW,wpAny_mono->vg,wpAny_field->vh,wpAny_callSpecial?_slot->vj,wpAny_setField_rec->vt,wpAny_truthy_bool->vx,wpAny_newObj_type->vy,wpAny_call_entry->vH,mem_of_lookup->vJ,typeIs_str->vP,call_meets->vQ,wpAny_execs_nil->vW,wpAny_pyIter_tuple->U3,codeAny_call_builtin->Ud,wpAny_passesOwn->Uf,codeAny_mono->Uh,wpAny_attempt->Uj,wpAny_seqItems->Um,wpAny_Call_Name_kw->Ut,tupleKind_room_in1->Uu,wpAny_isInstance->UG,wpAny_rule->UJ,codeAny_builtin->UQ,wpAny_pyIter_list->UX,wpAny_call->UZ,wpAny_execs_cons->V8,wpAny->Vh,FuncData->Vi,sizeLine->Vk,starEach->Vl,cLine->Vr,compareOp->Vs,backTo->Vt,model->Vu,IsPair->Vx,Scope->VA,sysModules->VC,mainGlobals->VD,IsZip->VI,binaryOp->VJ,wpAny_holding->VL,codeAny->VM,pyNext->VO,Builtin->VP,rawInt->VQ,field->VR,bindL->VT,valueAt->VU,getItem->VV,NameKind->VW,bindC->VX,holding->VY,IsEnum->VZ,unsetMember->V_,sliceBounds->gV,assignEach->g_,IsPart->Gg,keywordEach->Gi,backToKw->Gk,atKey->Gm,assign->Gn,Model->Gq,Keyword->Gu,callerA->Gx,Result->Gy,bindArgs->Gz,wpAny_typeOf->GC,swapsWith->GG,standAt->GK,stored->GM,attributeBase->GN,Meets->GQ,cellsFrom->GR,getMethod->GV,bootBuiltins->GX,BindsTo->GZ,CmpOp->hV,typeOf->hW,DictEntry->hZ,tupleKind->h_,Operator->Hl,callWith->Hm,checkBuiltinCall->Ho,subscripted->Hq,behindInMarks->Ht,limitOf->Hu,InCallC->Hv,Params->Hz,wpAny_of_eq->HB,wpAny_standAt->HC,IsRangeIter->HD,wpAny_onRaise->HI,typeLookup->HJ,boundAndCalled->HL,letOwnedTupleGo->HR,storeName->HS,operate->HU,newList->HV,pyIter->HY,getAttr?->tj,call_meetsIn->tD,cellOf->tF,getAttrByItsOwn->tG,IsEnumOut->tH,wpAny_load->tI,argsOk->tJ,closureFor->tL,compEnvC->tQ,leaving->tR,GenState->tZ,wpAny_Expr_any->T1,seq_tuple_add->T2,inplaceOp->T9,setItem->Tc,seqItems?->Tf,builtinsNs->Tn,foldedSetIterable->To,evalPart_none->Tp,wpAny_mkText->Ts,wpAny_newList->Tv,plainId_quiet->TB,noFill_tuple_add->TC,concat_meets->TJ,wpAny_letGo->TK,strKind_is->TL,newFunctionEnv->TQ,wpAny_Name->TY,PlainAttrs->F0,seqIndex_of->Fa,newTuple->Fd,wpAny_Call_method->Fg,getAttr->Fi,slicePick->Fm,firstArgMember->Fp,seqIndex_neg->Fq,noteFrame->Fu,wpAny_getItem_list_slice->Fy,wpAny_loadName_local->FC,wpAny_looks_onW->FE,wpAny_updateSeq_pair->FI,wpAny_pyNext_range_end->FJ,wpAny_isTrue_Compare1->FL,wpAny_in_of->FO,wpAny_pyIter_range->FU,meets_str_split_sep->F_,meets_str_split_cannot_occur->r6,wpAny_pyNext_list_end->rc,wpAny_pyIter_rangeiter->rp,wpAny_handleBy_cons->rD,wpAny_loadName_cell->rE,wpAny_landsW->rJ,isSubtype_stop->rL,builtinKind->rM,checkTypeCall->rO,intBits_le_64->R1,listOfItself->R7,wpAny_pyIter_zip->R9,interactive->Rf,wpAny_assign_Name->Rg,wpAny_comprehension_free->Rh,builtinLookup_eq_fast->Rp,wpAny_Slice->Ru,joinFit_length->Rx,codeAny_handlers_test->Ry,wpAny_pyNext_list_item->RF,callType_codes->RG,wpAny_Try_except->RJ,wpAny_notIn_of->RM,pushCells_keeps->RP,wpAny_throw->RS,codeAny_of_tree->RT,wpAny_newTuple->RV,wpAny_pyIter_enum->RW,attributeErrorLeaves->RX,evalPart_some->RY,wpAny_sequenceKey->RZ,wpAny_point->p7,meets_str_split_not_found->p8,typeLookup_type->pc,split_sep_max_tree->pd,wpAny_loadPart->pf,wpAny_getItem_of->pA,getattributeRaised->pC,raiseAttrError->pD,wpAny_storeName_local->pF,wpAny_setField->pK,unbindBehindTheSuite->pM
open List renaming mem_cons->Aa,mem_singleton->Ab,mem_append->Ac,mem_map->Ae,getElem?_eq_some_iff->Af,length_map->u9,mem_cons_of_mem->uc,mem_cons_self->uf,getElem?_eq_getElem->uh,length_cons->ui,map_append->uq,size_toArray->ur,map_cons->uA,getElem?_map->uG,not_mem_nil->uH,length_append->uI,map_map->uK,mem_append_right->uN,mem_of_getElem?->uQ,getElem_mem->uT,mem_nil_iff->uU,drop_eq_getElem_cons->uV,find?_cons->v9,append_nil->ve,lookup_cons->vk,take_add_one->vn,take_of_length_le->vq,mem_append_left->vz,all_cons->vB,nodup_nil->vF,length_take->vG,nodup_cons->vN,filter_cons->vR,length_range->vT,filterMap_cons->vU,length_drop->vZ,cons_append->U0,take_length->U1,length_singleton->U6,mem_of_find?_eq_some->Ub,filterMap_cons_some->Ug,map_nil->Ui,eq_nil_of_length_eq_zero->Uk,all_eq_true->Ul,getElem?_set_self->Uo,drop_of_length_le->Up,find?_eq_none->Uv,forIn_cons->Uy,take_append_drop->UA,any_cons->UB,sum_cons->UC,getElem?_append_right->UD,getElem?_set_ne->UE,getElem?_append_left->UF,map_congr_left->UH,all_map->UK,all_append->UP,getLast?_cons_cons->UU,map_take->UW,take_sublist->V0,append_assoc->V1,reverse_cons->V4,mem_range->V5,range->Vp,Nodup->Vy,lookup->VG,getD->G6,length->Gb,set->Go,range'->GW,find?_some->HA,map_id->HF,range_succ->HN,replicate->tu,length_nil->tP,length_filter_le->tT,eq_nil_or_concat->tU,mem_of_mem_drop->tW,nil_append->tY,any_eq_false->t_,nodup_append->T4,mem_of_mem_take->T5,getElem?_range->T8,drop_zero->Td,any_map->Tg,zipWith_cons_cons->TU,of_mem_zip->T_,map->Fb,range_succ_eq_map->Ff,take_succ_cons->Fk,zipIdx_nil->FB,filter_append->FG,find?->FR,mem_of_getLast?->FV,cons_lt_cons_iff->FY,find?_append->rf,getElem?_eq_none->rg,length_replicate->rm,any_eq_true->rq,concat_eq_append->rA,any_toArray->rZ,all_nil->R8,forIn_nil->Rj,append_inj'->Rk,drop_length->RK,mem_map_of_mem->ph,getElem?_replicate->pk,take_zero->pH,length_set->pJ,zipIdx_cons->pL,mem_cons->uD,mem_singleton->Uw
open Bool renaming false_ne_true->u8,and_eq_true->uC,eq_iff_iff->vM,false_eq_true->U5,and_true->U7,or_eq_true->US,and_self->Vd,true->v_,false->Vg,noConfusion->HM,true_and->Tb,not_true->Tl,false_or->TH,and_false->f_,and_assoc->rC,false_and->r_
open PySem.Heap renaming get?_push_of_some->ub,get?_push_size->uE,lt_size->uF,size_push->vm,SameBut->VS,FlyingW->TF,get?_update_self->Fj,get?_update_other->Fs,ExtBut->rN,IsTuple->Rb
open Nat renaming le_refl->uj,ne_of_lt->uP,zero_le->uS,le_trans->uZ,lt_of_le_of_lt->vA,lt_irrefl->vL,log2_le_self->vS,ne_of_gt->U2,not_lt_zero->UR,le_of_lt->V6,lt_or_ge->V7,lt_succ_self->V9,le_add_right->Va,lt_of_lt_of_le->Vv,lt_trans->HK,le_succ->HQ,succ_pos->HW,le_total->tS,zero_add->tV,succ->TD,min_eq_left->TN,sub_self->Fo,succ_le_succ->rh,one_mul->rF,le_of_eq->R6,eq_zero_or_pos->RD,add_mul->RI,add_zero->RN
open Option.some renaming inj->uJ,injEq->P0
open PySem.PassesOwn renaming never->uR
open PySem.F renaming plainAttrs_str->uX,plainAttrs_list->vc,entry_str_split->vC,slot_list_append->vD,type_list_append->vE,slot_str_split->vI,slot_tuple_iterator_next->vY,args_str_split_2->U8,slot_str_join->U9,type_str_join->Ua,type_str_split->Ur,slot_enumerate_next->Uz,args_tuple_add_2->UI,entry_tuple_add->UN,plainAttrs_dict->UO,slot_str_split->Uq
open PySem.Around renaming in1_units->uY,under->Te,under_plainId->TM
open PyProof.Rows renaming boot_isinstance->vb,boot_tuple->vo,callWith_type1->vv,slot_tuple_getitem->vK,boot_str->Ue,envOfC->Vn,AllBare->Ge,IntsAre->GJ,IsTup->G_,Call_->Hk,boot_all->Hy,subscriptTail->HH,Subscript_->HZ,tail_any->tN,boot_range->Tw,StrsAre->TR,entry_tuple_getitem->FN,isTrue_plain->FQ,args_tuple_getitem->FT,slicePart_none->rn,subscriptTail_builtinR->rB,tupleItemsOf_->RA,lands_againW->p9,iadd_int->Pi,callWith_builtin1->Pw
open Array renaming length_toList->vi,getElem?_toList->tX,size_append->Tq,toList_append->TW,append_assoc->TX,toList->FD,size_push->pB
open Option renaming isSome_none->vO,some->u_,none->U_,isNone->Hn,map_some->tM,map_eq_none_iff->T7,isSome_map->Tu,getD_none->Fw,isSome_some->re,map->Ra
open Ne renaming symm->vV
open PySem.Calls renaming callWith_builtin->vX,evalArgs_plain->Uc,spliced_cons->Us,spliced_nil->UY,call_len_list->Rq,Name_function_global->RO
open Sum.inr renaming inj->Ux
open PySem.SeqAt.EqAt renaming int_str->UL,str_int->UM,same->tO,str_str->Fc,int_int->Ft,str_none->FA,none_str->rG,str_tuple->rQ,of_refs->rW,int_none->rY,int_tuple->Rc,tuple_str->Rv,none_int->R_,tuple_int->pG,bool_none->pX,tuple_none->p_,bool_str->Pc,none_tuple->Pg,none_bool->Pj,bool_int->Pm,int_bool->Pn,str_bool->Pq,bool_bool->Pv
open List.cons renaming injEq->UT,inj->Pk
open Int renaming emod_lt_of_pos->UV,emod_nonneg->tE,toNat_natCast->Fe,ediv_one->rT
open PySem.SeqAt.RcAt renaming tuples->V2,tuple_str->pS,none_tuple->Pa,str_tuple->Po,str_str->Pr
open Nat.le renaming dest->Vf
open Sum renaming inr->Vj,inl->GO
open PySem.Value renaming ref->Vm,str->VH,none->Gf,int->GD,type->GE,bool->GS,float->T0,isInt->Fv,isStrOf->Rl,bytes->pE
open PySem.Str renaming join->Vo,length->Gh,ofString->GB,empty->TV
open ToString renaming toString->Vq
open False renaming elim->Vw
open PySem.SeqAt renaming EqAt->Vz,in_tupleAt->FW,RcAt->rK,RcNeAt->rX,in_listAt->RU
open PySem.NameKind renaming free->VB,cell->Gj
open PySem.Builtin.Str renaming strKind->VF,occurrences->Hx
open True renaming intro->VN
open Unit renaming unit->G7
open ForIn renaming forIn->G9
open PySem.StrLaws renaming occBody->Gr,partsFrom->HX,glued_eq_join->FS,strSub_toList->rV,joinTotal->Ri,occ_eq->Rm
open PySem.Txt renaming startswith->GF,slice->HG,mul->Tt,slice_le->Rt
open Or renaming inr->GH,inl->GL
open PySem.Builtin.SmallTypes renaming nextOf->GP,ownedTupleIsFree->GT,ownedTupleHandOut->HP
open PySem.Builtin.Tuple renaming tupleExact->GU,tupleItemsOf->p6,tupleIsExact->Pu
open ForInStep renaming yield->GY
open PyProof.Rows.IsTup renaming new->Hr
open PySem.Obj renaming mapSeq->Hw,data_mapFields->Rr,mapFields->pw
open PySem.Builtin.Slice renaming slicePlaces->HE,sliceAdjust->Tz,sliceApplied->RE,slicePartIndex->pY,sliceFields->Ph
open PySem.Builtin.Range renaming rangeSize->H_,small->pN,rangeFitsLong->pV
open PySem.Builtin.List renaming listTooLong->T6
open PySem.Code renaming isFrame->Ta,quiet_builtin->FH,frames->RB
open PySem.Shared renaming heap->Ti
open LawfulMonad renaming pure_bind->Tj
open PySem.Heap.DictOf renaming new->Fz
open PySem.Builtin.Dict renaming updateFrom->FK,selfAndRest->Px
open PySem.DictEntry renaming refKey->FX
open PySem.Data renaming fields->rH,cell->RQ
open PySem.SeqAt.RcNeAt renaming tuples->rP,str_tuple->pP,str_str->pW,tuple_str->Pl
open PySem.IsRange renaming new->rR
open PySem.Bind renaming checkArgs->rS
open PySem.Heap.IsSliceOf renaming new->Re
open PyProof renaming noPylong_small->Ro
open PySem.Heap.SameBut renaming update->Rs
open List.Pairwise renaming nil->Rz,map->pQ,imp_of_mem->Pd
open PySem.Walks renaming range->RH,strWide->RL,strAscii->pq
open Classical renaming choose_spec->pI
open PySem.AutoSeq1 renaming list_extend_list_list_0->pO
open List.Nodup renaming sublist->pR
open PySem.Value.ref renaming inj->pT
open Int.ofNat renaming inj->pU
open PySem.Manifest renaming signature?->pZ
open PySem.Heap.IsList renaming push->Pb
open PySem.MeetsSeq renaming list_pop_last->Pe
open PySem.Heap.Ns1 renaming of_empty->Pf
open List.Sublist renaming refl->Ps
nonrec abbrev oj:=List
nonrec abbrev om:=Option
abbrev A4:=@if_neg
abbrev A6:=@if_pos
abbrev A8:=@absurd
abbrev A9:=@congrArg
abbrev ud:=@decide_eq_true
abbrev ug:=@decide_eq_false
abbrev um:=@of_decide_eq_true
abbrev uM:=@or_false
abbrev vd:=@decide_eq_decide
abbrev vf:=@decide_eq_true_eq
abbrev V3:=@not_false_eq_true
abbrev Vb:=@not_or
abbrev Vc:=@if_false
abbrev Ve:=@if_true
namespace L2
open PySem PySem.Spec PyProof.Rows
nonrec abbrev Key:=Sum Int Str
abbrev oZ:Key->o6->Bool
 | .inl k,v=>Fv k v
 | .inr x,v=>Rl x v
abbrev Ae9 (w:og):Key->Int
 | .inl k=>hashInt k
 | .inr x=>hashStr w x
def Qw:∀{k:Key}{v:o6},oZ k v=v_->(∃i t,k=GO i/\v=GD i t)\/(∃x t,k=Vj x/\v=VH x t)
 | .inl i,v,h=>by
  erw[Value.isInt_shape (k:=i) (v:=v) h,t,e];exact .inl ⟨i,t,1,e⟩
 | .inr x,v,h=>by
  erw[Value.isStrOf_shape (x:=x) (v:=v) h,t,e];exact .inr ⟨x,t,1,e⟩
def EI (i:Int)(t:Tok):oZ (.inl i) (.int i t)=true:=by simp[oZ,Fv]
def EH (x:Str)(t:Tok):oZ (.inr x) (.str x t)=true:=by simp[oZ,Rl]
def Ab4 (a b:Int):decide ((GO a:Key)=GO b)=(a==b):=by
 by_cases e:a=b
 .subst e;simp
 .have h:¬(GO a:Key)=GO b:=λq=>e (Sum.inl.inj q);rw[ug h];exact(beq_eq_false_iff_ne.mpr e).symm
def Ab1 (a b:Str):decide ((Vj a:Key)=Vj b)=decide (a=b):=by
 by_cases e:a=b
 .subst e;simp
 .have h:¬(Vj a:Key)=Vj b:=λq=>e (Ux q);rw[ug h,ug e]
def Ab3 (a:Int)(b:Str):decide ((GO a:Key)=Vj b)=false:=ug (λq=>nomatch q)
def Ab2 (a:Str)(b:Int):decide ((Vj a:Key)=GO b)=false:=ug (λq=>nomatch q)
abbrev Qm (prog:o9)(w:og):PySem.KeyKind prog w Key where
 is:=oZ
 hash:=Ae9 w
 inj:=λv a b ha hb=>by
  rcases Qw ha with⟨i,t,rfl,rfl⟩|⟨x,t,rfl,rfl⟩
  .rcases Qw hb with⟨j,u,rfl,e⟩|⟨y,u,rfl,e⟩
   .injection e with e1 _;rw[e1]
   .exact nomatch e
  .rcases Qw hb with⟨j,u,rfl,e⟩|⟨y,u,rfl,e⟩
   .exact nomatch e
   .injection e with e1 _;rw[e1]
 byValue:=λk v h=>by
  rcases Qw h with⟨i,t,rfl,rfl⟩|⟨x,t,rfl,rfl⟩<;>rfl
 pyHash:=λhv h=>by
  rcases Qw hv with⟨i,t,rfl,rfl⟩|⟨x,t,rfl,rfl⟩
  .exact wpAny_pyHash_int h
  .exact wpAny_pyHash_str h
 eqBool:=λhu hv h=>by
  rcases Qw hu with⟨i,t,rfl,rfl⟩|⟨x,t,rfl,rfl⟩
  .rcases Qw hv with⟨j,u,rfl,rfl⟩|⟨y,u,rfl,rfl⟩
   .rw[Ab4] at h;exact wpAny_eqBool_int h
   .rw[Ab3] at h;exact UL i t y u _ _ _ _ h
  .rcases Qw hv with⟨j,u,rfl,rfl⟩|⟨y,u,rfl,rfl⟩
   .rw[Ab2] at h;exact UM x t j u _ _ _ _ h
   .rw[Ab1] at h;exact wpAny_eqBool_str h
 «strs»:=λk x t v h=>by
  rcases Qw h with⟨i,u,rfl,e⟩|⟨y,u,rfl,e⟩
  .exact nomatch e
  .injection e with e1 _
   subst e1
   cases v<;>rfl
def Ar (prog:o9)(w:og)(i:Int)(t:Tok):(Qm prog w).is (.inl i) (.int i t)=true:=EI i t
def wC (prog:o9)(w:og)(x:Str)(t:Tok):(Qm prog w).is (.inr x) (.str x t)=true:=EH x t
inductive V where
 |non|bl (b:Bool)|int (i:Int)|str (x:Str)|byt (b:Array UInt8)|flt (b:UInt64)|ref (a:Addr)|ty (n:String)
 deriving DecidableEq
abbrev ik:V->o6->Prop
 | .non,u=>u=Gf
 | .bl b,u=>u=GS b
 | .int i,u=>∃t,u=GD i t
 | .str x,u=>∃t,u=VH x t
 | .byt b,u=>∃t,u=pE b t
 | .flt b,u=>∃t,u=T0 b t
 | .ref a,u=>u=Vm a
 | .ty n,u=>u=GE n
nonrec abbrev iw:oj V->oj o6->Prop:=Paired ik
variable {xs:oj V}{us:oj o6}
def iw.length (r:iw xs us):↑xs=↑us:=Paired.length r
def iw.get:∀{xs:oj V}{us:oj o6}{i:Nat}{x:V},iw xs us->xs[i]? =u_ x->∃u,us[i]? =u_ u/\ik x u
 |_,_,_,_,.nil,e=>by simp at e
 |_,_,0,_,.cons r _,e=>by simp at e;subst e;exact[0:r]
 |_,_,i+1,x,.cons _ t,e=>by
  obtain⟨u,h1,h2⟩:=iw.get (i:=i) (x:=x) t (by simpa using e)
  exact⟨u,by simpa using h1,h2⟩
def iw.set {x:V}{u:o6}(r:ik x u):∀{xs:oj V}{us:oj o6} (i:Nat),iw xs us->iw (xs.set i x) (us.set i u)
 |_,_,_,.nil=> .nil
 |_,_,0,.cons _ t=> .cons r t
 |_,_,i+1,.cons q t=> .cons q (iw.set r i t)
def iw.append:∀{xs ys:oj V}{us ws:oj o6},iw xs us->iw ys ws->iw (xs++ys) (us++ws)
 |_,_,_,_,.nil,s=>s
 |_,_,_,_,.cons r t,s=> .cons r (iw.append t s)
def iw.take:∀{xs:oj V}{us:oj o6} (n:Nat),iw xs us->iw (xs.take n) (us.take n)
 |_,_,0,_=> .nil
 |_,_,_+1,.nil=> .nil
 |_,_,n+1,.cons r t=> .cons r (iw.take n t)
def iw.drop:∀{xs:oj V}{us:oj o6} (n:Nat),iw xs us->iw (xs.drop n) (us.drop n)
 |_,_,0,r=>r
 |_,_,_+1,.nil=> .nil
 |_,_,n+1,.cons _ t=>iw.drop n t
abbrev nu:om V->om o6->Prop
 |some v,u_ u=>ik v u
 |none,U_=>True
 |_,_=>False
abbrev KV {κ:Type}:oj (κ×V)->oj (κ×o6)->Prop:=Paired λ(p:κ×V) (q:κ×o6)=>p.1=q.1/\ik p.2 q.2
abbrev kV:Key->V
 | .inl i=> .int i
 | .inr x=> !x
inductive HO where
 |lst (xs:List V)
 |tup (xs:List V)
 |dK (kvs:List (Key×V))|dT (kvs:List (List Key×V))
 |set (S:Int->Bool)(n:Nat)
 |ins (C dx:Addr)(fs:List (Str×V))
 |own (x:Addr)
 |xd (fs:List (Str×V))
 |met (f x:Addr)
 |rng (lo hi:Int)
 |frz (o:Obj)(u:HO)
 |tbl (ps:Array o6)
 |ext (φ:Heap->Prop)
nonrec abbrev Hp:=o3->om HO
abbrev upd (H:Hp)(a:o3)(o:HO):Hp:=λb=>if b=a then u_ o else H b
variable {H:Hp}{a:o3}
def qg {o:HO}:upd H a o a=u_ o:=by unfold upd;rw[A6 rfl]
variable {b:o3}
def qj {o:HO}(h:b≠a):upd H a o b=H b:=by unfold upd;rw[A4 h]
def AdB {o u:HO}(h:H a=u_ o)(h':H b=u_ u)(d:o≠u):a≠b:=by
 intro e;subst e;rw[h] at h';exact d (uJ h')
def qk {o:HO}(h:H a=u_ o)(h':H b=U_):a≠b:=by
 intro e;subst e;rw[h] at h';cases h'
section
variable (P:o9)(w:og)
abbrev ye (H:Hp)(h:o8)(a:o3):HO->Prop
 | .lst xs=>↑xs<=Vk/\∃(its:oj o6) (n:Nat),iw xs its/\h.get? a=u_ {cls:= .type "list",data:= .seq its.toArray n}
 | .tup xs=>↑xs<=Vk/\∃its:oj o6,iw xs its/\G_ h a its.toArray
 | .dK kvs=>↑kvs<=Vk/\(a==VC)=Vg/\∃vs,KV kvs vs/\h.DictOf (Qm P w) a vs
 | .dT kvs=>↑kvs<=Vk/\(a==VC)=Vg/\∃xs:oj (oj Key×o3×o6),
   Paired (λ(p:oj Key×V) (q:oj Key×o3×o6)=>p.1=q.1/\H q.2.1=u_ (.tup (p.1.map kV))/\ik p.2 q.2.2) kvs xs/\
   ∃o es ep,h.get? a=u_ o/\o.ExactDict/\o.data= .dict es ep/\es.toList=xs.map (entryOfKey (h_ (Qm P w)))/\(xs.map (·.1)).Nodup
 | .set S n=>h.SetOf (intKind P w) a S n
 | .ins C dx fs=>H dx=u_ (.own a)/\↑fs<=1000/\dx≠a/\h.get? a=u_ (PySem.W.instObj C dx)/\
   ∃mA,h.Ns1 dx mA/\(∀f,nu (fs.lookup f) (mA f))/\PySem.Within mA (fs.map (·.1))
 | .own _=>∃o,h.get? a=u_ o
 | .xd fs=>∃mA,h.Ns1 a mA/\∀f,nu (fs.lookup f) (mA f)
 | .rng lo hi=>∃t u v,h.get? a=u_ {cls:= .type "range",data:= .fields #[.int lo t,.int hi u,.int 1 v]}
 | .frz o u=>h.get? a=u_ o/\ye H h a u
 | .tbl ps=>h.get? a=u_ {cls:= .none,data:= .fields ps}
 | .met f x=>h.get? a=u_ (PySem.W.methodObj (-f) (-x))
 | .ext φ=>φ h/\(∃o,h.get? a=u_ o)/\∀h1 h2:o8,φ h1->(∀o,h1.get? a=u_ o->h2.get? a=u_ o)->φ h2
abbrev HOk (H:Hp)(h:o8):Prop:=∀a o,H a=u_ o->ye P w H h a o
end
section
variable {P:o9}{w:og}{H H':Hp}{h h':o8}{a:o3}{o:HO}
def ye.lt (x:ye P w H h a o):a<h.objs.size:=by
 cases o with
 |lst xs=>erw[x,_,_,_,_,e];exact uF e
 |tup xs=>erw[x,_,_,_,p];exact p.lt
 |dK kvs=>erw[x,_,_,_,_,o,_,_,e,_];exact uF e
 |dT kvs=>erw[x,_,_,_,_,o,_,_,e,_];exact uF e
 |set S n=>erw[x,o,_,_,_,e,_];exact uF e
 |ins C dx fs=>erw[x,_,_,_,e,_];exact uF e
 |own y=>erw[x,_,e];exact uF e
 |xd fs=>erw[x,_,[_,_,_,e,_],_];exact uF e
 |rng lo hi=>erw[x,_,_,_,e];exact uF e
 |frz ob u=>erw[x,e,_];exact uF e
 |tbl ps=>exact uF (show h.get? a=u_ _ from x)
 |met f y=>exact uF (show h.get? a=u_ _ from x)
 |ext φ=>erw[x,_,[_,e],_];exact uF e
def Paired.mapP {α β:Type}{F G:α->β->Prop}:∀{l₁:oj α}{l₂:oj β},Paired F l₁ l₂->(∀a b,F a b->G a b)->Paired G l₁ l₂
 |_,_,.nil,_=> .nil
 |_,_,.cons r t,f=> .cons (f _ _ r) (Paired.mapP t f)
def ye.stay (x:ye P w H h a o)(k:∀b u,(b=a\/H b=u_ (.own a))->h.get? b=u_ u->h'.get? b=u_ u)
  (O:∀b,H b=u_ (.own a)->H' b=u_ (.own a)) (U:∀b xs,H b=u_ (¬xs)->H' b=u_ (¬xs)):ye P w H' h' a o:=by
 induction o with
 |lst xs=>erw[x,z,its,n,r,e];exact⟨z,its,n,r,k _ _ (.inl rfl) e⟩
 |tup xs=>erw[x,z,its,r,ob,e,c];exact⟨z,its,r,ob,k _ _ (.inl rfl) e,c⟩
 |dK kvs=>erw[x,z,y,vs,r,ob,es,ep,e,c];exact⟨z,y,vs,r,ob,es,ep,k _ _ (.inl rfl) e,c⟩
 |dT kvs=>
  erw[x,z,y,xs,r,ob,es,ep,e,c];exact⟨z,y,xs,Paired.mapP r λp q z=>[z.1:U _ _ z.2.1:z.2.2],ob,es,ep,k _ _ (.inl rfl) e,c⟩
 |set S n=>erw[x,ob,es,ep,t,e,c];exact⟨ob,es,ep,t,k _ _ (.inl rfl) e,c⟩
 |ins C dx fs=>
  erw[x,d,z,ne,e,mA,[od,es,ep,e2,c],r];exact⟨O _ d,z,ne,k _ _ (.inl rfl) e,mA,⟨od,es,ep,k _ _ (.inr d) e2,c⟩,r⟩
 |own y=>erw[x,ob,e];exact[ob:k _ _ (.inl rfl) e]
 |xd fs=>erw[x,mA,[od,es,ep,e,c],r];exact[mA:⟨od,es,ep,k _ _ (.inl rfl) e,c⟩:r]
 |rng lo hi=>erw[x,t,u,v,e];exact⟨t,u,v,k _ _ (.inl rfl) e⟩
 |frz ob u ih=>erw[x,e,q];exact[k _ _ (.inl rfl) e:ih q]
 |tbl ps=>
  have e:h.get? a=u_ {cls:= .none,data:= .fields ps}:=x;show h'.get? a=u_ {cls:= .none,data:= .fields ps};exact k a _ (.inl rfl) e
 |met f y=>
  have e:h.get? a=u_ (PySem.W.methodObj (-f) (-y)):=x;show h'.get? a=u_ (PySem.W.methodObj (-f) (-y));exact k a _ (.inl rfl) e
 |ext φ=>erw[x,p,[o,e],st];exact[st _ _ p λo q=>k _ _ (.inl rfl) q:[o:k _ _ (.inl rfl) e]:st]
def HOk.lt (x:HOk P w H h)(e:H a=u_ o):a<h.objs.size:=(x a o e).lt
def HOk.fresh (x:HOk P w H h)(e:h.objs.size<=a):H a=none:=by
 cases q:H a with
 |none=>rfl
 |some u=>exact A8 (Vv (x.lt q) e) (vL _)
def HOk.kept (x:HOk P w H h)(k:∀b u,h.get? b=u_ u->h'.get? b=u_ u):HOk P w H h':=λa o e=>
 (x a o e).stay (λb u _ q=>k b u q) (λ_ q=>q) λ_ _ q=>q
def HOk.laid (x:HOk P w H h)(k:∀b u,h.get? b=u_ u->h'.get? b=u_ u)(U:h.objs.size<=a)(new:ye P w (upd H a o) h' a o):HOk P w (upd H a o) h':=λb u e=>by
 have hn:=x.fresh U;by_cases O:b=a
 .subst O;rw[qg] at e;cases e;exact new
 .rw[qj O] at e;exact(x b u e).stay (λc v _ q=>k c v q) (λc q=>by rwa[qj (qk q hn)]) λc xs q=>by rw[qj (qk q hn)];exact q
end
abbrev Rd (H:Hp)(a:o3)(u:HO):Prop:=H a=u_ u\/∃o,H a=u_ (.frz o u)
def Rd.of {u:HO}(h:H a=u_ u):Rd H a u:= .inl h
variable {w:og}{h:o8}
def Rd.ok {P:o9}{u:HO}(r:Rd H a u)(x:HOk P w H h):ye P w H h a u:=by
 rcases r with r|⟨o,r⟩
 .exact x a u r
 .erw[x a _ r,_,q];exact q
abbrev Mut:om HO->Prop
 |some (.lst _)=>True
 |some (.dK _)=>True
 |some (.dT _)=>True
 |some (.set _ _)=>True
 |some (.ins _ _ _)=>True
 |some (.ext _)=>True
 |_=>False
section
variable {P:o9}{w:og}{H:Hp}{h h':o8}{x e:o3}{o':HO}
def HOk.write (ok:HOk P w H h)(mu:Mut (H x))(he:e=x\/H e=u_ (.own x))(k:∀b u,b≠e->h.get? b=u_ u->h'.get? b=u_ u)(ac:∃u,h'.get? e=u_ u)
  (new:ye P w (upd H x o') h' x o'):HOk P w (upd H x o') h':=λb u q=>by
 have U:∀c y,H c=u_ (.own y)->c≠x:=λc y r z=>by subst z;rwa[r] at mu
 have aa:∀c xs,H c=u_ (¬xs)->c≠x:=λc xs r z=>by subst z;rwa[r] at mu
 by_cases hb:b=x
 .subst hb;rw[qg] at q;cases q;exact new
 .rw[qj hb] at q;by_cases O:b=e
  .have q':H b=u_ (.own x):=by
    rcases he with z|z
    .exact A8 (O.trans z) hb
    .rwa[O]
   rw[q] at q';cases q';erw[ac,v,hv];exact⟨v,by rwa[O]⟩
  .refine(ok b u q).stay (λc v hc r=>k c v ?_ r) (λc r=>by rwa[qj (U c b r)]) λc xs r=>by rwa[qj (aa c xs r)]
   rcases hc with rfl|hc
   .exact O
   .rintro rfl;rcases he with z|z
    .exact U c b hc z
    .rw[hc] at z;cases z;exact hb rfl
end
structure Un (fs ex:oj o3)(H H':Hp)(h h':o8):Prop where
 keep:∀b o,h.get? b=u_ o->H b=U_->b∉fs->b∉ex->h'.get? b=u_ o
 slot:∀b o,h.get? b=u_ o->H b=U_->b>fs->b∉ex->∃sl,h'.get? b=u_ {o with slots:=sl}
 free:∀b o,h.get? b=u_ o->H b=U_->b∉ex->H' b=U_
 there:∀b o,h.get? b=u_ o->b∉ex->∃o',h'.get? b=u_ o'
 tups:∀b xs,H b=u_ (¬xs)->H' b=u_ (¬xs)
 frzs:∀b o u,H b=u_ (.frz o u)->H' b=u_ (.frz o u)
 tbls:∀b ps,H b=u_ (.tbl ps)->∃more,H' b=u_ (.tbl (ps++more))
section
variable {fs fs' ex ex':oj o3}{H H1 H2:Hp}{h h1 h2 h':o8}{a x e:o3}{o:HO}
def Un.any (u:Un fs ex H H1 h h1){ob:Obj}(q:h.get? b=u_ ob)(n:H b=U_)(O:b∉ex):∃sl,h1.get? b=u_ {ob with slots:=sl}:=by
 by_cases U:b>fs
 .exact u.slot b ob q n U O
 .exact[ob.slots:u.keep b ob q n U O]
def Un.trans (a:Un fs ex H H1 h h1)(b:Un fs ex H1 H2 h1 h2):Un fs ex H H2 h h2 where
 keep:=λc ob q n hc O=>b.keep c ob (a.keep c ob q n hc O) (a.free c ob q n O) hc O
 slot:=λc ob q n hc O=>by
  erw[a.slot c ob q n hc O,sl,U];erw[b.slot c _ U (a.free c ob q n O) hc O,aa,e2];exact[aa:e2]
 free:=λc ob q n O=>by
  erw[a.there c ob q O,o',U];exact b.free c o' U (a.free c ob q n O) O
 there:=λc ob q O=>by
  erw[a.there c ob q O,o',U];exact b.there c o' U O
 tups:=λc xs q=>b.tups c xs (a.tups c xs q)
 frzs:=λc ob xs q=>b.frzs c ob xs (a.frzs c ob xs q)
 tbls:=λc ps q=>by
  erw[a.tbls c ps q,m1,U];erw[b.tbls c _ U,m2,e2];exact⟨m1++m2,by rw[e2,TX]⟩
def Un.kept (k:∀b u,h.get? b=u_ u->h'.get? b=u_ u):Un fs ex H H h h':=
 ⟨λb ob q _ _ _=>k b ob q,λb ob q _ _ _=>[ob.slots:k b ob q],λ_ _ _ n _=>n,λb ob q _=>[ob:k b ob q],λ_ _ q=>q,λ_ _ _ q=>q,λ_ ps q=>⟨#[],by rw[q];simp⟩⟩
def Un.refl:Un fs ex H H h h:=Un.kept λ_ _ q=>q
def Un.laid (k:∀b u,h.get? b=u_ u->h'.get? b=u_ u)(O:h.objs.size<=a)(hn:H a=U_):Un fs ex H (upd H a o) h h' where
 keep:=λb u q _ _ _=>k b u q
 slot:=λb u q _ _ _=>[u.slots:k b u q]
 free:=λb u q n _=>by rwa[qj (uP (Vv (uF q) O))]
 there:=λb u q _=>[u:k b u q]
 tups:=λb xs q=>by rwa[qj (qk q hn)]
 frzs:=λb u xs q=>by rwa[qj (qk q hn)]
 tbls:=λb ps q=>⟨#[],by rw[qj (qk q hn),q];simp⟩
def Un.write (mu:Mut (H x))(he:e=x\/H e=u_ (.own x))(k:∀b u,b≠e->h.get? b=u_ u->h'.get? b=u_ u)(U:∃u,h'.get? e=u_ u):Un fs ex H (upd H x o) h h':=by
 have hx:∀b,H b=U_->b≠x:=λb n z=>by subst z;rwa[n] at mu
 have hb:∀b,H b=U_->b≠e:=λb n z=>by
  subst z;rcases he with r|r
  .exact hx b n r
  .rw[n] at r;cases r
 have hm:∀b u,H b=u_ u->¬Mut (u_ u)->b≠x:=λb u q nm z=>by subst z;rw[q] at mu;exact nm mu
 refine⟨λb u q n _ _=>k b u (hb b n) q,λb u q n _ _=>[u.slots:k b u (hb b n) q],λb u q n _=>by rwa[qj (hx b n)],λb u q _=>?_,
  λb xs q=>by rwa[qj (hm b _ q λz=>z)],λb u xs q=>by rwa[qj (hm b _ q λz=>z)],λb ps q=>⟨#[],by rw[qj (hm b _ q λz=>z),q];simp⟩⟩
 by_cases O:b=e
 .subst O;exact U
 .exact[u:k b u O q]
end
abbrev trk (h:o8)(H:Hp):oj o3:=(Vp h.objs.size).filter λa=>(H a).isSome
abbrev Mo (h:o8)(H:Hp):o8:=PySem.W.hideAll h (trk h H)
def EU (h:o8)(H:Hp):(Mo h H).objs.size=h.objs.size:=PySem.W.hideAll_size _ _
variable {o:Obj}
def Mn (e:h.get? b=u_ o)(n:H b=U_):(Mo h H).get? b=u_ o:=
 PySem.W.hideAll_get _ e λhm=>by
  have q:(H b).isSome=true:=(List.mem_filter.mp hm).2;rw[n] at q;simp at q
def Sm (e:(Mo h H).get? b=u_ o):h.get? b=u_ o/\H b=none:=by
 have O:h.get? b=u_ o:=PySem.W.of_hideAll (trk h H) e;exists O;cases q:H b with
 |none=>rfl
 |some x=>
  have hm:b>trk h H:=List.mem_filter.mpr ⟨List.mem_range.mpr (uF O),by simp[q]⟩
  have z:(Mo h H).get? b=none:=PySem.W.hideAll_none (trk h H) hm;rw[z] at e;cases e
structure Mod (K:o0)(mg:Str->om o6)(base:o8):Prop where
 kin:K.In base
 glob:base.Ns VD mg
 blt:∃mb,base.Ns Tn mb/\∀x:Str,x≠"__name__"->mb x=GX x
 nolimit:base.NoLimit
structure Cx where
 prog:o9
 w:og
 K:o0
 mg:Str->om o6
 base:o8
 A:oh
 N:oj Str
 s₀:o7
 H₀:Hp
 env:Env
 outer:oj Env
 stack:oj Env
 ex:oj o3
 fn:Str->Bool
 calm:Bool
 pn:oj (o3×Obj)
 xe:o6->o7->Prop
abbrev frs (l:oj Env):oj o3:=l.filterMap (·.frame)
nonrec abbrev Cx.fs (X:Cx):oj o3:=frs X.outer
abbrev Vis (sc:VA)(x:Str):Prop:=sc.names.lookup x=u_ .local\/sc.names.lookup x=u_ .cell\/sc.names.lookup x=u_ .free
abbrev Loc (sc:VA)(x:Str):Prop:=sc.names.lookup x=u_ .local\/sc.names.lookup x=u_ .cell
abbrev Afj (env:Env)(h:o8)(m:Str->om o6)(x:Str)(u:o6):Prop:=
 (env.kindOf x=u_ .local/\m x=u_ u)\/((env.kindOf x=u_ .cell\/env.kindOf x=u_ .free)/\∃c,env.cells.lookup x=u_ c/\h.IsCell c (u_ u))
structure Cx.Ok (X:Cx):Prop where
 mod:Mod X.K X.mg X.base
 kind:X.env.scope.kind= .function
 glob:X.env.globals=VD
 blt:X.env.builtins=Tn
 above:X.s₀.heap.objs.size<=X.env.locals
 inj:∀x y c,X.env.cells.lookup x=u_ c->X.env.cells.lookup y=u_ c->x=y
 has:∀x,(X.env.kindOf x=u_ .cell\/X.env.kindOf x=u_ .free)->∃c,X.env.cells.lookup x=u_ c
 cab:∀x c,X.fn x=v_->X.env.cells.lookup x=u_ c->X.s₀.heap.objs.size<=c
 hd:X.calm=v_->X.A.handled=U_
 frames:X.A.frames=u_ X.stack
 stk:X.stack=X.outer\/(X.stack=X.env::X.outer/\X.env.frame=u_ X.env.locals)
 exf:∀b>X.ex,b≠X.env.locals/\∀x c,X.env.cells.lookup x=u_ c->c≠b
 bs:∀b o,X.base.get? b=u_ o->X.s₀.heap.get? b=u_ o/\X.H₀ b=U_
 bsz:X.base.objs.size<=X.s₀.heap.objs.size
 noex:∀b o,X.base.get? b=u_ o->b∉X.ex
 exfs:∀b>X.ex,b∉X.fs
 funs:X.s₀.heap.FunFrames X.base X.outer
 frf:∀b>X.fs,X.H₀ b=U_
structure Inv (X:Cx)(oq:oj (o3×Obj))(σ:oj (om V))(H:Hp)(s:o7):Prop where
 ok:X.Ok
 os:s.os=X.s₀.os
 bare:Ge s.gens
 base:Un X.fs X.ex X.H₀ H X.s₀.heap s.heap
 loc:∃m,s.heap.Ns X.env.locals m/\∀(i:Nat) (x:Str) (v:V),X.N[i]? =u_ x->σ[i]? =u_ (u_ v)->Vis X.env.scope x->∃u,ik v u/\Afj X.env s.heap m x u
 cell:∀x c,X.env.cells.lookup x=u_ c->∃v,s.heap.IsCell c v
 free:H X.env.locals=U_
 freeC:∀x c,X.env.cells.lookup x=u_ c->H c=U_
 pin:∀p>X.pn++oq,s.heap.get? p.1=u_ p.2/\H p.1=U_/\p.1≠X.env.locals/\p.1∉X.fs/\∀v,p.2.data≠ .cell v
 hok:HOk X.prog X.w H s.heap
 len:↑σ=↑X.N
 tk:0<s.toks
section
variable {X:Cx}{oq:oj (o3×Obj)}{σ:oj (om V)}{H H':Hp}{s:o7}{h':o8}
def Cx.Ok.nofr (ok:X.Ok)(e:X.base.get? b=u_ o):b∉X.fs:=λO=>by
 have:=(ok.funs.mem O).1;rw[e] at this;cases this
def Inv.bs (I:#[I]):∀b o,X.base.get? b=u_ o->s.heap.get? b=u_ o/\H b=none:=λb o e=>
 [I.base.keep b o (I.ok.bs b o e).1 (I.ok.bs b o e).2 (I.ok.nofr e) (I.ok.noex b o e):I.base.free b o (I.ok.bs b o e).1 (I.ok.bs b o e).2 (I.ok.noex b o e)]
def Inv.bk (I:#[I]):∀b o,X.base.get? b=u_ o->s.heap.get? b=u_ o:=λb o e=>(I.bs b o e).1
def Inv.mod (I:#[I]):Mod X.K X.mg X.base:=I.ok.mod
def Inv.kIn (I:#[I]):X.K.In s.heap:=I.ok.mod.kin.keeps I.bk
def Inv.lt (I:#[I]):X.env.locals<#[0,s]:=let⟨_,hn,_⟩:=I.loc;hn.lt
def Inv.sz (I:#[I]):X.s₀.heap.objs.size<=#[0,s]:=uZ I.ok.above (V6 I.lt)
def Inv.nofs (I:#[I])(h:#[0,s]<=a):a∉X.fs:=λO=>by
 erw[I.ok.funs.mem O,_,o,U,_];exact A8 (Vv (uF U) (uZ I.sz h)) (vL _)
def Inv.cne (I:#[I]):∀x c,X.env.cells.lookup x=u_ c->c≠X.env.locals:=λx c e z=>by
 erw[I.cell x c e,v,o,ho,hd];erw[I.loc,m,[o',es,ep,O,U,_],_];rw[z,O] at ho;cases ho;rw[U] at hd;cases hd
def Inv.funs (I:#[I]):s.heap.FunFrames X.base X.outer:=by
 have all:∀(l:oj Env),(∀b>frs l,b>X.fs)->X.s₀.heap.FunFrames X.base l->s.heap.FunFrames X.base l:=by
  intro l
  induction l with
  |nil=>intro _ _;trivial
  |cons env r ih=>
   intro hs hl;erw[hl,hk,[L,o,O,hn,ho,hd],hr];have U:L>X.fs:=hs L (by unfold frs;rw[vU,O];exact uf)
   obtain⟨sl,e⟩:=I.base.slot L o ho (I.ok.frf L U) U λz=>I.ok.exfs L z U;exact⟨hk,⟨L,_,O,hn,e,hd⟩,ih (λb hb=>hs b (by unfold frs;rw[vU,O];exact uc _ hb)) hr⟩
 exact all X.outer (λ_ hb=>hb) I.ok.funs
def Inv.stack (I:#[I]):s.heap.FunFrames X.base X.stack:=by
 rcases I.ok.stk with e|⟨e,O⟩
 .rw[e];exact I.funs
 .rw[e];erw[I.loc,m,hn,_];refine .cons (by rw[I.ok.kind];decide) O hn ?_ I.funs
  exact Heap.get?_none_of_le (uZ I.ok.bsz I.ok.above)
def Inv.stkSub (I:#[I]):∀b>frs X.stack,b>X.env.locals::X.fs:=λb O=>by
 rcases I.ok.stk with e|⟨e,U⟩
 .rw[e] at O;exact uc _ O
 .rw[e] at O;unfold frs at O;rwa[vU,U] at O
def Inv.stkFree (I:#[I]):∀b>frs X.stack,H b=none:=λb O=>by
 rcases Aa.mp (I.stkSub b O) with e|O
 .rw[e];exact I.free
 .erw[I.ok.funs.mem O,_,o,U,_];exact I.base.free b o U (I.ok.frf b O) λz=>I.ok.exfs b z O
def Inv.step {g':Array tZ}{t':Nat}{d':Drawn}{ch:oj o3}(I:#[I])
  (U:∀b>ch,(b>X.ex\/X.s₀.heap.objs.size<=b)/\b≠X.env.locals/\(∀x c,X.env.cells.lookup x=u_ c->c≠b)/\∀p>X.pn++oq,p.1≠b)
  (keep:∀b o,b≠X.env.locals->b∉X.fs->b∉ch->s.heap.get? b=u_ o->H b=U_->h'.get? b=u_ o)
  (slot:∀b o,b≠X.env.locals->b>X.fs->b∉ch->s.heap.get? b=u_ o->H b=U_->∃sl,h'.get? b=u_ {o with slots:=sl}) (free:∀b o,b∉ch->s.heap.get? b=u_ o->H b=U_->H' b=U_)
  (there:∀b o,b∉ch->s.heap.get? b=u_ o->∃o',h'.get? b=u_ o')
  (tups:∀b xs,H b=u_ (¬xs)->H' b=u_ (¬xs)) (frzs:∀b o u,H b=u_ (.frz o u)->H' b=u_ (.frz o u)) (tbls:∀b ps,H b=u_ (.tbl ps)->∃more,H' b=u_ (.tbl (ps++more)))
  (ns:∀m,s.heap.Ns X.env.locals m->h'.Ns X.env.locals m) (hok:HOk X.prog X.w H' h') (hg:Ge g') (ht:0<t':=by ac_rfl):
  Inv X oq σ H' {s with heap:=h',gens:=g',drawn:=d',toks:=t'}:=by
 have ae:∀b o,X.s₀.heap.get? b=u_ o->b≠X.env.locals:=λb o e=>uP (Vv (uF e) I.ok.above);have ad:∀b o,X.s₀.heap.get? b=u_ o->b∉X.ex->b∉ch:=λb o e O hb=>by
  rcases(U b hb).1 with z|z
  .exact O z
  .exact A8 (Vv (uF e) z) (vL _)
 have aa:∀x c,X.env.cells.lookup x=u_ c->∀v,s.heap.IsCell c v->h'.IsCell c v:=λx c e v ⟨o,ho,hd⟩=>by
  have ac:c∉ch:=λz=>(U c z).2.2.1 x c e rfl;by_cases hc:c>X.fs
  .erw[slot c o (I.cne x c e) hc ac ho (I.freeC x c e),sl,q];exact[_:q:hd]
  .exact[o:keep c o (I.cne x c e) hc ac ho (I.freeC x c e):hd]
 exists I.ok,I.os,hg,⟨λb o e n hb O=>?_,λb o e n hb O=>?_,λb o e n O=>?_,λb o e O=>?_,λb xs e=>tups b xs (I.base.tups b xs e),λb o xs e=>frzs b o xs (I.base.frzs b o xs e),λb ps e=>?_⟩,?_,λx c e=>?_,?_,λx c e=>?_,λp hp=>?_,hok,I.len,ht
 .exact keep b o (ae b o e) hb (ad b o e O) (I.base.keep b o e n hb O) (I.base.free b o e n O)
 .erw[I.base.slot b o e n hb O,sl,e1];erw[slot b _ (ae b o e) hb (ad b o e O) e1 (I.base.free b o e n O),af,e2];exact[af:e2]
 .erw[I.base.there b o e O,o',e1];exact free b o' (ad b o e O) e1 (I.base.free b o e n O)
 .erw[I.base.there b o e O,o',e1];exact there b o' (ad b o e O) e1
 .erw[I.base.tbls b ps e,m1,e1];erw[tbls b _ e1,m2,e2];exact⟨m1++m2,by rw[e2,TX]⟩
 .erw[I.loc,m,hn,hl];exists m,ns m hn,λi x v e1 e2 e3=>?_;erw[hl i x v e1 e2 e3,u,r,l];exists u,r;rcases l with l|⟨k,c,e,z⟩
  .exact .inl l
  .exact .inr ⟨k,c,e,aa x c e _ z⟩
 .erw[I.cell x c e,v,z];exact[v:aa x c e v z]
 .erw[I.loc,m,[o,_,_,ho,_],_];exact free _ o (λz=>(U _ z).2.1 rfl) ho I.free
 .erw[I.cell x c e,v,o,ho,hd];exact free c o (λz=>(U c z).2.2.1 x c e rfl) ho (I.freeC x c e)
 .erw[I.pin p hp,e,n,ne,nf,d];have ac:p.1∉ch:=λz=>(U p.1 z).2.2.2 p hp rfl;exact⟨keep p.1 p.2 ne nf ac e n,free p.1 p.2 ac e n,ne,nf,d⟩
variable {t':Nat}
def Inv.un (I:#[I])(u:Un X.fs [] H H' s.heap h')(hok:HOk X.prog X.w H' h')(ht:0<t':=by ac_rfl):Inv X oq σ H' {s with heap:=h',toks:=t'}:=by
 erw[id I.loc,m,[o,es,ep,ho,r],_];obtain⟨sl,hL⟩:=u.any ho I.free (by simp)
 exact I.step (g':=s.gens) (d':=s.drawn) (ch:= []) (λ_ z=>nomatch z) (λb o _ U _ e n=>u.keep b o e n U (by simp)) (λb o _ U _ e n=>u.slot b o e n U (by simp)) (λb o _ e n=>u.free b o e n (by simp)) (λb o _ e=>u.there b o e (by simp)) u.tups u.frzs u.tbls (λm' hm=>by
  erw[hm,o',aa,ac,O,r'];rw[ho] at O;cases O;exact⟨_,aa,ac,hL,r'⟩) hok I.bare
def Inv.call {g':Array tZ}{t':Nat}{d':Drawn}{ch:oj o3}(I:#[I])(u:Un (frs X.stack) ch H H' s.heap h')(hok:HOk X.prog X.w H' h')(hg:Ge g')
  (U:∀b>ch,(b>X.ex\/X.s₀.heap.objs.size<=b)/\b≠X.env.locals/\(∀x c,X.env.cells.lookup x=u_ c->c≠b)/\∀p>X.pn++oq,p.1≠b) (ht:0<t':=by ac_rfl):
  Inv X oq σ H' {s with heap:=h',gens:=g',drawn:=d',toks:=t'}:=by
 erw[id I.loc,m,[o,es,ep,ho,r],_];obtain⟨sl,hL⟩:=u.any ho I.free λz=>(U _ z).2.1 rfl;exact I.step (ch:=ch) U (λb o hL hb O e n=>u.keep b o e n (λz=>(Aa.mp (I.stkSub b z)).elim hL hb) O) (λb o _ _ O e n=>u.any e n O) (λb o O e n=>u.free b o e n O) (λb o O e=>u.there b o e O) u.tups u.frzs u.tbls (λm' hm=>by
  erw[hm,o',ac,ad,aa,r'];rw[ho] at aa;cases aa;exact⟨_,ac,ad,hL,r'⟩) hok hg
def Inv.turned {t':Nat}{it:o3}(I:#[I])(k:∀b o,b≠it->s.heap.get? b=u_ o->h'.get? b=u_ o)(hn:H it=U_)(hL:it≠X.env.locals)
  (h1:it>X.ex\/X.s₀.heap.objs.size<=it) (h2:∀x c,X.env.cells.lookup x=u_ c->c≠it) (h3:∀p>X.pn++oq,p.1≠it) (ht:0<t':=by ac_rfl):Inv X oq σ H {s with heap:=h',toks:=t'}:=by
 have U:∀b u,H b=u_ u->b≠it:=λb u e z=>by rw[z,hn] at e;cases e
 refine I.step (g':=s.gens) (d':=s.drawn) (ch:= [it]) (λb hb=>?_) (λb o _ _ O e _=>k b o (λz=>O (by simp[z])) e) (λb o _ _ O e _=>⟨o.slots,k b o (λz=>O (by simp[z])) e⟩) (λ_ _ _ _ n=>n)
  (λb o O e=>⟨o,k b o (λz=>O (by simp[z])) e⟩) (λ_ _ e=>e) (λ_ _ _ e=>e) (λb ps e=>⟨#[],by rw[e];simp⟩) (λm hm=>?_) (λb u e=>?_) I.bare
 .have e:b=it:=by simpa using hb
  subst e;exact⟨h1,hL,h2,h3⟩
 .erw[hm,o,es,ep,ho,r];exact⟨o,es,ep,k _ o (vV hL) ho,r⟩
 .refine(I.hok b u e).stay (λc v O q=>k c v ?_ q) (λ_ q=>q) λ_ _ q=>q;rcases O with z|z
  .rw[z];exact U b u e
  .exact U c _ z
def Inv.tok (I:#[I])(t:Nat)(O:0<t:=by ac_rfl):Inv X oq σ H {s with toks:=t}:=I.un (h':=s.heap) (t':=t) Un.refl I.hok
def Inv.kept (I:#[I])(k:∀b u,s.heap.get? b=u_ u->h'.get? b=u_ u)(O:0<t':=by ac_rfl):Inv X oq σ H {s with heap:=h',toks:=t'}:=I.un (Un.kept k) (I.hok.kept k)
def Inv.laid {o:HO}(I:#[I])(k:∀b u,s.heap.get? b=u_ u->h'.get? b=u_ u)(O:#[0,s]<=a)(new:ye X.prog X.w (upd H a o) h' a o)(U:0<t':=by ac_rfl):
  Inv X oq σ (upd H a o) {s with heap:=h',toks:=t'}:=I.un (Un.laid k O (I.hok.fresh O)) (I.hok.laid k O new)
def Inv.write {x e:o3}{o:HO}{t':Nat}(I:#[I])(mu:Mut (H x))(U:e=x\/H e=u_ (.own x))(k:∀b u,b≠e->s.heap.get? b=u_ u->h'.get? b=u_ u)(O:∃u,h'.get? e=u_ u)
  (new:ye X.prog X.w (upd H x o) h' x o) (ht:0<t':=by ac_rfl):Inv X oq σ (upd H x o) {s with heap:=h',toks:=t'}:=I.un (Un.write mu U k O) (I.hok.write mu U k O new)
def Inv.pins_of {O:oj (o3×Obj)}(I:#[I])(h:∀p>O,s.heap.get? p.1=u_ p.2/\H p.1=U_/\p.1≠X.env.locals/\p.1∉X.fs/\∀v,p.2.data≠ .cell v):Inv X O σ H s:=
 ⟨I.ok,I.os,I.bare,I.base,I.loc,I.cell,I.free,I.freeC,λp U=>(Ac.mp U).elim (λz=>I.pin p (vz _ z)) (h p),I.hok,I.len,I.tk⟩
variable {i j:Nat}{x:Str}
def qat {N:oj Str}(O:N.Nodup)(a:N[i]? =u_ x)(b:N[j]? =u_ x):i=j:=by
 erw[Af.mp a,h1,U];erw[Af.mp b,h2,e2];exact(List.getElem_inj O).mp (U.trans e2.symm)
def nT {M:Gq}{A:oh}{E:o6->o7->Prop}{i:Nat}{x:Str}{v:V}{u:o6}{Q:Unit->o7->Prop}(I:#[I])(hN:X.N.Nodup)(hi:X.N[i]? =u_ x)(hx:Loc X.env.scope x)(r:ik v u)
  (h:∀s',Inv X oq (σ.set i (u_ v)) H s'->(∃a,VS a s.heap s'.heap/\(a=X.env.locals\/X.env.cells.lookup x=u_ a))->Q G7 s') (hf:X.fn x=v_\/X.env.scope.names.lookup x=u_ .local:=by first|exact .inl rfl|exact .inr rfl|assumption):Vh M A (HS X.env x u) Q E s:=by
 erw[id I.loc,m,hn,hl];have ad:(X.env.scope.kind== .class||(X.env.scope.kind== .module&&X.env.locals !=X.env.globals))=false:=by rw[I.ok.kind];rfl
 have ae:i<↑σ:=by rw[I.len];exact(Af.mp hi).1
 have cne:=I.cne;have U:∀{a:o3}{h':o8},(∃o,s.heap.get? a=u_ o/\H a=U_)->VS a s.heap h'->HOk X.prog X.w H h':=λ{a h'} ha O b ob e=>by
  erw[ha,_,_,aa];refine(I.hok b ob e).stay (λc w' hc q=>(O.2 c ?_).trans q) (λ_ q=>q) λ_ _ q=>q;rintro rfl;rcases hc with rfl|hc
  .rw[aa] at e;cases e
  .rw[aa] at hc;cases hc
 rcases hx with hk|hk
 .refine pF hk hn (λh' al O=>?_) ad;erw[id hn,oL,_,_,am,_];refine h _ ⟨I.ok,I.os,I.bare,⟨λb o e n hb hx=>?_,λb o e n hb hx=>?_,I.base.free,λb o e hx=>?_,I.base.tups,I.base.frzs,I.base.tbls⟩,[_:al:λj y v' e1 e2 e3=>?_],λy c e=>?_,I.free,I.freeC,λp hp=>?_,U [oL:am:I.free] O,by simpa using I.len,by first|exact I.tk|exact HW _⟩ [_:O:.inl rfl]
  .exact(O.2 b (uP (Vv (uF e) I.ok.above))).trans (I.base.keep b o e n hb hx)
  .erw[I.base.slot b o e n hb hx,sl,e1];exact[sl:(O.2 b (uP (Vv (uF e) I.ok.above))).trans e1]
  .erw[I.base.there b o e hx,o',e1];exact[o':(O.2 b (uP (Vv (uF e) I.ok.above))).trans e1]
  .by_cases hj:j=i
   .subst hj;rw[hi] at e1;cases e1;rw[Uo ae] at e2;cases e2;exact⟨u,r,.inl ⟨hk,by simp⟩⟩
   .rw[UE (vV hj)] at e2;erw[hl j y v' e1 e2 e3,u',r',q];exists u',r';rcases q with⟨k,e⟩|⟨k,c,e,z⟩
    .refine .inl [k:?_];have:y≠x:=λe=>hj (qat hN e1 (e▸hi));simp[this,e]
    .exact .inr ⟨k,c,e,z.sameBut O (cne y c e)⟩
  .erw[I.cell y c e,w',z];exact[w':z.sameBut O (cne y c e)]
  .erw[I.pin p hp,e,n,ne,nf,d];exact⟨(O.2 p.1 ne).trans e,n,ne,nf,d⟩
 .have ac:X.fn x=true:=by
   rcases hf with z|z
   .exact z
   .rw[z] at hk;cases hk
  erw[I.ok.has x (.inl hk),c,hc];erw[I.cell x c hc,w',z];refine wpAny_storeName_cell I.ok.kind hk hc z (λh' af O=>?_);erw[id z,oc,ag,ah];refine h {s with heap:=h'} ⟨I.ok,I.os,I.bare,⟨λb o e n hb hx=>?_,λb o e n hb hx=>?_,I.base.free,λb o e hx=>?_,I.base.tups,I.base.frzs,I.base.tbls⟩,[m:hn.sameBut O (vV (cne x c hc)):λj y v' e1 e2 e3=>?_],λy c' e=>?_,I.free,I.freeC,λp hp=>?_,U [oc:ag:I.freeC x c hc] O,by simpa using I.len,by first|exact I.tk|exact HW _⟩ [c:O:.inr hc]
  .exact(O.2 b (uP (Vv (uF e) (I.ok.cab x c ac hc)))).trans (I.base.keep b o e n hb hx)
  .erw[I.base.slot b o e n hb hx,sl,e1];exact[sl:(O.2 b (uP (Vv (uF e) (I.ok.cab x c ac hc)))).trans e1]
  .erw[I.base.there b o e hx,o',e1];exact[o':(O.2 b (uP (Vv (uF e) (I.ok.cab x c ac hc)))).trans e1]
  .by_cases hj:j=i
   .subst hj;rw[hi] at e1;cases e1;rw[Uo ae] at e2;cases e2;exact[u:r:.inr ⟨.inl hk,c,hc,af⟩]
   .rw[UE (vV hj)] at e2;erw[hl j y v' e1 e2 e3,u',r',q];exists u',r';rcases q with q|⟨k,c',e,z'⟩
    .exact .inl q
    .refine .inr ⟨k,c',e,z'.sameBut O ?_⟩;rintro rfl;exact hj (qat hN e1 (I.ok.inj _ _ _ e hc▸hi))
  .by_cases ak:c'=c
   .subst ak;exact[_:af]
   .erw[I.cell y c' e,w2,z2];exact[w2:z2.sameBut O ak]
  .erw[I.pin p hp,e,n,ne,nf,d];exists (O.2 p.1 ?_).trans e,n,ne,nf,d;intro q;rw[q,ag] at e;have q':oc=p.2:=uJ e;exact d w' (by rwa[<-q'])
def zn {M:Gq}{A:oh}{E:o6->o7->Prop}{i:Nat}{x:Str}{v:V}{u:o6}{Q:Unit->o7->Prop}(I:#[I])(O:X.N.Nodup)(hi:X.N[i]? =u_ x)(U:Loc X.env.scope x)(r:ik v u)
  (h:∀s',Inv X oq (σ.set i (u_ v)) H s'->Q G7 s') (hf:X.fn x=v_\/X.env.scope.names.lookup x=u_ .local:=by first|exact .inl rfl|exact .inr rfl|assumption):Vh M A (HS X.env x u) Q E s:=
 nT I O hi U r (λs' I' _=>h s' I') hf
def Inv.call' {s':o7}{ch:oj o3}(I:#[I])(U:s'.os=s.os)(u:Un (frs X.stack) ch H H' s.heap s'.heap)(hok:HOk X.prog X.w H' s'.heap)(hg:Ge s'.gens)
  (O:∀b>ch,(b>X.ex\/X.s₀.heap.objs.size<=b)/\b≠X.env.locals/\(∀x c,X.env.cells.lookup x=u_ c->c≠b)/\∀p>X.pn++oq,p.1≠b) (ht:0<s'.toks:=by ac_rfl):Inv X oq σ H' s':=by
 erw[s',h',g',d',t',o'];have e:o'=s.os:=U;subst e;exact I.call (g':=g') (t':=t') (d':=d') u hok hg O
end
nonrec abbrev XK:=o6->om o3->Hp->Prop
nonrec abbrev St:=oj (om V)
nonrec abbrev VK:=V->Hp->Prop
nonrec abbrev TE:=St->Hp->VK->Prop
nonrec abbrev TT:=St->Hp->(Bool->Hp->Prop)->Prop
nonrec abbrev TA:=St->Hp->(oj V->Hp->Prop)->Prop
structure mF where
 nx:St->Hp->Prop
 rt:VK
 bk:St->Hp->Prop:=λ_ _=>False
 ct:St->Hp->Prop:=λ_ _=>False
nonrec abbrev TS:=mF->St->Hp->Prop
abbrev EP (X:Cx)(oq:oj (o3×Obj))(σ:St)(Q:VK)(u:o6)(s':o7):Prop:=∃v H',Inv X oq σ H' s'/\ik v u/\Q v H'
abbrev TP (X:Cx)(oq:oj (o3×Obj))(σ:St)(Q:Bool->Hp->Prop)(b:Bool)(s':o7):Prop:=∃H',Inv X oq σ H' s'/\Q b H'
abbrev AP (X:Cx)(oq:oj (o3×Obj))(σ:St)(Q:oj V->Hp->Prop)(us:oj o6)(s':o7):Prop:=∃vs H',Inv X oq σ H' s'/\iw vs us/\Q vs H'
abbrev SP (X:Cx)(oq:oj (o3×Obj))(D:mF)(f:Flow)(s':o7):Prop:=
 match f with
 | .next=>∃σ' H',Inv X oq σ' H' s'/\D.nx σ' H'
 | .brk=>∃σ' H',Inv X oq σ' H' s'/\D.bk σ' H'
 | .cont=>∃σ' H',Inv X oq σ' H' s'/\D.ct σ' H'
 | .ret u=>∃v σ' H',Inv X oq σ' H' s'/\ik v u/\D.rt v H'
abbrev PE (X:Cx)(e:Expr)(t:TE):Prop:=
 ∀(oq:oj (o3×Obj)) (s:o7) (σ:St) (H:Hp) (Q:VK),#[I]->t σ H Q->Vh #[X,X] X.A (eval e X.env) (EP X oq σ Q) X.xe s
abbrev PT (X:Cx)(e:Expr)(t:TT):Prop:=
 ∀(oq:oj (o3×Obj)) (s:o7) (σ:St) (H:Hp) (Q:Bool->Hp->Prop),#[I]->t σ H Q->Vh #[X,X] X.A (isTrue e X.env (eval e X.env)) (TP X oq σ Q) X.xe s
abbrev PW (X:Cx)(e:Expr)(t:TT):Prop:=
 ∀(whole:Sem o6) (oq:oj (o3×Obj)) (s:o7) (σ:St) (H:Hp) (Q:Bool->Hp->Prop),#[I]->t σ H Q->Vh #[X,X] X.A (isTrue e X.env whole) (TP X oq σ Q) X.xe s
variable {X:Cx}
def PW.pt {e:Expr}{t:TT}(h:PW X e t):PT X e t:=h _
abbrev PA (X:Cx)(es:oj Expr)(t:TA):Prop:=
 ∀(pos:Pos) (oq:oj (o3×Obj)) (s:o7) (σ:St) (H:Hp) (Q:oj V->Hp->Prop),#[I]->t σ H Q->Vh #[X,X] X.A (spliced (Vt pos (Vl es X.env))) (AP X oq σ Q) X.xe s
abbrev PS (X:Cx)(st:Stmt)(t:TS):Prop:=
 ∀(oq:oj (o3×Obj)) (s:o7) (σ:St) (H:Hp) (D:mF),#[I]->t D σ H->Vh #[X,X] X.A (exec st X.env) (SP X oq D) X.xe s
abbrev PSs (X:Cx)(st:oj Stmt)(t:TS):Prop:=
 ∀(oq:oj (o3×Obj)) (s:o7) (σ:St) (H:Hp) (D:mF),#[I]->t D σ H->Vh #[X,X] X.A (execs st X.env) (SP X oq D) X.xe s
variable {M:Gq}{A:oh}{E:o6->o7->Prop}{s:o7}
def thn {α:Type}{t:Sem α}{Q O:α->o7->Prop}(h:Vh M A t Q E s)(U:∀a s,Q a s->O a s):Vh M A t O E s:=vg h U λ_ _ x=>x
section
variable {X:Cx}
inductive AaJ (i:Nat)(σ:St)(H:Hp)(Q:VK):Prop
 |mk (v:_)(_:σ[i]? =u_ (u_ v))(_:Q v H)
abbrev tC (v:V):TE:=λ_ H Q=>Q v H
variable {i:Nat}{x:Str}
def Abv {pos:Pos}(hN:X.N[i]? =u_ x)(hv:Vis X.env.scope x)(hd:(x==("__debug__":Str))=false:=by decide)(aa:(x==("__classdict__":Str))=false:=by decide):PE X (.Name x pos) (AaJ i):=by
 exists 2,Q,I,h;erw[h,v,e,h];erw[I.loc,m,hn,hl];erw[hl i x v hN e hv,u,r,l];have fin:EP X oq σ Q u s:=⟨v,H,I,r,h⟩;rcases l with⟨U,hm⟩|⟨U,c,hc,O⟩
 .exact TY (FC I.ok.kind U hn hm fin) hd
 .rcases U with U|U
  .exact TY (rE I.ok.kind U hc O fin) hd
  .exact TY (wpAny_loadName_free I.ok.kind U hc O fin aa) hd
def qi {i j pos}:PE X (.Constant (.int i) j pos) (tC (.int i)):=λ_ _ _ H _ I h=>wpAny_Constant_int ⟨.int i,H,I.tok _,⟨0⟩,h⟩
def Yc {b j pos}:PE X (.Constant (.bool b) j pos) (tC (.bl b)):=λ_ _ _ H _ I h=>Constant_bool ⟨.bl b,H,I,1,h⟩
def qO {j pos}:PE X (.Constant .none j pos) (tC .non):=λ_ _ _ H _ I h=>Constant_none ⟨.non,H,I,1,h⟩
def ql {x j pos}:PE X (.Constant (!x) j pos) (tC (!x)):=λ_ _ _ H _ I h=>Calls.Constant_str ⟨!x,H,I.tok _,⟨0⟩,h⟩
abbrev Gl (X:Cx)(x:Str):Prop:=X.env.kindOf x=u_ .globalImplicit
def xL {E:o6->o7->Prop}{oq:oj (o3×Obj)}{s:o7}{σ:St}{H:Hp}{x:Str}{u:o6}{pos:Pos}{Q:o6->o7->Prop}(I:#[I])(O:Gl X x)(hm:X.mg x=u_ u)(h:Q u s)
  (hd:(x==("__debug__":Str))=false:=by decide):Vh #[X,X] X.A (eval (.Name x pos) X.env) Q E s:=
 RO I.ok.kind O (Calls.loadGlobal_global (by rw[I.ok.glob];exact I.mod.glob.keeps I.bk) hm h) hd
def Zr {E:o6->o7->Prop}{oq:oj (o3×Obj)}{s:o7}{σ:St}{H:Hp}{x:Str}{u:o6}{pos:Pos}{Q:o6->o7->Prop}(I:#[I])(O:Gl X x)(hm:X.mg x=U_)(U:GX x=u_ u)(h:Q u s)
  (hn:x≠"__name__":=by decide) (hd:(x==("__debug__":Str))=false:=by decide):Vh #[X,X] X.A (eval (.Name x pos) X.env) Q E s:=by
 erw[I.mod.blt,mb,h1,h2];exact RO I.ok.kind O (Calls.loadGlobal_builtin (by rw[I.ok.glob];exact I.mod.glob.keeps I.bk) hm (by rw[I.ok.blt];exact h1.keeps I.bk) ((h2 x hn).trans U) h) hd
variable {v:V}{u:o6}
def Ak {pos:Pos}(O:Gl X x)(hm:X.mg x=u_ u)(r:ik v u)(hd:(x==("__debug__":Str))=false:=by decide):PE X (.Name x pos) (tC v):=
 λ_ _ _ H _ I h=>xL I O hm ⟨v,H,I,r,h⟩ hd
def yh {x:Str}{v:V}{u:o6}{pos:Pos}(O:Gl X x)(hm:X.mg x=U_)(U:GX x=u_ u)(r:ik v u)(hn:x≠"__name__")(hd:(x==("__debug__":Str))=Vg):PE X (.Name x pos) (tC v):=
 λ_ _ _ H _ I h=>Zr I O hm U ⟨v,H,I,r,h⟩ hn hd
variable {a b:Expr}{ta tb:TE}{pos:Pos}
abbrev PC (X:Cx)(op:hV)(a b:Expr)(t:TE):Prop:=
 ∀(oq:oj (o3×Obj)) (s:o7) (σ:St) (H:Hp) (Q:VK),#[I]->t σ H Q->
  Vh #[X,X] X.A (eval a X.env) (λv s₁=>Vh #[X,X] X.A (eval b X.env) (λu s₂=>Vh #[X,X] X.A (Vs op v u) (EP X oq σ Q) X.xe s₂) X.xe s₁) X.xe s
inductive ItB (Q:(Bool->Hp->Prop))(x:V)(H1:Hp):Prop
 |mk (c:_)(_:x= .bl c)(_:Q c H1)
abbrev tB (t:TE):TT:=λσ H Q=>t σ H λx H1=>ItB Q x H1
def WG {O:hV}{t:TE}(h:PC X O a b t)(h1:Ht O b=Vg):PT X (.Compare a [O] [b] pos) (tB t):=by
 exists 2,Q,I,U;refine FL (thn (h oq s σ H _ I U) λv s1 h1=>thn h1 λu s2 h2=>thn h2 λc s3 zq=>?_) h1;erw[zq,x,H1,I1,r1,q1];erw[q1,d,rfl,q];cases r1;exact vx [H1:I1:q]
def Qb {e:Expr}{t:TE}(h:PE X e t)(U:∀O,isTrue e X.env O=(do let v<-O;GK e.pos;VY [v] (truthy v))):PT X e (tB t):=by
 exists 2,Q,I,hw;refine FQ (thn (h oq s σ H _ I hw) λv s1 zq=>?_) (U _);erw[zq,x,H1,I1,r1,q1];erw[q1,d,rfl,q];cases r1;exact vx [H1:I1:q]
variable {tA tB':TT}{rest:oj Expr}
abbrev AeU (t u:TT):TT:=λσ H Q=>t σ H λc H1=>if c=v_ then u σ H1 Q else Q Vg H1
abbrev tOr (t u:TT):TT:=λσ H Q=>t σ H λc H1=>if c=v_ then Q v_ H1 else u σ H1 Q
abbrev AeP (t:TT):TT:=λσ H Q=>t σ H λc H1=>Q (!(c)) H1
def qal (ha:PT X a tA):PW X (.BoolOp .And [a] pos) tA:=by
 intro O oq s σ H Q I h;refine isTrue_and (thn (ha oq s σ H Q I h) λc s1 e=>?_);cases c with
 |true=>exact isTrue_and_nil e
 |false=>exact e
def jt (ha:PT X a tA):PW X (.BoolOp .Or [a] pos) tA:=by
 intro O oq s σ H Q I h;refine isTrue_or (thn (ha oq s σ H Q I h) λc s1 e=>?_);cases c with
 |false=>exact isTrue_or_nil e
 |true=>exact e
def Bv (ha:PT X a tA)(U:PW X (.BoolOp .And (b::rest) pos) tB'):PW X (.BoolOp .And (a::b::rest) pos) (AeU tA tB'):=by
 intro wh oq s σ H Q I h;refine isTrue_and (thn (ha oq s σ H _ I h) λc s1 zq=>?_);erw[zq,H1,O,q1];cases c with
 |true=>exact U wh oq s1 σ H1 Q O q1
 |false=>exact[H1:O:q1]
def xl (ha:PT X a tA)(U:PW X (.BoolOp .Or (b::rest) pos) tB'):PW X (.BoolOp .Or (a::b::rest) pos) (tOr tA tB'):=by
 intro wh oq s σ H Q I h;refine isTrue_or (thn (ha oq s σ H _ I h) λc s1 zq=>?_);erw[zq,H1,O,q1];cases c with
 |true=>exact[H1:O:q1]
 |false=>exact U wh oq s1 σ H1 Q O q1
def Qi (ha:PT X a tA):PT X (.UnaryOp .Not a pos) (AeP tA):=by
 exists 2,Q,I,h;exact isTrue_not (ha oq s σ H (λc H1=>Q (!(c)) H1) I h)
inductive AcJ (tb:TE)(σ:St)(Q:VK)(x:V)(H1:Hp):Prop
 |mk (c:_)(_:x= .bl c)(_:if c=v_ then tb σ H1 Q else Q (.bl Vg) H1)
abbrev Adm (ta tb:TE):TE:=λσ H Q=>ta σ H λx H1=>AcJ tb σ Q x H1
inductive Ad7 (tb:TE)(σ:St)(Q:VK)(x:V)(H1:Hp):Prop
 |mk (c:_)(_:x= .bl c)(_:if c=v_ then Q (.bl v_) H1 else tb σ H1 Q)
abbrev AeO (ta tb:TE):TE:=λσ H Q=>ta σ H λx H1=>Ad7 tb σ Q x H1
inductive AcH (Q:VK)(x:V)(H1:Hp):Prop
 |mk (c:_)(_:x= .bl c)(_:Q (.bl (!(c))) H1)
abbrev Adc (ta:TE):TE:=λσ H Q=>ta σ H λx H1=>AcH Q x H1
def zl {op}{t:TE}(h:PE X a t):PE X (.BoolOp op [a] pos) t:=λoq s σ H Q I O=>BoolOp_one (h oq s σ H Q I O)
def ZL (ha:PE X a ta)(U:PE X (.BoolOp .And (b::rest) pos) tb):PE X (.BoolOp .And (a::b::rest) pos) (Adm ta tb):=by
 exists 2,Q,I,h;refine BoolOp_and (thn (ha oq s σ H _ I h) λv s1 zq=>?_);erw[zq,x,H1,O,r1,q1];erw[q1,c,rfl,q1];cases r1;refine vx ?_;cases c with
 |true=>exact U oq s1 σ H1 Q O q1
 |false=>exact⟨.bl Vg,H1,O,1,q1⟩
def Adz (ha:PE X a ta)(U:PE X (.BoolOp .Or (b::rest) pos) tb):PE X (.BoolOp .Or (a::b::rest) pos) (AeO ta tb):=by
 exists 2,Q,I,h;refine BoolOp_or (thn (ha oq s σ H _ I h) λv s1 zq=>?_);erw[zq,x,H1,O,r1,q1];erw[q1,c,rfl,q1];cases r1;refine vx ?_;cases c with
 |false=>exact U oq s1 σ H1 Q O q1
 |true=>exact⟨.bl v_,H1,O,1,q1⟩
def Abw (ha:PE X a ta):PE X (.UnaryOp .Not a pos) (Adc ta):=by
 exists 2,Q,I,h;refine UnaryOp_ (thn (ha oq s σ H _ I h) λv s1 zq=>?_);erw[zq,x,H1,O,U,q1];erw[q1,c,rfl,q1];cases U;exact not_of (vx ⟨.bl (!(c)),H1,O,1,q1⟩)
abbrev tIf (t:TT)(ta tb:TE):TE:=λσ H Q=>t σ H λc H1=>if c=v_ then ta σ H1 Q else tb σ H1 Q
def ya {c:Expr}(U:PT X c tA)(ha:PE X a ta)(hb:PE X b tb):PE X (.IfExp c a b pos) (tIf tA ta tb):=by
 exists 2,Q,I,h;refine wpAny_IfExp (thn (U oq s σ H _ I h) λd s1 zq=>?_);erw[zq,H1,O,q1];cases d with
 |true=>exact ha oq s1 σ H1 Q O q1
 |false=>exact hb oq s1 σ H1 Q O q1
end
abbrev SqL (K:o0)(H:Hp)(a:o3)(xs:oj V):Prop:=
 Rd H a (.lst xs)\/
  ∃(o:Obj) (its:Array o6) (n:Nat),K.lookup a=u_ o/\o.cls= .type "list"/\o.dict=U_/\o.data= .seq its n/\its.size<=Vk/\iw xs its.toList
abbrev SqT (K:o0)(H:Hp)(a:o3)(xs:oj V):Prop:=
 Rd H a (¬xs)\/
  ∃(o:Obj) (its:Array o6) (n:Nat),K.lookup a=u_ o/\o.cls= .type "tuple"/\o.data= .seq its n/\its.size<=Vk/\iw xs its.toList
abbrev Afh:o6->om V
 | .none=>u_ .non
 | .bool b=>u_ (.bl b)
 | .int i _=>u_ (.int i)
 | .str x _=>u_ (!x)
 | .bytes b _=>u_ (.byt b)
 | .float b _=>u_ (.flt b)
 | .ref a=>u_ (-a)
 | .type n=>u_ (.ty n)
 |_=>U_
variable {u:o6}
def ik.abs {x:V}(r:ik x u):Afh u=u_ x:=by
 cases x with
 |non=>cases r;rfl
 |bl _=>cases r;rfl
 |int _=>erw[r,t,rfl];rfl
 |str _=>erw[r,t,rfl];rfl
 |byt _=>erw[r,t,rfl];rfl
 |flt _=>erw[r,t,rfl];rfl
 |ref _=>cases r;rfl
 |ty _=>cases r;rfl
variable {y:V}
def ik.inj {x:V}(r:ik x u)(q:ik y u):x=y:=uJ (r.abs.symm.trans q.abs)
def iw.inj:∀{xs ys:oj V}{us:oj o6},iw xs us->iw ys us->xs=ys
 |_,_,_,.nil,.nil=>rfl
 |_,_,_,.cons r t,.cons r' t'=>by rw[r.inj r',iw.inj t t']
section
variable {X:Cx}{oq:oj (o3×Obj)}{σ:St}{H:Hp}{s:o7}{a:o3}{xs ys:oj V}
variable {K:o0}
def SqL.of (h:H a=u_ (.lst xs)):SqL K H a xs:= .inl (.inl h)
def SqT.of (h:H a=u_ (¬xs)):SqT K H a xs:= .inl (.inl h)
def Inv.list (I:#[I])(h:SqL X.K H a xs):∃its:oj o6,iw xs its/\PlainL s.heap a its.toArray/\↑xs<=sizeLine:=by
 rcases h with h|⟨o,its,n,O,U,hd,hs,hz,r⟩
 .erw[h.ok I.hok,z,its,n,r,e];exact⟨its,r,⟨_,n,e,1,1,1⟩,z⟩
 .exists its.toList,r,⟨o,n,I.kIn a o O,U,hd,by simpa using hs⟩
  have e:=↑r;simp![vi] at e;omega
def Inv.tuple (I:#[I])(h:SqT X.K H a xs):∃its:oj o6,iw xs its/\G_ s.heap a its.toArray/\↑xs<=sizeLine:=by
 rcases h with h|⟨o,its,n,O,U,hs,hz,r⟩
 .erw[h.ok I.hok,z,its,r,p];exact⟨its,r,p,z⟩
 .exists its.toList,r,⟨o,I.kIn a o O,U,n,by simpa using hs⟩
  have e:=↑r;simp![vi] at e;omega
def Inv.list_inj (I:#[I])(h:SqL X.K H a xs)(h':SqL X.K H a ys):xs=ys:=by
 erw[I.list h,its,r,[o,n,e,_,_,d],_];erw[I.list h',its',r',[o',n',O,_,_,d'],_];rw[e] at O;cases O;rw[d] at d';injection d' with U _
 have:its=its':=by simpa using A9 FD U
 subst this;exact r.inj r'
def Inv.tuple_inj (I:#[I])(h:SqT X.K H a xs)(h':SqT X.K H a ys):xs=ys:=by
 erw[I.tuple h,its,r,[o,e,_,n,d],_];erw[I.tuple h',its',r',[o',O,_,n',d'],_];rw[e] at O;cases O;rw[d] at d';injection d' with U _
 have:its=its':=by simpa using A9 FD U
 subst this;exact r.inj r'
end
nonrec abbrev Cx.wish (X:Cx)(E:o6->o7->Prop):Cx:={X with xe:=E}
nonrec abbrev Cx.nox (X:Cx):Cx:=X.wish λ_ _=>False
def Cx.Ok.wish (ok:X.Ok)(E:o6->o7->Prop):(X.wish E).Ok:=
 ⟨ok.mod,ok.kind,ok.glob,ok.blt,ok.above,ok.inj,ok.has,ok.cab,ok.hd,ok.frames,ok.stk,ok.exf,ok.bs,ok.bsz,ok.noex,ok.exfs,ok.funs,ok.frf⟩
def Cx.Ok.unwish (ok:(X.wish E).Ok):X.Ok:=
 ⟨ok.mod,ok.kind,ok.glob,ok.blt,ok.above,ok.inj,ok.has,ok.cab,ok.hd,ok.frames,ok.stk,ok.exf,ok.bs,ok.bsz,ok.noex,ok.exfs,ok.funs,ok.frf⟩
section
variable {X:Cx}{oq:oj (o3×Obj)}{σ:St}{H:Hp}{s:o7}{E:o6->o7->Prop}
def Inv.wish (I:#[I])(E:o6->o7->Prop):Inv (X.wish E) oq σ H s:=⟨I.ok.wish E,I.os,I.bare,I.base,I.loc,I.cell,I.free,I.freeC,I.pin,I.hok,I.len,I.tk⟩
def Inv.unwish (I:Inv (X.wish E) oq σ H s):#[I]:=⟨I.ok.unwish,I.os,I.bare,I.base,I.loc,I.cell,I.free,I.freeC,I.pin,I.hok,I.len,I.tk⟩
def SP.unwish {D:mF}{f:Flow}{s':o7}(h:SP (X.wish E) oq D f s'):SP X oq D f s':=by
 cases f with
 |next=>erw[h,O,H',I,q];exact⟨O,H',I.unwish,q⟩
 |brk=>erw[h,O,H',I,q];exact⟨O,H',I.unwish,q⟩
 |cont=>erw[h,O,H',I,q];exact⟨O,H',I.unwish,q⟩
 |ret u=>erw[h,v,O,H',I,r,q];exact⟨v,O,H',I.unwish,r,q⟩
def PSs.nox {st:oj Stmt}{t:TS}(h:PSs X.nox st t):PSs X st t:=λoq s σ H D I hw=>
 vg (h oq s σ H D (I.wish _) hw) (λ_ _ q=>q.unwish) λ_ _ z=>Vw z
end
section
variable {X:Cx}{st:Stmt}{rest:oj Stmt}{t u:TS}{e:Expr}{te:TE}{pos:Pos}
abbrev AaO:TS:=λD σ H=>D.nx σ H
abbrev nw (t u:TS):TS:=λD σ H=>t {D with nx:=u D} σ H
def qt:PSs X [] AaO:=λ_ _ σ H _ I h=>vW ⟨σ,H,I,h⟩
def qc (h1:PS X st t)(h2:PSs X rest u):PSs X (st::rest) (nw t u):=by
 exists 2,D,I,h;refine V8 (thn (h1 oq s σ H {D with nx:=u D} I h) λf s1 q=>?_)
 cases f with
 |next=>
  erw[q,O,H',U,q];exact h2 oq s1 O H' D U q
 |ret v=>exact q
 |brk=>exact q
 |cont=>exact q
def qe (h1:PS X st t):PSs X [st] t:=by
 exists 2,D,I,h;refine V8 (thn (h1 oq s σ H D I h) λf s1 q=>?_);cases f with
 |next=>exact vW q
 |ret v=>exact q
 |brk=>exact q
 |cont=>exact q
abbrev AaX:TS:=λD σ H=>D.bk σ H
abbrev Adj:TS:=λD σ H=>D.ct σ H
def O4:PS X (.Pass pos) AaO:=λ_ _ σ H _ I h=>wpAny_Pass ⟨σ,H,I,h⟩
def Lx:PS X (.Break pos) AaX:=λ_ _ σ H _ I h=>wpAny_Break ⟨σ,H,I,h⟩
def Aj:PS X (.Continue pos) Adj:=λ_ _ σ H _ I h=>wpAny_Continue ⟨σ,H,I,h⟩
variable {oq:oj (o3×Obj)}{σ:St}
def Inv.quiet (I:#[I]):Rf X.env=false:=by simp[Rf,I.ok.kind]
abbrev Adh (te:TE):TS:=λD σ H=>te σ H λ_ H1=>D.nx σ H1
def Qa (O:PE X e te)(U:GG e U_ pos.line X.env=pure Vg):PS X (.Expr e pos) (Adh te):=by
 exists 2,D,I,h;exact T1 (thn (O oq s σ H _ I h) λv s1 ⟨x,H1,I1,r1,q1⟩=>⟨σ,H1,I1,q1⟩) I.quiet U
abbrev AeN (te:TE):TS:=λD σ H=>te σ H D.rt
def qo (O:PE X e te):PS X (.Return (u_ e) pos) (AeN te):=by
 exists 2,D,I,h;exact wpAny_Return_some (thn (O oq s σ H _ I h) λv s1 ⟨x,H1,U,r1,q1⟩=>⟨x,σ,H1,U,r1,q1⟩)
abbrev Ada:TS:=λD _ H=>D.rt .non H
def O3:PS X (.Return U_ pos) Ada:=λ_ _ σ H _ I h=>wpAny_Return_none ⟨.non,σ,H,I,1,h⟩
abbrev Aek (c:TT)(t u:TS):TS:=λD σ H=>c σ H λb H1=>if b=v_ then t D σ H1 else u D σ H1
def qF {c:Expr}{a b:oj Stmt}{tc:TT}(U:PT X c tc)(ha:PSs X a t)(hb:PSs X b u):PS X (.If c a b pos) (Aek tc t u):=by
 exists 2,D,I,h;refine wpAny_If (thn (U oq s σ H _ I h) λd s1 zq=>?_);erw[zq,H1,O,q1];cases d with
 |true=>exact ha oq s1 σ H1 D O q1
 |false=>exact hb oq s1 σ H1 D O q1
abbrev AaP:TS:=λ_ _ _=>False
def jY:PS X st AaP:=λ_ _ _ _ _ _ h=>h.elim
end
nonrec abbrev TG:=V->St->Hp->(St->Hp->Prop)->Prop
nonrec abbrev TGs:=oj V->St->Hp->(St->Hp->Prop)->Prop
abbrev PG (X:Cx)(target:Expr)(t:TG):Prop:=
 ∀(oq:oj (o3×Obj)) (s:o7) (σ:St) (H:Hp) (v:V) (u:o6) (Q:St->Hp->Prop),#[I]->ik v u->t v σ H Q->
  Vh #[X,X] X.A (Gn target X.env u) (λ_ s'=>∃σ' H',Inv X oq σ' H' s'/\Q σ' H') X.xe s
abbrev PGs (X:Cx)(ts:oj Expr)(t:TGs):Prop:=
 ∀(oq:oj (o3×Obj)) (s:o7) (σ:St) (H:Hp) (vs:oj V) (us:oj o6) (Q:St->Hp->Prop),#[I]->iw vs us->t vs σ H Q->
  Vh #[X,X] X.A (assignInOrder ((g_ ts X.env).map (·.2)) us) (λ_ s'=>∃σ' H',Inv X oq σ' H' s'/\Q σ' H') X.xe s
nonrec abbrev Ad3:=V->V->V->Hp->(Hp->Prop)->Prop
abbrev AeF (X:Cx)(t:Ad3):Prop:=
 ∀(oq:oj (o3×Obj)) (s:o7) (σ:St) (H:Hp) (o i v:V) (ov iv u:o6) (Q:Hp->Prop),#[I]->ik o ov->ik i iv->ik v u->t o i v H Q->
  Vh #[X,X] X.A (Tc ov iv u) (λ_ s'=>∃H',Inv X oq σ H' s'/\Q H') X.xe s
nonrec abbrev TIp:=V->V->Hp->VK->Prop
abbrev PIp (X:Cx)(op:Hl)(t:TIp):Prop:=
 ∀(oq:oj (o3×Obj)) (s:o7) (σ:St) (H:Hp) (x y:V) (v u:o6) (Q:VK),#[I]->ik x v->ik y u->t x y H Q->
  Vh #[X,X] X.A (T9 op v u) (EP X oq σ Q) X.xe s
section
variable {X:Cx}{pos:Pos}
abbrev YR (i:Nat):TG:=λv σ H Q=>Q (σ.set i (u_ v)) H
def qP {i:Nat}{x:Str}(O:X.N.Nodup)(hi:X.N[i]? =u_ x)(U:Loc X.env.scope x)(hf:X.fn x=v_\/X.env.scope.names.lookup x=u_ .local):PG X (.Name x pos) (YR i):=by
 exists 2,v,u,Q,I,r,h;exact Rg (zn I O hi U r (λs' I'=>⟨_,H,I',h⟩) hf)
abbrev Aez:TGs:=λvs σ H Q=>vs= []/\Q σ H
abbrev SV (t:TG)(u:TGs):TGs:=λvs σ H Q=>∃v r,vs=v::r/\t v σ H λσ' H'=>u r σ' H' Q
def XE:PGs X [] Aez:=by
 exists 2,vs,us,Q,I,r,h;erw[h,e,h];subst e;cases r;exact assignInOrder_nil ⟨σ,H,I,h⟩
def QM {e:Expr}{es:oj Expr}{t:TG}{u:TGs}(h1:PG X e t)(h2:PGs X es u)
  (O:(g_ (e::es) X.env).map (·.2)=Gn e X.env::(g_ es X.env).map (·.2):=by rfl):PGs X (e::es) (SV t u):=by
 exists 2,vs,us,Q,I,r,h;erw[h,v,vr,U,h];subst U;cases r with
 |cons r rr=>
  rw[O];refine assignInOrder_cons (thn (h1 oq s σ H _ _ _ I r h) λ_ s1 zq=>?_);erw[zq,σ1,H1,I1,q1];exact h2 oq s1 σ1 H1 _ _ Q I1 rr q1
abbrev AdR (K:o0)(n:Nat)(t:TGs):TG:=λv σ H Q=>∃a xs,v= .ref a/\SqT K H a xs/\↑xs=n/\t xs σ H Q
def oE {es:oj Expr}{k:Nat}{t:TGs}{n:Nat}(hc:X.calm=v_)(h:PGs X es t)
  (hn:↑(g_ es X.env)=n:=by rfl) (O:(g_ es X.env).findIdx? (·.1)=none:=by rfl):PG X (.Tuple es k pos) (AdR X.K n t):=by
 exists 2,v,u,Q,I,r,U;erw[U,a,xs,e1,hq,hl,U];subst e1;cases r;erw[I.tuple hq,its,rv,ht,hz];refine assign_Tuple_tuple (I.ok.hd hc) ht (by simp[hn,<-hl,rv.length]) O λh' hx=>?_
 have I1:Inv X oq σ H {s with heap:=h'}:=I.kept (t':=s.toks) λb o e=>hx b o (uP (uF e)) e
 exact h oq _ σ H xs _ Q I1 (by simpa using rv) U
abbrev Afe (to ti:TE)(t:Ad3):TG:=λv σ H Q=>to σ H λo H1=>ti σ H1 λi H2=>t o i v H2 λH3=>Q σ H3
def Abu {o i:Expr}{to ti:TE}{t:Ad3}(U:PE X o to)(hi:PE X i ti)(hs:AeF X t)
  (ha:∀v,Gn (.Subscript o i pos) X.env v=(do
   let ov<-VY [v] (eval o X.env)
   let O<-VY [v,ov] (eval i X.env)
   GK pos
   VY [v,ov,O] (Tc ov O v)
   release [v,ov,O] [])):PG X (.Subscript o i pos) (Afe to ti t):=by
 exists 2,v,u,Q,I,r,h;rw[ha];refine A7 (VL (thn (U oq s σ H _ I h) λov s1 zq=>?_));erw[zq,x,H1,I1,r1,q1];refine A7 (VL (thn (hi oq s1 σ H1 _ I1 q1) λO s2 zq=>?_));erw[zq,y,H2,I2,r2,q2];refine A7 (HC (A7 (VL (thn (hs oq s2 σ H2 x y v ov O u _ I2 r1 r2 r q2) λ_ s3 zq=>?_))));erw[zq,H3,I3,q3];exact wpAny_release ⟨σ,H3,I3,q3⟩
abbrev Adl (te:TE)(g:TG):TS:=λD σ H=>te σ H λx H1=>g x σ H1 D.nx
def Ng {tg e:Expr}{te:TE}{g:TG}(O:PE X e te)(U:PG X tg g)(hs:swapsWithSole [tg] e pos.line X.env=pure Vg)(hw:swappedStores [tg] e X.env=pure U_)
  (h1:(g_ [tg] X.env).map (·.2)= [Gn tg X.env]):PS X (.Assign [tg] e pos) (Adl te g):=by
 exists 2,D,I,h;refine wpAny_Assign_stores (thn (O oq s σ H _ I h) λv s1 zq=>?_) hs hw;erw[zq,x,H1,I1,r1,q1];rw[h1];exact thn (U oq s1 σ H1 x v _ I1 r1 q1) λ_ s2 q=>q
def qE {i:Nat}{x:Str}{e:Expr}{te:TE}{pos':Pos}(O:X.N.Nodup)(hi:X.N[i]? =u_ x)(U:Loc X.env.scope x)(he:PE X e te)(hs:GG e (u_ (.Name x pos')) pos.line X.env=pure Vg)(hf:X.fn x=v_\/X.env.scope.names.lookup x=u_ .local):
  PS X (.Assign [.Name x pos'] e pos) (Adl te (YR i)):=by
 exists 2,D,I,h;refine wpAny_Assign_Name (thn (he oq s σ H _ I h) λv s1 zq=>?_) hs;erw[zq,y,H1,I1,r1,q1];exact zn I1 O hi U r1 (λs2 I2=>⟨_,H1,I2,q1⟩) hf
inductive AeT (i:Nat)(te:TE)(ti:TIp)(D:mF)(σ:St)(H:Hp):Prop
 |mk (x:_)(_:σ[i]? =u_ (u_ x))(_:te σ H λy H1=>ti x y H1 λz H2=>D.nx (σ.set i (u_ z)) H2)
def Nf {i:Nat}{x:Str}{e:Expr}{te:TE}{op:Hl}{ti:TIp}{pos':Pos}(hN:X.N.Nodup)(hi:X.N[i]? =u_ x)(hx:Loc X.env.scope x)(he:PE X e te)(ho:PIp X op ti)(hf:X.fn x=v_\/X.env.scope.names.lookup x=u_ .local):
  PS X (.AugAssign (.Name x pos') op e pos) (AeT i te ti):=by
 exists 2,D,I,h;erw[h,v,e1,h];erw[I.loc,m,hn,hl];have aa:Vis X.env.scope x:=by rcases hx with k|k;exact .inl k;exact .inr (.inl k)
 erw[hl i x v hi e1 aa,u,r,l];refine wpAny_AugAssign_Name ?_;have go:Vh #[X,X] X.A (eval e X.env) (λw s₂=>Vh #[X,X] X.A (T9 op u w) (λr s₃=>Vh #[X,X] X.A (HS X.env x r) (λ_=>SP X oq D .next) X.xe s₃) X.xe s₂) X.xe s:=by
  refine thn (he oq s σ H _ I h) λw s1 zq=>?_;erw[zq,y,H1,I1,r1,q1];refine thn (ho oq s1 σ H1 v y u w _ I1 r r1 q1) λz s2 zq=>?_;erw[zq,zv,H2,I2,r2,q2];exact zn I2 hN hi hx r2 (λs3 I3=>⟨_,H2,I3,q2⟩) hf
 rcases l with⟨O,hm⟩|⟨O,c,hc,U⟩
 .exact FC I.ok.kind O hn hm go
 .rcases O with O|O
  .exact rE I.ok.kind O hc U go
  .rcases hx with k|k
   .have:X.env.scope.names.lookup x=u_ .free:=O;rw[k] at this;cases this
   .have:X.env.scope.names.lookup x=u_ .free:=O;rw[k] at this;cases this
abbrev ipI (f:Int->Int->Int):TIp:=λx y H Q=>∃i j,x= .int i/\y= .int j/\Q (.int (f i j)) H
def NC:PIp X .Add (ipI λi j=>i+j):=by
 exists 2,x,y,v,u,Q,I,O,U,h;erw[h,i,j,e1,e2,q];subst e1;subst e2;erw[O,t,rfl];erw[U,t',rfl];exact iadd_int ⟨.int _,H,I.tok _,⟨0⟩,q⟩
abbrev MW (c:TT)(tb:TS):TS:=λD σ H=>∃W:Nat->St->Hp->Prop,(∃m,W m σ H)/\∀m σ H,W m σ H->
 c σ H λb H1=>if b=v_ then∃N:St->Hp->Prop,(∀σ' H',N σ' H'->∃m',m'<m/\W m' σ' H')/\tb {D with nx:=N,ct:=N,bk:=D.nx} σ H1 else D.nx σ H1
def wc {c:Expr}{O:oj Stmt}{tc:TT}{tb:TS}(hp:PassesOwn #[X,X] X.A X.env X.xe)(hc:PT X c tc)(hb:PSs X O tb):PS X (.While c O [] pos) (MW tc tb):=by
 exists 2,D,I,h;erw[h,W,[m0,w0],U];refine wpAny_While (codeAny_whileLoop (λn s'=>∃σ' H',Inv X oq σ' H' s'/\W n σ' H') ?_ m0 ⟨σ,H,I,w0⟩);rintro n s1 ⟨σ1,H1,I1,w1⟩;refine Uf hp (thn (hc oq s1 σ1 H1 _ I1 (U n σ1 H1 w1)) λb s2 zq=>?_);erw[zq,H2,I2,q2];cases b with
 |true=>
  erw[q2,N,hN,q2];rw[A6 rfl];refine Uf hp (thn (hb oq s2 σ1 H2 _ I2 q2) λf s3 q3=>?_);cases f with
  |next=>
   erw[q3,σ3,H3,I3,n3];erw[hN σ3 H3 n3,m',hm,w3];exact⟨m',hm,σ3,H3,I3,w3⟩
  |cont=>
   erw[q3,σ3,H3,I3,n3];erw[hN σ3 H3 n3,m',hm,w3];exact⟨m',hm,σ3,H3,I3,w3⟩
  |brk=>exact q3
  |ret v=>exact q3
 |false=>
  rw[A4 u8];exact vW ⟨σ1,H2,I2,q2⟩
end
structure It where
 go:Nat->Hp->Prop
 yld:Nat->Hp->V->Hp->Prop
 stop:Nat->Hp->Prop
abbrev AX (X:Cx)(oq:oj (o3×Obj))(H:Hp)(b:o3):Prop:=
 H b=U_/\b≠X.env.locals/\b∉X.fs/\(b>X.ex\/X.s₀.heap.objs.size<=b)/\(∀x c,X.env.cells.lookup x=u_ c->c≠b)/\∀p>X.pn++oq,p.1≠b
variable {oq:oj (o3×Obj)}{σ:St}{H':Hp}
def Inv.fpOk (I:#[I])(O:#[0,s]<=b)(hn:H' b=U_):AX X oq H' b:=by
 exists hn,U2 (Vv I.lt O),I.nofs O,.inr (uZ I.sz O),λx c e z=>?_,λp U z=>?_
 .erw[I.cell x c e,v,q];exact A8 (Vv q.lt (by rwa[z])) (vL _)
 .exact A8 (Vv (uF (I.pin p U).1) (by rwa[z])) (vL _)
structure MN (P:o9)(w:og)(K:o0)(tg:Expr)(J:It)(fp:oj o3)(it:o3)(tn:Nat->o8->Prop):Prop where
 mem:it>fp
 obj:∀i h,tn i h->∀b>fp,∃o,h.get? b=u_ o/\∀v,o.data≠ .cell v
 keep:∀i h h',tn i h->(∀b>fp,∀o,h.get? b=u_ o->h'.get? b=u_ o)->tn i h'
 item:∀(X:Cx),X.prog=P->X.w=w->X.K=K->X.calm=v_->∀(i:Nat) (oq:oj (o3×Obj)) (s:o7) (σ:St) (H:Hp) (E:o6->o7->Prop),#[I]->(∀b>fp,AX X oq H b)->tn i s.heap->J.go i H->
  Vh (Vu P w) X.A (VO (-it)) (λr s1=>∃u,r=u_ u/\
   Vh (Vu P w) X.A (HR tg (-it) u) (λ_ s2=>∃x H',Inv X oq σ H' s2/\ik x u/\J.yld i H x H'/\tn (i+1) s2.heap/\∀b>fp,H' b=U_) E s1) E s
 done:∀(X:Cx),X.prog=P->X.w=w->X.K=K->X.calm=v_->∀(i:Nat) (oq:oj (o3×Obj)) (s:o7) (σ:St) (H:Hp) (E:o6->o7->Prop),#[I]->(∀b>fp,AX X oq H b)->tn i s.heap->J.stop i H->
  Vh (Vu P w) X.A (VO (-it)) (λr s1=>r=U_/\Inv X oq σ H s1) E s
 self:∀(A:oh) (i:Nat) (s:o7) (Q:o6->o7->Prop) (E:o6->o7->Prop),tn i s.heap->Q (-it) s->Vh (Vu P w) A (HY (-it)) Q E s
nonrec abbrev TI:=St->Hp->(It->Hp->Prop)->Prop
abbrev PIE (X:Cx)(oq:oj (o3×Obj))(σ:St)(tg:Expr)(R:It->Hp->Prop)(itv:o6)(s2:o7):Prop:=
 ∃(it:o3) (fp:oj o3) (tn:Nat->o8->Prop) (J:It) (H':Hp),itv= .ref it/\Inv X oq σ H' s2/\MN X.prog X.w X.K tg J fp it tn/\tn 0 s2.heap/\(∀b>fp,AX X oq H' b)/\R J H'
abbrev PI (X:Cx)(tg iter:Expr)(wi:TI):Prop:=
 ∀(oq:oj (o3×Obj)) (s:o7) (σ:St) (H:Hp) (R:It->Hp->Prop),#[I]->wi σ H R->
  Vh #[X,X] X.A (eval iter X.env) (λv s1=>Vh #[X,X] X.A (HY v) (PIE X oq σ tg R) X.xe s1) X.xe s
def CV {M:Gq}{A:oh}{E:o6->o7->Prop}{s:o7}{tg:Expr}{it:o3}{u:o6}{o:Obj}{n:String}{vs:Array o6}{Q:Unit->o7->Prop}(U:s.heap.get? it=u_ o)(hc:o.cls= .type n)(hd:o.data= .fields vs)
  (hn: ["enumerate","zip","dict_itemiterator","dict_reverseitemiterator","odict_iterator","itertools.zip_longest","itertools.pairwise"].contains n=Vg) (O:Q G7 s):Vh M A (HR tg (-it) u) Q E s:=by
 unfold HR;cases tg<;>first
  |exact uw O
  |(cases u<;>first
    |exact uw O
    |(refine A7 (tI U ?_)
      rw[hc,hd];show Vh M A (if(["enumerate","zip","dict_itemiterator","dict_reverseitemiterator","odict_iterator","itertools.zip_longest","itertools.pairwise"].contains n&&vs[0]? ==u_ (VQ _))=v_ then _ else _) Q E s
      rw[A4 (by intro h;rw[hn,r_] at h;cases h)]
      exact uw O))
abbrev Itl (K:o0)(a:o3):It:=
 ⟨λi H=>∃xs x,SqL K H a xs/\xs[i]? =u_ x,λi H x H'=>H'=H/\∀xs,SqL K H a xs->xs[i]? =u_ x,λi H=>∃xs,SqL K H a xs/\↑xs<=i⟩
abbrev Itt (K:o0)(a:o3):It:=
 ⟨λi H=>∃xs x,SqT K H a xs/\xs[i]? =u_ x,λi H x H'=>H'=H/\∀xs,SqT K H a xs->xs[i]? =u_ x,λi H=>∃xs,SqT K H a xs/\↑xs<=i⟩
abbrev Itr (lo:Int)(n:Nat):It:=[λi _=>i<n:λi H x H'=>H'=H/\x= .int (lo+i):λi _=>n<=i]
variable {K:o0}{tg:Expr}
def Db {P:o9}(a it:o3):MN P w K tg (Itl K a) [it] it (λi h=>h.IsListIter it a i) where
 mem:=by simp
 obj:=λi h st b O=>by
  have e:b=it:=by simpa using O
  subst e;erw[st,o,e,c,d];exact⟨o,e,λv z=>by rw[d] at z;cases z⟩
 keep:=λi h h' st k=>st.at λo e=>k it (by simp) o e
 item:=by
  intro X hP hw hK hc i oq s σ H E I hf st hg;subst hP hw hK;erw[hg,xs,x,hq,hx];erw[I.list hq,its,rv,p,hz];erw[rv.get hx,u,hu,ru];obtain⟨f0,f1,f2,f3,f4,f5⟩:=hf it (by simp)
  refine RF st p.isList (x:=u) (by simpa using hu) λh' U sb=>?_
  have I1:Inv X oq σ H {s with heap:=h'}:=I.turned (t':=s.toks) (λb o O e=>(sb.2 b O).trans e) f0 f1 f3 f4 f5
  erw[id U,o,e,c,d];exact⟨u,1,CV (s:={s with heap:=h'}) e c d () ⟨x,H,I1,ru,⟨1,λys hy=>by rwa[I.list_inj hy hq]⟩,U,λb O=>(hf b O).1⟩⟩
 done:=by
  intro X hP hw hK hc i oq s σ H E I hf st hg;subst hP hw hK;erw[hg,xs,hq,hx];erw[I.list hq,its,rv,p,hz];obtain⟨f0,f1,f2,f3,f4,f5⟩:=hf it (by simp)
  have hl:=↑rv;exact rc (I.ok.hd hc) st p.isList (by simp;omega) λh' eb=>[1:I.turned (t':=s.toks) (λb o O e=>eb b o O e) f0 f1 f3 f4 f5]
 self:=λ_ _ _ _ _ st h=>wpAny_pyIter_listiter st h
def ki {P:o9}(a it:o3):MN P w K tg (Itt K a) [it] it (λi h=>h.IsTupleIter it a i) where
 mem:=by simp
 obj:=λi h st b O=>by
  have e:b=it:=by simpa using O
  subst e;erw[st,o,e,c,d];exact⟨o,e,λv z=>by rw[d] at z;cases z⟩
 keep:=λi h h' st k=>st.at λo e=>k it (by simp) o e
 item:=by
  intro X hP hw hK hc i oq s σ H E I hf st hg;subst hP hw hK;erw[hg,xs,x,hq,hx];erw[I.tuple hq,its,rv,p,hz];erw[rv.get hx,u,hu,ru];obtain⟨f0,f1,f2,f3,f4,f5⟩:=hf it (by simp)
  refine wpAny_pyNext_tuple_item st (show s.heap.IsTuple a its.toArray from p) (x:=u) (by simpa using hu) λh' U sb=>?_
  have I1:Inv X oq σ H {s with heap:=h'}:=I.turned (t':=s.toks) (λb o O e=>(sb.2 b O).trans e) f0 f1 f3 f4 f5
  erw[id U,o,e,c,d];exact⟨u,1,CV (s:={s with heap:=h'}) e c d () ⟨x,H,I1,ru,⟨1,λys hy=>by rwa[I.tuple_inj hy hq]⟩,U,λb O=>(hf b O).1⟩⟩
 done:=by
  intro X hP hw hK hc i oq s σ H E I hf st hg;subst hP hw hK;erw[hg,xs,hq,hx];erw[I.tuple hq,its,rv,p,hz];obtain⟨f0,f1,f2,f3,f4,f5⟩:=hf it (by simp)
  have hl:=↑rv;exact wpAny_pyNext_tuple_end (I.ok.hd hc) st (show s.heap.IsTuple a its.toArray from p) (by simp;omega) λh' eb=>[1:I.turned (t':=s.toks) (λb o O e=>eb b o O e) f0 f1 f3 f4 f5]
 self:=λ_ _ _ _ _ st h=>wpAny_pyIter_tupleiter st h
def Ck {P:o9}(it:o3)(lo:Int)(n:Nat):MN P w K tg (Itr lo n) [it] it (λi h=>HD h it (lo+(i:Nat)*1) ((n:Int)-(i:Nat)) 1) where
 mem:=by simp
 obj:=λi h st b O=>by
  have e:b=it:=by simpa using O
  subst e;exact⟨_,st,λv z=>by
   have z':rH _=RQ v:=z;cases z'⟩
 keep:=λi h h' st k=>k it (by simp) _ st
 item:=by
  intro X hP hw hK hc i oq s σ H E I hf st hg;subst hP hw hK;obtain⟨f0,f1,f2,f3,f4,f5⟩:=hf it (by simp)
  have W:=RH (prog:=X.prog) (w:=X.w) (I.ok.hd hc) it lo 1 n;refine uW (n:=1) I.tk (W.item i s _ _ hg st λv h' tk hv U kk=>?_);intro htk;erw[hv,t,rfl];have I1:Inv X oq σ H {s with heap:=h',toks:=tk}:=I.turned (λb o O e=>kk b o (by simpa using O) e) f0 f1 f3 f4 f5
  exists 0,CV (s:={s with heap:=h',toks:=tk}) (n:="range_iterator") U rfl rfl () ⟨.int (lo+i),H,I1,[t:?_],[1:1],U,λb O=>(hf b O).1⟩
  rw[Int.mul_one]
 done:=by
  intro X hP hw hK hc i oq s σ H E I hf st hg;subst hP hw hK;obtain⟨f0,f1,f2,f3,f4,f5⟩:=hf it (by simp)
  exact FJ (I.ok.hd hc) st (by have:n<=i:=hg;omega) λh' eb=>[1:I.turned (t':=s.toks) (λb o O e=>eb b o O e) f0 f1 f3 f4 f5]
 self:=λ_ _ _ _ _ st h=>rp st h
section
variable {X:Cx}{tg:Expr}
inductive AcP (K:PySem.W.Frag)(R:(It->Hp->Prop))(x:V)(H1:Hp):Prop
 |mk (a:_)(_:x=-a)(_:(∃xs,SqL K H1 a xs))(_:R (Itl K a) H1)
abbrev AdN (K:o0)(tl:TE):TI:=λσ H R=>tl σ H λx H1=>AcP K R x H1
inductive Aeb (K:PySem.W.Frag)(R:(It->Hp->Prop))(x:V)(H1:Hp):Prop
 |mk (a:_)(_:x=-a)(_:(∃xs,SqT K H1 a xs))(_:R (Itt K a) H1)
abbrev Afb (K:o0)(tl:TE):TI:=λσ H R=>tl σ H λx H1=>Aeb K R x H1
def Wm {l:Expr}{tl:TE}(U:PE X l tl):PI X tg l (AdN X.K tl):=by
 exists 2,R,I,h;refine thn (U oq s σ H _ I h) λv s1 zq=>?_;erw[zq,x,H1,O,r1,q1];erw[q1,a,e,[xs,hq],q];subst e;cases r1;erw[O.list hq,its,rv,p,hz];refine UX p.isList ?_;exists #[0,s1],[#[0,s1]],_,_,H1,1,O.kept (t':=s1.toks) λb o e=>ub _ e,Db a _,⟨_,uE _ rfl,1,1⟩,λb hb=>?_,q;have e:b=#[0,s1]:=by simpa using hb
 subst e;exact O.fpOk (uj _) (O.hok.fresh (uj _))
def pi_tup {l:Expr}{tl:TE}(U:PE X l tl):PI X tg l (Afb X.K tl):=by
 exists 2,R,I,h;refine thn (U oq s σ H _ I h) λv s1 zq=>?_;erw[zq,x,H1,O,r1,q1];erw[q1,a,e,[xs,hq],q];subst e;cases r1;erw[O.tuple hq,its,rv,p,hz];refine U3 (show s1.heap.IsTuple a its.toArray from p) ?_
 exists #[0,s1],[#[0,s1]],_,_,H1,1,O.kept (t':=s1.toks) λb o e=>ub _ e,ki a _,⟨_,uE _ rfl,1,1⟩,λb hb=>?_,q;have e:b=#[0,s1]:=by simpa using hb
 subst e;exact O.fpOk (uj _) (O.hok.fresh (uj _))
def Bu {oq:oj (o3×Obj)}{σ:St}{H:Hp}{s:o7}{R:It->Hp->Prop}{E:o6->o7->Prop}{lo hi:Int}{t u v:Tok}{tk:Nat}(I:#[I])(h1: -(2^62)<=lo)(h2:lo<2^62)(h3: -(2^62)<=hi)(h4:hi<2^62)
  (q:R (Itr lo (hi-lo).toNat) H) (htk:0<tk:=by ac_rfl):Vh #[X,X] X.A (HY (.ref #[0,s])) (PIE X oq σ tg R) E {s with heap:=s.heap.push {cls:= .type "range",data:= .fields #[.int lo t,.int hi u,.int 1 v]},toks:=tk}:=by
 refine FU (rR ..) (small_one h1 h2 h3 h4) ?_;have O:Inv X oq σ H {s with heap:=s.heap.push {cls:= .type "range",data:= .fields #[.int lo t,.int hi u,.int 1 v]},toks:=tk}:=I.kept λb o e=>ub _ e
 refine⟨(s.heap.push {cls:= .type "range",data:= .fields #[.int lo t,.int hi u,.int 1 v]}).objs.size,[(s.heap.push {cls:= .type "range",data:= .fields #[.int lo t,.int hi u,.int 1 v]}).objs.size],_,_,H,1,
  O.kept (t':=tk) λb o e=>ub _ e,Ck _ lo (hi-lo).toNat,?_,λb U=>?_,q⟩
 .have e1:lo+((0:Nat):Int)*1=lo:=by simp
  have e2:(((hi-lo).toNat:Nat):Int)-((0:Nat):Int)=H_ lo hi 1:=by rw[rangeSize_one];split<;>omega
  show HD _ _ (lo+((0:Nat):Int)*1) ((((hi-lo).toNat:Nat):Int)-((0:Nat):Int)) 1;rw[e1,e2];exact uE _ rfl
 .have e:b=(s.heap.push {cls:= .type "range",data:= .fields #[.int lo t,.int hi u,.int 1 v]}).objs.size:=by simpa using U
  subst e;exact O.fpOk (uj _) (O.hok.fresh (uj _))
inductive AcO (R:(It->Hp->Prop))(vs:List V)(H1:Hp):Prop
 |mk (j:Int)(_:vs= [.int j])(_: -(2^62)<=j)(_:j<2^62)(_:R (Itr 0 j.toNat) H1)
abbrev AdM (ta:TA):TI:=λσ H R=>ta σ H λvs H1=>AcO R vs H1
inductive AcN (R:(It->Hp->Prop))(vs:List V)(H1:Hp):Prop
 |mk (i j:Int)(_:vs= [.int i,.int j])(_:(-(2^62)<=i/\i<2^62/\ -(2^62)<=j/\j<2^62))(_:R (Itr i (j-i).toNat) H1)
abbrev AdL (ta:TA):TI:=λσ H R=>ta σ H λvs H1=>AcN R vs H1
def jH {a:Expr}{ta:TA}{p pos:Pos}(O:Gl X "range")(hm:X.mg "range"=U_)(ha:PA X [a] ta)(U:Vl [a] X.env= [(Vg,eval a X.env)]):PI X tg (.Call (.Name "range" p) [a] [] pos) (AdM ta):=by
 exists 2,R,I,h;refine Hk (Zr I O hm Tw (vv (thn (ha pos oq s σ H _ I h) λus s1 zq=>?_) U rfl));erw[zq,vs,H1,I1,r1,q1];erw[q1,j,e,q1,q2,q];subst e;cases r1 with
 |cons r rr=>
  cases rr;erw[r,t,rfl];exact call_range_1 (Bu I1 () () q1 q2 (by simpa using q))
def DX {a b:Expr}{ta:TA}{p pos:Pos}(hg:Gl X "range")(hm:X.mg "range"=U_)(ha:PA X [a,b] ta)(hs:Vl [a,b] X.env= [(Vg,eval a X.env),(Vg,eval b X.env)])(O:Vl [b] X.env= [(Vg,eval b X.env)]):
  PI X tg (.Call (.Name "range" p) [a,b] [] pos) (AdL ta):=by
 exists 2,R,I,h;refine Hk (Zr I hg hm Tw (vv (thn (ha pos oq s σ H _ I h) λus s1 zq=>?_) (by rw[hs,O]) (by rw[O];rfl)));erw[zq,vs,H1,I1,r1,q1]
 erw[q1,i,j,e,[q1,q2,q3,q4],q];subst e;cases r1 with
 |cons r U=>
  cases U with
  |cons r' U=>
   cases U;erw[r,t,rfl];erw[r',t',rfl];exact call_range_2 (Bu I1 q1 q2 q3 q4 q)
abbrev Ael (wi:TI)(g:TG)(tb:TS):TS:=λD σ H=>wi σ H λJ H1=>∃W:Nat->Nat->St->Hp->Prop,(∃m,W 0 m σ H1)/\∀i m σ H,W i m σ H->
 (J.stop i H/\D.nx σ H)\/(J.go i H/\∃N:St->Hp->Prop,(∀σ' H',N σ' H'->∃m',m'<m/\W (i+1) m' σ' H')/\∀x H',J.yld i H x H'->g x σ H' λσ2 H2=>tb {D with nx:=N,ct:=N,bk:=D.nx} σ2 H2)
abbrev oC (fp:oj o3)(h:o8):oj (o3×Obj):=fp.filterMap λb=>(h.get? b).map λo=>(b,o)
variable {fp:oj o3}
def J6 (O:b>fp)(e:h.get? b=u_ o):(b,o)>oC fp h:=List.mem_filterMap.mpr ⟨b,O,by rw[e];rfl⟩
def Eu {p:o3×Obj}(O:p>oC fp h):p.1>fp/\h.get? p.1=u_ p.2:=by
 erw[List.mem_filterMap.mp O,b,U,e];cases q:h.get? b with
 |none=>rw[q] at e;cases e
 |some o=>
  rw[q] at e;have e':(b,o)=p:=uJ e;subst e';exact[U:q]
def Inv.pinned (I:#[I])(hf:∀b>fp,AX X oq H b)(ho:∀b>fp,∃o,s.heap.get? b=u_ o/\∀v,o.data≠ .cell v):Inv X (oq++oC fp s.heap) σ H s:=
 I.pins_of λp hp=>(Ac.mp hp).elim (λz=>I.pin p (uN _ z)) λz=>by
  erw[Eu z,O,e];erw[hf p.1 O,f0,f1,f2,_];erw[ho p.1 O,o,U,d];rw[e] at U;cases U;exact⟨e,f0,f1,f2,d⟩
def Inv.unpinned {pl:oj (o3×Obj)}(I:Inv X (oq++pl) σ H s):#[I]:=I.pins_of λp O=>I.pin p (uN _ (vz _ O))
def YO {O:Expr}{ad:oj Stmt}{wi:TI}{g:TG}{tb:TS}{pos:Pos}(hp:PassesOwn #[X,X] X.A X.env X.xe)(hc:X.calm=v_)(hi:PI X tg O wi)(hg:PG X tg g)(U:PSs X ad tb)
  (hs:∀x,To O X.env x=pure x):PS X (.For tg O ad [] pos) (Ael wi g tb):=by
 exists 2,D,I,h;refine wpAny_For (thn (hi oq s σ H _ I h) λv s1 h1=>thn h1 λao s2 h2=>?_) hs;erw[h2,it,fp,tn,J,H2,e,I2,T,ak,f2,W,[m0,w0],af];subst e;have aa:∀{H':Hp},(∀b>fp,H' b=U_)->∀b>fp,AX X oq H' b:=λhn b U=>[hn b U:(f2 b U).2];refine codeAny_forLoop_any (λn s'=>∃i σ' H',Inv X oq σ' H' s'/\tn i s'.heap/\(∀b>fp,H' b=U_)/\W i n σ' H') ?_ m0 ⟨(0),σ,H2,I2,ak,λb U=>(f2 b U).1,w0⟩;rintro n s3 ⟨i,σ3,H3,I3,ag,ah,w3⟩;rcases af i n σ3 H3 w3 with⟨stop,qn⟩|⟨go,N,hN,step⟩
 .refine Uf hp (thn (T.done X rfl rfl rfl hc i oq s3 σ3 H3 X.xe I3 (aa ah) ag stop) λr s4 zq=>?_);erw[zq,hr,I4];subst hr;exact vW ⟨σ3,H3,I4,qn⟩
 .refine Uf hp (thn (T.item X rfl rfl rfl hc i oq s3 σ3 H3 X.xe I3 (aa ah) ag go) λr s4 zq=>?_);erw[zq,u,hr,h4];subst hr;refine Uf hp (thn h4 λ_ s5 zq=>?_);erw[zq,x,H5,I5,r5,y5,ae,al];have am:=I5.pinned (aa al) (T.obj _ _ ae);refine Uf hp (thn (hg _ s5 σ3 H5 x u _ am r5 (step x H5 y5)) λ_ s6 zq=>?_);erw[zq,σ6,H6,I6,q6];refine Uf hp (thn (U _ s6 σ6 H6 _ I6 q6) λf s7 q7=>?_);have ac:∀{σ7:St}{H7:Hp},Inv X (oq++oC fp s5.heap) σ7 H7 s7->N σ7 H7->∃m,m<n/\∃i σ' H',Inv X oq σ' H' s7/\tn i s7.heap/\(∀b>fp,H' b=U_)/\W i m σ' H':=λ{σ7 H7} I7 n7=>by
   erw[hN σ7 H7 n7,m',hm,w7];exists m',hm,i+1,σ7,H7,I7.unpinned,T.keep _ _ _ ae λb U o e=>(I7.pin (b,o) (uN _ (uN _ (J6 U e)))).1,λb U=>?_,w7;erw[T.obj _ _ ae b U,o,e,d];exact(I7.pin (b,o) (uN _ (uN _ (J6 U e)))).2.1
  cases f with
  |next=>erw[q7,σ7,H7,I7,n7];exact ac I7 n7
  |cont=>erw[q7,σ7,H7,I7,n7];exact ac I7 n7
  |brk=>erw[q7,σ7,H7,I7,q7];exact⟨σ7,H7,I7.unpinned,q7⟩
  |ret v=>erw[q7,x7,σ7,H7,I7,r7,q7];exact⟨x7,σ7,H7,I7.unpinned,r7,q7⟩
end
def Kk {K:o0}{a:o3}{xs:oj V}{g:TG}{tb:TS}{D:mF}{σ:St}{H:Hp}(O:Nat->St->Hp->Prop)(h0:O 0 σ H)(hl:∀i σ H,i<=↑xs->O i σ H->SqL K H a xs)
  (hs:∀i x σ H,xs[i]? =u_ x->O i σ H->g x σ H λσ2 H2=>tb {D with nx:=O (i+1),ct:=O (i+1),bk:=D.nx} σ2 H2) (hd:∀σ H,O ↑xs σ H->D.nx σ H):
  ∃W:Nat->Nat->St->Hp->Prop,(∃m,W 0 m σ H)/\∀i m σ H,W i m σ H->
   ((Itl K a).stop i H/\D.nx σ H)\/((Itl K a).go i H/\∃N:St->Hp->Prop,(∀σ' H',N σ' H'->∃m',m'<m/\W (i+1) m' σ' H')/\∀x H',(Itl K a).yld i H x H'->g x σ H' λσ2 H2=>tb {D with nx:=N,ct:=N,bk:=D.nx} σ2 H2):=by
 exists λi m σ H=>m=↑xs-i/\i<=↑xs/\O i σ H,⟨↑xs,by simp,uS _,h0⟩
 rintro i m σ H ⟨rfl,hi,p⟩;have q:=hl i σ H hi p;by_cases U:i<↑xs
 .refine .inr ⟨⟨xs,xs[i],q,by simp[U]⟩,O (i+1),λσ' H' p'=>⟨↑xs-(i+1),(),1,U,p'⟩,λx H' y=>?_⟩
  erw[y,e,y];subst e;exact hs i x σ _ (y xs q) p
 .have e:i=↑xs:=by omega
  subst e;exact .inl [[xs:q:uj _]:hd σ H p]
def WV {K:o0}{a:o3}{xs:oj V}{g:TG}{tb:TS}{D:mF}{σ:St}{H:Hp}(O:Nat->St->Hp->Prop)(h0:O 0 σ H)(hl:∀i σ H,i<=↑xs->O i σ H->SqT K H a xs)
  (hs:∀i x σ H,xs[i]? =u_ x->O i σ H->g x σ H λσ2 H2=>tb {D with nx:=O (i+1),ct:=O (i+1),bk:=D.nx} σ2 H2) (hd:∀σ H,O ↑xs σ H->D.nx σ H):
  ∃W:Nat->Nat->St->Hp->Prop,(∃m,W 0 m σ H)/\∀i m σ H,W i m σ H->
   ((Itt K a).stop i H/\D.nx σ H)\/((Itt K a).go i H/\∃N:St->Hp->Prop,(∀σ' H',N σ' H'->∃m',m'<m/\W (i+1) m' σ' H')/\∀x H',(Itt K a).yld i H x H'->g x σ H' λσ2 H2=>tb {D with nx:=N,ct:=N,bk:=D.nx} σ2 H2):=by
 exists λi m σ H=>m=↑xs-i/\i<=↑xs/\O i σ H,⟨↑xs,by simp,uS _,h0⟩
 rintro i m σ H ⟨rfl,hi,p⟩;have q:=hl i σ H hi p;by_cases U:i<↑xs
 .refine .inr ⟨⟨xs,xs[i],q,by simp[U]⟩,O (i+1),λσ' H' p'=>⟨↑xs-(i+1),(),1,U,p'⟩,λx H' y=>?_⟩
  erw[y,e,y];subst e;exact hs i x σ _ (y xs q) p
 .have e:i=↑xs:=by omega
  subst e;exact .inl [[xs:q:uj _]:hd σ H p]
def wZ {lo:Int}{n:Nat}{g:TG}{tb:TS}{D:mF}{σ:St}{H:Hp}(O:Nat->St->Hp->Prop)(h0:O 0 σ H)
  (hs:∀i σ H,i<n->O i σ H->g (.int (lo+i)) σ H λσ2 H2=>tb {D with nx:=O (i+1),ct:=O (i+1),bk:=D.nx} σ2 H2) (hd:∀σ H,O n σ H->D.nx σ H):
  ∃W:Nat->Nat->St->Hp->Prop,(∃m,W 0 m σ H)/\∀i m σ H,W i m σ H->
   ((Itr lo n).stop i H/\D.nx σ H)\/((Itr lo n).go i H/\∃N:St->Hp->Prop,(∀σ' H',N σ' H'->∃m',m'<m/\W (i+1) m' σ' H')/\∀x H',(Itr lo n).yld i H x H'->g x σ H' λσ2 H2=>tb {D with nx:=N,ct:=N,bk:=D.nx} σ2 H2):=by
 exists λi m σ H=>m=n-i/\i<=n/\O i σ H,⟨n,by simp,uS _,h0⟩
 rintro i m σ H ⟨rfl,hi,p⟩;by_cases U:i<n
 .refine .inr ⟨U,O (i+1),λσ' H' p'=>⟨n-(i+1),(),1,U,p'⟩,λx H' y=>?_⟩
  erw[y,e,y];subst e y;exact hs i σ _ U p
 .have e:i=n:=by omega
  subst e;exact .inl [uj _:hd σ H p]
nonrec abbrev R2:=V->V->Hp->VK->Prop
abbrev OpR (X:Cx)(f:o6->o6->Sem o6)(r:R2):Prop:=
 ∀(oq:oj (o3×Obj)) (s:o7) (σ:St) (H:Hp) (x y:V) (v u:o6) (Q:VK),#[I]->ik x v->ik y u->r x y H Q->
  Vh #[X,X] X.A (f v u) (EP X oq σ Q) X.xe s
abbrev UnR (X:Cx)(f:o6->Sem o6)(r:V->Hp->VK->Prop):Prop:=
 ∀(oq:oj (o3×Obj)) (s:o7) (σ:St) (H:Hp) (x:V) (v:o6) (Q:VK),#[I]->ik x v->r x H Q->
  Vh #[X,X] X.A (f v) (EP X oq σ Q) X.xe s
abbrev Y3 (X:Cx)(f:o6)(r:oj V->Hp->VK->Prop):Prop:=
 ∀(oq:oj (o3×Obj)) (s:o7) (σ:St) (H:Hp) (xs:oj V) (us:oj o6) (Q:VK),#[I]->iw xs us->r xs H Q->
  Vh #[X,X] X.A (call f us) (EP X oq σ Q) X.xe s
abbrev Afi (X:Cx)(r:V->Hp->(Bool->Hp->Prop)->Prop):Prop:=
 ∀(oq:oj (o3×Obj)) (s:o7) (σ:St) (H:Hp) (x:V) (v:o6) (Q:Bool->Hp->Prop),#[I]->ik x v->r x H Q->
  Vh #[X,X] X.A (truthy v) (TP X oq σ Q) X.xe s
abbrev tOp (r:R2)(ta tb:TE):TE:=λσ H Q=>ta σ H λx H1=>tb σ H1 λy H2=>r x y H2 Q
abbrev tUn (r:V->Hp->VK->Prop)(ta:TE):TE:=λσ H Q=>ta σ H λx H1=>r x H1 Q
inductive rI (C:Int->Int->Prop)(g:Int->Int->V)(x:V)(y:V)(H:Hp)(Q:VK):Prop
 |mk (i:_)(j:_)(_:x= .int i)(_:y= .int j)(_:C i j)(_:Q (g i j) H)
inductive rI0 (g:Int->Int->V)(x:V)(y:V)(H:Hp)(Q:VK):Prop
 |mk (i:_)(j:_)(_:x= .int i)(_:y= .int j)(_:Q (g i j) H)
inductive rU (g:Int->V)(x:V)(H:Hp)(Q:VK):Prop
 |mk (i:_)(_:x= .int i)(_:Q (g i) H)
section
variable {X:Cx}{a b c:Expr}{ta tb tc:TE}{pos:Pos}
def Ad1 (ha:PE X a ta)(O:PE X b tb){oq:oj (o3×Obj)}{s:o7}{σ:St}{H:Hp}{R:V->V->Hp->Prop}(I:#[I])
  (h:ta σ H λx H1=>tb σ H1 λy H2=>R x y H2) {Q:o6->o7->Prop}{f:o6->o6->Sem o6}
  (U:∀v u s2 x y H2,Inv X oq σ H2 s2->ik x v->ik y u->R x y H2->Vh #[X,X] X.A (f v u) Q X.xe s2):
  Vh #[X,X] X.A (eval a X.env) (λv s₁=>Vh #[X,X] X.A (eval b X.env) (λu s₂=>Vh #[X,X] X.A (f v u) Q X.xe s₂) X.xe s₁) X.xe s:=by
 refine thn (ha oq s σ H _ I h) λv s1 zq=>?_;erw[zq,x,H1,I1,r1,q1];refine thn (O oq s1 σ H1 _ I1 q1) λu s2 zq=>?_;erw[zq,y,H2,I2,r2,q2];exact U v u s2 x y H2 I2 r1 r2 q2
def qV {O:Hl}{r:R2}(U:OpR X (VJ O) r)(ha:PE X a ta)(hb:PE X b tb):PE X (.BinOp a O b pos) (tOp r ta tb):=by
 exists 2,Q,I,h;exact wpAny_BinOp (Ad1 ha hb I h λv u s2 x y H2 I2 rx ry q=>U oq s2 σ H2 x y v u Q I2 rx ry q)
def Lz {O:UnaryOp}{r:V->Hp->VK->Prop}(U:UnR X (unaryOp O) r)(ha:PE X a ta):PE X (.UnaryOp O a pos) (tUn r ta):=by
 exists 2,Q,I,h;exact UnaryOp_ (thn (ha oq s σ H _ I h) λv s1 ⟨x,H1,I1,r1,q1⟩=>U oq s1 σ H1 x v Q I1 r1 q1)
def opI {f:o6->o6->Sem o6}{C:Int->Int->Prop}{g:Int->Int->Int}
  (rule:∀(i j:Int) (t u:Tok) (s:o7) (Q:o6->o7->Prop) (E:o6->o7->Prop),C i j->Q (.int (g i j) s.toks) {s with toks:=s.toks+1}->Vh #[X,X] X.A (f (.int i t) (.int j u)) Q E s):
  OpR X f (rI C λi j=> .int (g i j)):=by
 exists 2,x,y,v,u,Q,I,O,U,h;erw[h,i,j,rfl,rfl,hc,q];erw[O,t,rfl];erw[U,t',rfl];exact rule i j t t' s _ _ hc ⟨.int (g i j),H,I.tok _,⟨0⟩,q⟩
def Aev {f:o6->o6->Sem o6}{g:Int->Int->Int}
  (rule:∀(i j:Int) (t u:Tok) (s:o7) (Q:o6->o7->Prop) (E:o6->o7->Prop),Q (.int (g i j) s.toks) {s with toks:=s.toks+1}->Vh #[X,X] X.A (f (.int i t) (.int j u)) Q E s):
  OpR X f (rI0 λi j=> .int (g i j)):=by
 exists 2,x,y,v,u,Q,I,O,U,h;erw[h,i,j,rfl,rfl,q];erw[O,t,rfl];erw[U,t',rfl];exact rule i j t t' s _ _ ⟨.int (g i j),H,I.tok _,⟨0⟩,q⟩
def AcV {f:o6->o6->Sem o6}{g:Int->Int->Bool}
  (rule:∀(i j:Int) (t u:Tok) (s:o7) (Q:o6->o7->Prop) (E:o6->o7->Prop),Q (.bool (g i j)) s->Vh #[X,X] X.A (f (.int i t) (.int j u)) Q E s):
  OpR X f (rI0 λi j=> .bl (g i j)):=by
 exists 2,x,y,v,u,Q,I,O,U,h;erw[h,i,j,rfl,rfl,q];erw[O,t,rfl];erw[U,t',rfl];exact rule i j t t' s _ _ ⟨.bl (g i j),H,I,1,q⟩
abbrev Afm (i j:Int):Prop:=0<j/\j<1073741824
abbrev Afl (i j:Int):Prop:=0<=j/\j<=1000000/\i.natAbs<2^64
abbrev Ac2 (i j:Int):Prop:=(-(2^64)<i/\i<2^64)\/(-(2^64)<j/\j<2^64)
def Ac2.ok {i j:Int}(h:Ac2 i j):IntMulOk i j:=by
 rcases h with⟨h1,h2⟩|⟨h1,h2⟩
 .exact .of_left (R1 h1 h2)
 .exact .of_right (R1 h1 h2)
def yA:OpR X (VJ .Add) (rI0 λi j=> .int (i+j)):=Aev λ_ _ _ _ _ _ _ q=>add_int q
def BC:OpR X (VJ .Sub) (rI0 λi j=> .int (i-j)):=Aev λ_ _ _ _ _ _ _ q=>sub_int q
def kS:OpR X (VJ .Mult) (rI Ac2 λi j=> .int (i*j)):=opI λ_ _ _ _ _ _ _ O q=>mul_int q O.ok
def D9:OpR X (VJ .FloorDiv) (rI Afm λi j=> .int (i/j)):=opI λi j _ _ _ _ _ O q=>by
 have h1:(0:Int)<j:=O.1;have h2:j<1073741824:=O.2;exact floordiv_int () (by rwa[Int.fdiv_eq_ediv_of_nonneg i ()]) (.inl (Ro ()))
def xz:OpR X (VJ .Mod) (rI (λ_ j=>0<j) λi j=> .int (i%j)):=opI λi j _ _ _ _ _ O q=>by
 have h1:(0:Int)<j:=O;exact mod_int' () (by rwa[Int.fmod_eq_emod_of_nonneg i ()])
def AbB:OpR X (VJ .Pow) (rI Afl λi j=> .int (i^j.toNat)):=opI λ_ _ _ _ _ _ _ O q=>pow_int_small O.1 O.2.1 O.2.2 q
def unI {f:o6->Sem o6}{g:Int->Int}
  (rule:∀(i:Int) (t:Tok) (s:o7) (Q:o6->o7->Prop) (E:o6->o7->Prop),Q (.int (g i) s.toks) {s with toks:=s.toks+1}->Vh #[X,X] X.A (f (.int i t)) Q E s):
  UnR X f (rU λi=> .int (g i)):=by
 exists 2,x,v,Q,I,O,h;erw[h,i,rfl,q];erw[O,t,rfl];exact rule i t s _ _ ⟨.int (g i),H,I.tok _,⟨0⟩,q⟩
def Ba:UnR X (unaryOp .USub) (rU λi=> .int (-(i))):=unI λ_ _ _ _ _ q=>neg_int q
abbrev Aen:V->V->Bool
 | .non,.non=>v_| .non,.int _=>v_| .int _,.non=>v_| .non,.bl _=>v_| .bl _,.non=>v_| .non,.str _=>v_| .str _,.non=>v_
 | .int _,.int _=>v_| .bl _,.bl _=>v_| .str _,.str _=>v_| .byt _,.byt _=>v_
 | .int _,.str _=>v_| .str _,.int _=>v_| .bl _,.str _=>v_| .str _,.bl _=>v_
 |_,_=>Vg
abbrev rEq:R2:=λx y H Q=>Aen x y=v_/\Q (.bl (decide (x=y))) H
abbrev rNe:R2:=λx y H Q=>Aen x y=v_/\Q (.bl (!(decide) (x=y))) H
def Iq {i j:Int}:decide (V.int i=V.int j)=(i==j):=by
 rw[vM];simp
def NM {i j:Bool}:decide (V.bl i=V.bl j)=(i==j):=by
 rw[vM];simp
def Ip {i j:Str}:decide (V.str i=V.str j)=(i==j):=by
 rw[vM];simp
def Ir {i j:Array UInt8}:decide (V.byt i=V.byt j)=(i.toList==j.toList):=by
 rw[vM];cases i;cases j;simp
variable {Q:VK}
def Ql {k O:Bool}(I:#[I])(q:Q (.bl k) H)(e:k=O):EP X oq σ Q (.bool O) s:=by
 subst e;exact⟨.bl k,H,I,1,q⟩
def QJ:OpR X (Vs .Eq) rEq:=by
 exists 2,x,y,v,u,Q,I,rx,O,h;erw[h,U,q];cases x with
 |non=>
  cases rx;cases y with
  |non=>cases O;exact PySem.EqNone.eq_none_none (Ql I q (by simp))
  |bl j=>cases O;exact PySem.EqNone.eq_none_bool (Ql I q (by simp))
  |int j=>erw[O,t',rfl];exact PySem.EqNone.eq_none_int (Ql I q (by simp))
  |str j=>erw[O,t',rfl];exact PySem.EqNone.eq_none_str (Ql I q (by simp))
  |_=>exact A8 (show Vg=v_ from U) u8
 |bl i=>
  cases rx;cases y with
  |non=>cases O;exact PySem.EqNone.eq_bool_none (Ql I q (by simp))
  |bl j=>cases O;exact eq_bool (Ql I q NM)
  |str j=>erw[O,t',rfl];exact PySem.EqMixed.eq_bool_str (Ql I q (by simp))
  |_=>exact A8 (show Vg=v_ from U) u8
 |int i=>
  erw[rx,t,rfl];cases y with
  |non=>cases O;exact PySem.EqNone.eq_int_none (Ql I q (by simp))
  |int j=>erw[O,t',rfl];exact eq_int (Ql I q Iq)
  |str j=>erw[O,t',rfl];exact PySem.EqMixed.eq_int_str (Ql I q (by simp))
  |_=>exact A8 (show Vg=v_ from U) u8
 |str i=>
  erw[rx,t,rfl];cases y with
  |non=>cases O;exact PySem.EqNone.eq_str_none (Ql I q (by simp))
  |bl j=>cases O;exact PySem.EqMixed.eq_str_bool (Ql I q (by simp))
  |int j=>erw[O,t',rfl];exact PySem.EqMixed.eq_str_int (Ql I q (by simp))
  |str j=>erw[O,t',rfl];exact eq_str (Ql I q Ip)
  |_=>exact A8 (show Vg=v_ from U) u8
 |byt i=>
  erw[rx,t,rfl];cases y with
  |byt j=>erw[O,t',rfl];exact PySem.W.eq_bytes (Ql I q Ir)
  |_=>exact A8 (show Vg=v_ from U) u8
 |_=>cases y<;>exact A8 (show Vg=v_ from U) u8
def CC:OpR X (Vs .NotEq) rNe:=by
 exists 2,x,y,v,u,Q,I,rx,O,h;erw[h,U,q];cases x with
 |non=>
  cases rx;cases y with
  |non=>cases O;exact PySem.EqNone.ne_none_none (Ql I q (by simp))
  |bl j=>cases O;exact PySem.EqNone.ne_none_bool (Ql I q (by simp))
  |int j=>erw[O,t',rfl];exact PySem.EqNone.ne_none_int (Ql I q (by simp))
  |str j=>erw[O,t',rfl];exact PySem.EqNone.ne_none_str (Ql I q (by simp))
  |_=>exact A8 (show Vg=v_ from U) u8
 |bl i=>
  cases rx;cases y with
  |non=>cases O;exact PySem.EqNone.ne_bool_none (Ql I q (by simp))
  |bl j=>cases O;exact ne_bool (Ql I q (A9 not NM))
  |str j=>erw[O,t',rfl];exact PySem.EqMixed.ne_bool_str (Ql I q (by simp))
  |_=>exact A8 (show Vg=v_ from U) u8
 |int i=>
  erw[rx,t,rfl];cases y with
  |non=>cases O;exact PySem.EqNone.ne_int_none (Ql I q (by simp))
  |int j=>erw[O,t',rfl];exact ne_int (Ql I q (A9 not Iq))
  |str j=>erw[O,t',rfl];exact PySem.EqMixed.ne_int_str (Ql I q (by simp))
  |_=>exact A8 (show Vg=v_ from U) u8
 |str i=>
  erw[rx,t,rfl];cases y with
  |non=>cases O;exact PySem.EqNone.ne_str_none (Ql I q (by simp))
  |bl j=>cases O;exact PySem.EqMixed.ne_str_bool (Ql I q (by simp))
  |int j=>erw[O,t',rfl];exact PySem.EqMixed.ne_str_int (Ql I q (by simp))
  |str j=>erw[O,t',rfl];exact ne_str (Ql I q (A9 not Ip))
  |_=>exact A8 (show Vg=v_ from U) u8
 |byt i=>
  erw[rx,t,rfl];cases y with
  |byt j=>erw[O,t',rfl];exact PySem.W.ne_bytes (Ql I q (A9 not Ir))
  |_=>exact A8 (show Vg=v_ from U) u8
 |_=>cases y<;>exact A8 (show Vg=v_ from U) u8
def D5:OpR X (Vs .Lt) (rI0 λi j=> .bl (decide (i<j))):=AcV λ_ _ _ _ _ _ _ q=>lt_int q
def D6:OpR X (Vs .LtE) (rI0 λi j=> .bl (decide (i<=j))):=AcV λ_ _ _ _ _ _ _ q=>le_int q
def CD:OpR X (Vs .Gt) (rI0 λi j=> .bl (decide (j<i))):=AcV λ_ _ _ _ _ _ _ q=>gt_int q
def AdA:OpR X (Vs .GtE) (rI0 λi j=> .bl (decide (j<=i))):=AcV λ_ _ _ _ _ _ _ q=>ge_int q
def D4:OpR X (Vs .Lt) (λx y H Q=>∃i j,x= .str i/\y= .str j/\Q (.bl (decide (i.cps.toList<j.cps.toList))) H):=by
 exists 2,x,y,v,u,Q,I,O,U,h;erw[h,i,j,rfl,rfl,q];erw[O,t,rfl];erw[U,t',rfl];exact lt_str (Ql I q rfl)
def D7:OpR X (Vs .In) (λx y H Q=>∃i j,x= .str i/\y= .str j/\Q (.bl (!(Hx j i 0 ↑j 1).isEmpty)) H):=by
 exists 2,x,y,v,u,Q,I,O,U,h;erw[h,i,j,rfl,rfl,q];erw[O,t,rfl];erw[U,t',rfl];exact in_str (Ql I q rfl)
def yf:OpR X (Vs .Is) (λx y H Q=>y= .non/\Q (.bl (decide (x= .non))) H):=by
 exists 2,x,y,v,u,Q,I,O,U,h;erw[h,rfl,q];cases U;refine is_none_gen (Ql I q ?_);cases x<;>first
  |(cases O;rfl)
  |(erw[O,t,rfl];rfl)
def Xi:OpR X (Vs .IsNot) (λx y H Q=>y= .non/\Q (.bl (!(decide) (x= .non))) H):=by
 exists 2,x,y,v,u,Q,I,O,U,h;erw[h,rfl,q];cases U;refine isnot_none_gen (Ql I q ?_);cases x<;>first
  |(cases O;rfl)
  |(erw[O,t,rfl];rfl)
def qw (b:Expr){O:hV}(h:O≠ .In:=by decide)(h2:O≠ .NotIn:=by decide):Ht O b=false:=by
 have U:(O==CmpOp.In)=false:=by cases O<;>first|rfl|exact A8 rfl h
 have e2:(O==CmpOp.NotIn)=false:=by cases O<;>first|rfl|exact A8 rfl h2
 cases b<;>simp[Ht,U,e2]
def Qp {O:hV}{r:R2}(U:OpR X (Vs O) r)(ha:PE X a ta)(hb:PE X b tb)(hm:Ht O b=Vg):PE X (.Compare a [O] [b] pos) (tOp r ta tb):=by
 exists 2,Q,I,h;exact wpAny_Compare1 (Ad1 ha hb I h λv u s2 x y H2 I2 rx ry q=>U oq s2 σ H2 x y v u Q I2 rx ry q) hm
inductive AcF (Q:(Bool->Hp->Prop))(x:V)(H':Hp):Prop
 |mk (k:_)(_:x= .bl k)(_:Q k H')
abbrev AaL (t:TE):TT:=λσ H Q=>t σ H λx H'=>AcF Q x H'
def qp {O:hV}{r:R2}(U:OpR X (Vs O) r)(ha:PE X a ta)(hb:PE X b tb)(hm:Ht O b=Vg):PT X (.Compare a [O] [b] pos) (AaL (tOp r ta tb)):=by
 exists 2,Q,I,h;refine FL (thn (ha oq s σ H _ I h) λv s1 ⟨x,H1,I1,r1,q1⟩=>thn (hb oq s1 σ H1 _ I1 q1) λu s2 ⟨y,H2,I2,r2,q2⟩=>
  thn (U oq s2 σ H2 x y v u _ I2 r1 r2 q2) λc s3 ⟨z,H3,I3,r3,k,e,q3⟩=>?_) hm
 subst e;cases r3;exact vx [H3:I3:q3]
abbrev AaV (r r':R2)(ta tb tc:TE):TE:=λσ H Q=>ta σ H λx H1=>tb σ H1 λy H2=>r x y H2 λz H3=>∃k,z= .bl k/\
 (if k=v_ then tc σ H3 λw' H4=>r' y w' H4 Q else Q (.bl Vg) H3)
def Bx {U O:hV}{r r':R2}(ho:OpR X (Vs U) r)(aa:OpR X (Vs O) r')(ha:PE X a ta)(hb:PE X b tb)(hc:PE X c tc)
  (hm:lastMarks [U,O] [b,c]=Vg):PT X (.Compare a [U,O] [b,c] pos) (AaL (AaV r r' ta tb tc)):=by
 exists 2,Q,I,h;refine isTrue_chain (thn (ha oq s σ H _ I h) λv s1 ⟨x,H1,I1,r1,q1⟩=>test_link (thn (hb oq s1 σ H1 _ I1 q1) λu s2 ⟨y,H2,I2,r2,q2⟩=>
  thn (ho oq s2 σ H2 x y v u _ I2 r1 r2 q2) λd s3 ⟨z,H3,I3,r3,k,e,q3⟩=>?_)) hm
 subst e;cases r3;refine vx ?_;cases k with
 |false=>
  erw[q3,k',e',q'];cases e';exact ite_ff [H3:I3:q']
 |true=>
  refine ite_tt (test_last (thn (hc oq s3 σ H3 _ I3 q3) λw' s4 ⟨z',H4,I4,r4,q4⟩=>thn (aa oq s4 σ H4 y z' u w' _ I4 r2 r4 q4) λd' s5 zq=>?_));erw[zq,z2,H5,I5,r5,k2,e2,q5];subst e2;cases r5;exact vx [H5:I5:q5]
abbrev AeD (K:o0)(x:V)(H:Hp)(k:Bool):Prop:=
 match x with
 | .non=>k=Vg
 | .bl b=>k=b
 | .int i=>k=(i !=0)
 | .str y=>↑y<=Vk/\k=((↑y:Int) !=0)
 | .byt y=>y.size<=Vk/\k=((y.size:Int) !=0)
 | .ref p=>(∃xs,SqL K H p xs/\k= !(xs.isEmpty))\/(∃xs,SqT K H p xs/\k= !(xs.isEmpty))\/∃kvs,H p=u_ (.dK kvs)/\k= !(kvs.isEmpty)
 |_=>False
def CT {κ:Type}{kvs:oj (κ×V)}{vs:oj (κ×o6)}(r:KV kvs vs):(!(vs.isEmpty))= !(kvs.isEmpty):=by
 cases r<;>rfl
variable {its:oj o6}
def kH (r:iw xs its):(!(its.toArray.isEmpty))= !(xs.isEmpty):=by
 cases r<;>simp
def ZH:(Vk:Nat)<2^63:=by rw[uB];decide
def AaF:Afi X (λx H Q=>∃k,AeD X.K x H k/\Q k H):=by
 exists 2,x,v,Q,I,rx,h;erw[h,k,e,q];have hl:=ZH;have hs:Vk=16777216:=uB;cases x with
 |non=>
  cases rx;have O:k=false:=e;subst O;exact truthy_none [H:I:q]
 |bl b=>
  cases rx;have O:k=b:=e;subst O;exact vx [H:I:q]
 |int i=>
  erw[rx,t,rfl];have O:k=(i !=0):=e;subst O;exact PySem.P.truthy_int [H:I:q]
 |str y=>
  erw[rx,t,rfl];obtain⟨hy,O⟩:↑y<=Vk/\k=((↑y:Int) !=0):=e;subst O;exact PySem.P.truthy_str () [H:I.tok _:q]
 |byt y=>
  erw[rx,t,rfl];obtain⟨hy,O⟩:y.size<=Vk/\k=((y.size:Int) !=0):=e;subst O;exact PySem.W.truthy_bytes () [H:I.tok _:q]
 |ref p=>
  cases rx;have O:(∃xs,SqL X.K H p xs/\k= !(xs.isEmpty))\/(∃xs,SqT X.K H p xs/\k= !(xs.isEmpty))\/∃kvs,H p=u_ (.dK kvs)/\k= !(kvs.isEmpty):=e;rcases O with⟨xs,hx,O⟩|⟨xs,hx,O⟩|⟨kvs,hx,O⟩
  .subst O;erw[I.list hx,its,r,pl,hz];have U:=↑r;exact wpAny_truthy_list pl.isList (by simp![ur];omega) ⟨H,I.tok _,by rwa[kH r]⟩
  .subst O;erw[I.tuple hx,its,r,pl,hz];have U:=↑r;exact truthy_tuple pl (by simp![ur];omega) ⟨H,I.tok _,by rwa[kH r]⟩
  .subst O;obtain⟨hz,hS,vs,r,m⟩:↑kvs<=Vk/\(p==VC)=Vg/\∃vs,KV kvs vs/\s.heap.DictOf (Qm X.prog X.w) p vs:=I.hok p _ hx;have U:↑kvs=↑vs:=Paired.length r;exact wpAny_truthy_dict hS m () ⟨H,I.tok _,by rwa[CT r]⟩
 |_=>exact(show False from e).elim
def Bw (ha:PE X a ta)(U:∀O,isTrue a X.env O=(do let v<-O;GK a.pos;VY [v] (truthy v))):
  PT X a (λσ H Q=>ta σ H λx H'=>∃k,AeD X.K x H' k/\Q k H'):=by
 exists 2,Q,I,h;exact FQ (thn (ha oq s σ H _ I h) λv s1 ⟨x,H1,I1,r1,q1⟩=>AaF oq s1 σ H1 x v Q I1 r1 q1) (U _)
def qZ:OpR X (VJ .Add) (λx y H Q=>∃i j,x= .str i/\y= .str j/\↑i+↑j<=Vk/\Q (.str (i++j)) H):=by
 exists 2,x,y,v,u,Q,I,O,U,h;erw[h,i,j,rfl,rfl,hz,q];erw[O,t,rfl];erw[U,t',rfl];exact uW (n:=1) I.tk (add_str (λt' tk htk=>⟨.str (i++j),H,I.tok _,⟨0⟩,q⟩) hz)
def xi {x:V}(r:iw [x] us):∃u,us= [u]/\ik x u:=by
 cases r with
 |cons O U=>cases U;exact[0:O]
def Da {x:V}(r:iw [x,y] us):∃u O,us= [u,O]/\ik x u/\ik y O:=by
 cases r with
 |cons U r2=>
  cases r2 with
  |cons r3 r4=>cases r4;exact⟨_,0,U,r3⟩
def Cf:Y3 X (.builtin "abs") (λxs H Q=>∃i,xs= [.int i]/\Q (.int (if i<0 then-(i) else i)) H):=by
 exists 2,xs,us,Q,I,r,h;erw[h,i,rfl,q];erw[xi r,u,rfl,t,rfl];exact uW (n:=1) I.tk (call_abs_int λu tk htk=>⟨.int (if i<0 then-(i) else i),H,I.tok _,⟨0⟩,q⟩)
def Iz (U:X.calm=v_):Y3 X (.builtin "min") (λxs H Q=>∃i j,xs= [.int i,.int j]/\Q (.int (if j<i then j else i)) H):=by
 exists 2,xs,us,Q,I,r,h;erw[h,i,j,rfl,q];erw[Da r,u,w',rfl,[t,rfl],[t',rfl]];refine uW (n:=1) I.tk (min_two_ints (I.ok.hd U) λh' tk k htk=>⟨_,H,I.kept k,?_,q⟩);by_cases O:j<i
 .rw[A6 O,A6 O];exact⟨0⟩
 .rw[A4 O,A4 O];exact⟨0⟩
def QV:Y3 X (.type "str") (λxs H Q=>∃i,xs= [.int i]/\i.natAbs.log2<1920/\Q (.str (Vq i)) H):=by
 exists 2,xs,us,Q,I,r,h;erw[h,i,rfl,hz,q];erw[xi r,u,rfl,t,rfl];exact PySem.P.str_of_int hz ⟨.str _,H,I.tok _,⟨0⟩,q⟩
def MG:Y3 X (.builtin "ord") (λxs H Q=>∃x,xs= [!x]/\↑x=1/\Q (.int (x.cps.getD 0 0:Nat)) H):=by
 exists 2,xs,us,Q,I,r,h;erw[h,x,rfl,hz,q];erw[xi r,u,rfl,t,rfl];exact ord_of_one hz ⟨.int _,H,I.tok _,⟨0⟩,q⟩
abbrev Afk (K:o0)(x:V)(H:Hp)(n:Nat):Prop:=
 match x with
 | .str y=>↑y<=Vk/\n=↑y
 | .byt y=>y.size<=Vk/\n=y.size
 | .ref p=>(∃xs,SqL K H p xs/\n=↑xs)\/∃xs,SqT K H p xs/\n=↑xs
 |_=>False
def Kv:Y3 X (.builtin "len") (λxs H Q=>∃x n,xs= [x]/\Afk X.K x H n/\Q (.int n) H):=by
 exists 2,xs,us,Q,I,r,h;erw[h,x,n,rfl,e,q];erw[xi r,u,rfl,rx];have hl:=ZH;have hs:Vk=16777216:=uB;cases x with
 |str y=>
  erw[rx,t,rfl];obtain⟨hy,U⟩:↑y<=Vk/\n=↑y:=e;subst U;exact len_str () ⟨.int _,H,I.tok _,⟨0⟩,q⟩
 |byt y=>
  erw[rx,t,rfl];obtain⟨hy,U⟩:y.size<=Vk/\n=y.size:=e;subst U;exact PySem.W.len_bytes () ⟨.int _,H,I.tok _,⟨0⟩,q⟩
 |ref p=>
  cases rx;have U:(∃xs,SqL X.K H p xs/\n=↑xs)\/∃xs,SqT X.K H p xs/\n=↑xs:=e;rcases U with⟨xs,hx,U⟩|⟨xs,hx,U⟩
  .subst U;erw[I.list hx,its,r',pl,hz];have O:=↑r';exact Rq pl.isList (by simp![ur];omega) ⟨.int ↑xs,H,I.tok _,⟨_,by simp![ur];rw[O]⟩,q⟩
  .subst U;erw[I.tuple hx,its,r',pl,hz];have O:=↑r';exact len_tuple pl (by simp![ur];omega) ⟨.int ↑xs,H,I.tok _,⟨_,by simp![ur];rw[O]⟩,q⟩
 |_=>exact(show False from e).elim
end
structure Aaj (h:o8)(x dx C:o3)(mA:Str->om o6):Prop where
 obj:h.get? x=u_ (PySem.W.instObj C dx)
 ns:h.Ns1 dx mA
 ne:dx≠x
variable {dx:o3}
def ED {mA:Str->om o6}(n:h.Ns1 dx mA):∃od,h.get? dx=u_ od/\∀name,PySem.W.lookIn name od=u_ (mA name):=by
 erw[n,o,es,ep,U,hd,hk,_,hm];exists o,U,λname=>?_;have e:=hm name;unfold nsFind findBy at e;rw[<-Array.find?_toList] at e;unfold PySem.W.lookIn;rw[hd];dsimp only;split
 .rename_i y q
  rw[q] at e;exact A9 u_ e
 .rename_i q
  rw[q] at e;have a:es.toList.any (·.refKey)=false:=by
   rw[t_];intro y hy;erw[hk y (Array.mem_toList_iff.mp hy),z,t,O];simp[FX,O]
  have a':¬es.toList.any (·.refKey)=true:=by rw[a];exact u8
  rw[A4 a'];exact A9 u_ e
variable {C:o3}
def Aaj.look {x:o3}{mA:Str->om o6}(I:Aaj h x dx C mA):∃od,PySem.W.InstAt h x (PySem.W.instObj C dx) C (u_ od)/\∀name,PySem.W.lookIn name od=u_ (mA name):=
 let⟨od,ho,hl⟩:=ED I.ns
 [od:⟨I.obj,1,1,ho⟩:hl]
section
variable {prog:o9}{w:og}{A:oh}{E:o6->o7->Prop}{s:o7}{K:o0}{x dx C f:o3}{mA:Str->om o6}{name:Str}{v:o6}
def SU {O:Bool}{Q:o6->o7->Prop}(X:K.In s.heap)(I:Aaj s.heap x dx C mA)(hg:PySem.W.plainGet K C name=v_)(hh:PySem.W.hasDictIn K C=v_)
  (ha:PySem.W.findIn K (-C) name=u_ U_) (hv:mA name=u_ v) (U:PySem.W.handedIn v=v_) (h:Q v {s with toks:=s.toks+1}):
  Vh #[w,w] A (Fi (-x) name O) Q E s:=by
 erw[I.look,od,J,hl];exact PySem.W.get_value X J (PySem.W.plainGet_of hg).1 (PySem.W.findObj_own hh ha rfl (by rw[hl,hv])) U h
def Mp {pl:Sem Bool}{Q:o6×oj o6->o7->Prop}(X:K.In s.heap)(I:Aaj s.heap x dx C mA)(O:PySem.W.plainGet K C name=v_)
  (U:PySem.W.findIn K (-C) name=u_ (u_ (-f))) (ht:PySem.W.isFn K (-f)=v_) (hv:mA name=U_) (h:Q (-f,[-x]) s):
  Vh #[w,w] A (GV (-x) name pl) Q E s:=by
 erw[I.look,od,J,hl];exact PySem.W.method_fn X J (PySem.W.plainGet_of O).1 (PySem.W.plainGet_of O).2 U (beq_iff_eq.mp ht) (by show(PySem.W.lookIn name od).map (·.isSome)=u_ Vg;rw[hl,hv];rfl) h
def OQ {ns:oj Str}{Q:Unit->o7->Prop}(X:K.In s.heap)(I:Aaj s.heap x dx C mA)
  (hs:PySem.W.findIn K (-C) "__setattr__"=u_ (u_ (.builtin "object.__setattr__"))) (hp:PySem.W.plainOver K C=v_) (ht:PySem.W.takerIn K C name=u_ U_) (hh:PySem.W.hasDictIn K C=v_)
  (hw:PySem.Within mA ns) (hsz:↑ns<=Vk)
  (h:∀h',Aaj h' x dx C (λy=>if y=name then u_ v else mA y)->VS dx s.heap h'->Q G7 {s with heap:=h',toks:=s.toks+2}):
  Vh #[w,w] A (setAttr (-x) name v) Q E s:=by
 erw[I.look,od,J,hl];refine PySem.W.set_plain X J hs (PySem.W.osa_open (s:={s with toks:=s.toks+1}) (r:=U_) X J hp ht λb=>?_)
 erw[PySem.W.any_some hh,cd,hc,aa];have hx:s.heap.get? x=u_ ⟨-C,u_ dx,.plain,#[]⟩:=I.obj;refine A7 (uw (A7 (A7 (pf hx (A7 (PySem.W.Looks.here (s:={s with toks:=s.toks+1}) (PySem.W.looks_clsIn X hc) ?_))))))
 rw[aa];refine uw (a:=u_ dx) (A7 (uw (A7 ?_)));refine wpAny_nsSet1 (s:={s with toks:=s.toks+1}) I.ns λh' O U=>?_
 erw[O.count (PySem.Within.cons name v hw),oD,af,ag,ac,ad,ae];refine A7 (wpAny_lookBehind ac (by rw[ad];exact pastItsLine_dict (uZ ae (by rw[ui];omega))) ?_)
 exact uw (h _ [(U.2 _ (vV I.ne)).trans I.obj:O:I.ne] U)
def Mb {R:Gy->o7->Prop}{vs:oj o6}{kw:oj (Str×o6)}(X:K.In s.heap)(hm:PySem.W.makesIn K C=v_)
  (hi:PySem.W.findIn K (-C) "__init__"=u_ (u_ (-f))) (O:PySem.W.typeIn K (-f)=u_ (.type "function"))
  (h:VM #[w,w] (A.under (.builtin "type.__call__" [.ref C::vs:kw])) (.call (-f) [.ref (#[0,s]+1)::vs:kw]) (PySem.W.InitBack (#[0,s]+1) R)
   {s with heap:=(s.heap.push PySem.W.emptyDict).push (PySem.W.instObj C #[0,s])}):
  VM #[w,w] A (.call (-C) [vs:kw]) R s:=by
 erw[s,U,g,d,t,os];exact PySem.W.make_core (PySem.W.makes_of X hm) (PySem.W.looks_findIn X hi) (λself=>PySem.W.bind_fn X self O) (.inl rfl) h
end
abbrev iJ (f:Str)(v:V):oj (Str×V)->oj (Str×V)
 | []=> [(f,v)]
 |(g,x)::r=>if g=f then(g,v)::r else(g,x)::iJ f v r
def qJ (f g:Str)(v:V):∀fs:oj (Str×V),(iJ f v fs).lookup g=if g=f then u_ v else fs.lookup g
 | []=>by
  show VG g [(f,v)]=_;by_cases h:g=f
  .have O:(g==f)=true:=beq_iff_eq.mpr h;simp![VG,O,A6 h]
  .have O:(g==f)=false:=beq_eq_false_iff_ne.mpr h;simp![VG,O,A4 h]
 |(k,x)::r=>by
  have ih:=qJ f g v r;rw[show iJ f v ((k,x)::r)=(if k=f then(k,v)::r else(k,x)::iJ f v r) from rfl]
  by_cases U:k=f
  .rw[A6 U];by_cases h:g=k
   .have O:(g==k)=true:=beq_iff_eq.mpr h;simp![VG,O,A6 (h.trans U)]
   .have O:(g==k)=false:=beq_eq_false_iff_ne.mpr h;simp![VG,O,A4 (λe:g=f=>h (e.trans U.symm))]
  .rw[A4 U];by_cases h:g=k
   .have O:(g==k)=true:=beq_iff_eq.mpr h;simp![VG,O,A4 (λe:g=f=>U (h.symm.trans e))]
   .have O:(g==k)=false:=beq_eq_false_iff_ne.mpr h;simp![VG,O];exact ih
def wV (f:Str)(v:V):∀fs:oj (Str×V),f>(iJ f v fs).map (·.1)/\∀g,g>fs.map (·.1)->g>(iJ f v fs).map (·.1)
 | []=>⟨by simp[iJ],λg h=>by simp at h⟩
 |(k,x)::r=>by
  erw[wV f v r,U,i2];rw[show iJ f v ((k,x)::r)=(if k=f then(k,v)::r else(k,x)::iJ f v r) from rfl]
  by_cases O:k=f
  .rw[A6 O];subst O;exact⟨by simp,λg h=>by simpa using h⟩
  .rw[A4 O];exists ?_,λg h=>?_
   .rw[uA];exact uc _ U
   .rw[uA] at h⊢;rcases Aa.mp h with e|e
    .exact Aa.mpr (.inl e)
    .exact uc _ (i2 g e)
def wH (f:Str)(v:V):∀fs:oj (Str×V),↑(iJ f v fs)<=↑fs+1
 | []=>by simp[iJ]
 |(k,x)::r=>by
  have U:=wH f v r;rw[show iJ f v ((k,x)::r)=(if k=f then(k,v)::r else(k,x)::iJ f v r) from rfl]
  by_cases O:k=f
  .rw[A6 O,ui,ui];omega
  .rw[A4 O,ui,ui];omega
variable {v:V}
def nu.some_of {o:om o6}(r:nu (u_ v) o):∃u,o=u_ u/\ik v u:=by
 cases o with
 |none=>exact(show False from r).elim
 |some u=>exact[u:1:r]
def nu.qaw {o:om o6}(r:nu U_ o):o=none:=by
 cases o with
 |none=>rfl
 |some u=>exact(show False from r).elim
def EV (r:ik v u):PySem.W.handedIn u=true:=by
 cases v with
 |non=>cases(show u=Gf from r);rfl
 |bl b=>cases(show u=GS b from r);rfl
 |int i=>obtain⟨t,e⟩:=(show∃t,u=GD i t from r);cases e;rfl
 |str x=>obtain⟨t,e⟩:=(show∃t,u=VH x t from r);cases e;rfl
 |byt b=>obtain⟨t,e⟩:=(show∃t,u=pE b t from r);cases e;rfl
 |flt b=>obtain⟨t,e⟩:=(show∃t,u=T0 b t from r);cases e;rfl
 |ref a=>cases(show u=Vm a from r);rfl
 |ty n=>cases(show u=GE n from r);rfl
section
variable {P:o9}{w:og}{H H':Hp}{h h':o8}{a C dx:o3}{fs fs':oj (Str×V)}
def qay (hok:HOk P w H h)(e:H a=u_ (.ins C dx fs)):∃mA,Aaj h a dx C mA/\(∀f,nu (fs.lookup f) (mA f))/\PySem.Within mA (fs.map (·.1))/\↑fs<=1000/\H dx=u_ (.own a):=by
 obtain⟨d,z,ne,ob,mA,n,r,q⟩:=(show ye P w H h a (.ins C dx fs) from hok a _ e)
 exact⟨mA,[ob:n:ne],r,q,z,d⟩
end
structure Cls (K:o0)(C:o3):Prop where
 pg:PySem.W.plainGet K C TV=v_
 hd:PySem.W.hasDictIn K C=v_
 po:PySem.W.plainOver K C=v_
 sa:PySem.W.findIn K (-C) "__setattr__"=u_ (u_ (.builtin "object.__setattr__"))
def Cls.get (c:Cls K C)(f:Str):PySem.W.plainGet K C f=true:=c.pg
abbrev QR (K:o0)(C:o3)(f:Str):Prop:=PySem.W.findIn K (-C) f=u_ U_
def QR.taker {f:Str}(n:QR K C f):PySem.W.takerIn K C f=u_ none:=by
 unfold PySem.W.takerIn;rw[show PySem.W.findIn K (-C) f=u_ U_ from n]
 rfl
structure Aax (K:o0)(C:o3)(m:Str)(f:o3):Prop where
 at_:PySem.W.findIn K (-C) m=u_ (u_ (-f))
 fn:PySem.W.isFn K (-f)=v_
 kp:PySem.W.keepIn K (-f)=v_
section
variable {X:Cx}{oq:oj (o3×Obj)}{σ:St}{H:Hp}{s:o7}{a C dx:o3}{fs:oj (Str×V)}{f:Str}{v:V}{A:oh}{E:o6->o7->Prop}
def W7 {b:Bool}{Q:o6->o7->Prop}(I:#[I])(e:H a=u_ (.ins C dx fs))(c:Cls X.K C)(n:QR X.K C f)(l:fs.lookup f=u_ v)
  (h:∀u s',Inv X oq σ H s'->ik v u->Q u s'):Vh #[X,X] A (Fi (-a) f b) Q E s:=by
 erw[qay I.hok e,mA,O,r,_,_,_];obtain⟨u,U,ru⟩:=nu.some_of (v:=v) (o:=mA f) (by rw[<-l];exact r f)
 exact SU I.kIn O (c.get f) c.hd n U (EV ru) (h u _ (I.tok _) ru)
def zK {m:Str}{g:o3}{pl:Sem Bool}{Q:o6×oj o6->o7->Prop}(I:#[I])(e:H a=u_ (.ins C dx fs))(c:Cls X.K C)(k:Aax X.K C m g)(l:fs.lookup m=U_)
  (h:Q (-g,[-a]) s):Vh #[X,X] A (GV (-a) m pl) Q E s:=by
 erw[qay I.hok e,mA,O,r,_,_,_];have hn:mA m=none:=nu.qaw (by rw[<-l];exact r m)
 exact Mp I.kIn O (c.get m) k.at_ k.fn hn h
def kf {y:V}{u:o6}{Q:Unit->o7->Prop}(I:#[I])(e:H a=u_ (.ins C dx fs))(c:Cls X.K C)(n:QR X.K C f)(hl:↑fs<1000)(ry:ik y u)
  (h:∀s',Inv X oq σ (upd H a (.ins C dx (iJ f y fs))) s'->Q G7 s'):Vh #[X,X] A (setAttr (-a) f u) Q E s:=by
 erw[qay I.hok e,mA,O,r,wi,_,ho];have hz:(fs.map (·.1)).length<=sizeLine:=by rw[u9,uB];omega
 refine OQ I.kIn O c.sa c.po n.taker c.hd wi hz λh' U sb=>h _ ?_;have hd:∃o,h'.get? dx=u_ o:=let⟨o,_,_,e',_⟩:=U.ns;[o:e'];refine I.write (x:=a) (e:=dx) (by rw[e];exact VN) (.inr ho) (λb q hb z=>(sb.2 b hb).trans z) hd ?_
 refine⟨by rwa[qj O.ne],?_,O.ne,U.obj,_,U.ns,λg=>?_,λg hg=>?_⟩
 .have:=wH f y fs;omega
 .show nu ((iJ f y fs).lookup g) (if g=f then u_ u else mA g)
  rw[qJ];by_cases q:g=f
  .rwa[A6 q,A6 q]
  .rw[A4 q,A4 q];exact r g
 .by_cases q:g=f
  .rw[q];exact(wV f y fs).1
  .refine(wV f y fs).2 g (wi g λz=>hg ?_);show(if g=f then u_ u else mA g)=U_
   rw[A4 q];exact z
def Inv.made (I:#[I]):Inv X oq σ (upd (upd H #[0,s] (.own (#[0,s]+1))) (#[0,s]+1) (.ins C #[0,s] []))
  {s with heap:=(s.heap.push PySem.W.emptyDict).push (PySem.W.instObj C #[0,s])}:=by
 have O:(s.heap.push PySem.W.emptyDict).get? #[0,s]=u_ PySem.W.emptyDict:=uE s.heap rfl;have e2:((s.heap.push PySem.W.emptyDict).push (PySem.W.instObj C #[0,s])).get? (#[0,s]+1)=u_ (PySem.W.instObj C #[0,s]):=by
  have:=uE (s.heap.push PySem.W.emptyDict) (o:=PySem.W.instObj C #[0,s]) rfl
  rwa[vm] at this
 have e3:(s.heap.push PySem.W.emptyDict).Ns #[0,s] (λ_=>U_):=⟨PySem.W.emptyDict,#[],_,O,1,(λe U=>A8 U (by simp)),λ_=>rfl⟩
 have I1:=I.laid (a:=#[0,s]) (o:= .own (#[0,s]+1)) (h':=s.heap.push PySem.W.emptyDict) (t':=s.toks) (λb u q=>ub _ q) (uj _) [_:O];refine I1.laid (a:=#[0,s]+1) (o:= .ins C #[0,s] []) (t':=s.toks) (λb u q=>ub _ q) (R6 (vm _ _)) ?_;have ne:#[0,s]≠#[0,s]+1:=uP (V9 _);refine⟨by rw[qj ne,qg],uS _,ne,e2,λ_=>U_,(Pf e3).at λo q=>ub _ q,λ_=>VN,λy hy=>A8 rfl hy⟩
def Tm {prog:o9}{w:og}{env:Env}{e:Expr}{f:Str}{pos:Pos}{s:o7}{Q:o6->o7->Prop}(O:GN e f env (eval e env)=eval e env)
  (h:Vh #[w,w] A (eval e env) (λo U=>Vh #[w,w] A (Fi o f v_) Q E U) E s):Vh #[w,w] A (eval (.Attribute e f pos) env) Q E s:=
 Attribute_any_ h (by rw[arm_eval_Attribute,O])
end
inductive Ad8 (K:PySem.W.Frag)(f:Str)(Q:VK)(x:V)(H1:Hp):Prop
 |mk (a:_)(C:_)(dx:_)(fs:_)(v:_)(_:x=-a)(_:H1 a=u_ (.ins C dx fs))(_:Cls K C)(_:QR K C f)(_:fs.lookup f=u_ v)(_:Q v H1)
abbrev Adg (K:o0)(ta:TE)(f:Str):TE:=λσ H Q=>ta σ H λx H1=>Ad8 K f Q x H1
inductive Aea (K:PySem.W.Frag)(f:Str)(D:mF)(σ:St)(y:V)(x:V)(H2:Hp):Prop
 |mk (a:_)(C:_)(dx:_)(fs:_)(_:x=-a)(_:H2 a=u_ (.ins C dx fs))(_:Cls K C)(_:QR K C f)(_:↑fs<1000)(_:D.nx σ (upd H2 a (.ins C dx (iJ f y fs))))
abbrev AeV (K:o0)(ta tv:TE)(f:Str):TS:=λD σ H=>tv σ H λy H1=>ta σ H1 λx H2=>Aea K f D σ y x H2
abbrev AeH (X:Cx)(op:Hl)(rd:V->V->Hp->VK->Prop):Prop:=
 ∀(oq:oj (o3×Obj)) (s:o7) (σ:St) (H:Hp) (x y:V) (u v:o6) (Q:VK),#[I]->ik x u->ik y v->rd x y H Q->Vh #[X,X] X.A (T9 op u v) (EP X oq σ Q) X.xe s
inductive MQ (K:PySem.W.Frag)(tv:TE)(rd:V->V->Hp->VK->Prop)(f:Str)(D:mF)(σ:St)(x:V)(H1:Hp):Prop
 |mk (a:_)(C:_)(dx:_)(fs:_)(v:_)(_:x=-a)(_:H1 a=u_ (.ins C dx fs))(_:Cls K C)(_:QR K C f)(_:fs.lookup f=u_ v)(_:tv σ H1 λy H2=>rd v y H2 λz H3=>∃dx' fs',H3 a=u_ (.ins C dx' fs')/\↑fs'<1000/\D.nx σ (upd H3 a (.ins C dx' (iJ f z fs'))))
abbrev OR (K:o0)(ta tv:TE)(rd:V->V->Hp->VK->Prop)(f:Str):TS:=λD σ H=>ta σ H λx H1=>MQ K tv rd f D σ x H1
section
variable {X:Cx}{o e value:Expr}{f:Str}{pos pos' tpos:Pos}{ta tv:TE}
def qN (O:PE X e ta)(U:GN e f X.env (eval e X.env)=eval e X.env):PE X (.Attribute e f pos) (Adg X.K ta f):=by
 exists 2,Q,I,h;refine Tm U (thn (O oq s σ H _ I h) λu s1 zq=>?_);erw[zq,x,H1,I1,rx,a,C,dx,fs,v,ex,ea,c,n,l,q];subst ex;obtain rfl:u=Vm a:=rx;exact W7 I1 ea c n l λu' s2 I2 ru=>⟨v,H1,I2,ru,q⟩
def Qh (ha:PE X o ta)(O:PE X value tv)(U:GG value (u_ (.Attribute o f pos')) pos.line X.env=pure Vg):PS X (.Assign [.Attribute o f pos'] value pos) (AeV X.K ta tv f):=by
 exists 2,D,I,h;refine plainObj_wpAny_Assign_Attribute (thn (O oq s σ H _ I h) λu s1 ⟨y,H1,I1,ry,q⟩=>thn (ha oq s1 σ H1 _ I1 q) λov s2 zq=>?_) U;erw[zq,x,H2,I2,rx,a,C,dx,fs,ex,ea,c,n,l,q2];subst ex;obtain rfl:ov=Vm a:=rx;exact kf I2 ea c n l ry λs3 I3=>⟨σ,_,I3,q2⟩
def J1 {op:Hl}{rd:V->V->Hp->VK->Prop}(ha:PE X o ta)(hv:PE X value tv)(O:AeH X op rd):PS X (.AugAssign (.Attribute o f tpos) op value pos) (OR X.K ta tv rd f):=by
 exists 2,D,I,h;refine wpAny_AugAssign_AttributeAny (thn (ha oq s σ H _ I h) λov s1 zq=>?_);erw[zq,x,H1,I1,rx,a,C,dx,fs,v,ex,ea,c,n,l,q];subst ex;obtain rfl:ov=Vm a:=rx;refine W7 I1 ea c n l λu s2 I2 ru=>thn (hv oq s2 σ H1 _ I2 q) λw3 s3 ⟨y,H2,I3,ry,q3⟩=>thn (O oq s3 σ H2 v y u w3 _ I3 ru ry q3) λw4 s4 zq=>?_;erw[zq,z,H3,I4,rz,dx',fs',U,l',q4];exact kf I4 U c n l' rz λs5 I5=>⟨σ,_,I5,q4⟩
inductive Ae7 (x:V)(y:V)(H:Hp)(Q:VK):Prop
 |mk (i:_)(j:_)(_:x= .int i)(_:y= .int j)(_:Q (.int (i+j)) H)
def sA:AeH X .Add Ae7:=by
 rintro oq s σ H x y u v Q I O U ⟨i,j,rfl,rfl,q⟩;obtain⟨t,rfl⟩:=(show∃t,u=GD i t from O)
 obtain⟨t',rfl⟩:=(show∃t',v=GD j t' from U)
 exact Pi ⟨.int (i+j),H,I.tok _,⟨0⟩,q⟩
end
section
variable {X:Cx}{oq:oj (o3×Obj)}{σ:St}{H:Hp}{s:o7}{A:oh}{E:o6->o7->Prop}{Q:o6->o7->Prop}{c:o6}{b:Bool}
inductive AW (K:PySem.W.Frag)(H:Hp):V->o6->Prop where
 |non:AW K H .non (.type "NoneType")
 |bl (x:Bool):AW K H (.bl x) (.type "bool")
 |int (i:Int):AW K H (.int i) (.type "int")
 |str (x:Str):AW K H (!x) (.type "str")
 |flt (x:UInt64):AW K H (.flt x) (.type "float")
 |lst {a:Addr}{xs:List V}(e:H a=u_ (.lst xs)):AW K H (-a) (.type "list")
 |frz {a:Addr}{o:Obj}{xs:List V}(e:H a=u_ (.frz o (.lst xs))):AW K H (-a) (.type "list")
 |tup {a:Addr}{xs:List V}(e:H a=u_ (¬xs)):AW K H (-a) (.type "tuple")
 |dK {a:Addr}{kvs:List (Key×V)}(e:H a=u_ (.dK kvs)):AW K H (-a) (.type "dict")
 |dT {a:Addr}{kvs:List (List Key×V)}(e:H a=u_ (.dT kvs)):AW K H (-a) (.type "dict")
 |ins {a C dx:Addr}{fs:List (Str×V)}(e:H a=u_ (.ins C dx fs))(cl:Cls K C)(ha:PySem.W.findIn K (-C) "__class__"=u_ (u_ (.builtin "object.__class__")))
   (hn:PySem.W.specialIn K (.builtin "object.__class__") "__get__"=u_ (u_ (.builtin "getset_descriptor.__get__"))) (htk:PySem.W.takesIn K (.builtin "object.__class__")=u_ v_)
   (hm:PySem.W.mroIn K C (.type "object")=u_ v_):AW K H (-a) (-C)
def su {x:V}{t:o6}(I:#[I])(U:ik x u)(ty:AW X.K H x t)(e:PySem.W.kitOne X.K t c=u_ b)(h:∀tk,Q (.bool b) {s with toks:=tk}):
  Vh #[X,X] A (call (.builtin "isinstance") [u,c]) Q E s:=by
 cases ty with
 |non=>cases(show u=Gf from U);exact vw PySem.W.kitx_none I.kIn VN e (λz=>nomatch z) h
 |bl y=>cases(show u=GS y from U);exact vw PySem.W.kitx_bool I.kIn VN e (λz=>nomatch z) h
 |int i=>obtain⟨t,q⟩:=(show∃t,u=GD i t from U);cases q;exact vw PySem.W.kitx_int I.kIn VN e (λz=>nomatch z) h
 |str y=>obtain⟨t,q⟩:=(show∃t,u=VH y t from U);cases q;exact vw PySem.W.kitx_str I.kIn VN e (λz=>nomatch z) h
 |flt y=>obtain⟨t,q⟩:=(show∃t,u=T0 y t from U);cases q;exact vw PySem.W.kitx_float I.kIn VN e (λz=>nomatch z) h
 | @lst a xs ea=>
  cases(show u=Vm a from U)
  obtain⟨_,_,n,_,h1⟩:=(show ye X.prog X.w H s.heap a (.lst xs) from I.hok a _ ea)
  exact vw PySem.W.kitx_list I.kIn [_:h1:1] e (λz=>nomatch z) h
 | @frz a ob xs ea=>
  cases(show u=Vm a from U)
  obtain⟨_,_,_,n,_,h1⟩:=(show ye X.prog X.w H s.heap a (.frz ob (.lst xs)) from I.hok a _ ea)
  exact vw PySem.W.kitx_list I.kIn [_:h1:1] e (λz=>nomatch z) h
 | @tup a xs ea=>
  cases(show u=Vm a from U)
  obtain⟨_,_,_,p⟩:=(show ye X.prog X.w H s.heap a (¬xs) from I.hok a _ ea)
  erw[p,o,h1,h2,_];exact vw PySem.W.kitx_tuple I.kIn [o:h1:h2] e (λz=>nomatch z) h
 | @dK a kvs ea=>
  cases(show u=Vm a from U)
  obtain⟨_,_,vs,_,p⟩:=(show ye X.prog X.w H s.heap a (.dK kvs) from I.hok a _ ea)
  erw[p,o,es,ep,h1,h2,_];exact vw PySem.W.kitx_dict I.kIn [o:h1:h2.1] e (λz=>nomatch z) h
 | @dT a kvs ea=>
  cases(show u=Vm a from U)
  obtain⟨_,_,xs,_,o,es,ep,h1,h2,_⟩:=(show ye X.prog X.w H s.heap a (.dT kvs) from I.hok a _ ea)
  exact vw PySem.W.kitx_dict I.kIn [o:h1:h2.1] e (λz=>nomatch z) h
 | @ins a C dx fs ea cl ha hn htk hm=>
  cases(show u=Vm a from U)
  erw[qay I.hok ea,mA,O,_];erw[O.look,od,J,_];exact vw (PySem.W.kitx_own (cl.get _) cl.hd ha hn htk hm) I.kIn J e (λz=>nomatch z) h
end
structure mj (k:Nat)(A:oh):Prop where
 hd:A.handled=U_
 dp:A.depth+3*k+5<recursionLimit
 un:A.units+16*k+200<Vr
variable {j:Nat}
def mj.mono {k:Nat}(r:mj k A)(h:j<=k):mj j A:=⟨r.hd,by have:=r.dp;omega,by have:=r.un;omega⟩
def mj.deeper {k:Nat}(r:mj (k+1) A)(env:Env):mj k (A.deeper env):=
 ⟨r.hd,by have:=r.dp;show A.depth+1+3*k+5<_;omega,by have:=r.un;show A.units+3+16*k+200<_;omega⟩
def CN {kw:oj (Str×o6)}:(A.under (.builtin "type.__call__" [.ref C::us:kw])).depth=A.depth+1:=by
 first|rfl|simp[Te,Code.weight,Code.isCreation,Code.isGuard,Code.isCaller,RB,Ta,guardIds]
def CL {kw:oj (Str×o6)}:(A.under (.builtin "type.__call__" [.ref C::us:kw])).units=A.units+1:=by
 first|rfl|simp[Te,Code.cUnits,RB,Ta]
def mj.make {k:Nat}(r:mj (k+1) A)(C:o3)(us:oj o6)(kw:oj (Str×o6)):mj k (A.under (.builtin "type.__call__" [.ref C::us:kw])):=
 ⟨r.hd,by have:=r.dp;rw[CN];omega,by have:=r.un;rw[CL];omega⟩
def mj.depth {k:Nat}(r:mj k A):A.depth<recursionLimit:=by have:=r.dp;omega
def mj.units {k:Nat}(r:mj k A):A.units+64<cLine:=by have:=r.un;omega
def mj.units0 {k:Nat}(r:mj k A):A.units<cLine:=by have:=r.un;omega
abbrev AaN:TA:=λ_ H Q=>Q [] H
abbrev IX (ta:TE)(tr:TA):TA:=λσ H Q=>ta σ H λx H1=>tr σ H1 λxs H2=>Q (x::xs) H2
section
variable {X:Cx}{e:Expr}{es:oj Expr}{te:TE}{t:TA}{pos:Pos}
def qd:PA X [] AaN:=λ_ _ _ _ H Q I h=>UY ⟨[],H,I,.nil,h⟩
def qb (ha:PE X e te)(O:PA X es t)(U:Vl (e::es) X.env=(Vg,eval e X.env)::Vl es X.env:=by rfl):PA X (e::es) (IX te t):=by
 intro pos oq s σ H Q I h;rw[U];show Vh _ _ (spliced ((Vg,eval e X.env)::Vt pos (Vl es X.env))) _ _ s;refine Us (thn (ha oq s σ H _ I h) λu s1 zq=>?_);erw[zq,x,H1,I1,r1,q1];exact thn (O pos oq s1 σ H1 _ I1 q1) λus s2 ⟨xs,H2,I2,r2,q2⟩=>⟨x::xs,H2,I2,.cons r1 r2,q2⟩
abbrev AeL (t:TA):TE:=λσ H Q=>t σ H λxs H1=>↑xs<=Vk/\∀p,H1 p=U_->Q (-p) (upd H1 p (¬xs))
abbrev AeQ (t:TA):TE:=λσ H Q=>t σ H λxs H1=>↑xs<=Vk/\∀p,H1 p=U_->Q (-p) (upd H1 p (.lst xs))
def qD {x1}(h:PA X es t):PE X (.Tuple es x1 pos) (AeL t):=by
 exists 2,Q,I,U;refine wpAny_Tuple_spliced (thn (h pos oq s σ H _ I U) λus s1 ⟨xs,H1,O,r,z,q⟩=>⟨by rwa[<-↑r],?_⟩)
 have hf:H1 #[0,s1]=none:=O.hok.fresh (uj _);exists .ref #[0,s1],upd H1 #[0,s1] (¬xs),O.laid (t':=s1.toks) (λb u e=>ub _ e) (uj _) ?_,1,q _ hf;exact⟨z,us,r,⟨_,uE _ rfl,1,0⟩⟩
def Q7 (h:PA X es t):PE X (.List es pos) (AeQ t):=by
 exists 2,Q,I,U;refine wpAny_List_spliced (thn (h pos oq s σ H _ I U) λus s1 ⟨xs,H1,O,r,z,q⟩=>⟨by rwa[<-↑r],?_⟩)
 have hf:H1 #[0,s1]=none:=O.hok.fresh (uj _);exists .ref #[0,s1],upd H1 #[0,s1] (.lst xs),O.laid (t':=s1.toks) (λb u e=>ub _ e) (uj _) ?_,1,q _ hf;exact⟨z,us,(0),r,uE _ rfl⟩
end
nonrec abbrev Sp:=oj V->Hp->VK->XK->Prop
nonrec abbrev CXT:=oj Env->Hp->o7->XK->o6->o7->Prop
structure Aas (P:o9)(w:og)(K:o0)(mg:Str->om o6)(base:o8)(A:oh)(outer:oj Env)(s:o7)(H:Hp):Prop where
 frames:A.frames=u_ outer
 mod:Mod K mg base
 bs:∀b o,base.get? b=u_ o->s.heap.get? b=u_ o/\H b=U_
 bsz:base.objs.size<=#[0,s]
 funs:s.heap.FunFrames base outer
 frf:∀b>frs outer,H b=U_
 hok:HOk P w H s.heap
 bare:Ge s.gens
abbrev CE (outer:oj Env)(P:o9)(w:og)(H:Hp)(s:o7)(Q:VK)(u:o6)(s':o7):Prop:=
 ∃v H',s'.os=s.os/\Ge s'.gens/\0<s'.toks/\Un (frs outer) [] H H' s.heap s'.heap/\HOk P w H' s'.heap/\ik v u/\Q v H'
abbrev CR (CX:CXT)(outer:oj Env)(P:o9)(w:og)(H:Hp)(s:o7)(Q:VK)(E:XK)(r:Gy)(s':o7):Prop:=
 match r with
 | .ok (.ret u)=>CE outer P w H s Q u s'
 | .ok _=>False
 | .error e=>CX outer H s E e s'
structure FnOk (P:o9)(w:og)(K:o0)(mg:Str->om o6)(base:o8)(CX:CXT)(k:Nat)(f:o3)(fd:Vi)(ps:oj Str)(sp:Sp):Prop where
 len:∀vs H Q E,sp vs H Q E->↑vs=↑ps
 run:∀(A:oh) (outer:oj Env) (s:o7) (H:Hp) (args:Args) (us:oj o6) (vs:oj V) (Q:VK) (E:XK),mj k A->Aas P w K mg base A outer s H->GZ s fd args (ps.zip us)->iw vs us->sp vs H Q E->(0<s.toks\/∃x r,ps=x::r/\fd.scope.names.lookup x=u_ .local)->
  VM (Vu P w) A (.call (-f) args) (CR CX outer P w H s Q E) s
variable {mg:Str->om o6}{base:o8}
def Aas.make {P:o9}{outer:oj Env}(e:Aas P w K mg base A outer s H)(C:o3)(us:oj o6)(kw:oj (Str×o6)):
  Aas P w K mg base (A.under (.builtin "type.__call__" [.ref C::us:kw])) outer s H:=⟨by first|exact e.frames|(simpa [Te,Code.envs,Ta,pushEnvs] using e.frames),e.mod,e.bs,e.bsz,e.funs,e.frf,e.hok,e.bare⟩
section
variable {X:Cx}{oq:oj (o3×Obj)}{σ:St}{H:Hp}{s s':o7}
def Inv.env0 (I:#[I]):Aas X.prog X.w X.K X.mg X.base X.A X.stack s H:=
 ⟨I.ok.frames,I.ok.mod,I.bs,uZ I.ok.bsz I.sz,I.stack,I.stkFree,I.hok,I.bare⟩
variable {Q:VK}
def Inv.after (I:#[I])(h:CE X.stack X.prog X.w H s Q u s'):EP X oq σ Q u s':=by
 erw[h,v,H',os,bare,htk,un,hok,r,q];erw[s',U,g,d,t,O];obtain rfl:O=s.os:=os;exact⟨v,H',I.call (h':=U) (g':=g) (d':=d) (t':=t) (ch:= []) un hok bare (λb z=>A8 z (by simp)),r,q⟩
end
abbrev Adk (sp:Sp)(dvs:oj V)(E:XK)(t:TA):TE:=λσ H Q=>t σ H λvs H1=>sp (vs++dvs) H1 Q E
inductive AcI (C:Addr)(m:Str)(sp:Sp)(dvs:List V)(E:XK)(t:TA)(σ:St)(Q:VK)(x:V)(H1:Hp):Prop
 |mk (a:_)(dx:_)(fs:_)(_:x=-a)(_:H1 a=u_ (.ins C dx fs))(_:fs.lookup m=U_)(_:t σ H1 λvs H2=>sp (x::(vs++dvs)) H2 Q E)
abbrev AaQ (C:o3)(m:Str)(sp:Sp)(dvs:oj V)(E:XK)(ta:TE)(t:TA):TE:=λσ H Q=>ta σ H λx H1=>AcI C m sp dvs E t σ Q x H1
abbrev Ade (C:o3)(sp:Sp)(dvs:oj V)(E:XK)(t:TA):TE:=λσ H Q=>t σ H λvs H1=>∀x dx,H1 x=U_->H1 dx=U_->dx≠x->
 sp (.ref x::(vs++dvs)) (upd (upd H1 dx (.own x)) x (.ins C dx [])) (λv H2=>v= .non/\Q (-x) H2) E
abbrev Jr (K:o0)(fd:Vi)(ps:oj Str)(ds:oj o6):Prop:=
 ∀(s:o7) (us:oj o6),K.In s.heap->↑(us++ds)=↑ps->GZ s fd [us:[]] (ps.zip (us++ds))
variable {fd:Vi}
def Jr.all {ps:oj Str}(h:∀us:oj o6,↑us=↑ps->Gz fd [us:[]]=pure (ps.zip us)):Jr K fd ps []:=λs us _ O=>by
 rw[ve] at O⊢;exact .of_eq (h us O)
abbrev XV (CX:CXT)(X:Cx)(E:XK):Prop:=∀(oq:oj (o3×Obj)) (σ:St) (H:Hp) (s:o7) (e:o6) (s':o7),#[I]->CX X.stack H s E e s'->X.xe e s'
section
variable {X:Cx}{CX:CXT}{k:Nat}{f C:o3}{fd:Vi}{ps:oj Str}{sp:Sp}{dvs:oj V}{ds:oj o6}{E:XK}{x m:Str}{p pos apos:Pos}{e o:Expr}{es:oj Expr}{ta:TE}{t:TA}
def Bm {oq:oj (o3×Obj)}{σ:St}{H:Hp}{s:o7}{Q:VK}{us:oj o6}{vs:oj V}(F:FnOk X.prog X.w X.K X.mg X.base CX k f fd ps sp)(hr:mj k X.A)(hb:Jr X.K fd ps ds)(hd:iw dvs ds)(hx:XV CX X E)
  (I:#[I]) (r:iw vs us) (h:sp (vs++dvs) H Q E):Vh #[X,X] X.A (call (-f) us) (EP X oq σ Q) X.xe s:=by
 have U:iw (vs++dvs) (us++ds):=r.append hd;have hl:↑(us++ds)=↑ps:=by rw[<-↑U];exact F.len _ _ _ _ h
 refine UZ (Uh (F.run X.A X.stack s H [us:[]] (us++ds) (vs++dvs) Q E hr I.env0 (hb s us I.kIn hl) U h (.inl I.tk)) λr s' O=>?_);cases r with
 |error e=>exact hx oq σ H s e s' I O
 |ok fl=>
  cases fl with
  |ret u=>exact I.after O
  |next=>exact Vw O
  |brk=>exact Vw O
  |cont=>exact Vw O
def qq (F:FnOk X.prog X.w X.K X.mg X.base CX k f fd ps sp)(hr:mj k X.A)(hg:Gl X x)(hm:X.mg x=u_ (-f))(hk:PySem.W.keepIn X.K (-f)=v_)(hb:Jr X.K fd ps ds)(hd:iw dvs ds)(hx:XV CX X E)
  (ha:PA X (e::es) t) (O:(x==("__debug__":Str))=Vg) (he:Vl (e::es) X.env=(Vg,eval e X.env)::Vl es X.env) (U:(Vt pos (Vl es X.env)).any (·.1)=Vg):
  PE X (.Call (.Name x p) (e::es) [] pos) (Adk sp dvs E t):=by
 exists 2,Q,I,h;refine Ut (xL I hg hm ?_ O);refine U4 (h₀:=X.base) I.ok.mod.kin hk (thn (ha pos oq s σ H _ I h) λus s1 ⟨vs,H1,I1,r,q⟩=>[I1.kIn:?_]) he U;exact Bm F hr hb hd hx I1 r q
def Qj {pl:Sem Bool}(he:PE X o ta)(c:Cls X.K C)(hm:Aax X.K C m f)(F:FnOk X.prog X.w X.K X.mg X.base CX k f fd ps sp)(hr:mj k X.A)(hb:Jr X.K fd ps ds)(hd:iw dvs ds)(hx:XV CX X E)(ha:PA X (e::es) t)
  (O:Vl (e::es) X.env=(Vg,eval e X.env)::Vl es X.env) (U:(Vt pos (Vl es X.env)).any (·.1)=Vg)
  (ht:eval (.Call (.Attribute o m apos) (e::es) [] pos) X.env=(do
   let ov<-eval o X.env
   GK apos.atName
   let(f,first)<-VY [ov] (GV ov m pl)
   Hm pos f first (Vt pos (Vl (e::es) X.env)) (Gk pos (Gi [] X.env)))):
  PE X (.Call (.Attribute o m apos) (e::es) [] pos) (AaQ C m sp dvs E ta t):=by
 exists 2,Q,I,h;refine PySem.W.methodCall_KW (pl:=pl) (thn (he oq s σ H _ I h) λu s1 zq=>?_) ht;erw[zq,x,H1,I1,rx,a,dx,fs,ex,ea,l,q];subst ex;obtain rfl:u=Vm a:=rx;refine zK I1 ea c hm l ?_;refine U4 (first:= [-a]) (h₀:=X.base) I.ok.mod.kin hm.kp (thn (ha pos oq s1 σ H1 _ I1 q) λus s2 ⟨vs,H2,I2,r,q2⟩=>[I2.kIn:?_]) O U;exact Bm (us:= .ref a::us) (vs:= .ref a::vs) F hr hb hd hx I2 (.cons rfl r) q2
def QN {pl:Sem Bool}(U:PE X o ta)(c:Cls X.K C)(hm:Aax X.K C m f)(F:FnOk X.prog X.w X.K X.mg X.base CX k f fd ps sp)(hr:mj k X.A)(hb:Jr X.K fd ps ds)(hd:iw dvs ds)(hx:XV CX X E)
  (ht:eval (.Call (.Attribute o m apos) [] [] pos) X.env=(do
   let ov<-eval o X.env
   GK apos.atName
   let(f,first)<-VY [ov] (GV ov m pl)
   Hm pos f first (Vt pos (Vl [] X.env)) (Gk pos (Gi [] X.env)))):
  PE X (.Call (.Attribute o m apos) [] [] pos) (AaQ C m sp dvs E ta AaN):=by
 exists 2,Q,I,h;refine PySem.W.methodCall_KW (pl:=pl) (thn (U oq s σ H _ I h) λu s1 zq=>?_) ht;erw[zq,x,H1,O,rx,a,dx,fs,ex,ea,l,q];subst ex;obtain rfl:u=Vm a:=rx;refine zK O ea c hm l ?_;exact PySem.W.callWith_K0 (first:= [-a]) O.kIn hm.kp (Bm (us:= [-a]) (vs:= [-a]) F hr hb hd hx O (.cons rfl .nil) q)
structure Mk (K:o0)(C f:o3):Prop where
 makes:PySem.W.makesIn K C=v_
 init:PySem.W.findIn K (-C) "__init__"=u_ (u_ (-f))
 fn:PySem.W.isFn K (-f)=v_
 kp:PySem.W.keepIn K (-C)=v_
def Lu {oq:oj (o3×Obj)}{σ:St}{H:Hp}{s:o7}{Q:VK}{us:oj o6}{vs:oj V}(M:Mk X.K C f)(F:FnOk X.prog X.w X.K X.mg X.base CX k f fd ps sp)(hr:mj (k+1) X.A)(hb:Jr X.K fd ps ds)(hd:iw dvs ds)
  (hx:XV CX X E) (I:#[I]) (r:iw vs us)
  (h:∀x dx,H x=U_->H dx=U_->dx≠x->sp (.ref x::(vs++dvs)) (upd (upd H dx (.own x)) x (.ins C dx [])) (λv H2=>v= .non/\Q (-x) H2) E):
  Vh #[X,X] X.A (call (-C) us) (EP X oq σ Q) X.xe s:=by
 have hq:=h (#[0,s]+1) #[0,s] (I.hok.fresh (HQ _)) (I.hok.fresh (uj _)) (uP (V9 _));have U:=Inv.made (C:=C) I;have r2:iw (V.ref (#[0,s]+1)::(vs++dvs)) (Vm (#[0,s]+1)::(us++ds)):= .cons rfl (r.append hd);have hl:↑(Vm (#[0,s]+1)::us++ds)=↑ps:=by
  have e:=↑r2;rw[F.len _ _ _ _ hq] at e;exact e.symm
 refine UZ (Mb (f:=f) I.kIn M.makes M.init (beq_iff_eq.mp M.fn) (Uh (F.run _ X.stack _ _ [Vm (#[0,s]+1)::us:[]] (Vm (#[0,s]+1)::(us++ds)) _ _ E (hr.make C us [])
  (U.env0.make C us []) (hb _ (Vm (#[0,s]+1)::us) U.kIn hl) r2 hq (.inl U.tk)) λr s' O=>?_))
 cases r with
 |error e=>exact hx oq σ _ _ e s' U O
 |ok fl=>
  cases fl with
  |ret u=>
   erw[U.after O,v,H',I3,rv,ev,q3];subst ev;exact[rv:⟨V.ref (#[0,s]+1),H',I3,1,q3⟩]
  |next=>exact Vw O
  |brk=>exact Vw O
  |cont=>exact Vw O
def Xz (M:Mk X.K C f)(F:FnOk X.prog X.w X.K X.mg X.base CX k f fd ps sp)(hr:mj (k+1) X.A)(hg:Gl X x)(hm:X.mg x=u_ (-C))(hb:Jr X.K fd ps ds)(hd:iw dvs ds)(hx:XV CX X E)
  (ha:PA X (e::es) t) (O:(x==("__debug__":Str))=Vg) (he:Vl (e::es) X.env=(Vg,eval e X.env)::Vl es X.env) (U:(Vt pos (Vl es X.env)).any (·.1)=Vg):
  PE X (.Call (.Name x p) (e::es) [] pos) (Ade C sp dvs E t):=by
 exists 2,Q,I,h;refine Ut (xL I hg hm ?_ O);refine U4 (h₀:=X.base) I.ok.mod.kin M.kp (thn (ha pos oq s σ H _ I h) λus s1 ⟨vs,H1,I1,r,q⟩=>[I1.kIn:?_]) he U;exact Lu M F hr hb hd hx I1 r q
end
structure qv (N P:oj Str)(sc:VA):Prop where
 kind:sc.kind= .function
 co:sc.isCoroutine=Vg
 gen:sc.isGenerator=Vg
 nd:N.Nodup
 pre:N.take ↑P=P
 par:∀x>P,sc.names.lookup x=u_ .local\/sc.names.lookup x=u_ .cell
 nofree:∀y>sc.names,y.2≠ .free
def sP {kindOf:Str->om VW}{x:Str}:∀{binds:oj (Str×o6)}{m:Str->om o6},(∀v,(x,v)∉binds)->VT kindOf binds m x=m x
 | [],_,_=>rfl
 |(n,v)::r,m,h=>by
  unfold VT;rw[sP λw O=>h w (uc _ O)];split
  .have:x≠n:=by rintro rfl;exact h v uf
   simp[this]
  .rfl
def sR {kindOf:Str->om VW}{x:Str}:∀{binds:oj (Str×o6)}{m:Str->om o6},(∀v,(x,v)∉binds)->VX kindOf binds m x=m x
 | [],_,_=>rfl
 |(n,v)::r,m,h=>by
  unfold VX;rw[sR λw O=>h w (uc _ O)];split
  .rfl
  .have:x≠n:=by rintro rfl;exact h v uf
   simp[this]
def sQ {kindOf:Str->om VW}{x:Str}{v:o6}:∀{P:oj Str}{vs:oj o6}{i:Nat}{m:Str->om o6},P.Nodup->P[i]? =u_ x->vs[i]? =u_ v->kindOf x=u_ .local->
  VT kindOf (P.zip vs) m x=u_ v
 | [],_,_,_,_,h,_,_=>by simp at h
 |_::_,[],_,_,_,_,h,_=>by simp at h
 |p::P,w::vs,0,m,nd,h1,h2,hk=>by
  simp at h1 h2;subst h1;subst h2;show VT kindOf ((p,w)::P.zip vs) m p=_;unfold VT;rw[sP λv O=>(List.nodup_cons.mp nd).1 (T_ O).1,A6 hk];simp
 |p::P,w::vs,i+1,m,nd,h1,h2,hk=>by
  show VT kindOf ((p,w)::P.zip vs) m x=_;unfold VT;exact sQ (i:=i) (List.nodup_cons.mp nd).2 (by simpa using h1) (by simpa using h2) hk
def sS {kindOf:Str->om VW}{x:Str}{v:o6}:∀{P:oj Str}{vs:oj o6}{i:Nat}{m:Str->om o6},P.Nodup->P[i]? =u_ x->vs[i]? =u_ v->kindOf x≠u_ .local->
  VX kindOf (P.zip vs) m x=u_ v
 | [],_,_,_,_,h,_,_=>by simp at h
 |_::_,[],_,_,_,_,h,_=>by simp at h
 |p::P,w::vs,0,m,nd,h1,h2,hk=>by
  simp at h1 h2;subst h1;subst h2;show VX kindOf ((p,w)::P.zip vs) m p=_;unfold VX;rw[sR λv O=>(List.nodup_cons.mp nd).1 (T_ O).1,A4 hk];simp
 |p::P,w::vs,i+1,m,nd,h1,h2,hk=>by
  show VX kindOf ((p,w)::P.zip vs) m x=_;unfold VX;exact sS (i:=i) (List.nodup_cons.mp nd).2 (by simpa using h1) (by simpa using h2) hk
abbrev Kn (N:oj Str)(vs:oj V):St:=vs.map u_++tu (↑N-↑vs) U_
abbrev cxOf (CX:CXT)(P:o9)(w:og)(K:o0)(mg:Str->om o6)(base:o8)(N:oj Str)(qual:Str)(scope:VA)(f:o3)(cd:o6)(A:oh)(outer:oj Env)(s:o7)(H:Hp)(E:XK):Cx where
 prog:=P
 w:=w
 K:=K
 mg:=mg
 base:=base
 A:=A.deeper (Vn qual scope #[0,s] f cd)
 N:=N
 s₀:=s
 H₀:=H
 env:=Vn qual scope #[0,s] f cd
 outer:=outer
 stack:=Vn qual scope #[0,s] f cd::outer
 ex:= []
 calm:=v_
 fn:=λ_=>v_
 pn:= []
 xe:=λe s'=>Vh (Vu P w) (A.deeper (Vn qual scope #[0,s] f cd)) (tR (Vn qual scope #[0,s] f cd) e) (λ_ s''=>CX outer H s E e s'') (λe' s''=>CX outer H s E e' s'') s'
variable {n:Nat}{x:Str}
def Ce {sc:VA}(h:sc.names.lookup x=u_ .cell):∃c,(GR n sc.names []).lookup x=u_ c:=by
 have q:=PySem.W.cellsFrom_some sc.names n [] (.inl h);exact Option.isSome_iff_exists.mp q
def ER {CX:CXT}{P:o9}{w:og}{K:o0}{mg:Str->om o6}{base:o8}{N ps:oj Str}{qual:Str}{scope:VA}{f:o3}{cd:o6}{A:oh}{outer:oj Env}{s s1:o7}{H:Hp}{E:XK}{us:oj o6}{vs:oj V}
  (S:qv N ps scope) (hd:A.handled=U_) (O:Aas P w K mg base A outer s H) (hl:↑vs=↑ps) (r:iw vs us)
  (x:Hv s #[0,s] (VT (Vn qual scope #[0,s] f cd).kindOf (ps.zip us) λ_=>U_) (GR (#[0,s]+1) scope.names []) (VX (Vn qual scope #[0,s] f cd).kindOf (ps.zip us) λ_=>U_) s1) (ac:0<s1.toks):
  Inv (cxOf CX P w K mg base N qual scope f cd A outer s H E) [] (Kn N vs) H s1:=by
 have ad:↑ps<=↑N:=by have:=A9 Gb S.pre;rw[vG] at this;omega
 erw[x.done,h1,tk,rfl,hk];have U:∀b:o3,b∉(cxOf CX P w K mg base N qual scope f cd A outer s H E).ex:=λb z=>A8 (show b>([]:oj o3) from z) (by simp)
 exists ⟨O.mod,S.kind,1,1,uj _,λy z c h1 h2=>?_,λy hy=>?_,λy c _ h=>?_,λ_=>hd,Around.frames_deeper O.frames,.inr [1:1],λb z=>A8 z (U b),O.bs,O.bsz,λb _ _=>U b,λb z=>A8 z (U b),O.funs,O.frf⟩,1,O.bare,Un.kept hk,[_:x.toInCall.ns:λi y v h1 h2 h3=>?_],λy c h=>[_:x.cell y c h],O.hok.fresh (uj _),λy c h=>?_,λp hp=>A8 (show p>([]:oj (o3×Obj)) from hp) (by simp),O.hok.kept hk,?_,ac
 .exact name_of_addr x.apart (vJ h1) (vJ h2)
 .have hy:scope.names.lookup y=u_ .cell\/scope.names.lookup y=u_ .free:=hy;rcases hy with hy|hy
  .exact Ce hy
  .exact A8 rfl (S.nofree _ (vJ hy))
 .exact V6 (x.above y c (vJ h))
 .have hi:i<↑vs:=by
   unfold Kn at h2;by_cases hi:i<↑vs
   .exact hi
   .rw[UD (by simpa using hi)] at h2
    rw[pk] at h2;split at h2<;>cases h2
  have ha:vs[i]? =u_ v:=by
   unfold Kn at h2;rw[UF (by simpa using hi),uG] at h2
   cases e:vs[i]? with
   |none=>rw[e] at h2;cases h2
   |some a=>rw[e] at h2;cases h2;rfl
  erw[r.get ha,u,hu,rv];have hp:ps[i]? =u_ y:=by
   rwa[<-S.pre,List.getElem?_take_of_lt ()]
  have aa:ps.Nodup:=by rw[<-S.pre];exact S.nd.sublist (V0 _ _)
  exists u,rv;rcases S.par y (uQ hp) with k|k
  .exact .inl [k:sQ aa hp hu k]
  .erw[Ce (n:=#[0,s]+1) k,c,e];refine .inr ⟨.inl k,c,e,?_⟩;have q:=x.cell y c e;rw[sS aa hp hu (by show scope.names.lookup y≠_;rw[k];decide)] at q
   exact q
 .exact O.hok.fresh (V6 (x.above y c (vJ h)))
 .unfold Kn;show _=↑N;rw[uI,u9,rm];omega
def AQ {M:Gq}{A:oh}{E:o6->o7->Prop}{s₀ s:o7}{m cm:Str->om o6}{env:Env}(f:Str×o6->PUnit->Sem (ForInStep PUnit))(hf:∀n v u,f (n,v) u=(do HS env n v;pure (.yield ⟨⟩)))(O:env.scope.kind= .function)
  (n:Str) (v:o6) (r:oj (Str×o6)) (Q:PUnit->o7->Prop) (x:Hv s₀ env.locals m env.cells cm s) (hl:env.kindOf n=u_ .local)
  (aa:∀x>r,env.kindOf x.1=u_ .local\/(env.kindOf x.1=u_ .cell/\(env.cells.lookup x.1).isSome=v_))
  (h:∀s',Hv s₀ env.locals (VT env.kindOf ((n,v)::r) m) env.cells (VX env.kindOf ((n,v)::r) cm) s'->0<s'.toks->Q ⟨⟩ s'):Vh M A (G9 ((n,v)::r) ⟨⟩ f) Q E s:=by
 rw[Uy,hf];refine A7 (A7 (pF hl x.toInCall.ns (λh' ac U=>uw ?_) (by rw[O];rfl)))
 have x1:Hv s₀ env.locals (λy=>if y=n then u_ v else m y) env.cells cm {s with heap:=h',toks:=s.toks+1}:=by
  exists ⟨?_,ac,λb o e=>?_,x.toInCall.fresh⟩,λk c hc=>?_,x.apart,x.above
  .erw[x.toInCall.same,h₁,tk,rfl];exact[h':0]
  .have:=x.toInCall.keep b o e;exact U.extBut b o (uP (Vv (uF e) x.toInCall.fresh)) (x.toInCall.keep b o e)
  .exact(x.cell k c hc).sameBut U (U2 (x.above k c (mem_of_lookup hc)))
 refine uW (n:=1) (rh (uS _)) (wpAny_bindParams f hf O r _ _ _ _ x1 aa λs' y h1=>h s' ?_ h1);unfold VT VX;rw[A6 hl,A6 hl];exact y
def Ex {M:Gq}{A:oh}{E:o6->o7->Prop}{s:o7}{scope:VA}{globals:o3}{binds:oj (Str×o6)}{qual:Str}{func:om o3}{O:o6}{builtins:o3}{Q:Env->o7->Prop}
  (aa:scope.kind= .function)
  (ac:∀x>binds,scope.names.lookup x.1=u_ .local\/(scope.names.lookup x.1=u_ .cell/\((GR (#[0,s]+1) scope.names []).lookup x.1).isSome=v_))
  (htk:0<s.toks\/∃n v r,binds=(n,v)::r/\scope.names.lookup n=u_ .local)
  (hq:∀en,en=newEnv scope #[0,s] globals (GR (#[0,s]+1) scope.names []) qual func O U_ builtins->
   ∀s',Hv s en.locals (VT en.kindOf binds λ_=>U_) en.cells (VX en.kindOf binds λ_=>U_) s'->0<s'.toks->Q en s'):
  Vh M A (TQ scope globals [] binds qual func O U_ builtins) Q E s:=by
 rcases htk with htk|⟨n,v,r,rfl,hl⟩
 .exact uW (n:=1) htk (wpAny_newFunctionEnv_cells aa ac λenv he s' x h1=>hq env he s' x h1)
 .simp![TQ,vO,U5,Vc];refine A7 (wpAny_alloc ?_);refine A7 (wpAny_layCells _ (λname kind cells=>by cases ad:kind==Gj<;>simp[ad]) _ _ _ _ ?_)
  have U:=cellsFrom_ok scope.names (s.heap.push {cls:= .type "frame",data:= .dict #[]}) (#[0,s]+1) [] [λ_ _ hm=>(nomatch hm):Rz] (by rw[vm];exact uj _);rw[vm] at U;rw[show({s with heap:=s.heap.push {cls:= .type "frame",data:= .dict #[]}}:o7).heap.objs.size=#[0,s]+1 from vm ..]
  exact A7 (AQ (s₀:=s) (env:=newEnv scope #[0,s] globals (GR (#[0,s]+1) scope.names []) qual func O U_ builtins)
   _ (λ_ _ _=>rfl) aa n v r _
   ⟨⟨⟨_,_,by rfl⟩,(Heap.Ns.new s.heap (.type "frame")).keeps (RP _ _),λb o e=>RP _ _ b o (ub _ e),uj _⟩,
    λm c hc=>(U.empty m c (mem_of_lookup hc)).1,U.apart,λn c hm=>(U.empty n c hm).2⟩
   hl (λy hy=>ac y (uc _ hy)) λs' x h1=>uw (hq _ rfl s' x h1))
def Acd {CX:CXT}{P:o9}{w:og}{K:o0}{mg:Str->om o6}{base:o8}{k:Nat}{f:o3}{name qual:Str}{O:Arguments}{U:oj Stmt}{scope:VA}{dV kV doc pm cdv ct oc:o6}{an od:om o3}
  {osl:Array (om o6)}{N ps:oj Str}{sp:Sp} (lk:K.lookup f=u_ ⟨oc,od,.func (PySem.W.fnOf name qual O U scope dV kV doc pm an cdv ct),osl⟩) (af:PySem.W.codeIn K cdv qual=v_) (S:qv N ps scope)
  (len:∀vs H Q E,sp vs H Q E->↑vs=↑ps)
  (aa:∀(A:oh) (outer:oj Env) (s:o7) (H:Hp) (vs:oj V) (Q:VK) (E:XK),mj k (A.deeper (Vn qual scope #[0,s] f cdv))->sp vs H Q E->
   ∃t,PSs (cxOf CX P w K mg base N qual scope f cdv A outer s H E) U t/\t {nx:=λ_ H'=>Q .non H',rt:=Q} (Kn N vs) H):
  FnOk P w K mg base CX (k+1) f (PySem.W.fnOf name qual O U scope dV kV doc pm an cdv ct) ps sp:=by
 exists len,λA outer s H args us vs Q E hr e0 hb r ad htk=>?_;have hl:=len _ _ _ _ ad;have KX:K.In s.heap:=e0.mod.kin.keeps λb o e=>(e0.bs b o e).1;have ag:s.heap.NoLimit:=e0.mod.nolimit.keeps λb o e=>(e0.bs b o e).1;have ac:∀y>ps.zip us,scope.names.lookup y.1=u_ .local\/(scope.names.lookup y.1=u_ .cell/\((GR (#[0,s]+1) scope.names []).lookup y.1).isSome=v_):=λ⟨n,v⟩ hy=>by
  rcases S.par n (T_ hy).1 with q|q
  .exact .inl q
  .exact .inr [q:PySem.W.cellsFrom_some _ _ _ (.inl q)]
 have ae:0<s.toks\/∃n v r,ps.zip us=(n,v)::r/\scope.names.lookup n=u_ .local:=by
  rcases htk with h|⟨y,q,e,hy⟩
  .exact .inl h
  .have:↑us=↑ps:=by rwa[<-↑r]
   subst e
   match us,this with
   |u::us',_=>exact .inr ⟨y,u,q.zip us',1,hy⟩
 refine codeAny_call_function hr.depth (KX _ _ lk) rfl S.co S.gen rfl (PySem.W.codeRec_of KX af) (hb _ _ _ _ ?_);refine Ex S.kind ac ae λenv he s1 x ah=>?_;subst he;exists ag.keeps x.toInCall.keep,codeAny_func ?_;erw[aa A outer s H vs Q E (hr.deeper _) ad,t,ht,hq];have I:Inv (cxOf CX P w K mg base N qual scope f cdv A outer s H E) [] (Kn N vs) H s1:=ER S hr.hd e0 hl r x ah;refine vg (ht [] s1 (Kn N vs) H _ I hq) (λfl s' hs=>?_) λe s' hs=>hs;have fin:∀{σ':St}{H':Hp}{v:V}{u:o6},Inv (cxOf CX P w K mg base N qual scope f cdv A outer s H E) [] σ' H' s'->ik v u->Q v H'->CE outer P w H s Q u s':=
  λ{σ' H' v u} J rv q=>⟨v,H',J.os,J.bare,J.tk,J.base,J.hok,rv,q⟩
 cases fl with
 |ret u=>
  erw[hs,v,σ',H',J,rv,q];exact fin J rv q
 |next=>
  erw[hs,σ',H',J,q];exact fin (v:=V.non) (u:=Gf) J rfl q
 |brk=>
  erw[hs,_,_,_,q];exact Vw q
 |cont=>
  erw[hs,_,_,_,q];exact Vw q
section
variable {X:Cx}{x:Str}{p pos:Pos}{e:Expr}{es:oj Expr}{t:TA}{id T:String}{r:oj V->Hp->VK->Prop}
abbrev tCB (r:oj V->Hp->VK->Prop)(t:TA):TE:=λσ H Q=>t σ H λvs H1=>r vs H1 Q
def qz (hc:Y3 X (.builtin id) r)(hg:Gl X x)(hm:X.mg x=U_)(hv:GX x=u_ (.builtin id))(ha:PA X (e::es) t)(hn:x≠"__name__")(O:(x==("__debug__":Str))=Vg)
  (he:Vl (e::es) X.env=(Vg,eval e X.env)::Vl es X.env) (U:(Vt pos (Vl es X.env)).any (·.1)=Vg):PE X (.Call (.Name x p) (e::es) [] pos) (tCB r t):=by
 exists 2,Q,I,h;refine Ut (Zr I hg hm hv ?_ hn O);exact Pw (thn (ha pos oq s σ H _ I h) λus s1 ⟨vs,H1,I1,r1,q1⟩=>hc oq s1 σ H1 vs us Q I1 r1 q1) he U
def qS (hc:Y3 X (.type T) r)(hg:Gl X x)(hm:X.mg x=U_)(hv:GX x=u_ (.type T))(ha:PA X (e::es) t)(hn:x≠"__name__")(O:(x==("__debug__":Str))=Vg)
  (he:Vl (e::es) X.env=(Vg,eval e X.env)::Vl es X.env) (U:(Vt pos (Vl es X.env)).any (·.1)=Vg):PE X (.Call (.Name x p) (e::es) [] pos) (tCB r t):=by
 exists 2,Q,I,h;refine Ut (Zr I hg hm hv ?_ hn O);exact vv (thn (ha pos oq s σ H _ I h) λus s1 ⟨vs,H1,I1,r1,q1⟩=>hc oq s1 σ H1 vs us Q I1 r1 q1) he U
end
end L2
namespace HT
open PySem PyProof.Rows
section
variable {prog:o9}{w:og}{A:oh}{E:o6->o7->Prop}{s:o7}
def cat_tup {t b:o3}{vs ws:oj o6}{Q:o6->o7->Prop}(ht:G_ s.heap t vs.toArray)(hb:G_ s.heap b ws.toArray)(hv:vs≠ [])
  (h1:ws= []->Q (-t) s) (h2:ws≠ []->Q (.ref #[0,s]) {s with heap:=s.heap.push {cls:= .type "tuple",data:= .seq (vs++ws).toArray}})
  (hsz:↑vs+↑ws<=Vk):Vh #[w,w] A (VJ .Add (-t) (-b)) Q E s:=by
 erw[id ht,[cls,dd,data,sl],ho,hc,n,hd];erw[id hb,[af,U,ae,aa],O,ac,n2,ad];simp only at hc hd ac ad;subst hc hd ac ad;have e:vs.toArray++ws.toArray=(vs++ws).toArray:=by simp
 by_cases hw:ws= []
 .exact TJ [_:ho:1] [_:O:1] TC T2 PySem.F.slot_tuple_add UN (UI _ _)
   (tuple_addW1 t b vs.toArray ws.toArray n n2 dd U sl aa (by simpa using hv) (by simp[hw])) [ho:O:h1 hw]
 .refine TJ [_:ho:1] [_:O:1] TC T2 PySem.F.slot_tuple_add UN (UI _ _)
   (tuple_addW2 t b vs.toArray ws.toArray n n2 dd U sl aa (by simpa using hv) (by simpa using hw) (by rwa[ur,ur])) [ho:O:?_]
  rw[e];exact h2 hw
abbrev sIx (n d:Nat):om Int->Nat
 |none=>d
 |some v=>if v<0 then(v+(n:Int)).toNat else min v.toNat n
def sIx_none (n d:Nat):sIx n d U_=d:=rfl
def sIx_nat (n d k:Nat):sIx n d (u_ (k:Int))=min k n:=by
 show(if(k:Int)<0 then((k:Int)+(n:Int)).toNat else min (k:Int).toNat n)=min k n
 rw[A4 (),Fe]
def Abg (n d:Nat)(hd:d<=n)(o:om Int):sIx n d o<=n:=by
 cases o with
 |none=>exact hd
 |some v=>
  show(if v<0 then(v+(n:Int)).toNat else min v.toNat n)<=n
  by_cases O:v<0
  .rw[A6 O];omega
  .rw[A4 O];exact Nat.min_le_right _ _
def Iw (v:Int)(n d:Nat):(if v<0 then max (v+(n:Int)) 0 else min v (n:Int))=((sIx n d (u_ v):Nat):Int):=by
 show(if v<0 then max (v+(n:Int)) 0 else min v (n:Int))=(((if v<0 then(v+(n:Int)).toNat else min v.toNat n):Nat):Int)
 by_cases O:v<0
 .simp![A6 O];omega
 .simp![A4 O];omega
def C3 (lo hi:om Int)(n:Nat):Tz lo hi 1 (n:Int)=(((sIx n 0 lo:Nat):Int),((sIx n n hi:Nat):Int)):=by
 have h1:¬((1:Int)<0):=by omega
 unfold Tz;simp![h1,Vc];refine Prod.ext ?_ ?_
 .cases lo with
  |none=>rfl
  |some v=>exact Iw v n 0
 .cases hi with
  |none=>rfl
  |some v=>exact Iw v n n
def CA (i j:Nat):HE (i:Int) (j:Int) 1=j-i:=by
 unfold HE;have h1:GT.gt (1:Int) 0:=by omega
 simp![h1,Ve,rT];split<;>omega
def kC {v:o6}{o:om Int}{Q:om Int->o7->Prop}(p:Gg v o)(h:Q o s):Vh #[w,w] A (pY v) Q E s:=by
 cases p with
 |none=>exact rn h
 |int i t=>exact slicePart_int h
def Je {sl:o3}{vl vu:o6}{lo hi:om Int}{n:Nat}{Q:Int×Int×Nat->o7->Prop}(hs:s.heap.IsSliceOf sl vl vu .none)(pl:Gg vl lo)(pu:Gg vu hi)
  (h:Q (((sIx n 0 lo:Nat):Int),1,sIx n n hi-sIx n 0 lo) s):Vh #[w,w] A (RE (-sl) (pure (n:Int))) Q E s:=by
 erw[id hs,os,O,aa,U];unfold RE Ph;refine A7 (A7 (vh O U (x:=vl) rfl (A7 (vh O U (x:=vu) rfl (A7 (vh O U (x:= .none) rfl (uw ?_)))))));refine A7 (rn ?_);show Vh _ _ (if((1:Int)==0)=v_ then _ else _) _ _ s
 rw[A4 ()]
 refine A7 (kC pl (A7 (kC pu (A7 (uw ?_)))));show Vh _ _ (match Tz lo hi 1 (n:Int) with|(lo,hi)=>pure (lo,(1:Int),HE lo hi 1)) _ _ s
 rw[C3 lo hi n];show Vh _ _ (pure (((sIx n 0 lo:Nat):Int),(1:Int),HE ((sIx n 0 lo:Nat):Int) ((sIx n n hi:Nat):Int) 1)) _ _ s;rw[CA];exact uw h
def Ly (xs:Array o6)(i k:Nat):((Vp k).filterMap λ(m:Nat)=>xs[((i:Int)+(m:Int)*1).toNat]?).toArray=((xs.toList.drop i).take k).toArray:=by
 have e:(λ(m:Nat)=>xs[((i:Int)+(m:Int)*1).toNat]?)=λm=>xs[i+m]? :=by
  funext m
  have:((i:Int)+(m:Int)*1).toNat=i+m:=by omega
  rw[this]
 rw[e];have:=pick_run xs i k;rw[List.filterMap_map] at this;have e2:((λx=>xs[x]?)∘λx=>i+x)=λm=>xs[i+m]? :=rfl;rw[e2] at this;rw[this]
def getItem_tuple_cut {t sl:o3}{items:Array o6}{vl vu:o6}{lo hi:om Int}{Q:o6->o7->Prop}(U:G_ s.heap t items)(hs:s.heap.IsSliceOf sl vl vu .none)(pl:Gg vl lo)(pu:Gg vu hi)
  (hw:¬(sIx items.size 0 lo=0/\sIx items.size items.size hi=items.size))
  (h:Q (.ref #[0,s]) {s with heap:=s.heap.push {cls:= .type "tuple",data:= .seq ((items.toList.drop (sIx items.size 0 lo)).take (sIx items.size items.size hi-sIx items.size 0 lo)).toArray}})
  (hsz:items.size<=Vk):Vh #[w,w] A (VV (-t) (-sl)) Q E s:=by
 have O:sizeOk (.seq ((items.toList.drop (sIx items.size 0 lo)).take (sIx items.size items.size hi-sIx items.size 0 lo)).toArray):=by
  show((items.toList.drop (sIx items.size 0 lo)).take (sIx items.size items.size hi-sIx items.size 0 lo)).toArray.size<=Vk;rw[ur,vG,vZ,vi];omega
 have hj:sIx items.size items.size hi<=items.size:=Abg _ _ (uj _) hi;erw[id hs,os,aa,ac,af];have ad:s.TypeIs (-sl) "slice":=[os:aa:ac];unfold VV
 try with_reducible refine VL ?_
 first|refine A7 (uw ?_)|skip
 refine A7 (RZ U.typeIs () ?_)
 refine A7 (vj (name:=GB "__getitem__") U.typeIs vK
  (vH vK U.typeIs FN ?_ (FT _ _)))
 show Vh _ _ (p6 (-t)>>=_) _ _ s;refine A7 (RA U ?_);refine A7 (GC ad ?_);rw[A6 ()]
 refine A7 (Je hs pl pu ?_);have ae:¬((((sIx items.size 0 lo:Nat):Int)==0&&(1:Int)==1&&(sIx items.size items.size hi-sIx items.size 0 lo)==items.size)=v_):=by
  intro q;rw[uC,uC] at q;have q1:((sIx items.size 0 lo:Nat):Int)=0:=eq_of_beq q.1.1;have q2:sIx items.size items.size hi-sIx items.size 0 lo=items.size:=eq_of_beq q.2;exact hw [():()]
 show Vh _ _ (if(((sIx items.size 0 lo:Nat):Int)==0&&(1:Int)==1&&(sIx items.size items.size hi-sIx items.size 0 lo)==items.size)=v_ then _ else _) _ _ s
 rw[A4 ae,Ly]
 first
  |exact A7 (m:=GU _) (vy (uw ⟨0,uw h⟩) O)
  |exact A7 (m:=GU _) (vy (A7 (uw (uw ⟨0,uw h⟩))) O)
  |exact A7 (A7 (m:=GU _) (vy (uw (uw ⟨0,uw h⟩)) O))
  |exact A7 (A7 (m:=GU _) (vy (uw ⟨0,uw h⟩) O))
end
end HT
namespace L2
open PySem PySem.Spec PyProof.Rows
nonrec abbrev TO:=St->Hp->(om Int->Hp->Prop)->Prop
abbrev PO (X:Cx)(e:om Expr)(t:TO):Prop:=
 ∀(oq:oj (o3×Obj)) (s:o7) (σ:St) (H:Hp) (Q:om Int->Hp->Prop),#[I]->t σ H Q->
  Vh #[X,X] X.A (evalPart e X.env) (λu s'=>∃o H',Inv X oq σ H' s'/\Gg u o/\Q o H') X.xe s
abbrev Di:TO:=λ_ H Q=>Q U_ H
inductive AcG (Q:(Option Int->Hp->Prop))(x:V)(H1:Hp):Prop
 |mk (i:_)(_:x= .int i)(_:Q (u_ i) H1)
abbrev Adb (t:TE):TO:=λσ H Q=>t σ H λx H1=>AcG Q x H1
def CU {ns:oj Int}:∀{us:oj o6},iw (ns.map V.int) us->GJ us ns:=by
 induction ns with
 |nil=>intro us r;rw[Ui] at r;cases r;exact .nil
 |cons n ns O=>
  intro us r;rw[uA] at r;cases r with
  |cons U r2=>
   erw[U,t,e];subst e;exact .cons n t (O r2)
section
variable {X:Cx}{e:Expr}{te:TE}{lo hi:om Expr}{tl th:TO}{pos p2:Pos}
def We:PO X U_ Di:=by
 exists 2,Q,I,h;rw[Tp];exact uw ⟨U_,H,I,.none,h⟩
def jN (h:PE X e te):PO X (u_ e) (Adb te):=by
 exists 2,Q,I,O;rw[RY];refine thn (h oq s σ H _ I O) λu s1 zq=>?_;erw[zq,x,H1,U,r1,q1];erw[q1,i,rfl,q];erw[r1,t,rfl];exact⟨u_ i,H1,U,.int i t,q⟩
abbrev SlR (X:Cx)(r:V->om Int->om Int->Hp->VK->Prop):Prop:=
 ∀(oq:oj (o3×Obj)) (s:o7) (σ:St) (H:Hp) (x:V) (v vl vu:o6) (lo hi:om Int) (sl:o3) (Q:VK),#[I]->ik x v->s.heap.IsSliceOf sl vl vu .none->Gg vl lo->Gg vu hi->r x lo hi H Q->
  ∃T id,HJ (.type T) "__getitem__"=pure (u_ (.builtin id))/\s.TypeIs v T/\Vh #[X,X] X.A (VV v (-sl)) (EP X oq σ Q) X.xe s
def SlR.or {r r':V->om Int->om Int->Hp->VK->Prop}(h:SlR X r)(h':SlR X r'):SlR X (λx lo hi H Q=>r x lo hi H Q\/r' x lo hi H Q):=by
 exists 2,x,v,O,U,lo,hi,sl,Q,I,rx,hs,pl,pu,q;rcases q with q|q
 .exact h oq s σ H x v O U lo hi sl Q I rx hs pl pu q
 .exact h' oq s σ H x v O U lo hi sl Q I rx hs pl pu q
abbrev tSl (r:V->om Int->om Int->Hp->VK->Prop)(te:TE)(tl th:TO):TE:=λσ H Q=>te σ H λx H1=>tl σ H1 λl H2=>th σ H2 λu H3=>r x l u H3 Q
def xg {r:V->om Int->om Int->Hp->VK->Prop}(hr:SlR X r)(he:PE X e te)(hl:PO X lo tl)(hu:PO X hi th):PE X (.Subscript e (.Slice lo hi U_ p2) pos) (tSl r te tl th):=by
 exists 2,Q,I,h;refine HZ (thn (he oq s σ H _ I h) λv s1 zq=>?_);erw[zq,x,H1,I1,r1,q1];refine Ru (thn (hl oq s1 σ H1 _ I1 q1) λU s2 ⟨l,H2,I2,pl,q2⟩=>thn (hu oq s2 σ H2 _ I2 q2) λvu O zq=>?_);erw[zq,u,H3,I3,pu,q3];rw[Tp];refine uw ?_;have I4:Inv X oq σ H3 {O with heap:=O.heap.push {cls:= .type "slice",data:= .fields #[U,vu,.none]}}:=I3.kept (t':=O.toks) λb ob q=>ub _ q
 erw[hr oq {O with heap:=O.heap.push {cls:= .type "slice",data:= .fields #[U,vu,.none]}} σ H3 x v U vu l u #[0,O] Q I4 r1 (Re ..) pl pu q3,T,id,hT,ht,hg]
 show Vh #[X,X] X.A (HH e (.Slice lo hi U_ p2) v (.ref #[0,O])) (EP X oq σ Q) X.xe {O with heap:=O.heap.push {cls:= .type "slice",data:= .fields #[U,vu,.none]}}
 exact tN (ops:= [.ref #[0,O],v]) ht hT hg #[w]
abbrev nj (xs:oj V)(lo hi:om Int):oj V:=(xs.drop (HT.sIx ↑xs 0 lo)).take (HT.sIx ↑xs ↑xs hi-HT.sIx ↑xs 0 lo)
def WR (xs:oj V)(lo hi:om Int):↑(nj xs lo hi)<=↑xs:=by
 unfold nj;rw[vG,vZ];omega
inductive AeY (K:PySem.W.Frag)(x:V)(lo:Option Int)(hi:Option Int)(H:Hp)(Q:VK):Prop
 |mk (a:_)(xs:_)(_:x=-a)(_:SqT K H a xs)(_:¬(HT.sIx ↑xs 0 lo=0/\HT.sIx ↑xs ↑xs hi=↑xs))(_:∀p,H p=U_->Q (-p) (upd H p (.tup (nj xs lo hi))))
def Aba:SlR X (AeY X.K):=by
 exists 2,x,v,vl,vu,lo,hi,sl,Q,I,rx,hs,pl,pu,h;erw[h,a,xs,rfl,hx,hw,q];cases rx;erw[I.tuple hx,its,r,U,hz];have O:its.toArray.size=↑xs:=by rw[ur];exact r.length.symm
 exists "tuple",_,PyProof.Rows.slot_tuple_getitem.lookup,U.typeIs;refine HT.getItem_tuple_cut U hs pl pu (by rwa[O]) ?_ (by rwa[O])
 rw[O];exists .ref #[0,s],_,I.laid (t':=s.toks) (o:= .tup (nj xs lo hi)) (λb ob q=>ub _ q) (uj _) ?_,1,q _ (I.hok.fresh (uj _));exact⟨uZ (WR xs lo hi) hz,_,(r.drop (HT.sIx ↑xs 0 lo)).take (HT.sIx ↑xs ↑xs hi-HT.sIx ↑xs 0 lo),Hr _ _⟩
inductive Adx (K:PySem.W.Frag)(x:V)(y:V)(H:Hp)(Q:VK):Prop
 |mk (a:_)(b:_)(xs:_)(ys:_)(_:x=-a)(_:y=-b)(_:SqT K H a xs)(_:SqT K H b ys)(_:xs≠ [])(_:↑xs+↑ys<=Vk)(_:(ys= []->Q (-a) H))(_:(ys≠ []->∀p,H p=U_->Q (-p) (upd H p (.tup (xs++ys)))))
variable {xs:oj V}{us:oj o6}
def iw.nil_iff (r:iw xs us):us= []↔xs= []:=by
 cases r with
 |nil=>simp
 |cons _ _=>simp
def PB:OpR X (VJ .Add) (Adx X.K):=by
 exists 2,x,y,v,u,Q,I,rx,ry,h;erw[h,a,b,xs,ys,rfl,rfl,ha,hb,hx,hz,q1,q2];cases rx;cases ry;erw[I.tuple ha,its,U,p1,_];erw[I.tuple hb,aa,O,p2,_];refine HT.cat_tup p1 p2 (λz=>hx (U.nil_iff.mp z)) (λz=>⟨-a,H,I,1,q1 (O.nil_iff.mp z)⟩) (λz=>?_) (by rwa[<-↑U,<-↑O])
 exists .ref #[0,s],_,I.laid (t':=s.toks) (o:= .tup (xs++ys)) (λb ob q=>ub _ q) (uj _) ?_,1,q2 (λw=>z (O.nil_iff.mpr w)) _ (I.hok.fresh (uj _));exact⟨by rwa[uI],_,U.append O,Hr _ _⟩
end
abbrev ixN (n:Nat)(i:Int):om Nat:=if 0<=i then(if i<n then u_ i.toNat else U_) else if-(n:Int)<=i then u_ (i+n).toNat else U_
abbrev atI {α:Type}(xs:oj α)(i:Int):om α:=(ixN ↑xs i).bind λj=>xs[j]?
variable {n j:Nat}
def Az {i:Int}(h:ixN n i=u_ j):seqIndex? i n=u_ j/\j<n/\ -(n:Int)<=i/\i<n:=by
 unfold ixN at h;by_cases h0:0<=i
 .rw[A6 h0] at h;by_cases h1:i<n
  .rw[A6 h1] at h;have e:i.toNat=j:=uJ h;exact⟨by rw[Fa h0 h1,e],(),(),h1⟩
  .rw[A4 h1] at h;cases h
 .rw[A4 h0] at h;by_cases h1: -(n:Int)<=i
  .rw[A6 h1] at h;have e:(i+n).toNat=j:=uJ h;exact⟨by rw[Fq () h1,e],(),h1,()⟩
  .rw[A4 h1] at h;cases h
def qae {α:Type}{xs:oj α}{i:Int}{v:α}(h:atI xs i=u_ v):∃j,seqIndex? i ↑xs=u_ j/\xs[j]? =u_ v/\j<↑xs/\ -(↑xs:Int)<=i/\i<↑xs:=by
 unfold atI at h;cases e:ixN ↑xs i with
 |none=>rw[e] at h;cases h
 |some j=>
  rw[e] at h;erw[Az e,h1,h2,h3,h4];exact⟨j,h1,h,h2,h3,h4⟩
def qI {α:Type}{xs:oj α}{v:α}(h:xs[j]? =u_ v):atI xs (j:Int)=u_ v:=by
 have O:j<↑xs:=(Af.mp h).1;have e:ixN ↑xs (j:Int)=u_ j:=by
  unfold ixN;rw[A6 (),A6 ()];simp
 unfold atI;rw[e];exact h
def Kr {α:Type}(xs:oj α)(v:α):atI (xs++ [v]) (-1)=u_ v:=by
 have O:↑(xs++ [v])=↑xs+1:=by simp
 have e:ixN ↑(xs++ [v]) (-1)=u_ ↑xs:=by
  unfold ixN;rw[O,A4 (),A6 ()]
  congr 1
  omega
 unfold atI;rw[e];show(xs++ [v])[↑xs]? =u_ v;simp
abbrev Aah (b:Expr):Prop:=∀o i,Hq b Vg o i=HU [o,i] (VV o i)
abbrev IxR (X:Cx)(r:R2):Prop:=
 ∀(value slice:Expr) (oq:oj (o3×Obj)) (s:o7) (σ:St) (H:Hp) (x y:V) (v u:o6) (Q:VK),#[I]->ik x v->ik y u->r x y H Q->
  Hq slice Vg v u=HU [v,u] (VV v u)->Vh #[X,X] X.A (HH value slice v u) (EP X oq σ Q) X.xe s
abbrev MtR (X:Cx)(id:String)(r:V->oj V->Hp->VK->Prop):Prop:=
 ∀(oq:oj (o3×Obj)) (s:o7) (σ:St) (H:Hp) (x:V) (xs:oj V) (v:o6) (us:oj o6) (Q:VK),#[I]->ik x v->iw xs us->r x xs H Q->
  Vh #[X,X] X.A (call (.builtin id) (v::us)) (EP X oq σ Q) X.xe s
section
variable {X:Cx}{a b:Expr}{ta tb:TE}{pos:Pos}
def IxR.or {r r':R2}(h:IxR X r)(h':IxR X r'):IxR X (λx y H Q=>r x y H Q\/r' x y H Q):=by
 intro value slice oq s σ H x y v u Q I O U q hs;rcases q with q|q
 .exact h value slice oq s σ H x y v u Q I O U q hs
 .exact h' value slice oq s σ H x y v u Q I O U q hs
def qH {r:R2}(O:IxR X r)(ha:PE X a ta)(U:PE X b tb)(hs:Aah b):PE X (.Subscript a b pos) (tOp r ta tb):=by
 exists 2,Q,I,h;exact HZ (Ad1 ha U I h λv u s2 x y H2 I2 rx ry q=>O a b oq s2 σ H2 x y v u Q I2 rx ry q (hs _ _))
inductive Aes (K:PySem.W.Frag)(x:V)(y:V)(H:Hp)(Q:VK):Prop
 |mk (p:_)(xs:_)(i:_)(v:_)(_:x=-p)(_:y= .int i)(_:SqL K H p xs)(_:atI xs i=u_ v)(_:Q v H)
inductive O0 (K:PySem.W.Frag)(x:V)(y:V)(H:Hp)(Q:VK):Prop
 |mk (p:_)(xs:_)(i:_)(v:_)(_:x=-p)(_:y= .int i)(_:SqT K H p xs)(_:atI xs i=u_ v)(_:Q v H)
inductive Aer (x:V)(y:V)(H:Hp)(Q:VK):Prop
 |mk (z:_)(i:_)(c:_)(_:x= !z)(_:y= .int i)(_:↑z<=Vk)(_:atI z.cps.toList i=u_ c)(_:Q (.str ⟨#[c]⟩) H)
def YS:IxR X (Aes X.K):=by
 intro value slice oq s σ H x y v u Q I rx ry h hs;erw[h,p,xs,i,z,rfl,rfl,hq,he,q];cases rx;erw[ry,t,rfl];erw[I.list hq,its,r,pl,hz];erw[qae he,j,h1,h2,h3,h4,h5];erw[r.get h2,w,ew,O];have hl:=↑r;have hn:=ZH;have fin:EP X oq σ Q w s:=⟨z,H,I,O,q⟩;by_cases h0:0<=i
 .have U:i.toNat=j:=by
   rw[Fa h0 h5] at h1;exact uJ h1
  exact item_listR pl.isList h0 () (by rw[U];simpa using ew) fin hs
 .have U:(i+(its.toArray.size:Int)).toNat=j:=by
   rw[Fq () h4] at h1
   rw[ur,<-hl];exact uJ h1
  exact rB (x:=w) pl.isList.typeIs slot_list_getitem.lookup
   (wpAny_getItem_list_neg (Q:=λr s'=>r=w/\EP X oq σ Q r s') pl.isList () (by rw[ur]<;>omega) () (by rw[U];simpa using ew) [1:fin]) hs
def qC:IxR X (O0 X.K):=by
 intro value slice oq s σ H x y v u Q I U ry h hs;erw[h,p,xs,i,z,rfl,rfl,hq,he,q];cases U;erw[ry,t,rfl];erw[I.tuple hq,its,r,pl,hz];erw[qae he,j,h1,h2,h3,h4,h5];erw[r.get h2,w,ew,O];have hl:=↑r;have hn:=ZH;have fin:EP X oq σ Q w s:=⟨z,H,I,O,q⟩;exact rB (x:=w) pl.typeIs slot_tuple_getitem.lookup
  (getItem_tuple (j:=j) (Q:=λr s'=>r=w/\EP X oq σ Q r s') pl () () (by rwa[ur,<-hl]) (by simpa using ew) [1:fin]) hs
def BV:IxR X Aer:=by
 intro value slice oq s σ H x y v u Q I O U h hs;erw[h,z,i,c,rfl,rfl,hz,he,q];erw[O,t,rfl];erw[U,t',rfl];erw[qae he,j,h1,h2,h3,h4,h5];have hl:↑z.cps.toList=↑z:=by simp[Gh]
 rw[hl] at h1 h4 h5;have hn:=ZH;exact tN (vP s z t) slot_str_getitem.lookup (getItem_str (c:=c) (by
  have e1:decide (i< -(2^63:Int))=false:=ug ()
  have e2:decide (i≥2^63)=false:=ug ()
  rw[e1,e2,Bool.or_false]) (by rw[h1];simpa using h2) ⟨.str ⟨#[c]⟩,H,I.tok _,⟨0⟩,q⟩) hs
abbrev rIx (K:o0):R2:=λx y H Q=>Aes K x y H Q\/O0 K x y H Q\/Aer x y H Q
def XL:IxR X (rIx X.K):=YS.or (qC.or BV)
def CK (its:oj o6)(n j:Nat)(u:o6):Hw (·.setIfInBounds j u) {cls:= .type "list",data:= .seq its.toArray n}={cls:= .type "list",data:= .seq (its.set j u).toArray n}:=by
 simp[Hw]
def Inv.lst {oq:oj (o3×Obj)}{σ:St}{H:Hp}{s:o7}{p:o3}{xs:oj V}(I:#[I])(h:H p=u_ (.lst xs)):
  ∃(its:oj o6) (n:Nat),iw xs its/\s.heap.get? p=u_ {cls:= .type "list",data:= .seq its.toArray n}/\↑xs<=sizeLine:=by
 erw[I.hok p _ h,z,its,n,r,e];exact⟨its,n,r,e,z⟩
def Inv.lstUpd {oq:oj (o3×Obj)}{σ:St}{H:Hp}{s:o7}{p:o3}{xs ys:oj V}{its its':oj o6}{n O:Nat}{f:Obj->Obj}(I:#[I])(h:H p=u_ (.lst xs))
  (ho:s.heap.get? p=u_ {cls:= .type "list",data:= .seq its.toArray n}) (U:f {cls:= .type "list",data:= .seq its.toArray n}={cls:= .type "list",data:= .seq its'.toArray O}) (r:iw ys its') (hz:↑ys<=Vk) (t:Nat) (ht:0<t:=by ac_rfl):
  Inv X oq σ (upd H p (.lst ys)) {s with heap:=s.heap.update p f,toks:=t}:=by
 have e:(s.heap.update p f).get? p=u_ {cls:= .type "list",data:= .seq its'.toArray O}:=by
  rw[Fj f ho (by rw[U]<;>rfl),U]
 refine I.write (x:=p) (e:=p) (by rw[h];trivial) (.inl rfl) (λb u hb q=>(Fs _ _ (vV hb)).trans q) [_:e] ?_
 exact⟨hz,its',O,r,e⟩
inductive Adt (o:V)(i:V)(v:V)(H:Hp)(Q:(Hp->Prop)):Prop
 |mk (p:_)(xs:_)(k:_)(j:_)(_:o=-p)(_:i= .int k)(_:H p=u_ (.lst xs))(_:ixN ↑xs k=u_ j)(_:Q (upd H p (.lst (xs.set j v))))
def Lr:AeF X Adt:=by
 exists 2,o,i,v,ov,iv,u,Q,I,ro,ri,rv,h;erw[h,p,xs,k,j,rfl,rfl,hp,hj,q];cases ro;erw[ri,t,rfl];erw[I.lst hp,its,n,r,O,hz];erw[Az hj,h1,h2,h3,h4];have U:=↑r;have hn:=ZH;have I':Inv X oq σ (upd H p (.lst (xs.set j v))) {s with heap:=s.heap.update p (Hw (·.setIfInBounds j u))}:=
  I.lstUpd hp O (CK its n j u) (r.set rv j) (by rwa[pJ]) s.toks
 by_cases h0:0<=k
 .have hk:k.toNat=j:=by
   rw[Fa h0 h4] at h1;exact uJ h1
  exact PySem.W.ki_setAt O h0 () (by rwa[ur,<-U]) (by rw[hk];exact[_:I':q])
 .have hk:(k+(its.toArray.size:Int)).toNat=j:=by
   rw[Fq () h3] at h1
   rw[ur,<-U];exact uJ h1
  exact PySem.W.ki_setBack O () (by rwa[ur,<-U]) () (by rw[hk];exact[_:I':q])
def nU (lo hi:om Int)(n:Nat):(gV lo hi U_ n).1=((HT.sIx n 0 lo:Nat):Int)/\(gV lo hi U_ n).2.1=((HT.sIx n n hi:Nat):Int)/\(gV lo hi U_ n).2.2=1:=by
 exists ?_,?_,1
 .cases lo with
  |none=>simp[gV,HT.sIx]
  |some i=>
   simp![gV,HT.sIx,Fw,show GT.gt (1:Int) 0 by decide,Ve]
   by_cases h:i<0
   .simp![h,Ve]<;>omega
   .simp![h,Vc]<;>omega
 .cases hi with
  |none=>simp[gV,HT.sIx]
  |some i=>
   simp![gV,HT.sIx,Fw,show GT.gt (1:Int) 0 by decide,Ve]
   by_cases h:i<0
   .simp![h,Ve]<;>omega
   .simp![h,Vc]<;>omega
def qaa (its:oj o6)(lo hi:om Int):Fm its.toArray lo hi U_=((its.drop (HT.sIx ↑its 0 lo)).take (HT.sIx ↑its ↑its hi-HT.sIx ↑its 0 lo)).toArray:=by
 erw[nU lo hi its.toArray.size,h1,h2,h3];unfold Fm;rw[h1,h2,h3];simp![sliceRange_one,pick_run,ur]<;>rfl
inductive AeZ (K:PySem.W.Frag)(x:V)(lo:Option Int)(hi:Option Int)(H:Hp)(Q:VK):Prop
 |mk (a:_)(xs:_)(_:x=-a)(_:SqL K H a xs)(_:∀p,H p=U_->Q (-p) (upd H p (.lst (nj xs lo hi))))
def Kl:SlR X (AeZ X.K):=by
 exists 2,x,v,vl,vu,lo,hi,sl,Q,I,rx,hs,pl,pu,h;erw[h,a,xs,rfl,hx,q];cases rx;erw[I.list hx,its,r,U,hz];have O:=↑r;exists "list",_,slot_list_getitem.lookup,U.isList.typeIs;refine Fy U.isList hs pl pu .none (by simp) ?_ (by rw[ur]<;>omega)
 rw[qaa,<-O];exists .ref #[0,s],_,I.laid (t':=s.toks) (o:= .lst (nj xs lo hi)) (λb ob q=>ub _ q) (uj _) ?_,1,q _ (I.hok.fresh (uj _));exact⟨uZ (WR xs lo hi) hz,_,(0),(r.drop (HT.sIx ↑xs 0 lo)).take (HT.sIx ↑xs ↑xs hi-HT.sIx ↑xs 0 lo),uE _ rfl⟩
abbrev Z7:V->Bool
 | .non=>v_
 | .bl _=>v_
 | .int _=>v_
 | .str _=>v_
 |_=>Vg
abbrev eqV:V->V->Bool
 | .non,.non=>v_
 | .bl a,.bl b=>a==b
 | .bl a,.int b=>(if a then 1 else 0)==b
 | .int a,.bl b=>a==(if b then 1 else 0)
 | .int a,.int b=>a==b
 | .str a,.str b=>a==b
 |_,_=>Vg
variable {A:oh}{s:o7}{y:V}{u:o6}
def Acg {x:V}{v:o6}(U:ik y u)(O:ik x v)(fy:Z7 y=v_)(fx:Z7 x=v_):Vz A s u v (eqV y x):=by
 cases y with
 |non=>
  cases U;cases x with
  |non=>cases O;exact tO _
  |bl b=>cases O;exact Pj b
  |int b=>erw[O,t,rfl];exact R_ b t
  |str b=>erw[O,t,rfl];exact rG b t
  |_=>exact A8 (show Vg=v_ from fx) u8
 |bl a=>
  cases U;cases x with
  |non=>cases O;exact pX a
  |bl b=>cases O;exact Pv a b
  |int b=>erw[O,t,rfl];exact Pm a b t
  |str b=>erw[O,t,rfl];exact Pc a b t
  |_=>exact A8 (show Vg=v_ from fx) u8
 |int a=>
  erw[U,t',rfl];cases x with
  |non=>cases O;exact rY a t'
  |bl b=>cases O;exact Pn a t' b
  |int b=>erw[O,t,rfl];exact Ft a t' b t
  |str b=>erw[O,t,rfl];exact UL a t' b t
  |_=>exact A8 (show Vg=v_ from fx) u8
 |str a=>
  erw[U,t',rfl];cases x with
  |non=>cases O;exact FA a t'
  |bl b=>cases O;exact Pq a t' b
  |int b=>erw[O,t,rfl];exact UM a t' b t
  |str b=>erw[O,t,rfl];exact Fc a t' b t
  |_=>exact A8 (show Vg=v_ from fx) u8
 |_=>exact A8 (show Vg=v_ from fy) u8
abbrev eqU (x:V)(u:o6):Bool:=match u with
 | .none=>eqV .non x
 | .bool b=>eqV (.bl b) x
 | .int i _=>eqV (.int i) x
 | .str z _=>eqV (!z) x
 |_=>Vg
def NK {x:V}(r:ik y u)(f:Z7 y=v_):eqU x u=eqV y x:=by
 cases y with
 |non=>cases r;rfl
 |bl b=>cases r;rfl
 |int i=>erw[r,t,rfl];rfl
 |str z=>erw[r,t,rfl];rfl
 |_=>exact A8 (show Vg=v_ from f) u8
def Wz {x:V}:∀{xs:oj V}{us:oj o6},iw xs us->xs.all Z7=v_->us.any (eqU x)=xs.any λy=>eqV y x
 |_,_,.nil,_=>rfl
 |y::xs,u::us,.cons r t,f=>by
  rw[vB,uC] at f;rw[UB,UB,NK r f.1,Wz t f.2]
def zw {A:oh}{s:o7}{x:V}{v:o6}(U:ik x v)(fx:Z7 x=v_):∀{xs:oj V}{us:oj o6},iw xs us->xs.all Z7=v_->∀u>us,Vz A s u v (eqU x u)
 |_,_,.nil,_=>λu O=>by cases O
 |y::xs,u::us,.cons r t,f=>λu' O=>by
  rw[vB,uC] at f;rcases Aa.mp O with rfl|O
  .rw[NK r f.1];exact Acg r U f.1 fx
  .exact zw U fx t f.2 u' O
abbrev inV (x:V)(xs:oj V):Bool:=xs.any λy=>eqV y x
inductive rIn (K:PySem.W.Frag)(neg:Bool)(x:V)(y:V)(H:Hp)(Q:VK):Prop
 |mk (p:_)(xs:_)(_:y=-p)(_:(SqL K H p xs\/SqT K H p xs))(_:Z7 x=v_)(_:xs.all Z7=v_)(_:Q (.bl (if neg then !(inV) x xs else inV x xs)) H)
def QS:OpR X (Vs .In) (rIn X.K Vg):=by
 exists 2,x,y,v,u,Q,I,rx,ry,h;erw[h,p,xs,rfl,O,fx,fs,q];cases ry;rcases O with O|O
 .erw[I.list O,its,r,pl,hz];refine RU (eqU x) pl.isList (λw U=>zw rx fx r fs w (by simpa using U)) ⟨.bl _,H,I,1,?_⟩
  rw[show its.toArray.any (eqU x)=its.any (eqU x) by simp,Wz r fs]
  exact q
 .erw[I.tuple O,its,r,pl,hz];refine FW (eqU x) pl (λw U=>zw rx fx r fs w (by simpa using U)) ⟨.bl _,H,I,1,?_⟩
  rw[show its.toArray.any (eqU x)=its.any (eqU x) by simp,Wz r fs]
  exact q
def oN:OpR X (Vs .NotIn) (rIn X.K v_):=by
 exists 2,x,y,v,u,Q,I,rx,ry,h;erw[h,p,xs,rfl,O,fx,fs,q];cases ry;rcases O with O|O
 .erw[I.list O,its,r,pl,hz];refine SeqAt.notIn_listAt (eqU x) pl.isList (λw U=>zw rx fx r fs w (by simpa using U)) ⟨.bl _,H,I,1,?_⟩
  rw[show its.toArray.any (eqU x)=its.any (eqU x) by simp,Wz r fs]
  exact q
 .erw[I.tuple O,its,r,pl,hz];refine SeqAt.notIn_tupleAt (eqU x) pl (λw U=>zw rx fx r fs w (by simpa using U)) ⟨.bl _,H,I,1,?_⟩
  rw[show its.toArray.any (eqU x)=its.any (eqU x) by simp,Wz r fs]
  exact q
def oK:OpR X (Vs .NotIn) (λx y H Q=>∃i j,x= .str i/\y= .str j/\Q (.bl (!(!(Hx j i 0 ↑j 1).isEmpty))) H):=by
 exists 2,x,y,v,u,Q,I,O,U,h;erw[h,i,j,rfl,rfl,q];erw[O,t,rfl];erw[U,t',rfl];exact notIn_str ⟨.bl _,H,I,1,q⟩
def qT:Y3 X (.builtin "len") (λxs H Q=>∃p ys,xs= [-p]/\(SqL X.K H p ys\/SqT X.K H p ys)/\Q (.int ↑ys) H):=by
 exists 2,xs,us,Q,I,r,h;erw[h,p,ys,rfl,U,q];erw[xi r,u,rfl,rx];cases rx;have hn:=ZH;rcases U with U|U
 .erw[I.list U,its,r',pl,hz];have O:=↑r';exact Rq pl.isList (by simp![ur]<;>omega) ⟨.int ↑ys,H,I.tok _,⟨s.toks+1,by rw[ur,O]⟩,q⟩
 .erw[I.tuple U,its,r',pl,hz];have O:=↑r';exact len_tuple pl (by simp![ur]<;>omega) ⟨.int ↑ys,H,I.tok _,⟨s.toks+1,by rw[ur,O]⟩,q⟩
def ZB:Y3 X (.builtin "len") (λxs H Q=>∃z,xs= [!z]/\↑z<=Vk/\Q (.int ↑z) H):=by
 exists 2,xs,us,Q,I,r,h;erw[h,z,rfl,hz,q];erw[xi r,u,rfl,t,rfl];have hn:=ZH;exact len_str () ⟨.int ↑z,H,I.tok _,⟨0⟩,q⟩
def qU:Y3 X (.type "tuple") (λxs H Q=>∃p ys,xs= [-p]/\((SqL X.K H p ys/\∀l,H l=U_->Q (-l) (upd H l (¬ys)))\/(SqT X.K H p ys/\Q (-p) H))):=by
 exists 2,xs,us,Q,I,r,h;erw[h,p,ys,rfl,h];erw[xi r,u,rfl,rx];cases rx;rcases h with⟨O,q⟩|⟨O,q⟩
 .erw[I.list O,its,r',pl,hz];have U:=↑r';refine call_tuple_list pl.isList (λh' kp=>?_) (by simp![ur]<;>omega)
  have I1:Inv X oq σ H {s with heap:=h'}:=I.kept (t':=s.toks) kp
  have I2:Inv X oq σ (upd H h'.objs.size (¬ys)) {s with heap:=h'.push {cls:= .type "tuple",data:= .seq its.toArray}}:=
   I1.laid (t':=s.toks) (λb o e=>ub _ e) (uj _) (show ye X.prog X.w _ _ _ (¬ys) from⟨hz,its,r',Hr _ _⟩)
  exact⟨-h'.objs.size,_,I2,1,q _ (I1.hok.fresh (uj _))⟩
 .erw[I.tuple O,its,r',pl,hz];exact call_tuple_same pl ⟨-p,H,I,1,q⟩
abbrev tyV (K:o0)(T:String)(x:V)(H:Hp):Prop:=match x with
 | .str _=>T="str"
 | .int _=>T="int"
 | .ref p=>(T="list"/\∃xs,SqL K H p xs)\/(T="tuple"/\∃o,K.lookup p=u_ o/\o.cls= .type "tuple"/\o.dict=U_)\/
   (T="dict"/\((∃kvs,H p=u_ (.dK kvs))\/∃kvs,H p=u_ (.dT kvs)))\/(T="set"/\∃S n,H p=u_ (.set S n))
 |_=>False
variable {oq:oj (o3×Obj)}{σ:St}{H:Hp}
def MU {T:String}{x:V}{v:o6}(I:#[I])(r:ik x v)(ty:tyV X.K T x H):
  s.TypeIs v T/\∀a,v= .ref a->∃ob,s.heap.get? a=u_ ob/\ob.dict=none:=by
 cases x with
 |str z=>
  erw[r,t,rfl];cases(show T="str" from ty)
  exact[vP s z t:λ_ e=>nomatch e]
 |int i=>
  erw[r,t,rfl];cases(show T="int" from ty)
  exact[typeIs_int s i t:λ_ e=>nomatch e]
 |ref p=>
  cases r;rcases ty with⟨rfl,xs,U⟩|⟨rfl,o,O,hc,hd⟩|⟨rfl,O⟩|⟨rfl,S,n,O⟩
  .erw[I.list U,its,_,pl,_];exists pl.isList.typeIs,λa e=>?_;cases e;erw[pl,o,n,e,c,hd,_];exact[o:e:hd]
  .exists [o:I.kIn p o O:hc],λa e=>?_;cases e;exact[o:I.kIn _ o O:hd]
  .have z:∃o,s.heap.get? p=u_ o/\o.ExactDict:=by
    rcases O with⟨kvs,O⟩|⟨kvs,O⟩
    .erw[I.hok p _ O,_,_,_,_,o,_,_,e,ex,_];exact[o:e:ex]
    .erw[I.hok p _ O,_,_,_,_,o,_,_,e,ex,_];exact[o:e:ex]
   erw[z,o,e,ex];exists [o:e:ex.1],λa e2=>?_;cases e2;exact[o:e:ex.2.1]
  .erw[I.hok p _ O,o,_,_,_,e,ex,_];exists [o:e:ex.1],λa e2=>?_;cases e2;exact[o:e:ex.2.1]
 |_=>exact Vw ty
abbrev AeS (K:o0)(T:String)(r:V->oj V->Hp->VK->Prop)(to:TE):TE:=λσ H Q=>to σ H λx H1=>tyV K T x H1/\r x [] H1 Q
abbrev tBM (K:o0)(T:String)(r:V->oj V->Hp->VK->Prop)(to:TE)(t:TA):TE:=λσ H Q=>to σ H λx H1=>tyV K T x H1/\t σ H1 λxs H2=>r x xs H2 Q
variable {o e:Expr}{es:oj Expr}{to:TE}{t:TA}{name:Str}{apos cpos:Pos}{T id:String}{r:V->oj V->Hp->VK->Prop}
def Nj (pa:F0 T)(slot:Slot T name id)(aa:hW (.builtin id)=pure (.type "method_descriptor"))(hm:MtR X id r)(ho:PE X o to)
  (O:GN o name X.env (eval o X.env)=eval o X.env) (U:(apos.endLine==cpos.line)=v_):PE X (.Call (.Attribute o name apos) [] [] cpos) (AeS X.K T r to):=by
 exists 2,Q,I,h;refine wpAny_Call_method0_late O U (thn (ho oq s σ H _ I h) λv s1 zq=>?_);erw[zq,x,H1,I1,r1,ty,q1];erw[MU I1 r1 ty,h1,h2];exact⟨T,id,pa,slot,aa,h1,h2,vX rfl (PySem.evalArgs_none (hm oq s1 σ H1 x [] v [] Q I1 r1 .nil q1))⟩
def j0 (pa:F0 T)(slot:Slot T name id)(ad:hW (.builtin id)=pure (.type "method_descriptor"))(hm:MtR X id r)(ho:PE X o to)(ha:PA X (e::es) t)
  (U:GN o name X.env (eval o X.env)=eval o X.env:=by rfl)
  (ac:((Vt cpos (Vl (e::es) X.env)).all (λx=> !(x).1)&&(Gk cpos (Gi [] X.env)).all (λx=>x.1.isSome)
   &&decide (↑(e::es)+↑([]:oj Gu)+(if([]:oj Gu).isEmpty then 0 else 1)<30))=true:=by rfl)
  (aa:(apos.endLine==cpos.line)=true:=by rfl) (hs:Vl (e::es) X.env=(Vg,eval e X.env)::Vl es X.env:=by rfl) (O:(Vt cpos (Vl es X.env)).any (·.1)=false:=by rfl):
  PE X (.Call (.Attribute o name apos) (e::es) [] cpos) (tBM X.K T r to t):=by
 exists 2,Q,I,h;refine wpAny_Call_method_late U ac aa rfl (thn (ho oq s σ H _ I h) λv s1 zq=>?_);erw[zq,x,H1,I1,r1,ty,q1];erw[MU I1 r1 ty,h1,h2];exists T,id,pa,slot,ad,h1,h2;have hA:=ha cpos oq s1 σ H1 _ I1 q1;rw[hs] at hA⊢;refine vX (by show(Vg||(Vt cpos (Vl es X.env)).any (·.1))=Vg;rw[O]<;>rfl) (Uc ?_)
 exact thn hA λus s2 ⟨vs,H2,I2,r2,q2⟩=>hm oq s2 σ H2 x vs v us Q I2 r1 r2 q2
end
abbrev MtM (X:Cx)(id:String)(r:V->oj V->Hp->VK->Prop):Prop:=
 ∀(oq:oj (o3×Obj)) (s:o7) (σ:St) (H:Hp) (x:V) (xs:oj V) (v:o6) (us:oj o6) (Q:VK),#[I]->ik x v->iw xs us->r x xs H Q->
  Vh #[X,X] X.A (call (.builtin id) (v::us)) (EP X oq σ Q) X.xe s
def iw.one:∀{x:V}{us:oj o6},iw [x] us->∃u,us= [u]/\ik x u
 |_,_,.cons r .nil=>[0:r]
def iw.zero:∀{us:oj o6},iw [] us->us= []
 |_,.nil=>rfl
variable {xs:oj V}{us:oj o6}
def iw.dropLast (h:iw xs us):iw xs.dropLast us.dropLast:=by
 induction h with
 |nil=>exact .nil
 |cons r t O=>
  cases t with
  |nil=>exact .nil
  |cons q t'=>exact .cons r O
def CY {α:Type}(l:oj α):l.eraseIdx (↑l-1)=l.dropLast:=by
 induction l with
 |nil=>rfl
 |cons a r O=>
  cases r with
  |nil=>rfl
  |cons b r=>
   have e:↑(a::b::r)-1=(↑(b::r)-1)+1:=by
    have h1:↑(a::b::r)=↑r+2:=rfl;have h2:↑(b::r)=↑r+1:=rfl;omega
   rw[e,List.eraseIdx_cons_succ,O]
   all_goals rfl
section
variable {X:Cx}{oq:oj (o3×Obj)}{σ:St}{H:Hp}{s:o7}{l b:o3}{xs ys zs:oj V}
def Inv.lset {its its':oj o6}{n:Nat}{f:Array o6->Array o6}{t':Nat}(I:#[I])(O:H l=u_ (.lst xs))
  (e:s.heap.get? l=u_ {cls:= .type "list",data:= .seq its.toArray n}) (U:f its.toArray=its'.toArray) (hv:iw ys its') (hz:↑ys<=Vk) (ht:0<t':=by ac_rfl):
  Inv X oq σ (upd H l (.lst ys)) {s with heap:=s.heap.update l (Hw f),toks:=t'}:=by
 have q:=PySem.IsL.update e f;rw[U] at q;refine I.write (x:=l) (e:=l) (by rw[O];exact trivial) (.inl rfl) (λb' u hb hu=>(Fs s.heap (Hw f) (vV hb)).trans hu) [_:q] ?_
 exact⟨hz,its',_,hv,q⟩
variable {its:oj o6}{t':Nat}
def Inv.lnew (I:#[I])(O:iw ys its)(hz:↑ys<=Vk)(U:0<t':=by ac_rfl):
  Inv X oq σ (upd H #[0,s] (.lst ys)) {s with heap:=s.heap.push {cls:= .type "list",data:= .seq its.toArray},toks:=t'}:=
 I.laid (λ_ _ q=>ub _ q) (uj _) ⟨hz,its,(0),O,uE _ rfl⟩
def Inv.fresh (I:#[I]):H #[0,s]=none:=I.hok.fresh (uj _)
def Inv.lstM (I:#[I])(O:H l=u_ (.lst xs)):↑xs<=Vk/\∃(its:oj o6) (n:Nat),iw xs its/\↑xs=↑its/\s.heap.get? l=u_ {cls:= .type "list",data:= .seq its.toArray n}:=by
 erw[I.hok l _ O,z,its,n,r,e];exact⟨z,its,n,r,↑r,e⟩
def L7 (h:n<=Vk):T6 n=false:=by
 unfold T6;exact ug ()
end
section
variable {X:Cx}
inductive KY (x:V)(vs:List V)(H:Hp)(Q:VK):Prop
 |mk (l:_)(xs:_)(y:_)(_:x=-l)(_:vs= [y])(_:H l=u_ (.lst xs))(_:↑xs<Vk)(_:Q .non (upd H l (.lst (xs++ [y]))))
def YH:MtM X "list.append" KY:=by
 exists 2,x,vs,v,us,Q,I,U,rv,h;erw[h,l,xs,y,rfl,rfl,O,hz,q];cases U;erw[rv.one,u,rfl,ru];erw[I.lstM O,z,its,n,r,hl,e];refine vQ F.slot_list_append [_:e:1] F.entry_list_append (F.args_list_append_2 _ _) (PySem.list_append l its.toArray n u (by rw[ur];omega)) [e:?_]
 exists .non,_,I.lset (its':=its++ [u]) O e (by simp) (r.append (.cons ru .nil)) ?_,1,q
 rw[uI,U6];omega
inductive O1 (x:V)(vs:List V)(H:Hp)(Q:VK):Prop
 |mk (l:_)(b:_)(xs:_)(zs:_)(_:x=-l)(_:vs= [-b])(_:H l=u_ (.lst xs))(_:H b=u_ (.lst zs))(_:↑xs+↑zs<=Vk)(_:Q .non (upd H l (.lst (xs++zs))))
def oW:MtM X "list.extend" O1:=by
 exists 2,x,vs,v,us,Q,I,rx,rv,h;erw[h,l,b,xs,zs,rfl,rfl,hH,hB,hz,q];cases rx;erw[rv.one,u,rfl,ru];cases ru;erw[I.lstM hH,z,its,n,r,hl,e];erw[I.lstM hB,z2,O,n2,r2,aa,e2];have hsz:its.toArray.size+O.toArray.size<=sizeLine:=by rw[ur,ur];omega
 have U:¬(!(its.toArray.isEmpty)&&T6 (its.toArray.size+O.toArray.size))=true:=by
  rw[L7 hsz,f_];exact u8
 refine vQ F.slot_list_extend [_:e:1] F.entry_list_extend (F.args_list_extend_2 _ _)
  (pO l its.toArray n b O.toArray n2 U (by rw[ur];omega) ()) [e:e2:?_]
 exists .non,_,I.lset (its':=its++O) hH e (by simp) (r.append r2) ?_,1,q
 rw[uI];omega
inductive Ae0 (x:V)(vs:List V)(H:Hp)(Q:VK):Prop
 |mk (l:_)(xs:_)(y:_)(_:x=-l)(_:vs= [])(_:H l=u_ (.lst xs))(_:xs[↑xs-1]? =u_ y)(_:Q y (upd H l (.lst xs.dropLast)))
def Nu:MtM X "list.pop" Ae0:=by
 exists 2,x,vs,v,us,Q,I,rx,rv,h;erw[h,l,xs,y,rfl,rfl,hH,hy,q];cases rx;have O:=rv.zero;subst O;erw[I.lstM hH,z,its,n,r,hl,e];erw[r.get hy,u,hu,ru];have U:its.toArray[its.toArray.size-1]? =u_ u:=by
  show its.toArray[↑its-1]? =u_ u;rwa[<-tX,<-hl]
 refine vQ F.slot_list_pop [_:e:1] F.entry_list_pop (F.args_list_pop_1 _) (Pe l its.toArray n u U (by rw[ur];omega)) [e:?_]
 exists y,_,I.lset (its':=its.dropLast) hH e ?_ r.dropLast ?_,ru,q
 .show its.toArray.eraseIdxIfInBounds (its.toArray.size-1)=its.dropLast.toArray;rw[ur,List.eraseIdxIfInBounds_toArray,CY]
 .rw[List.length_dropLast];omega
inductive Ae6 (x:V)(y:V)(H:Hp)(Q:VK):Prop
 |mk (l:_)(b:_)(xs:_)(zs:_)(_:x=-l)(_:y=-b)(_:H l=u_ (.lst xs))(_:H b=u_ (.lst zs))(_:↑xs+↑zs<=Vk)(_:∀p,H p=U_->Q (-p) (upd H p (.lst (xs++zs))))
def BE:OpR X (VJ .Add) Ae6:=by
 exists 2,x,y,v,u,Q,I,U,ry,h;erw[h,l,b,xs,zs,rfl,rfl,hH,hB,hz,q];cases U;cases ry;erw[I.lstM hH,z,its,n,r,hl,e];erw[I.lstM hB,z2,O,n2,r2,aa,e2];refine PySem.P.add_list e e2 ?_ (by rw[ur,ur];omega)
 have ea:its.toArray++O.toArray=(its++O).toArray:=by simp
 rw[ea];exact⟨.ref _,_,I.lnew (t':=s.toks) (r.append r2) (by rw[uI];omega),1,q _ I.fresh⟩
end
section
variable {prog:o9}{w:og}{A:oh}{E:o6->o7->Prop}{s:o7}
set_option maxRecDepth 100000 in
end
section
variable {κ:Type}[DecidableEq κ]
abbrev iS (kvs:oj (κ×V))(k:κ):om V:=(kvs.find? λkv=>decide (kv.1=k)).map (·.2)
abbrev lR (kvs:oj (κ×V))(k:κ)(v:V):oj (κ×V):=
 if(kvs.any λkv=>decide (kv.1=k))=v_ then kvs.map (λkv=>if kv.1=k then(kv.1,v) else kv) else kvs++ [(k,v)]
abbrev JF (kvs:oj (κ×V))(k:κ):oj (κ×V):=kvs.filter λkv=>decide (kv.1≠k)
def qar {k:κ}:iS ([]:oj (κ×V)) k=none:=rfl
def QY {p:κ×V}{r:oj (κ×V)}{k:κ}(e:p.1=k):iS (p::r) k=u_ p.2:=by simp[iS,v9,e]
def QL {p:κ×V}{r:oj (κ×V)}{k:κ}(e:¬p.1=k):iS (p::r) k=iS r k:=by simp[iS,v9,e]
def xb (k:κ):∀kvs:oj (κ×V),(kvs.any λkv=>decide (kv.1=k))=(iS kvs k).isSome
 | []=>rfl
 |p::r=>by
  rw[UB];by_cases e:p.1=k
  .simp![QY e,ud e,Bool.true_or,re]
  .rw[QL e,ug e,TH];exact xb k r
def AZ (k j:κ)(y:V):∀kvs:oj (κ×V),iS (kvs.map λkv=>if kv.1=k then(kv.1,y) else kv) j=(iS kvs j).map λx=>if j=k then y else x
 | []=>rfl
 |p::r=>by
  have O:=AZ k j y r;rw[uA];by_cases h:p.1=k
  .rw[A6 h];by_cases e:p.1=j
   .rw[QY (p:=(p.1,y)) e,QY e,tM,A6 (e.symm.trans h)]
   .rw[QL (p:=(p.1,y)) e,QL e,O]
  .rw[A4 h];by_cases e:p.1=j
   .rw[QY (p:=p) e,QY e,tM,A4 (λz=>h (e.trans z))]
   .rw[QL (p:=p) e,QL e,O]
def nR (k j:κ)(y:V):∀kvs:oj (κ×V),iS kvs k=U_->iS (kvs++ [(k,y)]) j=if j=k then u_ y else iS kvs j
 | [],_=>by
  by_cases e:k=j
  .rw[A6 e.symm];exact QY (p:=(k,y)) e
  .rw[A4 (λz=>e z.symm)];exact QL (p:=(k,y)) e
 |p::r,hn=>by
  rw[U0];have O:¬p.1=k:=λz=>by rw[QY z] at hn;cases hn
  rw[QL O] at hn;have U:=nR k j y r hn;by_cases e:p.1=j
  .rw[QY e,QY e,A4 (λz=>O (e.trans z))]
  .rw[QL e,QL e,U]
def X4 (kvs:oj (κ×V))(k j:κ)(y:V):iS (lR kvs k y) j=if j=k then u_ y else iS kvs j:=by
 unfold lR;by_cases a:(kvs.any λkv=>decide (kv.1=k))=v_
 .rw[A6 a,AZ];rw[xb] at a;by_cases e:j=k
  .erw[Option.isSome_iff_exists.mp a,x,O];rw[A6 e,e,O,tM,A6 rfl]
  .rw[A4 e];cases iS kvs j with
   |none=>rfl
   |some x=>rw[tM,A4 e]
 .rw[A4 a];refine nR k j y kvs ?_;rw[xb] at a;cases q:iS kvs k with
  |none=>rfl
  |some x=>rw[q] at a;exact(a rfl).elim
def yu (kvs:oj (κ×V))(k:κ)(v:V):↑(lR kvs k v)<=↑kvs+1:=by
 unfold lR;split
 .rw[u9];omega
 .rw[uI,ui,tP];omega
variable {kvs:oj (κ×V)}
def Kz {k:κ}(v:V)(h:iS kvs k=U_):lR kvs k v=kvs++ [(k,v)]:=by
 unfold lR;rw[xb,h];exact A4 ()
def nu.isSome_eq {o:om V}{u:om o6}(r:nu o u):o.isSome=u.isSome:=by
 cases o with
 |none=>cases u with
  |none=>rfl
  |some _=>exact(show False from r).elim
 |some _=>cases u with
  |none=>exact(show False from r).elim
  |some _=>rfl
def nu.getD {o:om V}{u:om o6}{d:V}{d':o6}(r:nu o u)(rd:ik d d'):ik (o.getD d) (u.getD d'):=by
 cases o with
 |none=>cases u with
  |none=>exact rd
  |some _=>exact(show False from r).elim
 |some _=>cases u with
  |none=>exact(show False from r).elim
  |some _=>exact r
variable {vs:oj (κ×o6)}
def KV.val (r:KV kvs vs)(k:κ):nu (iS kvs k) (VU vs k):=by
 unfold KV at r
 induction r with
 |nil=>exact VN
 | @cons p q ps qs h t ih=>
  erw[h,h1,h2];by_cases e:p.1=k
  .have O:q.1=k:=h1.symm.trans e;have b:VU (q::qs) k=u_ q.2:=by simp[VU,v9,O]
   rwa[QY e,b]
  .have O:¬q.1=k:=λz=>e (h1.trans z);have b:VU (q::qs) k=VU qs k:=by simp[VU,v9,O]
   rw[QL e,b];exact ih
def KV.any (r:KV kvs vs)(k:κ):(kvs.any λkv=>decide (kv.1=k))=vs.any λkv=>decide (kv.1=k):=by
 unfold KV at r
 induction r with
 |nil=>rfl
 |cons h t O=>rw[UB,UB,O,h.1]
variable {y:V}{u:o6}
def KV.repl (r:KV kvs vs)(k:κ)(O:ik y u):
  KV (kvs.map λkv=>if kv.1=k then(kv.1,y) else kv) (vs.map λkv=>if kv.1=k then(kv.1,u) else kv):=by
 unfold KV at r⊢
 induction r with
 |nil=>exact .nil
 | @cons p q ps qs h t ih=>
  rw[uA,uA];refine .cons ?_ ih;erw[h,h1,h2];by_cases e:p.1=k
  .rw[A6 e,A6 (h1.symm.trans e)];exact[h1:O]
  .rw[A4 e,A4 (λz=>e (h1.trans z))];exact[h1:h2]
def KV.put (r:KV kvs vs)(k:κ)(O:ik y u):KV (lR kvs k y) (GM vs k u):=by
 unfold lR GM;rw[r.any k];by_cases e:(vs.any λkv=>decide (kv.1=k))=v_
 .rw[A6 e,A6 e];exact r.repl k O
 .rw[A4 e,A4 e];exact Paired.snoc r [1:O]
def KV.drop (r:KV kvs vs)(k:κ):KV (JF kvs k) (without vs k):=by
 unfold KV at r⊢;unfold JF without
 induction r with
 |nil=>exact .nil
 | @cons p q ps qs h t ih=>
  erw[h,h1,h2];rw[vR,vR];by_cases e:p.1=k
  .have a:¬decide (p.1≠k)=true:=by simp[e]
   have b:¬decide (q.1≠k)=true:=by simp[h1.symm.trans e]
   rw[A4 a,A4 b];exact ih
  .have O:¬q.1=k:=λz=>e (h1.trans z);have a:decide (p.1≠k)=true:=by simp[e]
   have b:decide (q.1≠k)=true:=by simp[O]
   rw[A6 a,A6 b];exact .cons [h1:h2] ih
def KV.keys (r:KV kvs vs):kvs.map (·.1)=vs.map (·.1):=by
 unfold KV at r
 induction r with
 |nil=>rfl
 |cons h t O=>rw[uA,uA,O,h.1]
def KV.length (r:KV kvs vs):↑kvs=↑vs:=Paired.length r
def Ca (kvs:oj (κ×V))(k:κ):↑(JF kvs k)<=↑kvs:=tT _ _
end
variable {w:og}{u:o6}
def so {P:o9}{k:Key}(r:ik (kV k) u):(Qm P w).is k u=true:=by
 cases k with
 |inl i=>obtain⟨t,e⟩:=(show∃t,u=GD i t from r);subst e;exact Ar P w i t
 |inr x=>obtain⟨t,e⟩:=(show∃t,u=VH x t from r);subst e;exact wC P w x t
def sr {P:o9}{w:og}:∀{ks:oj Key}{us:oj o6},iw (ks.map kV) us->ItemsAre (Qm P w) ks us
 | [],_,r=>by rw[Ui] at r;cases r;exact .nil
 |k::ks,_,r=>by
  rw[uA] at r;cases r with
  |cons h t=>exact .cons (so h) (sr t)
nonrec abbrev KT (H:Hp):oj (oj Key×V)->oj (oj Key×o3×o6)->Prop:=Paired λp q=>p.1=q.1/\H q.2.1=u_ (.tup (p.1.map kV))/\ik p.2 q.2.2
variable {H:Hp}
def KT.val {kvs:oj (oj Key×V)}{xs:oj (oj Key×o3×o6)}(r:KT H kvs xs)(k:oj Key):nu (iS kvs k) ((Gm xs k).map (·.2)):=by
 induction r with
 |nil=>exact VN
 | @cons p q ps qs h t ih=>
  erw[h,h1,_,h2];by_cases e:p.1=k
  .have O:q.1=k:=h1.symm.trans e;have b:Gm (q::qs) k=u_ q.2:=by simp[Gm,v9,O]
   rwa[QY e,b]
  .have O:¬q.1=k:=λz=>e (h1.trans z);have b:Gm (q::qs) k=Gm qs k:=by simp[Gm,v9,O]
   rw[QL e,b];exact ih
variable {y:V}
def KT.repl {kvs:oj (oj Key×V)}{xs:oj (oj Key×o3×o6)}(r:KT H kvs xs)(k:oj Key)(O:ik y u):
  KT H (kvs.map λkv=>if kv.1=k then(kv.1,y) else kv) (xs.map (putAt k u)):=by
 induction r with
 |nil=>exact .nil
 | @cons p q ps qs h t ih=>
  rw[uA,uA];refine .cons ?_ ih;erw[h,h1,h2,h3];unfold putAt;by_cases e:p.1=k
  .rw[A6 e,A6 (h1.symm.trans e)];exact[h1:h2:O]
  .rw[A4 e,A4 (λz=>e (h1.trans z))];exact[h1:h2:h3]
variable {b:o3}
def KT.put {kvs:oj (oj Key×V)}{xs:oj (oj Key×o3×o6)}(r:KT H kvs xs)(k:oj Key)(U:H b=u_ (.tup (k.map kV)))(O:ik y u):
  KT H (lR kvs k y) (storedH xs k b u):=by
 have e:(kvs.any λkv=>decide (kv.1=k))=(Gm xs k).isSome:=by
  rw[xb,(r.val k).isSome_eq,Tu]
 unfold lR storedH;rw[e];by_cases q:(Gm xs k).isSome=v_
 .rw[A6 q,A6 q];exact r.repl k O
 .rw[A4 q,A4 q];exact Paired.snoc r [1:U:O]
variable {H':Hp}
def KT.keeps {kvs:oj (oj Key×V)}{xs:oj (oj Key×o3×o6)}(r:KT H kvs xs)(O:∀b ys,H b=u_ (¬ys)->H' b=u_ (¬ys)):KT H' kvs xs:=
 Paired.mapP r λ_ _ z=>[z.1:O _ _ z.2.1:z.2.2]
section
variable {P:o9}{w:og}{H:Hp}{h:o8}{a:o3}
def Abk {u:HO}(ok:HOk P w H h)(e:Rd H a u):ye P w H h a u:=e.ok ok
def qan {kvs:oj (Key×V)}(ok:HOk P w H h)(e:Rd H a (.dK kvs)):↑kvs<=Vk/\(a==VC)=Vg/\∃vs,KV kvs vs/\h.DictOf (Qm P w) a vs:=
 show ye P w H h a (.dK kvs) from Abk ok e
def Mz {kvs:oj (Key×V)}(ok:HOk P w H h)(e:H a=u_ (.dK kvs)):↑kvs<=Vk/\(a==VC)=Vg/\∃vs,KV kvs vs/\h.DictOf (Qm P w) a vs:=qan ok (.inl e)
def Kb {ks:oj Key}(ok:HOk P w H h)(e:H a=u_ (.tup (ks.map kV))):(h_ (Qm P w)).is h ks a:=by
 obtain⟨_,its,r,o,h1,h2,n,h3⟩:=(show ye P w H h a (.tup (ks.map kV)) from ok a _ e)
 exact⟨o,its.toArray,n,h1,h2,h3,by simpa using sr r⟩
def AI {kvs:oj (oj Key×V)}(ok:HOk P w H h)(e:Rd H a (.dT kvs)):↑kvs<=Vk/\(a==VC)=Vg/\
  ∃xs,KT H kvs xs/\h.DictOfH (h_ (Qm P w)) a xs:=by
 obtain⟨z,y,xs,r,o,es,ep,h1,h2,h3,h4,h5⟩:=(show ye P w H h a (.dT kvs) from Abk ok e)
 exists z,y,xs,r,o,es,ep,h1,h2,h3,h4,λx O=>?_,h5;have all:∀{l:oj (oj Key×V)}{m:oj (oj Key×o3×o6)},KT H l m->∀x>m,(h_ (Qm P w)).is h x.1 x.2.1:=by
  intro l m q
  induction q with
  |nil=>intro x O;exact nomatch O
  | @cons p q ps qs hq t ih=>
   intro x O;rcases Aa.mp O with e|O
   .subst e;exact Kb ok (by rw[<-hq.1];exact hq.2.1)
   .exact ih x O
 exact all r x O
def AdX {kvs:oj (oj Key×V)}(ok:HOk P w H h)(e:H a=u_ (.dT kvs)):↑kvs<=Vk/\(a==VC)=Vg/\
  ∃xs,KT H kvs xs/\h.DictOfH (h_ (Qm P w)) a xs:=AI ok (.inl e)
end
abbrev mQ (H:Hp)(a:o3)(y:V)(r:om V):Prop:=
 (∃kvs k,Rd H a (.dK kvs)/\y=kV k/\r=iS kvs k)\/∃kvs k b,Rd H a (.dT kvs)/\y= .ref b/\H b=u_ (.tup (k.map kV))/\r=iS kvs k
abbrev IN (H:Hp)(a:o3)(y v:V)(H':Hp):Prop:=
 (∃kvs k,H a=u_ (.dK kvs)/\y=kV k/\↑kvs<Vk/\H'=upd H a (.dK (lR kvs k v)))\/
 ∃kvs k b,H a=u_ (.dT kvs)/\y= .ref b/\H b=u_ (.tup (k.map kV))/\↑kvs<Vk/\H'=upd H a (.dT (lR kvs k v))
def mQ.k {H:Hp}{a:o3}{kvs:oj (Key×V)}{k:Key}(e:H a=u_ (.dK kvs)):mQ H a (kV k) (iS kvs k):= .inl ⟨kvs,k,.inl e,1,1⟩
def IN.k {H:Hp}{a:o3}{kvs:oj (Key×V)}{k:Key}{v:V}(e:H a=u_ (.dK kvs))(O:↑kvs<Vk):IN H a (kV k) v (upd H a (.dK (lR kvs k v))):= .inl ⟨kvs,k,e,1,O,1⟩
section
variable {X:Cx}{oq:oj (o3×Obj)}{σ:St}{H:Hp}{s:o7}{a:o3}{y v:V}{u r:o6}{o:om V}{A:oh}{E:o6->o7->Prop}
def Inv.big (I:#[I]):VC<#[0,s]:=by
 have h:VD<#[0,s]:=(I.mod.glob.keeps I.bk).lt;exact HK () h
def Iv {Q:o6->o7->Prop}(hu:A.units+1<Vr)(I:#[I])(g:mQ H a y (u_ v))(ry:ik y u)(h:∀U s',Inv X oq σ H s'->ik v U->Q U s'):
  Vh #[X,X] A (VV (-a) u) Q E s:=by
 rcases g with⟨kvs,k,e,ey,l⟩|⟨kvs,k,b,e,ey,eb,l⟩
 .subst ey;erw[qan I.hok e,z,hd,vs,rel,dd];obtain⟨U,hw,O⟩:=nu.some_of (v:=v) (o:=VU vs k) (by rw[l];exact rel.val k)
  exact pA (so ry) dd.mapOf hw (h U _ (I.tok _) O)
 .subst ey;cases(show u=Vm b from ry)
  erw[AI I.hok e,z,hd,xs,rel,dd];obtain⟨U,hw,O⟩:=nu.some_of (v:=v) (o:=(Gm xs k).map (·.2)) (by rw[l];exact rel.val k)
  erw[Option.map_eq_some_iff.mp hw,p,hp,aa];refine wpAny_getItem_heap (Uu hu) (Kb I.hok eb) dd hp ?_;rw[aa];exact h U _ (I.tok _) O
def Aff {Q:o6->o7->Prop}(hu:A.units+1<Vr)(I:#[I])(g:mQ H a y o)(U:ik y u)(h:∀s',Inv X oq σ H s'->Q (.bool o.isSome) s'):
  Vh #[X,X] A (Vs .In u (-a)) Q E s:=by
 rcases g with⟨kvs,k,e,O,l⟩|⟨kvs,k,b,e,O,eb,l⟩
 .subst O;erw[qan I.hok e,z,hd,vs,rel,dd];refine FO (so U) hd dd.mapOf ?_;rw[<-(rel.val k).isSome_eq,<-l];exact h _ (I.tok _)
 .subst O;cases(show u=Vm b from U)
  erw[AI I.hok e,z,hd,xs,rel,dd];refine wpAny_in_heap (Uu hu) (Kb I.hok eb) hd dd ?_;have q:=(rel.val k).isSome_eq;rw[Tu] at q;rw[<-q,<-l];exact h _ (I.tok _)
def S6 {Q:o6->o7->Prop}(hu:A.units+1<Vr)(I:#[I])(g:mQ H a y o)(U:ik y u)(h:∀s',Inv X oq σ H s'->Q (.bool (!(o.isSome))) s'):
  Vh #[X,X] A (Vs .NotIn u (-a)) Q E s:=by
 rcases g with⟨kvs,k,e,O,l⟩|⟨kvs,k,b,e,O,eb,l⟩
 .subst O;erw[qan I.hok e,z,hd,vs,rel,dd];refine RM (so U) hd dd.mapOf ?_;rw[<-(rel.val k).isSome_eq,<-l];exact h _ (I.tok _)
 .subst O;cases(show u=Vm b from U)
  erw[AI I.hok e,z,hd,xs,rel,dd];refine wpAny_notIn_heap (Uu hu) (Kb I.hok eb) hd dd ?_;have q:=(rel.val k).isSome_eq;rw[Tu] at q;rw[<-q,<-l];exact h _ (I.tok _)
variable {h':o8}{t':Nat}
def qac {ob:HO}(I:#[I])(mu:Mut (H a))(O:VS a s.heap h')(U:∃q,h'.get? a=u_ q)(new:ye X.prog X.w (upd H a ob) h' a ob)(ht:0<t':=by ac_rfl):
  Inv X oq σ (upd H a ob) {s with heap:=h',toks:=t'}:=
 I.write (x:=a) (e:=a) mu (.inl rfl) (λb q hb z=>(O.2 b hb).trans z) U new
def sK {P:o9}{kvs:oj (Key×V)}{vs:oj (Key×o6)}(z:↑kvs<=Vk)(hd:(a==VC)=Vg)(rel:KV kvs vs)(dd:h'.DictOf (Qm P w) a vs):
  ye P w H' h' a (.dK kvs):=⟨z,hd,vs,rel,dd⟩
def Iu {Q:Unit->o7->Prop}(hu:A.units+1<Vr)(I:#[I])(g:IN H a y v H')(ry:ik y u)(rv:ik v r)(h:∀s',Inv X oq σ H' s'->Q G7 s'):
  Vh #[X,X] A (Tc (-a) u r) Q E s:=by
 rcases g with⟨kvs,k,e,ey,l,eH⟩|⟨kvs,k,b,e,ey,eb,l,eH⟩
 .subst ey eH;erw[Mz I.hok e,z,hd,vs,rel,dd];have hz:↑vs<=sizeLine:=by rwa[<-↑rel]
  have hl:↑(lR kvs k v)<=sizeLine:=by have:=yu kvs k v;omega
  refine wpAny_setItem_pairs (hsz:=hz) (so ry) dd λh' O hs=>h _ ?_;have he:∃q,h'.get? a=u_ q:=let⟨q,_,_,U,_⟩:=O;[q:U];exact qac I (by rw[e];exact VN) hs he (sK hl hd (rel.put k rv) O)
 .subst ey eH;cases(show u=Vm b from ry)
  erw[AdX I.hok e,z,hd,xs,rel,dd];have hz:↑xs<=sizeLine:=by rwa[<-Paired.length rel]
  have hl:↑(lR kvs k v)<=sizeLine:=by have:=yu kvs k v;omega
  refine wpAny_setItem_heap (hsz:=hz) (Uu hu) (Kb I.hok eb) dd λh' O hs=>h _ ?_;erw[O,q,es,ep,U,h2,h3,h4,_,h5];refine qac I (by rw[e];exact VN) hs [q:U] ⟨hl,hd,_,(rel.put k eb rv).keeps λc ys ec=>?_,q,es,ep,U,h2,h3,h4,h5⟩
  rw[qj (AdB ec e (λz=>nomatch z))];exact ec
end
section
variable {X:Cx}{oq:oj (o3×Obj)}{σ:St}{H:Hp}{s:o7}{a:o3}{kvs:oj (Key×V)}{k:Key}{u:o6}{A:oh}{E:o6->o7->Prop}
def AdY {v:V}{more:oj o6}{Q:o6->o7->Prop}(I:#[I])(e:H a=u_ (.dK kvs))(ry:ik (kV k) u)(l:iS kvs k=u_ v)(hm:more= []\/∃x,more= [x])
  (h:∀O s',Inv X oq σ (upd H a (.dK (JF kvs k))) s'->ik v O->Q O s'):Vh #[X,X] A (call (.builtin "dict.pop") (.ref a::u::more)) Q E s:=by
 erw[Mz I.hok e,z,hd,vs,rel,dd];obtain⟨O,hw,aa⟩:=nu.some_of (v:=v) (o:=VU vs k) (by rw[<-l];exact rel.val k)
 have hp:(keyPart u).isSome=true:=by
  cases k with
  |inl i=>obtain⟨t,q⟩:=(show∃t,u=GD i t from ry);subst q;rfl
  |inr x=>obtain⟨t,q⟩:=(show∃t,u=VH x t from ry);subst q;rfl
 have ha:tJ "dict.pop" ⟨.ref a::u::more,[]⟩:=by
  rcases hm with q|⟨x,q⟩
  .subst q;exact PySem.F.args_dict_pop_2 _ _
  .subst q;exact PySem.F.args_dict_pop_3 _ _ _
 refine tD PySem.F.slot_dict_pop dd.typeIs PySem.F.entry_dict_pop ha (meets_dict_pop_there (Qm X.prog X.w) a (so ry) more hm hp)
  ⟨vs,O,dd,by rwa[<-↑rel],hw,λh' U hs=>h O _ ?_ aa⟩
 have he:∃q,h'.get? a=u_ q:=let⟨q,_,_,hq,_⟩:=U;[q:hq];exact qac I (by rw[e];exact VN) hs he (sK (uZ (Ca kvs k) z) hd (rel.drop k) U)
def AdZ {Q:o6->o7->Prop}(I:#[I])(e:Rd H a (.dK kvs))(h:∀t s',Inv X oq σ H s'->Q (.int ↑kvs t) s'):Vh #[X,X] A (call (.builtin "len") [-a]) Q E s:=by
 erw[qan I.hok e,z,hd,vs,rel,dd];refine call_len_dict hd dd (by rw[<-↑rel];rw[uB] at z;omega) ?_
 rw[<-↑rel];exact h _ _ (I.tok _)
end
abbrev AeG (i:Expr):Prop:=∀ov iv,Hq i Vg ov iv=HU [ov,iv] (VV ov iv)
def Oa {prog:o9}{w:og}{A:oh}{E:o6->o7->Prop}{s:o7}{env:Env}{value slice:Expr}{pos:Pos}{T id:String}{Q:o6->o7->Prop}
  (hl:HJ (.type T) "__getitem__"=pure (u_ (.builtin id))) (hs:AeG slice)
  (h:Vh #[w,w] A (eval value env) (λo s₁=>Vh #[w,w] A (eval slice env) (λi O=>O.TypeIs o T/\Vh #[w,w] A (VV o i) Q E O) E s₁) E s):
  Vh #[w,w] A (eval (.Subscript value slice pos) env) Q E s:=by
 refine HZ (vg h (λo s₁ h₁=>vg h₁ (λi O U=>?_) λ_ _ x=>x) λ_ _ x=>x);erw[U,hT,U];unfold HH;refine A7 ?_;rw[getitemInPython_of_ne hT.not_modules];refine A7 (wpAny_specialOf hT hl ?_);have fin:Vh #[w,w] A (Hq slice Vg o i) (λr s₃=>Vh #[w,w] A (letTemporaryGo value o r>>=λ_=>pure r) Q E s₃) E O:=by
  rw[hs o i];exact wpAny_operating (vg U (λr s₃ h₃=>A7 (wpAny_letTemporaryGo (uw h₃))) λ_ _ x=>x)
 first
  |exact uw (A7 fin)
  |exact A7 (uw (A7 fin))
  |exact A7 fin
variable {X:Cx}{oq:oj (o3×Obj)}{σ:St}{s:o7}{a:o3}
def AL {o:om V}(I:#[I])(g:mQ H a y o):s.TypeIs (-a) "dict":=by
 rcases g with⟨kvs,k,e,_,_⟩|⟨kvs,k,b,e,_,_,_⟩
 .erw[qan I.hok e,_,_,vs,_,dd];exact dd.typeIs
 .erw[AI I.hok e,_,_,xs,_,dd];exact dd.typeIs
inductive NR (Q:VK)(x:V)(y:V)(H2:Hp):Prop
 |mk (a:_)(v:_)(_:x=-a)(_:mQ H2 a y (u_ v))(_:Q v H2)
abbrev Adi (td ty:TE):TE:=λσ H Q=>td σ H λx H1=>ty σ H1 λy H2=>NR Q x y H2
inductive Ad9 (Q:VK)(y:V)(x:V)(H2:Hp):Prop
 |mk (a:_)(o:_)(_:x=-a)(_:mQ H2 a y o)(_:Q (.bl o.isSome) H2)
abbrev AeR (ty td:TE):TE:=λσ H Q=>ty σ H λy H1=>td σ H1 λx H2=>Ad9 Q y x H2
inductive MP (Q:VK)(y:V)(x:V)(H2:Hp):Prop
 |mk (a:_)(o:_)(_:x=-a)(_:mQ H2 a y o)(_:Q (.bl (!(o.isSome))) H2)
abbrev NZ (ty td:TE):TE:=λσ H Q=>ty σ H λy H1=>td σ H1 λx H2=>MP Q y x H2
inductive AcK (D:mF)(σ:St)(v:V)(x:V)(y:V)(H3:Hp):Prop
 |mk (a:_)(H4:_)(_:x=-a)(_:IN H3 a y v H4)(_:D.nx σ H4)
abbrev Adr (td ty tv:TE):TS:=λD σ H=>tv σ H λv H1=>td σ H1 λx H2=>ty σ H2 λy H3=>AcK D σ v x y H3
section
variable {X:Cx}{o i e value:Expr}{pos pos' tpos:Pos}{td ty tv:TE}
def QE (hu:X.A.units+1<Vr)(ho:PE X o td)(hi:PE X i ty)(hs:AeG i):PE X (.Subscript o i pos) (Adi td ty):=by
 exists 2,Q,I,h;refine Oa PySem.F.slot_dict_getitem.lookup hs (thn (ho oq s σ H _ I h) λu s1 ⟨x,H1,I1,rx,q1⟩=>thn (hi oq s1 σ H1 _ I1 q1) λiv s2 zq=>?_);erw[zq,y,H2,U,ry,a,v,ex,g,q2];subst ex;obtain rfl:u=Vm a:=rx;exact[AL U g:Iv hu U g ry λw' s3 I3 O=>⟨v,H2,I3,O,q2⟩]
def pc_din (O:X.A.units+1<Vr)(hi:PE X i ty)(U:PE X o td):PC X .In i o (AeR ty td):=by
 exists 2,Q,I,h;refine thn (hi oq s σ H _ I h) λiv s1 ⟨y,H1,I1,ry,q1⟩=>thn (U oq s1 σ H1 _ I1 q1) λu s2 zq=>?_;erw[zq,x,H2,I2,rx,a,ov,ex,g,q2];subst ex;obtain rfl:u=Vm a:=rx;exact Aff O I2 g ry λs3 I3=>⟨.bl ov.isSome,H2,I3,1,q2⟩
def oF (O:X.A.units+1<Vr)(hi:PE X i ty)(U:PE X o td):PC X .NotIn i o (NZ ty td):=by
 exists 2,Q,I,h;refine thn (hi oq s σ H _ I h) λiv s1 ⟨y,H1,I1,ry,q1⟩=>thn (U oq s1 σ H1 _ I1 q1) λu s2 zq=>?_;erw[zq,x,H2,I2,rx,a,ov,ex,g,q2];subst ex;obtain rfl:u=Vm a:=rx;exact S6 O I2 g ry λs3 I3=>⟨.bl (!(ov.isSome)),H2,I3,1,q2⟩
def Js (O:X.A.units+1<Vr)(U:PE X o td)(hi:PE X i ty)(hv:PE X value tv)(hs:GG value (u_ (.Subscript o i pos')) pos.line X.env=pure Vg):
  PS X (.Assign [.Subscript o i pos'] value pos) (Adr td ty tv):=by
 exists 2,D,I,h;refine wpAny_Assign_Subscript (thn (hv oq s σ H _ I h) λr s1 ⟨v,H1,I1,rv,q1⟩=>thn (U oq s1 σ H1 _ I1 q1) λu s2 ⟨x,H2,I2,rx,q2⟩=>thn (hi oq s2 σ H2 _ I2 q2) λiv s3 zq=>?_) hs;erw[zq,y,H3,I3,ry,a,H4,ex,g,q3];subst ex;obtain rfl:u=Vm a:=rx;exact Iu O I3 g ry rv λs4 I4=>⟨σ,H4,I4,q3⟩
end
def MA {P:o9}(h:o8)(O:VC<h.objs.size):ye P w H (h.push {cls:= .type "dict",data:= .dict #[]}) h.objs.size (.dK []):=
 ⟨uS _,beq_eq_false_iff_ne.mpr (vV (uP O)),[],.nil,Fz h⟩
abbrev AaT:TE:=λ_ H Q=>∀p,H p=U_->Q (-p) (upd H p (.dK []))
section
variable {X:Cx}{pos:Pos}
def J7:PE X (.Dict [] [] pos) AaT:=λoq s σ H Q I h=>
 wpAny_Dict_empty ⟨.ref #[0,s],_,I.laid (a:=#[0,s]) (o:= .dK []) (t':=s.toks) (λ_ _ q=>ub _ q) (uj _) (MA s.heap I.big),1,h _ (I.hok.fresh (uj _))⟩
end
structure M1 (X:Cx)(o:Expr)(m:Str)(apos:Pos)(e:Expr)(cpos:Pos):Prop where
 base:GN o m X.env (eval o X.env)=eval o X.env
 few:((Vt cpos (Vl [e] X.env)).all (λx=> !(x).1)&&(Gk cpos (Gi [] X.env)).all (λx=>x.1.isSome)
  &&decide (↑([e]:oj Expr)+↑([]:oj Gu)+(if([]:oj Gu).isEmpty then 0 else 1)<30))=v_
 line:(apos.endLine==cpos.line)=v_
 trees:Vt cpos (Vl [e] X.env)= [(Vg,eval e X.env)]
structure M2 (X:Cx)(o:Expr)(m:Str)(apos:Pos)(e f:Expr)(cpos:Pos):Prop where
 base:GN o m X.env (eval o X.env)=eval o X.env
 few:((Vt cpos (Vl [e,f] X.env)).all (λx=> !(x).1)&&(Gk cpos (Gi [] X.env)).all (λx=>x.1.isSome)
  &&decide (↑([e,f]:oj Expr)+↑([]:oj Gu)+(if([]:oj Gu).isEmpty then 0 else 1)<30))=v_
 line:(apos.endLine==cpos.line)=v_
 trees:Vt cpos (Vl [e,f] X.env)= [(Vg,eval e X.env),(Vg,eval f X.env)]
abbrev IsD (H:Hp)(a:o3):Prop:=(∃kvs,Rd H a (.dK kvs))\/∃kvs,Rd H a (.dT kvs)
def EQ (I:#[I])(d:IsD H a):
  s.TypeIs (-a) "dict"/\(∀b,Vm a= .ref b->∃ob,s.heap.get? b=u_ ob/\ob.dict=U_)/\(a==VC)=false:=by
 rcases d with⟨kvs,e⟩|⟨kvs,e⟩
 .erw[qan I.hok e,_,hd,vs,_,dd];exists dd.typeIs,λb q=>?_,hd;cases q;erw[dd,ob,_,_,h1,h2,_];exact[ob:h1:h2.2.1]
 .erw[AI I.hok e,_,hd,xs,_,dd];exists dd.typeIs,λb q=>?_,hd;cases q;erw[dd,ob,_,_,h1,h2,_];exact[ob:h1:h2.2.1]
section
variable {X:Cx}{oq:oj (o3×Obj)}{σ:St}{H:Hp}{s:o7}{a:o3}{y d:V}{u r:o6}{o:om V}{A:oh}{E:o6->o7->Prop}
def Acn {Q:o6->o7->Prop}(hu:A.units+1<Vr)(I:#[I])(g:mQ H a y o)(U:ik y u)(h:∀w' s',Inv X oq σ H s'->ik (o.getD .non) w'->Q w' s'):
  Vh #[X,X] A (call (.builtin "dict.get") [-a,u]) Q E s:=by
 rcases g with⟨kvs,k,e,O,l⟩|⟨kvs,k,b,e,O,eb,l⟩
 .subst O;erw[qan I.hok e,z,hd,vs,rel,dd];refine tD PySem.F.slot_dict_get dd.typeIs PySem.F.entry_dict_get (PySem.F.args_dict_get_2 _ _) (meets_dict_get (Qm X.prog X.w) a (so U) hd) [_:dd.mapOf:h _ _ (I.tok _) ?_];rw[l];exact(rel.val k).getD rfl
 .subst O;cases(show u=Vm b from U)
  erw[AI I.hok e,z,hd,xs,rel,dd];refine tD PySem.F.slot_dict_get dd.typeIs PySem.F.entry_dict_get (PySem.F.args_dict_get_2 _ _) (meetsH_dict_get (h_ (Qm X.prog X.w)) a b hd) ⟨Uu hu,k,xs,Kb I.hok eb,dd,h _ _ (I.tok _) ?_⟩;rw[l];exact(rel.val k).getD rfl
end
inductive Aam (ty:TE)(σ:St)(Q:VK)(x:V)(H1:Hp):Prop
 |mk (a:_)(_:x=-a)(_:IsD H1 a)(_:ty σ H1 λy H2=>∃o,mQ H2 a y o/\Q (o.getD .non) H2)
abbrev AaU (td ty:TE):TE:=λσ H Q=>td σ H λx H1=>Aam ty σ Q x H1
inductive Aal (ty:TE)(σ:St)(Q:VK)(x:V)(H1:Hp):Prop
 |mk (a:_)(_:x=-a)(_:IsD H1 a)(_:ty σ H1 λy H2=>∃kvs k v,H2 a=u_ (.dK kvs)/\y=kV k/\iS kvs k=u_ v/\Q v (upd H2 a (.dK (JF kvs k))))
abbrev AaS (td ty:TE):TE:=λσ H Q=>td σ H λx H1=>Aal ty σ Q x H1
section
variable {X:Cx}{o e f:Expr}{apos cpos:Pos}{td ty tx:TE}
def qah (hu:X.A.units+1<Vr)(ho:PE X o td)(he:PE X e ty)(m:M1 X o "get" apos e cpos):PE X (.Call (.Attribute o "get" apos) [e] [] cpos) (AaU td ty):=by
 exists 2,Q,I,h;refine Fg m.base m.few m.line UO PySem.F.slot_dict_get PySem.F.type_dict_get (thn (ho oq s σ H _ I h) λu s1 zq=>?_);erw[zq,x,H1,U,rx,a,ex,d,q1];subst ex;obtain rfl:u=Vm a:=rx;erw[EQ U d,t1,t2,_];exists t1,t2;rw[m.trees];refine vX rfl (Uc (Us (thn (he oq s1 σ H1 _ U q1) λiv s2 ⟨y,H2,I2,ry,ov,g,q2⟩=>UY ?_)));exact Acn hu I2 g ry λw' s3 I3 O=>⟨_,H2,I3,O,q2⟩
def LB (ho:PE X o td)(he:PE X e ty)(m:M1 X o "pop" apos e cpos):PE X (.Call (.Attribute o "pop" apos) [e] [] cpos) (AaS td ty):=by
 exists 2,Q,I,h;refine Fg m.base m.few m.line UO PySem.F.slot_dict_pop PySem.F.type_dict_pop (thn (ho oq s σ H _ I h) λu s1 zq=>?_);erw[zq,x,H1,U,rx,a,ex,d,q1];subst ex;obtain rfl:u=Vm a:=rx;erw[EQ U d,t1,t2,_];exists t1,t2;rw[m.trees];refine vX rfl (Uc (Us (thn (he oq s1 σ H1 _ U q1) λiv s2 ⟨y,H2,I2,ry,kvs,k,v,ea,ey,l,q2⟩=>UY ?_)));subst ey;exact AdY I2 ea ry l (.inl rfl) λw' s3 I3 O=>⟨v,_,I3,O,q2⟩
end
end L2
namespace Att
open PySem PySem.W PySem.Calls PyProof.Rows
variable {h:o8}
def WA {P:Hz}:∀(ns:oj Int) (vs:oj o6),WellAll P h vs (ns.map WData.int)->GJ vs ns:=by
 intro ns
 induction ns with
 |nil=>
  intro vs w;rw[Ui] at w;cases w;exact .nil
 |cons n ns O=>
  intro vs w;rw[uA] at w;cases w with
  |cons a b=>
   cases a;exact .cons _ _ (O _ b)
def DG {l:OpenLaw}{n:Nat}(hn:l.most=u_ n){P:Hz}{h:o8}{args:oj WData}{O:oj o6}
  (U:l.row.toRowW.claim.pre args=v_) (ad:WellAll P h O args):
  ∃a vs ns,O= [Vm a]/\args= [WData.list (ns.map WData.int)]/\h.get? a=u_ {cls:= .type "list",data:= .seq vs.toArray}/\GJ vs ns/\↑ns<=n:=by
 have ae:WShape.hasAll [] args [.list .int]=true:=(pre_splitW U).1;have hc:l.pre.holds [] {args:=args}=true:=(pre_splitW U).2;erw[hasAllW_cons ae,d,r,rfl,h1,h2];obtain rfl:=hasAllW_nil h2;erw[hasW_list h1,xs,rfl,h3];erw[items_int h3,ns,rfl];have aa:↑ns<=n:=by
  unfold OpenLaw.pre at hc;have h4:(WTm.not (.lt (.lit (.int (n:Int))) (.len (.arg 0)))).holds [] {args:= [.list (ns.map .int)]}=true:=by
   have h4:=(holds_andW hc).1;rwa[hn] at h4
  have h5:=condW_of h4 (w_not (w_lt w_lit (w_len_list (w_arg rfl))));rw[u9] at h5;refine Nat.le_of_not_lt λq=>?_;have q':(n:Int)<((↑ns:Nat):Int):=by omega
  first
   |(rw[ud q'] at h5;exact A8 h5 ())
   |(simp at h5;omega)
 cases ad with
 |cons w1 w2=>
  cases w2;cases w1 with
  |list ho ac=>exact⟨_,_,ns,1,1,ho,WA ns _ ac,aa⟩
def DV (l:OpenLaw)(args:oj WData):l.row.toRowW.claim.post args (.bool v_) args=true:=
 postW_of (r:=l.row.toRowW) (X:=(v_==v_))
  (show WShape.has [] (.bool v_) .bool=v_ by first|rfl|decide|simp[WShape.has,WShape.arms,WShape.armsAll])
  (show(WTm.eq .res (.lit (.bool v_))).value [] {args:=args,res:=u_ (.bool v_),after:=args}=u_ (.bool (v_==v_)) from w_eq_bool (w_res rfl) w_lit) rfl
def attach_call {l:OpenLaw}{n:Nat}{q:o9}{O:oj Str}{XP:(Str->om o6)->o8->Prop}{YP:og->o8->Prop}{d:DefRec}
  (hn:l.most=u_ n) (ae:d.params.defaults= [])
  (call:∀(w:og) (s₀ U:o7) (mg mb:Str->om o6) (fa:o3) (o:Obj) (pm cd doc:o6) (a:o3) (vs:oj o6) (ns:oj Int),
   Ground q O [] XP w s₀ mg mb U.heap->YP w U.heap->
   U.heap.get? fa=u_ o->o.data= .func (docDef d.name d.params d.body d.scope pm cd doc)->U.heap.CodeRec cd d.name->mg d.name=u_ (-fa)->
   U.heap.get? a=u_ {cls:= .type "list",data:= .seq vs.toArray}->GJ vs ns->↑ns<=n->U.gens= #[]->
   VM (Vu l.prog w) Gx (.call (-fa) [[-a]:[]]) (λr s'=>r= .ok (.ret (.bool v_))/\OldK U.heap s'.heap/\s'.os=U.os/\Ge s'.gens) U):
  WalkO q O XP YP l.row.toRowW d [] (λf vs=>PySem.call f vs):=by
 intro w s₀ U mg mb G Y fa o pm cd doc dV kV ho hd af hD ag hg args ah as hpre hlay hrd hwl hlo;obtain rfl:dV= .none:=Dflts.none hD ae;obtain rfl:kV= .none:=Dflts.noKw hD;erw[DG hn hpre hwl,a,vs,ns,rfl,rfl,ac,aa,ad];refine enter_call (Uh (call w s₀ U mg mb fa o pm cd doc a vs ns G Y ho (fd_plain hd) af ag ac aa ad hg) λr s' hq=>?_);erw[hq,rfl,h2,h3,h4];exact⟨.inl ⟨.bool v_,.bool v_,[],1,λ_=>rfl,.bool v_,DV l _,λ_=>[Rz:λ_ hm=>(nomatch hm)]⟩,h2,h3,h4⟩
end Att
namespace L2
open PySem PySem.Spec PyProof.Rows
def nQ:∀{vs:oj o6}{ns:oj Int},GJ vs ns->iw (ns.map V.int) vs
 |_,_,.nil=> .nil
 |_,_,.cons n t h=> .cons [t:1] (nQ h)
abbrev Ac1 (H:Hp):Prop:=∀b,H b=U_\/∃o xs,H b=u_ (.frz o (.lst xs))
def Mf {P:o9}{w:og}{K:o0}{mg mb:Str->om o6}{CX:CXT}{k:Nat}{fa a:o3}{fd:Vi}{x:Str}{sp:Sp}{O:o7}{vs:oj o6}{ns:oj Int}
  (KX:K.In O.heap) (ae:O.heap.Ns VD mg) (hb:O.heap.Ns Tn mb) (am:∀x:Str,x≠"__name__"->mb x=GX x) (af:O.heap.NoLimit) (hg:O.gens= #[])
  (ha:O.heap.get? a=u_ {cls:= .type "list",data:= .seq vs.toArray}) (hi:GJ vs ns) (hl:↑ns<=Vk) (hr:mj k Gx)
  (F:∀base:o8,K.In base->base.Ns VD mg->FnOk P w K mg base CX k fa fd [x] sp) (ad:∀(s:o7) (u:o6),GZ s fd [[u]:[]] [(x,u)])
  (ag:fd.scope.names.lookup x=u_ .local) (ao:∀H:Hp,Ac1 H->SqL K H a (ns.map V.int)->sp [-a] H (λv _=>v= .bl v_) λ_ _ _=>False)
  (ap:∀H e s',CX [] H O (λ_ _ _=>False) e s'->False):
  VM (Vu P w) Gx (.call (-fa) [[-a]:[]]) (λr s'=>r= .ok (.ret (.bool v_))/\OldK O.heap s'.heap/\s'.os=O.os/\Ge s'.gens) O:=by
 have rv:=nQ hi;have ah:=↑hi;have ac:∀H:Hp,Ac1 H->SqL K H a (ns.map V.int)->HOk P w H O.heap->(∀b,H b≠U_->b=a)->(H a≠U_->K.lookup a=U_)->
   VM (Vu P w) Gx (.call (-fa) [[-a]:[]]) (λr s'=>r= .ok (.ret (.bool v_))/\OldK O.heap s'.heap/\s'.os=O.os/\Ge s'.gens) O:=by
  intro H hO hS hok hA hK;have U:∀{b:o3}{o:Obj},O.heap.get? b=u_ o->H b=U_->(Mo O.heap H).get? b=u_ o:=λe n=>Mn e n;have aq:∀{b:o3}{o:Obj}{es:Array hZ}{ep:Nat},O.heap.get? b=u_ o->o.data= .dict es ep->H b=none:=λ{b o es ep} e d=>by
   cases q:H b with
   |none=>rfl
   |some u=>
    have e':b=a:=hA b (by rw[q];simp)
    subst e';rw[ha] at e;cases e;have d':Data.seq vs.toArray _=Data.dict es ep:=d;cases d'
  have aa:∀{b:o3}{m:Str->om o6},O.heap.Ns b m->(Mo O.heap H).Ns b m:=λ{b m} ⟨o,es,ep,e,d,r⟩=>⟨o,es,ep,U e (aq e d),d,r⟩;have ak:K.In (Mo O.heap H):=λb o e=>U (KX b o e) (by
   cases q:H b with
   |none=>rfl
   |some u=>
    have e':b=a:=hA b (by rw[q];simp)
    subst e';rw[hK (by rw[q];simp)] at e;cases e)
  have hM:Mod K mg (Mo O.heap H):=⟨ak,aa ae,[mb:aa hb:am],let⟨mc,h1,h2⟩:=af;[mc:aa h1:h2]⟩;have e0:Aas P w K mg (Mo O.heap H) Gx [] O H:=⟨1,hM,λb o e=>Sm e,R6 (EU _ _),trivial,λb hb=>A8 (show b>([]:oj o3) from hb) (by simp),hok,.of_eq hg⟩
  refine Uh ((F _ ak (aa ae)).run Gx [] O H [[-a]:[]] [-a] [-a] _ _ hr e0 (ad O (-a)) (.cons rfl .nil) (ao H hO hS) (.inr [_:0:ag])) λr s' h=>?_;cases r with
  |error e=>exact(ap H e s' h).elim
  |ok fl=>
   cases fl with
   |next=>exact Vw h
   |brk=>exact Vw h
   |cont=>exact Vw h
   |ret u=>
    erw[h,v,H',os,bare,htk,un,al,r',q];have q':v= .bl true:=q;subst q';obtain rfl:u=GS true:=r';exists 1,OldK.of_keep λb o e=>?_,os,bare;cases q:H b with
    |none=>exact un.keep b o e q (by intro z;exact A8 (show b>([]:oj o3) from z) (by simp)) (by simp)
    |some u=>
     rcases hO b with z|⟨ob,xs,z⟩
     .rw[q] at z;cases z
     .have z2:=un.frzs b ob _ z;erw[hok b _ z,e1,_];erw[al b _ z2,e2,_];rw[e] at e1;cases e1;exact e2
 cases hk:K.lookup a with
 |some o=>
  have e:=KX a o hk;rw[ha] at e;cases e;refine ac (λ_=>U_) (λ_=> .inl rfl) (.inr ⟨_,vs.toArray,_,hk,1,1,1,by rwa[ur,ah],by simpa using rv⟩) (λb u z=>by have z':(U_:om HO)=u_ u:=z;cases z') (λb z=>A8 rfl z) λz=>A8 rfl z
 |none=>
  refine ac (λb=>if b=a then u_ (.frz {cls:= .type "list",data:= .seq vs.toArray} (.lst (ns.map V.int))) else U_) (λb=>?_) (.inl (.inr [{cls:= .type "list",data:= .seq vs.toArray}:A6 rfl])) (λb u z=>?_) (λb z=>?_) λ_=>hk
  .by_cases hb:b=a
   .exact .inr [_:_:A6 hb]
   .exact .inl (A4 hb)
  .by_cases hb:b=a
   .have z':=(A6 hb).symm.trans z;cases z';subst hb;exact⟨ha,by rwa[u9],vs,_,rv,ha⟩
   .have z':=(A4 hb).symm.trans z;cases z'
  .by_cases hb:b=a
   .exact hb
   .exact A8 (A4 hb) z
nonrec abbrev KOf {K:o0}{h:o8}(_:K.In h):o0:=K
def NU {l:PySem.W.OpenLaw}{n k:Nat}{q:o9}{U:oj Str}{XP:(Str->om o6)->o8->Prop}{YP:og->o8->Prop}{d:DefRec}{K:Hz->o0}{CX:og->CXT}{sp:og->Sp}{x:Str}
  (hn:l.most=u_ n) (ae:n<=Vk) (af:d.params.defaults= []) (hr:mj k Gx)
  (hY:∀(w:og) (h:o8),YP w h->(K w.params).In h)
  (F:∀(w:og) (mg:Str->om o6) (fa:o3) (h:o8),(K w.params).In h->h.Ns VD mg->mg d.name=u_ (-fa)->
   ∃fd:Vi,(∀(s:o7) (u:o6),GZ s fd [[u]:[]] [(x,u)])/\fd.scope.names.lookup x=u_ .local/\
    ∀base:o8,(K w.params).In base->base.Ns VD mg->FnOk l.prog w (K w.params) mg base (CX w) k fa fd [x] (sp w))
  (ag:∀(w:og) (H:Hp) (a:o3) (ns:oj Int),↑ns<=n->Ac1 H->SqL (K w.params) H a (ns.map V.int)->sp w [-a] H (λv _=>v= .bl v_) λ_ _ _=>False)
  (ah:∀(w:og) (H:Hp) (s:o7) (e:o6) (s':o7),CX w [] H s (λ_ _ _=>False) e s'->False):
  PySem.W.WalkO q U XP YP l.row.toRowW d [] (λf vs=>PySem.call f vs):=by
 refine Att.attach_call hn af λw s₀ s₁ mg mb fa o pm cd doc a vs ns G Y ho hd al ak ac aa O hg=>?_;have KX:=hY w _ Y;erw[F w mg fa _ KX G.T.g ak,fd,hb,ad,hF];exact Mf KX G.T.g G.T.b G.T.builtins G.T.nolimit hg ac aa (uZ O ae) hr hF hb ad (λH hO hS=>ag w H a ns O hO hS) λH e s'=>ah w H s₁ e s'
def IS {l:PySem.W.OpenLaw}{n k:Nat}{q:o9}{O:oj Str}{XP:(Str->om o6)->o8->Prop}{YP:og->o8->Prop}{d:DefRec}{K:Hz->o0}{CX:CXT}{sp:o0->Sp}{x:Str}
  (hn:l.most=u_ n) (U:n<=Vk) (aa:d.params.defaults= []) (hr:mj k Gx)
  (hY:∀(w:og) (h:o8),YP w h->(K w.params).In h)
  (F:∀(w:og) (mg:Str->om o6) (fa:o3) (h:o8),(K w.params).In h->h.Ns VD mg->mg d.name=u_ (-fa)->
   ∃fd:Vi,(∀(s:o7) (u:o6),GZ s fd [[u]:[]] [(x,u)])/\fd.scope.names.lookup x=u_ .local/\
    ∀base:o8,(K w.params).In base->base.Ns VD mg->FnOk l.prog w (K w.params) mg base CX k fa fd [x] (sp (K w.params)))
  (ac:∀(K:o0) (H:Hp) (a:o3) (ns:oj Int),↑ns<=n->Ac1 H->SqL K H a (ns.map V.int)->sp K [-a] H (λv _=>v= .bl v_) λ_ _ _=>False)
  (ad:∀(H:Hp) (s:o7) (e:o6) (s':o7),CX [] H s (λ_ _ _=>False) e s'->False):
  PySem.W.WalkO q O XP YP l.row.toRowW d [] (λf vs=>PySem.call f vs):=
 NU (K:=K) (CX:=λ_=>CX) (sp:=λw=>sp (K w.params)) hn U aa hr hY F (λw H a ns h1 h2 h3=>ac (K w.params) H a ns h1 h2 h3) λ_ H s e s'=>ad H s e s'
abbrev Qk (s:Stmt)(j:Nat):Stmt:=match s with
 | .ClassDef _ _ _ body _ _ _ _ _ _ _=>body.getD j (.Pass ⟨(0),(0),(0),(0)⟩)
 |_=> .Pass ⟨(0),(0),(0),(0)⟩
abbrev YT (s:Stmt):Arguments:=match s with
 | .FunctionDef _ a _ _ _ _ _ _ _ _=>a
 |_=>{posonlyargs:= [],args:= [],vararg:=U_,kwonlyargs:= [],kw_defaults:= [],kwarg:=U_,defaults:= []}
abbrev yZ (s:Stmt):oj Stmt:=match s with
 | .FunctionDef _ _ b _ _ _ _ _ _ _=>b
 |_=> []
abbrev qh (s:Stmt):Scope:=match s with
 | .FunctionDef _ _ _ _ _ _ sc _ _ _=>sc
 |_=>{kind:= .function,names:= [],isGenerator:=Vg,isCoroutine:=Vg}
nonrec abbrev CX0:CXT:=λ_ _ _ _ _ _=>False
nonrec abbrev E0:XK:=λ_ _ _=>False
variable {X:Cx}
def qy:XV CX0 X E0:=λ_ _ _ _ _ _ _ h=>h.elim
structure Fun (K:o0)(x qual:Str)(st:Stmt)(f:o3)(fd:Vi):Prop where
 ex:∃(oc:o6) (od:om o3) (kV doc pm:o6) (an:om o3) (cdv ct:o6) (osl:Array (om o6)),
  fd=PySem.W.fnOf x qual (YT st) (yZ st) (qh st) .none kV doc pm an cdv ct/\K.lookup f=u_ ⟨oc,od,.func fd,osl⟩/\PySem.W.codeIn K cdv qual=v_
 kp:PySem.W.keepIn K (-f)=v_
section
variable {P:o9}{w:og}{K:o0}{mg:Str->om o6}{base:o8}
def Fun.ok {x qual:Str}{st:Stmt}{f:o3}{fd:Vi}{N ps:oj Str}{k:Nat}{sp:Sp}(F:Fun K x qual st f fd)(S:qv N ps (qh st))(len:∀vs H Q E,sp vs H Q E->↑vs=↑ps)
  (O:∀(cdv:o6) (A:oh) (outer:oj Env) (s:o7) (H:Hp) (vs:oj V) (Q:VK) (E:XK),mj k (A.deeper (Vn qual (qh st) #[0,s] f cdv))->sp vs H Q E->
   ∃t,PSs (cxOf CX0 P w K mg base N qual (qh st) f cdv A outer s H E).nox (yZ st) t/\t {nx:=λ_ H'=>Q .non H',rt:=Q} (Kn N vs) H):FnOk P w K mg base CX0 (k+1) f fd ps sp:=by
 erw[F.ex,oc,od,kV,doc,pm,an,cdv,ct,osl,rfl,lk,U];refine Acd lk U S len λA outer s H vs Q E hr aa=>?_;erw[O cdv A outer s H vs Q E hr aa,t,h,q];exact[t:h.nox:q]
def Fun.binds {x qual:Str}{st:Stmt}{f:o3}{fd:Vi}{ps:oj Str}(F:Fun K x qual st f fd)
  (h:∀(kV doc pm:o6) (an:om o3) (cdv ct:o6) (us:oj o6),↑us=↑ps->Gz (PySem.W.fnOf x qual (YT st) (yZ st) (qh st) .none kV doc pm an cdv ct) [us:[]]=pure (ps.zip us)):Jr K fd ps []:=by
 erw[F.ex,oc,od,kV,doc,pm,an,cdv,ct,osl,rfl,lk,O];exact .all (h kV doc pm an cdv ct)
def NH {x qual:Str}{st:Stmt}{f:o3}{oc:o6}{od an:om o3}{osl:Array (om o6)}{kV doc pm cdv ct:o6}(l:K.lookup f=u_ ⟨oc,od,.func (PySem.W.fnOf x qual (YT st) (yZ st) (qh st) .none kV doc pm an cdv ct),osl⟩)
  (c:PySem.W.codeIn K cdv qual=v_) (k:PySem.W.keepIn K (-f)=v_):Fun K x qual st f (PySem.W.fnOf x qual (YT st) (yZ st) (qh st) .none kV doc pm an cdv ct):=[⟨oc,od,kV,doc,pm,an,cdv,ct,osl,1,l,c⟩:k]
end
variable {A:oh}
def QT {k:Nat}(O:mj k A):A.units+1<cLine:=vA (Nat.add_le_add_left (by decide:1<=64) _) O.units
variable {n:Nat}
def XG (h:n<=1000):n<sizeLine:=vA h ()
section
variable {X:Cx}
def pv (i:Nat){x:Str}{pos:Pos}(U:X.N[i]? =u_ x:=by rfl)(hv:Vis X.env.scope x:=by first|exact GL rfl|exact GH (GL rfl)|exact GH (GH rfl))(hd:(x==("__debug__":Str))=false:=by decide)
  (O:(x==("__classdict__":Str))=false:=by decide):PE X (.Name x pos) (AaJ i):=Abv U hv hd O
def IA:Y3 X (.builtin "len") (λxs H Q=>∃a kvs,xs= [V.ref a]/\H a=u_ (.dK kvs)/\Q (.int ↑kvs) H):=by
 exists 2,xs,us,Q,I,r,h;erw[h,a,kvs,rfl,ha,q];erw[xi r,u,rfl,ru];cases ru;exact AdZ I (.inl ha) λt s' O=>⟨.int ↑kvs,H,O,[t:1],q⟩
end
def iR {A B:Prop}(h:B):if Vg=v_ then A else B:=by
 rw[A4 u8];exact h
def lm {A B:Prop}(h:A):if v_=v_ then A else B:=by
 rw[A6 rfl];exact h
def l6 {c A B:Prop}[Decidable c](h1:c->A)(h2:¬(c)->B):if c then A else B:=by
 by_cases h:c
 .rw[A6 h];exact h1 h
 .rw[A4 h];exact h2 h
abbrev ig (H H':Hp):Prop:=∀b o,H b=u_ o->H' b=u_ o
def ig.refl (H:Hp):ig H H:=λ_ _ h=>h
variable {H H1 H2:Hp}
def ig.trans (a:ig H H1)(b:ig H1 H2):ig H H2:=λc o h=>b c o (a c o h)
variable {H':Hp}
def ig.free (e:ig H H'){l:o3}(h:H' l=Option.none):H l=Option.none:=by
 cases q:H l with
 |none=>rfl
 |some o=>
  rw[e l o q] at h;cases h
section
variable {κ:Type}[DecidableEq κ]
variable {kvs:oj (κ×V)}{v:V}
def NX {k:κ}(h:iS kvs k=u_ v):k>kvs.map (·.1):=by
 have q:(kvs.any λkv=>decide (kv.1=k))=true:=by
  rw[xb,h]
  all_goals rfl
 erw[List.any_eq_true.mp q,p,O,e];exact Ae.mpr [p:O:um e]
def Ij {p:κ×V}{r:oj (κ×V)}{k:κ}(e:p.1=k):JF (p::r) k=JF r k:=by
 unfold JF;rw[vR,A4 (by simp[e])]
def Ik {p:κ×V}{r:oj (κ×V)}{k:κ}(e:¬p.1=k):JF (p::r) k=p::JF r k:=by
 unfold JF;rw[vR,A6 (by simp[e])]
end
end L2
namespace L2
open PySem
inductive D where
 |non|bl (b:Bool)|int (i:Int)|str (z:Str)|lst|dct|tup (xs:List D)
abbrev QA (c:Nat):Bool:=decide (32<=c)&&decide (c<=126)&&decide (c≠37)
abbrev QB (z:Str):Bool:=decide (↑z<=300)&&z.cps.toList.all QA
mutual
noncomputable def iX:D->Bool
 | .str z=>QB z
 | .tup xs=>decide (↑xs<=40)&&goodL xs
 |_=>Vg
noncomputable def goodL:oj D->Bool
 | []=>v_
 |x::r=>iX x&&goodL r
end
mutual
noncomputable def sz:D->Nat
 | .str z=>↑z+1
 | .tup xs=>1+szL xs
 |_=>0
noncomputable def szL:oj D->Nat
 | []=>0
 |x::r=>sz x+szL r
end
mutual
noncomputable def dp:D->Nat
 | .str _=>1
 | .tup xs=>1+dpL xs
 |_=>0
noncomputable def dpL:oj D->Nat
 | []=>0
 |x::r=>max (dp x) (dpL r)
end
mutual
noncomputable def nd:D->Nat
 | .tup xs=>1+ndL xs
 |_=>1
noncomputable def ndL:oj D->Nat
 | []=>0
 |x::r=>nd x+ndL r
end
abbrev isT (d:D):Bool:=iX d&&decide (sz d<=600)&&decide (dp d<=12)
def zT:∀(xs ys:oj D),szL (xs++ys)=szL xs+szL ys
 | [],ys=>by simp[szL]
 |x::r,ys=>by simp![U0,szL,zT r ys];omega
def zH:∀(xs ys:oj D),ndL (xs++ys)=ndL xs+ndL ys
 | [],ys=>by simp[ndL]
 |x::r,ys=>by simp![U0,ndL,zH r ys];omega
def wz {k:Nat}:∀(xs:oj D),dpL xs<=k↔∀x>xs,dp x<=k
 | []=>by simp[dpL]
 |x::r=>by
  have U:=wz (k:=k) r;have e:dpL (x::r)=max (dp x) (dpL r):=by simp![dpL]
  rw[e];constructor
  .intro h y O;rcases Aa.mp O with rfl|O
   .omega
   .exact U.mp () y O
  .intro h;have h1:=h x uf;have h2:=U.mpr λy O=>h y (uc _ O);omega
def Ack {d:D}(h:iX d=v_):1<=dp d:=by
 cases d<;>simp_all [iX,dp]
abbrev wOk (w:oj (D×Nat)):Bool:=w.all λp=>iX p.1&&decide (p.2+dp p.1<=13)
abbrev wSz (w:oj (D×Nat)):Nat:=szL (w.map (·.1))
abbrev G (w:oj (D×Nat))(n:Nat):Bool:=wOk w&&decide (n+wSz w<=600)
def Aao (d:D):G [(d,1)] 0=isT d:=by
 simp![G,wOk,wSz,isT,vB,R8,uA,Ui,szL,U7,tV,RN];have e:decide (1+dp d<=13)=decide (dp d<=12):=by
  rw[vd];omega
 rw[e];cases iX d<;>cases decide (sz d<=600)<;>cases decide (dp d<=12)<;>rfl
variable {n:Nat}
def Aef (h:n<=600):G [] n=true:=by simp[G,wOk,wSz,szL,h]
def sV (w:oj (D×Nat))(d:D)(k n:Nat):G (w++ [(d,k)]) n=(wOk w&&(iX d&&decide (k+dp d<=13))&&decide (n+(wSz w+sz d)<=600)):=by
 simp![G,wOk,wSz,UP,vB,R8,U7,uq,uA,Ui,zT,szL,RN]
 rfl
def Aap {w:oj (D×Nat)}{d:D}{k:Nat}(h:iX d=Vg):G (w++ [(d,k)]) n=false:=by
 rw[sV,h];simp
def NS {w:oj (D×Nat)}{d:D}{k:Nat}(h:12<k):G (w++ [(d,k)]) n=false:=by
 rw[sV];cases O:iX d with
 |false=>simp
 |true=>
  have:=Ack O;have e:decide (k+dp d<=13)=false:=ug ()
  rw[e];simp
def AcR {w:oj (D×Nat)}{d:D}{k:Nat}(h:600<n+sz d):G (w++ [(d,k)]) n=false:=by
 rw[sV];have e:decide (n+(wSz w+sz d)<=600)=false:=ug ()
 rw[e];simp
def AcQ {w:oj (D×Nat)}{xs:oj D}{k:Nat}(h:600<n+1):G (w++ [(¬xs,k)]) n=false:=AcR (by simp![sz];omega)
def NW (xs:oj D)(k:Nat):wOk (xs.map λx=>(x,k+1))=(goodL xs&&xs.all λx=>decide (k+1+dp x<=13)):=by
 induction xs with
 |nil=>rfl
 |cons x r O=>
  simp![uA,wOk,vB,goodL] at O⊢;rw[O];cases iX x<;>cases decide (k+1+dp x<=13)<;>cases goodL r<;>simp
def NV (xs:oj D)(k:Nat):wSz (xs.map λx=>(x,k+1))=szL xs:=by
 unfold wSz;rw[uK]
 congr 1
 induction xs with
 |nil=>rfl
 |cons x r O=>simp![uA,O];rfl
def Aed {w:oj (D×Nat)}{xs:oj D}{k:Nat}(U:↑xs<=40)(hk:k<=12):G (w++ [(¬xs,k)]) n=G (w++xs.map λx=>(x,k+1)) (n+1):=by
 rw[sV];unfold G;have e1:wOk (w++xs.map λx=>(x,k+1))=(wOk w&&wOk (xs.map λx=>(x,k+1))):=by unfold wOk;rw[UP]
 have e2:wSz (w++xs.map λx=>(x,k+1))=wSz w+szL xs:=by
  have:=NV xs k;unfold wSz at this⊢;rw[uq,zT,this]
 have e3:decide (k+dp (¬xs)<=13)=xs.all λx=>decide (k+1+dp x<=13):=by
  have q:=wz (k:=12-k) xs;have e0:dp (¬xs)=1+dpL xs:=by simp![dp]
  rw[e0,vM];constructor
  .intro h;have h:=um h;refine List.all_eq_true.mpr λx O=>ud ?_;have h2:=q.mp () x O
   omega
  .intro h;refine ud ?_;have h2:=q.mpr λx O=>by
    have h3:=um (List.all_eq_true.mp h x O);omega
   omega
 rw[e1,e2,e3,NW];have e4:iX (¬xs)=goodL xs:=by simp![iX,ud U,Tb]
 have e5:decide (n+(wSz w+sz (¬xs))<=600)=decide (n+1+(wSz w+szL xs)<=600):=by
  rw[vd];simp![sz];omega
 rw[e4,e5]
variable {z:Str}
def Aee {w:oj (D×Nat)}{k:Nat}(O:QB z=v_)(hk:k<=12):G (w++ [(!z,k)]) n=G w (n+(1+↑z)):=by
 rw[sV];unfold G;have U:iX (!z)=true:=by simp![iX,O]
 have e3:decide (k+dp (!z)<=13)=true:=ud (by simp![dp];omega)
 have e5:decide (n+(wSz w+sz (!z))<=600)=decide (n+(1+↑z)+wSz w<=600):=by
  rw[vd];simp![sz];omega
 rw[U,e3,e5];simp
end L2
namespace AwZ
open PySem PyProof.Rows
open PySem.AutoSeq1 (wpAny_loadPart')
section
variable {prog:o9}{w:og}{A:oh}{E:o6->o7->Prop}{s:o7}
def AaI {j t:o3}{i:Nat}{its:Array o6}{x:o6}{Q:o6->o7->Prop}(U:s.heap.IsTupleIter j t i)(gt:s.heap.IsTuple t its)(gx:its[i]? =u_ x)
  (q:∀h2,h2.IsTupleIter j t (i+1)->VS j s.heap h2->Q x {s with heap:=h2}):Vh #[w,w] A (GP (-j)) Q E s:=by
 erw[id U,u,O,cu,du];erw[gt,ut,aa,_,nt,ac];unfold GP;refine A7 (vj (name:=GB "__next__") U.typeIs vY
  (vH vY U.typeIs F.entry_tuple_iterator_next ?_ (F.args_tuple_iterator_next_1 _)))
 show Vh _ _ (VR (-j) 0>>=_) _ _ s;refine A7 (vh O du (x:=-t) rfl ?_);show Vh _ _ (if(Vm t==Gf)=v_ then _ else _) _ _ s
 rw[A4 (show¬(Vm t==Gf)=v_ from u8)]
 show Vh _ _ (VR (-j) 1>>=_) _ _ s;refine A7 (vh O du (x:= .int i 0) rfl ?_);show Vh _ _ (Tf (-t)>>=_) _ _ s;refine A7 (Um aa ac ?_);simp![Fe,gx];refine A7 (pK O du (by simp) (uw [x:1:uw (q _ ?_ (Rs ..))]))
 exact⟨_,Fj _ O (Obj.isFreed_of_fields (Rr du _)),(Obj.cls_mapFields ..).trans cu,by rw[Rr du];simp[VQ]⟩
def nS {j t:o3}{i:Nat}{its:Array o6}{Q:o6->o7->Prop}(hh:A.handled=U_)(O:s.heap.IsTupleIter j t i)(gt:s.heap.IsTuple t its)(gx:its[i]? =U_)
  (q:∀h2 e,rN j s.heap h2->(∃u,h2.get? e=u_ u/\u.cls= .type "StopIteration")->E (-e) {s with heap:=h2}):Vh #[w,w] A (GP (-j)) Q E s:=by
 erw[id O,u,U,cu,du];erw[gt,ut,aa,_,nt,ac];unfold GP;refine A7 (vj (name:=GB "__next__") O.typeIs vY
  (vH vY O.typeIs F.entry_tuple_iterator_next ?_ (F.args_tuple_iterator_next_1 _)))
 show Vh _ _ (VR (-j) 0>>=_) _ _ s;refine A7 (vh U du (x:=-t) rfl ?_);show Vh _ _ (if(Vm t==Gf)=v_ then _ else _) _ _ s
 rw[A4 (show¬(Vm t==Gf)=v_ from u8)]
 show Vh _ _ (VR (-j) 1>>=_) _ _ s;refine A7 (vh U du (x:= .int i 0) rfl ?_);show Vh _ _ (Tf (-t)>>=_) _ _ s;refine A7 (Um aa ac ?_);simp![Fe,gx];refine A7 (UJ (A7 (pK U du (by simp) ?_)))
 show Vh _ _ (newExc (.type "StopIteration") []>>=_) _ _ _;refine A7 ?_;simp![newExc,Fd];refine A7 (vy ?_ (by size_fits))
 refine A7 (m:=Fp _ _) (HB (a:=Gf) (by first|rfl|(simp![Fp];rfl)) ?_)
 refine vy ?_ (by size_fits)
 simp![raiseNew];refine A7 (wpAny_handled ?_)
 first|rw[show A.in1.handled=U_ from hh]|rw[hh]
 refine A7 (uw (RS ?_));exact q _ _ (((Rs ..).extBut.push _).push _) [_:uE _ rfl:1]
structure Apt (z p r i j a b:o3):Prop where
 pz:p≠z
 rz:r≠z
 iz:i≠z
 jz:j≠z
 pr:p≠r
 pi:p≠i
 pj:p≠j
 ri:r≠i
 rj:r≠j
 ij:i≠j
 az:a≠z
 ar:a≠r
 ai:a≠i
 aj:a≠j
 bz:b≠z
 br:b≠r
 bi:b≠i
 bj:b≠j
def Ac3 {z p r i j a b:o3}{k:Nat}{xs ys:Array o6}{x y u v:o6}{Q:o6->o7->Prop}(D:Apt z p r i j a b)
  (hz:VI s.heap z p r .none) (hp:Vx s.heap p (-i) (-j)) (hr:Vx s.heap r u v)
  (hi:s.heap.IsTupleIter i a k) (hj:s.heap.IsListIter j b k) (ha:s.heap.IsTuple a xs) (hb:s.heap.IsList b ys) (hx:xs[k]? =u_ x) (hy:ys[k]? =u_ y)
  (q:∀h2,VI h2 z p r (VQ #[0,s])->Vx h2 r x y->h2.IsTupleIter i a (k+1)->h2.IsListIter j b (k+1)->Vx h2 #[0,s] x y->h2.objs.size=#[0,s]+1->
   (∀c o,c≠z->c≠r->c≠i->c≠j->s.heap.get? c=u_ o->h2.get? c=u_ o)->Q (.ref #[0,s]) {s with heap:=h2}):
  Vh #[w,w] A (VP.«zip.__next__» [[-z]:[]]) (λfin t=>∃v,fin= .done (.ret v)/\Q v t) E s:=by
 show Vh _ _ (VR (-z) 2>>=_) _ _ _;refine A7 (vh hz rfl (x:= .bool Vg) rfl ?_);show Vh _ _ (VR (-z) 3>>=_) _ _ _;refine A7 (vh hz rfl (x:=-p) rfl ?_);refine A7 (Um hp rfl ?_);show Vh _ _ (GT (-z)>>=_) _ _ s;refine A7 ?_;unfold GT;refine A7 (vh hz rfl (x:= .none) rfl (uw ?_));simp![Ve];refine A7 (UJ ?_);refine A7 (vh hz rfl (x:=-r) rfl ?_);refine A7 (vt hz (by simp) λh1 z1 s1=>?_)
 replace z1:VI h1 z p r .ellipsis:=z1
 refine A7 ?_;simp![pL,FB,Uy,Rj];refine A7 (A7 (HI ?_));show Vh _ _ (GP (-i)>>=_) _ _ _;refine A7 (AaI (hi.extBut s1.extBut D.iz) (ha.extBut s1.extBut D.az) hx λh2 i2 s2=>uw ?_);have r2:Vx h2 r u v:=s2.extBut _ _ D.ri (s1.extBut _ _ D.rz hr);refine A7 (Um r2 rfl ?_);refine A7 (FI r2 λh3 r3 U=>?_)
 replace r3:Vx h3 r x v:=r3
 refine A7 (TK (uw ?_));refine A7 (A7 (HI ?_));show Vh _ _ (GP (-j)>>=_) _ _ _;refine A7 (wpAny_nextOf_list_item (((hj.extBut s1.extBut D.jz).extBut s2.extBut D.ij.symm).extBut U.extBut D.rj.symm)
  (((hb.extBut s1.extBut D.bz).extBut s2.extBut D.bi).extBut U.extBut D.br) hy λh4 j4 s4=>uw ?_)
 have r4:Vx h4 r x v:=s4.extBut _ _ D.rj r3;refine A7 (Um r4 rfl ?_);refine A7 (FI r4 λh5 r5 s5=>?_)
 replace r5:Vx h5 r x y:=r5
 refine A7 (TK (uw (uw ?_)));refine A7 (Um r5 rfl ?_);refine A7 (RV ?_);have sz:h5.objs.size=#[0,s]:=by rw[s5.1,s4.1,U.1,s2.1,s1.1]
 have z5:VI h5 z p r .ellipsis:=s5.extBut _ _ D.rz.symm (s4.extBut _ _ D.jz.symm (U.extBut _ _ D.rz.symm (s2.extBut _ _ D.iz.symm z1)));have k5:∀c o,c≠z->c≠r->c≠i->c≠j->s.heap.get? c=u_ o->h5.get? c=u_ o:=λc o O c2 c3 c4 e=>
  s5.extBut _ _ c2 (s4.extBut _ _ c4 (U.extBut _ _ c2 (s2.extBut _ _ c3 (s1.extBut _ _ O e))))
 have i5:h5.IsTupleIter i a (k+1):=((i2.extBut U.extBut D.ri.symm).extBut s4.extBut D.ij).extBut s5.extBut D.ri.symm;have j5:h5.IsListIter j b (k+1):=j4.extBut s5.extBut D.rj.symm;have aa:z<h5.objs.size:=uF z5;show Vh _ _ (HP (-z) (-h5.objs.size)>>=_) _ _ _;refine A7 ?_;unfold HP;have z6:VI (h5.push {cls:= .type "tuple",data:= .seq #[x,y]}) z p r .ellipsis:=ub _ z5;refine A7 (vt z6 (by simp) λh7 z7 s7=>?_)
 replace z7:VI h7 z p r (VQ h5.objs.size):=z7
 refine vt z7 (by simp) λh8 z8 s8=>?_
 replace z8:VI h8 z p r (VQ h5.objs.size):=z8
 have up:∀c o,c≠z->h5.get? c=u_ o->h8.get? c=u_ o:=λc o O e=>s8.extBut _ _ O (s7.extBut _ _ O (ub _ e));have t8:Vx h8 h5.objs.size x y:=s8.extBut _ _ (U2 aa) (s7.extBut _ _ (U2 aa) (uE _ rfl));have n8:h8.objs.size=h5.objs.size+1:=by rw[s8.1,s7.1,vm]
 rw[sz] at z8 t8 n8;refine uw [0:?_];show Q (-h5.objs.size) _;rw[sz];exact q h8 z8 (up _ _ D.rz r5) (by erw[i5,o,e,g];exact[o:up _ o D.iz e:g]) (j5.at λo e=>up _ o D.jz e) t8 n8 λc o O c2 c3 c4 e=>up c o O (k5 c o O c2 c3 c4 e)
def zip_go {z p r i j a b:o3}{k:Nat}{xs ys:Array o6}{x y u v:o6}{Q:om o6->o7->Prop}(D:Apt z p r i j a b)
  (hz:VI s.heap z p r .none) (U:Vx s.heap p (-i) (-j)) (hr:Vx s.heap r u v)
  (hi:s.heap.IsTupleIter i a k) (hj:s.heap.IsListIter j b k) (ha:s.heap.IsTuple a xs) (hb:s.heap.IsList b ys) (hx:xs[k]? =u_ x) (hy:ys[k]? =u_ y)
  (q:∀h2,VI h2 z p r (VQ #[0,s])->Vx h2 r x y->h2.IsTupleIter i a (k+1)->h2.IsListIter j b (k+1)->Vx h2 #[0,s] x y->h2.objs.size=#[0,s]+1->
   (∀c o,c≠z->c≠r->c≠i->c≠j->s.heap.get? c=u_ o->h2.get? c=u_ o)->Q (u_ (.ref #[0,s])) {s with heap:=h2}):
  Vh #[w,w] A (VO (-z)) Q E s:=by
 have O:s.TypeIs (-z) "zip":=[_:hz:1];unfold VO;exact A7 (Uj (vj (name:=GB "__next__") O F.slot_zip_next
  (vH F.slot_zip_next O F.entry_zip_next (Ac3 D hz U hr hi hj ha hb hx hy λh2 b1 b2 b3 b4 b5 b6 b7=>uw (q h2 b1 b2 b3 b4 b5 b6 b7)) (F.args_zip_next_1 _))))
def zip_stop {z p r i j a b:o3}{k:Nat}{xs:Array o6}{Q:om o6->o7->Prop}(hh:A.handled=U_)(D:Apt z p r i j a b)
  (hz:VI s.heap z p r .none) (hp:Vx s.heap p (-i) (-j)) (hi:s.heap.IsTupleIter i a k) (ha:s.heap.IsTuple a xs) (hx:xs[k]? =U_)
  (q:∀h2,(∀c o,c≠z->c≠r->c≠i->c≠j->s.heap.get? c=u_ o->h2.get? c=u_ o)->Q U_ {s with heap:=h2}):Vh #[w,w] A (VO (-z)) Q E s:=by
 have tz:s.TypeIs (-z) "zip":=[_:hz:1];unfold VO;refine A7 (Uj (vj (name:=GB "__next__") tz F.slot_zip_next
  (vH F.slot_zip_next tz F.entry_zip_next ?_ (F.args_zip_next_1 _))))
 show Vh _ _ (VR (-z) 2>>=_) _ _ _;refine A7 (vh hz rfl (x:= .bool Vg) rfl ?_);show Vh _ _ (VR (-z) 3>>=_) _ _ _;refine A7 (vh hz rfl (x:=-p) rfl ?_);refine A7 (Um hp rfl ?_);show Vh _ _ (GT (-z)>>=_) _ _ s;refine A7 ?_;unfold GT;refine A7 (vh hz rfl (x:= .none) rfl (uw ?_));simp![Ve];refine A7 (UJ ?_);refine A7 (vh hz rfl (x:=-r) rfl ?_);refine A7 (vt hz (by simp) λh1 O s1=>?_)
 replace O:VI h1 z p r .ellipsis:=O
 refine A7 ?_;simp![pL,FB,Uy,Rj];refine A7 (A7 (HI ?_));show Vh _ _ (GP (-i)>>=_) _ _ _;refine A7 (nS hh (hi.extBut s1.extBut D.iz) (ha.extBut s1.extBut D.az) hx λh2 e s2 he=>?_);erw[he,oe,U,ce];have z2:VI h2 z p r .ellipsis:=s2 _ _ D.iz.symm O;have ez:e≠z:=λx=>by subst x;rw[z2] at U;cases U;simp at ce
 refine vt z2 (by simp) λh3 _ s3=>?_
 refine A7 (UG (T:="StopIteration") (b:=v_) [oe:s3.extBut _ _ ez U:ce] rL ?_);exact uw (q _ λc o c1 _ c3 _ x=>s3.extBut _ _ c1 (s2 _ _ c3 (s1.extBut _ _ c1 x)))
nonrec abbrev q1 (h:o8)(a:o3):o8:=h.push {cls:= .type "tuple_iterator",data:= .fields #[-a,.int 0 0]}
nonrec abbrev q2 (h:o8)(a b:o3):o8:=(q1 h a).push {cls:= .type "list_iterator",data:= .fields #[-b,.int 0 0]}
nonrec abbrev q3 (h:o8)(a b:o3):o8:=(q2 h a b).push {cls:= .type "tuple",data:= .seq #[-h.objs.size,.ref (q1 h a).objs.size]}
nonrec abbrev q4 (h:o8)(a b:o3):o8:=(q3 h a b).push {cls:= .type "tuple",data:= .seq #[.none,.none]}
nonrec abbrev q5 (h:o8)(a b:o3):o8:=(q4 h a b).push {cls:= .type "zip",data:= .fields #[.none,.bool Vg,.bool Vg,.ref (q2 h a b).objs.size,.ref (q3 h a b).objs.size]}
def IO (a b:o3)(xs ys:Array o6):GQ (VP.«zip.__new__» [[.type "zip",-a,-b]:[]]) (λ_ R s=>s.heap.IsTuple a xs/\s.heap.IsList b ys/\R (.ok (.ret (.ref (q4 s.heap a b).objs.size))) {s with heap:=q5 s.heap a b}):=
 .of_wp λprog w A R s h=>by
  erw[s,O,g,d,tk,os];erw[h,ha,U,h];have sub:=sub_zip;have h1:Rb (Ti ⟨O,g,d,tk,os⟩) a xs:=ha;have h2:Heap.IsList (Ti ⟨O.push {cls:= .type "tuple_iterator",data:= .fields #[-a,.int 0 0]},g,d,tk,os⟩) b ys:=Pb U _
  wp_walk using U3 h1,UX h2
  exact[0:h]
def zip_call {a b:o3}{xs ys:Array o6}{Q:o6->o7->Prop}(ha:s.heap.IsTuple a xs)(hb:s.heap.IsList b ys)
  (h:∀h2,VI h2 (#[0,s]+4) (#[0,s]+2) (#[0,s]+3) .none->Vx h2 (#[0,s]+2) (.ref #[0,s]) (.ref (#[0,s]+1))->
   Vx h2 (#[0,s]+3) .none .none->h2.IsTupleIter #[0,s] a 0->h2.IsListIter (#[0,s]+1) b 0->h2.objs.size=#[0,s]+5->
   (∀c o,s.heap.get? c=u_ o->h2.get? c=u_ o)->Q (.ref (#[0,s]+4)) {s with heap:=h2}):Vh #[w,w] A (call (.type "zip") [-a,-b]) Q E s:=by
 refine callType_new F.called_zip () (F.typeCall_zip_2 _ _) (F.newCall_zip_2 _ _) (λobj=>F.args_object_init_3 obj _ _) F.entry_zip_new (IO a b xs ys) [ha:hb:?_]
 have O:(q1 s.heap a).objs.size=#[0,s]+1:=vm ..;have U:(q2 s.heap a b).objs.size=#[0,s]+2:=by rw[vm,O]
 have z3:(q3 s.heap a b).objs.size=#[0,s]+3:=by rw[vm,U]
 have z4:(q4 s.heap a b).objs.size=#[0,s]+4:=by rw[vm,z3]
 have z5:(q5 s.heap a b).objs.size=#[0,s]+5:=by rw[vm,z4]
 have g5:(q5 s.heap a b).get? (q4 s.heap a b).objs.size=u_ _:=uE _ rfl;have g4:(q5 s.heap a b).get? (q3 s.heap a b).objs.size=u_ _:=ub _ (uE _ rfl);have g3:(q5 s.heap a b).get? (q2 s.heap a b).objs.size=u_ _:=ub _ (ub _ (uE _ rfl));have g2:(q5 s.heap a b).get? (q1 s.heap a).objs.size=u_ _:=ub _ (ub _ (ub _ (uE _ rfl)));have g1:(q5 s.heap a b).get? #[0,s]=u_ _:=ub _ (ub _ (ub _ (ub _ (uE _ rfl))));show _/\_;rw[U,z3,z4] at g5;rw[O,U] at g3;rw[z3] at g4;rw[O] at g2;rw[z4];exact[[_:g5:1]:h _ g5 g3 g4 ⟨_,g1,1,1⟩ ⟨_,g2,1,1⟩ z5 λc o x=>ub _ (ub _ (ub _ (ub _ (ub _ x))))]
def AdV {e j t:o3}{i:Nat}{c:Int}{its:Array o6}{x O:o6}{Q:o6->o7->Prop}(he:VZ s.heap e j c O)(gj:s.heap.IsTupleIter j t i)(gt:s.heap.IsTuple t its)(gx:its[i]? =u_ x)(ej:e≠j)
  (q:∀h2,tH h2 e j (c+1) x #[0,s]->h2.IsTupleIter j t (i+1)->h2.get? #[0,s]=u_ {cls:= .type "tuple",data:= .seq #[.int c s.toks,x]}->h2.objs.size=#[0,s]+1->
   (∀b o,b≠e->b≠j->s.heap.get? b=u_ o->h2.get? b=u_ o)->Q (.ref #[0,s]) {s with heap:=h2,toks:=s.toks+1}):
  Vh #[w,w] A (VP.«enumerate.__next__» [[-e]:[]]) (λfin t=>∃v,fin= .done (.ret v)/\Q v t) E s:=by
 erw[s,U,g,d,tk,os];show Vh _ _ (VR (-e) 2>>=_) _ _ _;refine A7 (vh he rfl (x:=-j) rfl ?_);refine A7 (AaI gj gt gx λh1 j1 s1=>?_)
 replace s1:VS j U h1:=s1
 have e1:VZ h1 e j c O:=(s1.2 e ej).trans he;show Vh _ _ (VR (-e) 3>>=_) _ _ ⟨h1,g,d,tk,os⟩;refine A7 (vh e1 rfl (x:=VQ c) rfl ?_);show Vh _ _ (VR (-e) 4>>=_) _ _ ⟨h1,g,d,tk,os⟩;refine A7 (vh e1 rfl (x:= .none) rfl ?_);show Vh _ _ (mkInt c>>=_) _ _ ⟨h1,g,d,tk,os⟩;refine A7 (wpAny_mkInt ?_);show Vh _ _ (setField (-e) 3 (VQ (c+1))>>=_) _ _ ⟨h1,g,d,tk+1,os⟩;refine A7 (vt e1 (by simp) λh2 e2 s2=>?_)
 replace s2:VS e h1 h2:=s2
 replace e2:VZ h2 e j (c+1) O:=e2
 show Vh _ _ (setField (-e) 4 .none>>=_) _ _ ⟨h2,g,d,tk+1,os⟩;refine A7 (vt e2 (by simp) λh3 e3 s3=>?_)
 replace s3:VS e h2 h3:=s3
 replace e3:VZ h3 e j (c+1) O:=e3
 show Vh _ _ (Fd [.int c tk,x]>>=_) _ _ ⟨h3,g,d,tk+1,os⟩;refine A7 (RV ?_);have e4:VZ (h3.push {cls:= .type "tuple",data:= .seq #[.int c tk,x]}) e j (c+1) O:=ub _ e3;generalize hg:h3.push {cls:= .type "tuple",data:= .seq #[.int c tk,x]}=h4 at e4;have sz:h3.objs.size=U.objs.size:=by rw[s3.1,s2.1,s1.1]
 have el:e<U.objs.size:=uF he;have t4:h4.get? U.objs.size=u_ {cls:= .type "tuple",data:= .seq #[.int c tk,x]}:=by rw[<-hg,<-sz];exact uE _ rfl
 have n4:h4.objs.size=U.objs.size+1:=by rw[<-hg,vm,sz]
 have k4:∀b o,b≠e->b≠j->U.get? b=u_ o->h4.get? b=u_ o:=λb o be bj y=>by
  rw[<-hg];exact ub _ (s3.extBut b o be (s2.extBut b o be (s1.extBut b o bj y)))
 have j4:h4.IsTupleIter j t (i+1):=by
  erw[j1,o,y,r];exact⟨o,by rw[<-hg];exact ub _ (s3.extBut j o (vV ej) (s2.extBut j o (vV ej) y)),r⟩
 show Vh _ _ (GT (-e)>>=_) _ _ ⟨h4,g,d,tk+1,os⟩;rw[sz];clear hg e3 s3 e2 s2 e1 s1 j1 sz h3 h2 h1;refine A7 ?_;unfold GT;refine A7 (vh e4 rfl (x:= .none) rfl (uw ?_));simp![Ve];refine A7 (UJ ?_);refine A7 (vh e4 rfl (x:=O) rfl ?_);refine A7 (vt e4 (by simp) λh5 e5 s5=>?_)
 replace s5:VS e h4 h5:=s5
 replace e5:VZ h5 e j (c+1) x:=e5
 show Vh _ _ (HP (-e) (-U.objs.size)>>=_) _ _ ⟨h5,g,d,tk+1,os⟩;refine A7 ?_;unfold HP;refine A7 (vt e5 (by simp) λh6 e6 s6=>?_)
 replace s6:VS e h5 h6:=s6
 replace e6:tH h6 e j (c+1) x U.objs.size:=e6
 refine vt e6 (by simp) λh7 e7 s7=>?_
 replace s7:VS e h6 h7:=s7
 replace e7:tH h7 e j (c+1) x U.objs.size:=e7
 have up:∀b o,b≠e->h4.get? b=u_ o->h7.get? b=u_ o:=λb o be y=>s7.extBut b o be (s6.extBut b o be (s5.extBut b o be y));refine A7 (TK (uw [0:q h7 e7 ?_ (up _ _ (U2 el) t4) ?_ λb o be bj y=>up b o be (k4 b o be bj y)]))
 .erw[j4,o,y,r];exact[o:up j o (vV ej) y:r]
 .rw[s7.1,s6.1,s5.1,n4]
def enum_go {e j t:o3}{i:Nat}{c:Int}{its:Array o6}{x O:o6}{Q:om o6->o7->Prop}(U:VZ s.heap e j c O)(gj:s.heap.IsTupleIter j t i)(gt:s.heap.IsTuple t its)(gx:its[i]? =u_ x)(ej:e≠j)
  (q:∀h2,tH h2 e j (c+1) x #[0,s]->h2.IsTupleIter j t (i+1)->h2.get? #[0,s]=u_ {cls:= .type "tuple",data:= .seq #[.int c s.toks,x]}->h2.objs.size=#[0,s]+1->
   (∀b o,b≠e->b≠j->s.heap.get? b=u_ o->h2.get? b=u_ o)->Q (u_ (.ref #[0,s])) {s with heap:=h2,toks:=s.toks+1}):Vh #[w,w] A (VO (-e)) Q E s:=by
 have te:s.TypeIs (-e) "enumerate":=[_:U:1];unfold VO;exact A7 (Uj (vj (name:=GB "__next__") te Uz
  (vH Uz te F.entry_enumerate_next (AdV U gj gt gx ej λh2 b1 b2 b3 b4 b5=>uw (q h2 b1 b2 b3 b4 b5)) (F.args_enumerate_next_1 _))))
def enum_stop {e j t:o3}{i:Nat}{c:Int}{its:Array o6}{O:o6}{Q:om o6->o7->Prop}(hh:A.handled=U_)(U:VZ s.heap e j c O)(gj:s.heap.IsTupleIter j t i)(gt:s.heap.IsTuple t its)(gx:its[i]? =U_)
  (q:∀h2,rN j s.heap h2->Q U_ {s with heap:=h2}):Vh #[w,w] A (VO (-e)) Q E s:=by
 have te:s.TypeIs (-e) "enumerate":=[_:U:1];unfold VO;refine A7 (Uj (vj (name:=GB "__next__") te Uz
  (vH Uz te F.entry_enumerate_next ?_ (F.args_enumerate_next_1 _))))
 show Vh _ _ (VR (-e) 2>>=_) _ _ _;refine A7 (vh U rfl (x:=-j) rfl ?_);refine A7 (nS hh gj gt gx λh2 y s2 hy=>?_);erw[hy,o,g,c];refine A7 (UG (T:="StopIteration") (b:=v_) [o:g:c] rL ?_);exact uw (q _ s2)
def AeK (T:String)(args:oj o6)(kw:oj (Str×o6)):(Code.builtin "type.__call__" [.type T::args:kw]).weight=0:=rfl
def new_kw {T U:String}{Bn:VP}{args:oj o6}{kw:oj (Str×o6)}{S:PySem.Spec}{Q:o6->o7->Prop}(O:TypeCalled T U "object.__init__")
  (ag:(u_ U !=u_ "object.__new__")=v_) (ah:rO T [args:kw]=pure G7) (ac:Ho U [.type T::args:kw]=pure G7)
  (hok:∀obj,tJ "object.__init__" [obj::args:kw]) (en:entryFor table U=u_ Bn) (g:GQ (Bn [.type T::args:kw]) S)
  (h:S A.in1 (wants (λobj s1=>s1.TypeIs obj T/\Q obj s1) E) s):Vh #[w,w] A (call (.type T) args kw) Q E s:=by
 erw[O.mro,c,tl,hm];have ad:=O.made;have af:=O.sub;refine UZ (RT ?_);show Vh _ _ (callAny (.type T) _) _ _ _;refine uw [FH _ ():UQ F.entry_type_call ?_]
 rw[Around.under_plain (AeK T args kw) (units_type_call_type T args kw)];have g1:=O.notType;have g2:=O.canCreate
 repeat (any_goals (first|assumption|wp_step))
 refine Uh (Ud O.plain en (HB ac (g prog w A.in1 _ s h))) λr s1 hr=>?_;cases r with
 |error e=>exact hr
 |ok fl=>
  cases fl with
  |ret obj=>
   erw[hr,hT,hq];have ak:=O.init.lookup;have al:=O.init.bind obj
   repeat (any_goals (first|assumption|wp_step))
   have gi:GQ (VP.«object.__init__» ⟨obj::args,kw⟩) (λ_ R s=>s.TypeIs obj T/\R (.ok (.ret .none)) s):=by
    refine Meets.of_wp λprog w A R s hs=>?_;erw[hs,hT,hq];cases hc:(!(args.isEmpty)|| !(kw.isEmpty)) with
    |false=>
     show Vh _ _ (if(!(args.isEmpty)|| !(kw.isEmpty))=v_ then _ else _) _ _ _
     rw[A4 (by rw[hc];exact u8)]
     exact uw [0:hq]
    |true=>
     repeat (any_goals (first|assumption|wp_step))
     exact[0:hq]
   refine Uh (Ud O.init.plain F.entry_object_init (O.init.check _ _ _ _ _ _ _ _ hT (hok obj) (gi prog w A.in1 (wants (λr s2=>r= .none/\Q obj s2) E) s1 [hT:1:hq]))) λr2 s2 aa=>?_;cases r2 with
   |error e=>exact aa
   |ok ae=>
    cases ae with
    |ret r=>
     erw[aa,rfl,hq]
     repeat (any_goals (first|assumption|wp_step))
    |_=>exact aa.elim
  |_=>exact hr.elim
end
end AwZ
namespace L2
open PySem PySem.Spec PyProof.Rows
abbrev Its (x:Str):It:=⟨λi _=>i<x.cps.size,λi H v H'=>H'=H/\∃c,x.cps[i]? =u_ c/\v= .str ⟨#[c]⟩,λi _=>i=x.cps.size⟩
variable {w:og}{K:o0}{tg:Expr}{x:Str}
def Bb {P:o9}{t:Tok}{it:o3}(ty:String)(O:ty="str_ascii_iterator"\/ty="str_iterator"):
  MN P w K tg (Its x) [it] it (λi h=>h.IsStrIter it ty x t i) where
 mem:=by simp
 obj:=λi h st b U=>by
  have e:b=it:=by simpa using U
  subst e;erw[st,o,e,c,d];exact⟨o,e,λv z=>by rw[d] at z;cases z⟩
 keep:=λi h h' st k=>by
  erw[st,o,e,r];exact⟨o,k it (by simp) o e,r⟩
 item:=by
  intro X hP hw hK hc i oq s σ H E I hf st hg;subst hP hw hK;obtain⟨f0,f1,f2,f3,f4,f5⟩:=hf it (by simp)
  have W:Walks X.prog X.w X.A it [it] [it] x.cps.size (SignAt x) (λi h=>h.IsStrIter it ty x t i):=by
   rcases O with rfl|rfl
   .exact pq (I.ok.hd hc) it x t
   .exact RL (I.ok.hd hc) it x t
  refine uW (n:=1) I.tk (W.item i s _ _ hg st λv h' tk hv aa kk=>?_);intro htk;erw[hv,c,u,hx,rfl];have I1:Inv X oq σ H {s with heap:=h',toks:=tk}:=I.turned (λb o U e=>kk b o (by simpa using U) e) f0 f1 f3 f4 f5
  erw[id aa,o,e,c',d];refine⟨0,CV (s:={s with heap:=h',toks:=tk}) e c' d (by rcases O with rfl|rfl<;>decide) ⟨.str ⟨#[c]⟩,H,I1,[u:1],⟨1,c,hx,1⟩,aa,λb U=>(hf b U).1⟩⟩
 done:=by
  intro X hP hw hK hc i oq s σ H E I hf st hg;subst hP hw hK;have ac:i=x.cps.size:=hg;subst ac;obtain⟨f0,f1,f2,f3,f4,f5⟩:=hf it (by simp)
  have W:Walks X.prog X.w X.A it [it] [it] x.cps.size (SignAt x) (λi h=>h.IsStrIter it ty x t i):=by
   rcases O with rfl|rfl
   .exact pq (I.ok.hd hc) it x t
   .exact RL (I.ok.hd hc) it x t
  exact uW (n:=1) I.tk (W.done s _ _ st λh' tk kk htk=>⟨1,I.turned (λb o U e=>kk b o (by simpa using U) e) f0 f1 f3 f4 f5⟩)
 self:=λ_ _ _ _ _ st h=>by
  rcases O with rfl|rfl
  .exact wpAny_pyIter_striter_ascii st h
  .exact wpAny_pyIter_striter_wide st h
section
variable {X:Cx}{tg:Expr}
inductive Aec (R:(It->Hp->Prop))(x:V)(H1:Hp):Prop
 |mk (z:_)(_:x= !z)(_:R (Its z) H1)
abbrev Afc (tl:TE):TI:=λσ H R=>tl σ H λx H1=>Aec R x H1
def Ni {l:Expr}{tl:TE}(U:PE X l tl):PI X tg l (Afc tl):=by
 exists 2,R,I,h;refine thn (U oq s σ H _ I h) λv s1 zq=>?_;erw[zq,x,H1,O,r1,q1];erw[q1,z,e,q];subst e;erw[r1,t,rfl];have fp:∀(o:Obj),∀b> [#[0,s1]],AX X oq H1 b:=λo b hb=>by
  have e:b=#[0,s1]:=by simpa using hb
  subst e;exact O.fpOk (uj _) (O.hok.fresh (uj _))
 cases ha:z.cps.all (·<128)
 .refine wpAny_pyIter_wide ha ?_;exact⟨#[0,s1],[#[0,s1]],_,_,H1,1,O.kept (t':=s1.toks) λb o e=>ub _ e,Bb "str_iterator" (.inr rfl),⟨_,uE _ rfl,1,1⟩,fp default,q⟩
 .refine wpAny_pyIter_ascii ha ?_;exact⟨#[0,s1],[#[0,s1]],_,_,H1,1,O.kept (t':=s1.toks) λb o e=>ub _ e,Bb "str_ascii_iterator" (.inl rfl),⟨_,uE _ rfl,1,1⟩,fp default,q⟩
inductive Aep (x:V)(lo:Option Int)(hi:Option Int)(H:Hp)(Q:VK):Prop
 |mk (z:_)(_:x= !z)(_:↑z<=Vk)(_:Q (.str (HG z lo hi)) H)
abbrev Cl:o6->om (Int×Tok)
 | .int i t=>u_ (i,t)
 |_=>U_
def Abb:SlR X Aep:=by
 exists 2,x,v,O,U,lo,hi,sl,Q,I,rx,hs,pl,pu,h;erw[h,z,rfl,hz,q];erw[rx,t,rfl];exists "str",_,F.slot_str_getitem.lookup,vP _ _ _;have hl:O=partValue (Cl O)/\lo=(Cl O).map (·.1):=by cases pl<;>exact[1:1]
 have hu:U=partValue (Cl U)/\hi=(Cl U).map (·.1):=by cases pu<;>exact[1:1]
 erw[hs,o,e1,e2,e3];refine uW (n:=1) I.tk ?_;refine wpAny_getItem_str_slice (l:=Cl O) (u:=Cl U) (st:=U_) ⟨o,e1,e2,by rw[e3,<-hl.1,<-hu.1];rfl⟩ rfl ?_
 refine post_val_or_str [?_:λt' k=>?_]
 .exact uZ (Rt z _ _) hz
 .intro htk;exact⟨.str (HG z lo hi),H,I.tok k,⟨t',by rw[hl.2,hu.2];rfl⟩,q⟩
def qX {K:o0}(U:X.K=K):Y3 X (.builtin "isinstance") (λxs H Q=>∃x T t b,xs= [x,.ty T]/\AW K H x t/\PySem.W.kitOne K t (.type T)=u_ b/\Q (.bl b) H):=by
 exists 2,xs,us,Q,I,r,h;erw[h,x,T,t,b,rfl,ty,e,q];erw[Da r,u,u',rfl,ru,O];cases O;subst U;exact uW (n:=1) I.tk (su I ru ty e λtk htk=>⟨.bl b,H,I.tok tk,1,q⟩)
def sU:∀bs:oj Bool,(Vp ↑bs).all (λi=>bs.getD i v_)=bs.all id
 | []=>rfl
 |b::r=>by
  rw[ui,Ff,vB,UK,vB];have e:(Vp ↑r).all ((λi=>(b::r).getD i v_)∘TD)=(Vp ↑r).all λi=>r.getD i true:=by
   congr 1
  rw[e,sU r]
  rfl
def zt (hc:X.calm=v_):Y3 X (.builtin "all") (λxs H Q=>∃(p:o3) (bs:oj Bool),xs= [-p]/\SqL X.K H p (bs.map V.bl)/\Q (.bl (bs.all id)) H):=by
 exists 2,xs,us,Q,I,r,h;erw[h,p,bs,rfl,hp,q];erw[xi r,u,rfl,ru];cases ru;erw[I.list hp,its,rv,pl,hz];have ac:p<#[0,s]:=by erw[pl,o,n,e,_];exact uF e
 refine uW (n:=1) I.tk ?_;refine call_all_walk (UX pl.isList ?_);have up:∀b o,s.heap.get? b=u_ o->(s.heap.push {cls:= .type "list_iterator",data:= .fields #[-p,.int 0 0]}).get? b=u_ o:=λb o e=>ub _ e;have hl:↑its=↑bs:=by have:=↑rv;simpa using this.symm
 exists #[0,s],_,_,_,_,_,λi=>bs.getD i v_,1,Walks.list (show X.A.in1.handled=U_ from I.ok.hd hc) #[0,s] p (uP ac) its.toArray,[⟨_,uE _ rfl,1,1⟩:pl.isList.push _],?_,?_
 .intro i v s' Q' E' hv hQ;have O:its[i]? =u_ v:=by simpa using hv
  have hi:i<↑its:=(Af.mp O).1;obtain⟨u,e1,e2⟩:=rv.get (i:=i) (x:= .bl (bs[i]'())) (by simp[show i<bs.length by omega])
  rw[O] at e1;cases e1;cases e2;have:bs.getD i v_=bs[i]'():=by simp[G6,show i<bs.length by omega]
  have U:Q' (bs.getD i v_) s':=hQ;rw[this] at U;exact vx U
 .intro h' tk kk htk;have aa:(Vp its.toArray.size).all (λi=>bs.getD i v_)=bs.all id:=by
   rw[ur,hl];exact sU bs
  rw[aa];have I1:=I.kept (t':=s.toks) (h':=s.heap.push {cls:= .type "list_iterator",data:= .fields #[-p,.int 0 0]}) up;have ad:=I.fpOk (uj _) (I.hok.fresh (uj #[0,s]));erw[ad,f0,f1,f2,f3,f4,f5];exact⟨.bl (bs.all id),H,I1.turned (it:=#[0,s]) (λb o hb e=>kk b o (by simpa using hb) e) f0 f1 f3 f4 f5,1,q⟩
end
section
variable {X:Cx}
def Py:OpR X (VJ .Mult) (λx y H Q=>∃z k,x= .str z/\y= .int k/\MulOk z k/\Q (.str (Tt z k)) H):=by
 exists 2,x,y,v,u,Q,I,O,U,h;erw[h,z,k,rfl,rfl,hok,q];erw[O,t,rfl];erw[U,t',rfl];exact uW (n:=1) I.tk (SB.mul hok λt' k' htk=>⟨.str (Tt z k),H,I.tok k',[t':1],q⟩)
def qav {x:Str}{i:Int}{pos:Pos}(O:Gl X x)(hm:∃t,X.mg x=u_ (.int i t))(hd:(x==("__debug__":Str))=Vg):PE X (.Name x pos) (tC (.int i)):=by
 erw[hm,t,hm];exact Ak O hm [t:1] hd
def Abx {x z:Str}{pos:Pos}(O:Gl X x)(hm:∃t,X.mg x=u_ (.str z t))(hd:(x==("__debug__":Str))=Vg):PE X (.Name x pos) (tC (!z)):=by
 erw[hm,t,hm];exact Ak O hm [t:1] hd
def pe_gR {x:Str}{a:o3}{pos:Pos}(O:Gl X x)(hm:X.mg x=u_ (-a))(hd:(x==("__debug__":Str))=Vg):PE X (.Name x pos) (tC (-a)):=Ak O hm rfl hd
end
variable {H:Hp}{p:o3}
def qf (h:H p=U_)(o:HO):ig H (upd H p o):=λb u q=>by rw[qj (qk q h)];exact q
abbrev lQ (p:o3)(H H':Hp):Prop:=∀b o,H b=u_ o->b≠p->H' b=u_ o
variable {H1 H2:Hp}
def lQ.trans (a:lQ p H H1)(b:lQ p H1 H2):lQ p H H2:=λc o h n=>b c o (a c o h n) n
def lQ.upd (p:o3)(H:Hp)(o:HO):lQ p H (L2.upd H p o):=λb u h n=>by rw[qj n];exact h
variable {H':Hp}
def lQ.same (k:lQ p H1 H')(s:ig H H1)(n:H p=U_):ig H H':=λb o h=>k b o (s b o h) (qk h n)
def xf {α:Type}{xs:oj α}{i:Int}(h0:0<=i)(h1:i<↑xs):∃c,atI xs i=u_ c:=by
 obtain⟨n,rfl⟩:∃n:Nat,i=(n:Int):=[i.toNat:()]
 have hn:n<↑xs:=by omega
 exact[xs[n]:qI (uh hn)]
abbrev ny (cells:oj (Str×o3)):oj (Str×VW)->oj (Str×o3)->oj (Str×o3)
 | [],cs=>cs
 |(n,k)::r,cs=>ny cells r (if k== .free then(match cells.lookup n with|some a=>(n,a)::cs|none=>cs) else cs)
def KB {cells:oj (Str×o3)}:∀{names:oj (Str×VW)}{cs:oj (Str×o3)},(∀y c,cs.lookup y=u_ c->cells.lookup y=u_ c)->∀y c,(ny cells names cs).lookup y=u_ c->cells.lookup y=u_ c
 | [],_,h=>h
 |(n,k)::r,cs,h=>by
  unfold ny;refine KB λy c e=>?_;split at e
  .split at e
   .rename_i a ha
    rw[vk] at e;split at e
    .rename_i U
     have O:y=n:=beq_iff_eq.mp U;subst O;cases e;exact ha
    .exact h y c e
   .exact h y c e
  .exact h y c e
def sL {cells:oj (Str×o3)}:∀{names:oj (Str×VW)}{cs:oj (Str×o3)}{y:Str},(∃c,cs.lookup y=u_ c)->∃c,(ny cells names cs).lookup y=u_ c
 | [],_,_,h=>h
 |(n,k)::r,cs,y,h=>by
  unfold ny;refine sL ?_;split
  .split
   .rw[vk];split
    .exact⟨0⟩
    .exact h
   .exact h
  .exact h
def KM {cells:oj (Str×o3)}:∀{names:oj (Str×VW)}{cs:oj (Str×o3)}{y:Str},(y,VB)>names->(∃c,cells.lookup y=u_ c)->∃c,(ny cells names cs).lookup y=u_ c
 | [],_,_,h,_=>nomatch h
 |(n,k)::r,cs,y,h,O=>by
  unfold ny;rcases Aa.mp h with e|h
  .cases e;refine sL ?_;erw[O,c,O];rw[A6 (),O]
   exact⟨c,by simp[vk]⟩
  .exact KM h O
def zY {env:Env}:∀{names:oj (Str×VW)}{cs:oj (Str×o3)},(∀y,(y,VB)>names->∃c,env.cells.lookup y=u_ c)->
  (G9 names cs λx r=>(do
   if x.2== .free then
    let a<-tF env x.1
    pure (GY ((x.1,a)::r))
   else pure (GY r):Sem (ForInStep (oj (Str×o3)))))=(pure (ny env.cells names cs):Sem (oj (Str×o3)))
 | [],cs,_=>rfl
 |(n,k)::r,cs,h=>by
  rw[Uy];have hr:∀y,(y,VB)>r->∃c,env.cells.lookup y=u_ c:=λy hy=>h y (uc _ hy);unfold ny;by_cases O:(k==VB)=v_
  .have U:k= .free:=by simpa using O
   subst U;erw[h n uf,c,hc];have e:tF env n=pure c:=by unfold tF;rw[hc]
   simp![O,Ve,e,hc,Tj];exact zY hr
  .simp![A4 O,Tj];exact zY hr
def kP {scope:VA}{env:Env}(h:∀y,(y,VB)>scope.names->∃c,env.cells.lookup y=u_ c):tL scope env=pure (ny env.cells scope.names []):=by
 unfold tL;have q:=zY (cs:= []) h;show(G9 scope.names ([]:oj (Str×o3)) (λx r=>(do
   if x.2== .free then
    let a<-tF env x.1
    pure (GY ((x.1,a)::r))
   else pure (GY r):Sem (ForInStep (oj (Str×o3)))))>>=λcs=>pure cs)=_
 rw[q,Tj]
def ZU {env:Env}(hf:env.scope.kind= .function):∀{names:oj (Str×VW)}{x:Str},names.lookup x=u_ .free->env.kindOf x=u_ .cell->
  (names.map λ(n,k)=>if(k==VB&&env.scope.kind== .function&&env.kindOf n==u_ .cell) then(n,Gj) else(n,k)).lookup x=u_ .cell
 | [],_,h,_=>by simp at h
 |(n,k)::r,x,h,hc=>by
  have ih:= @ZU env hf r x;show VG x ((if(k==VB&&env.scope.kind== .function&&env.kindOf n==u_ .cell)=v_ then(n,Gj) else(n,k))::_)=_
  cases O:x==n with
  |true=>
   simp![vk,O] at h;cases h;have aa:x=n:=beq_iff_eq.mp O;subst aa;rw[A6 (by rw[hf,hc];rfl)]
   simp[vk]
  |false=>
   simp![vk,O] at h;by_cases U:(k==VB&&env.scope.kind== .function&&env.kindOf n==u_ .cell)=v_
   .rw[A6 U];simp![vk,O];exact ih h hc
   .rw[A4 U];simp![vk,O];exact ih h hc
def wA {env:Env}:∀{names:oj (Str×VW)}{x:Str},(∀y>names,y.2≠ .cell)->
  ((names.map λ(n,k)=>if(k==VB&&env.scope.kind== .function&&env.kindOf n==u_ .cell) then(n,Gj) else(n,k)).lookup x=u_ .cell\/
   (names.map λ(n,k)=>if(k==VB&&env.scope.kind== .function&&env.kindOf n==u_ .cell) then(n,Gj) else(n,k)).lookup x=u_ .free)->(x,VB)>names
 | [],_,_,h=>by simp at h
 |(n,k)::r,x,hn,h=>by
  have ih:= @wA env r x (λy hy=>hn y (uc _ hy));have g:VG x ((if(k==VB&&env.scope.kind== .function&&env.kindOf n==u_ .cell)=v_ then(n,Gj) else(n,k))::(r.map λ(n,k)=>if(k==VB&&env.scope.kind== .function&&env.kindOf n==u_ .cell) then(n,Gj) else(n,k)))=u_ .cell\/
   VG x ((if(k==VB&&env.scope.kind== .function&&env.kindOf n==u_ .cell)=v_ then(n,Gj) else(n,k))::(r.map λ(n,k)=>if(k==VB&&env.scope.kind== .function&&env.kindOf n==u_ .cell) then(n,Gj) else(n,k)))=u_ .free:=h
  have aa:k≠ .cell:=hn (n,k) uf;by_cases hc:(k==VB&&env.scope.kind== .function&&env.kindOf n==u_ .cell)=v_
  .rw[A6 hc] at g;have hk:k= .free:=by
    rw[uC,uC] at hc
    simpa using hc.1.1
   subst hk;cases U:x==n with
   |true=>
    have O:x=n:=beq_iff_eq.mp U;subst O;exact uf
   |false=>
    simp![vk,U] at g;exact uc _ (ih g)
  .rw[A4 hc] at g;cases U:x==n with
   |true=>
    have O:x=n:=beq_iff_eq.mp U;subst O;simp![vk,U] at g;rcases g with g|g
    .exact A8 (uJ g) aa
    .rw[show k=VB from uJ g]
     exact uf
   |false=>
    simp![vk,U] at g;exact uc _ (ih g)
nonrec abbrev blk (X:Cx)(scope:VA)(Nb:oj Str)(cl:oj (Str×o3))(C:o3)(s₀:o7)(H₀:Hp)(fp:oj o3)(pn:oj (o3×Obj)):Cx:=
 {X with N:=Nb,s₀:=s₀,H₀:=H₀,env:=tQ scope cl C X.env,outer:=X.stack,ex:=fp,fn:=λ_=>Vg,pn:=pn,xe:=λ_ _=>False}
structure LcS (X:Cx)(scope:VA)(Nb:oj Str)(nt:Nat)(fr:oj Nat):Prop where
 kind:scope.kind= .function
 cell:∀y>scope.names,y.2≠ .cell
 names:∀y>scope.names,y.2= .local->scope.names.lookup y.1=u_ .local
 free:∀y>scope.names,y.2= .free->X.env.kindOf y.1=u_ .cell
 len:↑Nb=nt+↑fr
 fr:∀(k j:Nat) (x:Str),fr[k]? =u_ j->Nb[nt+k]? =u_ x->X.N[j]? =u_ x/\scope.names.lookup x=u_ .free
abbrev OP (nt:Nat)(fr:oj Nat)(σ:St):St:=tu nt U_++fr.map λj=>(σ[j]?).join
variable {h h':o8}{C:o3}
def HOk.sameBut {P:o9}(ok:HOk P w H h)(hn:H C=U_)(U:VS C h h'):HOk P w H h':=λb ob e=>by
 refine(ok b ob e).stay (λc w' O q=>(U.2 c ?_).trans q) (λ_ q=>q) λ_ _ q=>q;rintro rfl;rcases O with rfl|O
 .rw[hn] at e;cases e
 .rw[hn] at O;cases O
section
variable {pr:o9}{wo:og}{ar:oh}{RR:Gy->o7->Prop}{st:o7}
nonrec abbrev nb (pr:o9)(wo:og)(ar:oh)(en:Env)(RR:Gy->o7->Prop):o6->o7->Prop:=notedBy (Vu pr wo) ar en λx t=>RR (.error x) t
nonrec abbrev Aei (en:Env)(cs:oj Expr):Sem Bool:=G9 cs v_ λc b=>if b=v_ then do let y<-isTrue c en (eval c en);pure (GY y) else pure (GY b)
def AN {el tg aa:Expr}{cs:oj Expr}{sc:VA}{ps:Pos}{O U:o6}{en:Env}(J:Nat->o7->Prop)
  (ac:∀k t,J k t->Vh (Vu pr wo) ar (VO O) (λr t1=>match r with
   |none=>RR (.ok .next) t1
   |some v=>Vh (Vu pr wo) ar (HR tg O v) (λ_ t2=>Vh (Vu pr wo) ar (Gn tg en v) (λ_ t3=>Vh (Vu pr wo) ar (Aei en cs) (λb t4=>
     if b=v_ then Vh (Vu pr wo) ar (eval el en) (λx t5=>Vh (Vu pr wo) ar (call (.builtin "list.append") [U,x]) (λ_ t6=>∃m,m<k/\J m t6) (nb pr wo ar en RR) t5) (nb pr wo ar en RR) t4
     else∃m,m<k/\J m t4) (nb pr wo ar en RR) t3) (nb pr wo ar en RR) t2) (nb pr wo ar en RR) t1) (nb pr wo ar en RR) t)
  (k:Nat) (h0:J k st):VM (Vu pr wo) ar (.compLoop (.ListComp el [⟨tg,aa,cs,(0)⟩] sc ps) 0 O U en) RR st:=by
 refine codeAny_loop rfl J (λk t hJ=>?_) k h0;show Vh _ ar ((compTurn (.ListComp el [⟨tg,aa,cs,(0)⟩] sc ps) 0 O U en).onRaise λx=>do Fu x en;theTreesLotGoes x) _ _ t
 rw[compTurn_list];refine wpAny_noted (A7 (HC (A7 (thn (ac k t hJ) λr t1 q1=>?_))));cases r with
 |none=>exact uw q1
 |some v=>
  refine A7 (thn q1 λ_ t2 q2=>A7 (thn q2 λ_ t3 q3=>A7 (thn q3 λb t4 q4=>?_)));cases b with
  |false=>exact uw [1:q4]
  |true=>exact A7 (A7 (thn q4 λx t5 q5=>A7 (thn q5 λ_ t6 q6=>uw (uw [1:q6]))))
end
abbrev AcC (X:Cx)(ifs:oj Expr)(t:TT):Prop:=
 ∀(oq:oj (o3×Obj)) (s:o7) (σ:St) (H:Hp) (Q:Bool->Hp->Prop),#[I]->t σ H Q->Vh #[X,X] X.A (Aei X.env ifs) (TP X oq σ Q) X.xe s
abbrev nN:TT:=λ_ H Q=>Q v_ H
def yq {X:Cx}:AcC X [] nN:=λ_ _ _ H _ I h=>wpAny_tests_nil [H:I:h]
def O7 {X:Cx}{c:Expr}{t:TT}(h:PT X c t):AcC X [c] t:=λoq s σ H Q I O=>wpAny_tests_one (h oq s σ H Q I O)
abbrev CQ (D:o3)(J:It)(g:TG)(tc:TT)(te:TE)(σb:St)(H1:Hp)(Q:VK):Prop:=
 ∃(n:Nat) (W:Nat->St->oj V->Hp->Prop),n<=Vk/\W 0 σb [] (upd H1 D (.lst []))/\
  (∀i σ ys H,i<n->W i σ ys H->H D=u_ (.lst ys)->↑ys<=i->J.go i H/\∀x H',J.yld i H x H'->g x σ H' λσ2 H2=>tc σ2 H2 λb H3=>
   if b=v_ then te σ2 H3 λy H4=>H4 D=u_ (.lst ys)/\W (i+1) σ2 (ys++ [y]) (upd H4 D (.lst (ys++ [y]))) else H3 D=u_ (.lst ys)/\W (i+1) σ2 ys H3)/\
  ∀σ ys H,W n σ ys H->H D=u_ (.lst ys)->J.stop n H/\Q (-D) H
abbrev tLC (nt:Nat)(fr:oj Nat)(wi:TI)(g:TG)(tc:TT)(te:TE):TE:=λσ H Q=>wi σ H λJ H1=>∀D,H1 D=U_->CQ D J g tc te (OP nt fr σ) H1 Q
section
variable {X:Cx}{scope:VA}{Nb:oj Str}{nt:Nat}{fr:oj Nat}
def SN {oq:oj (o3×Obj)}{σ:St}{H:Hp}{s:o7}{fp:oj o3}{C:o3}{h4:o8}{tk:Nat}(S:LcS X scope Nb nt fr)(I:#[I])(hC:C=#[0,s])
  (ah:h4.Ns C λ_=>U_) (U:∀b o,s.heap.get? b=u_ o->h4.get? b=u_ o) (hf:∀b>fp,AX X oq H b) (ho:∀b>fp,∃o,s.heap.get? b=u_ o) (ht:0<tk:=by ac_rfl):
  Inv (blk X scope Nb (ny X.env.cells scope.names []) C s H fp (X.pn++oq)) [] (OP nt fr σ) H {s with heap:=h4,toks:=tk}:=by
 subst hC;have sub:∀y c,(ny X.env.cells scope.names []).lookup y=u_ c->X.env.cells.lookup y=u_ c:=KB λy c e=>by simp at e
 have aa:∀y,(y,VB)>scope.names->X.env.kindOf y=u_ .cell:=λy hy=>S.free _ hy rfl;have ae:∀b o,s.heap.get? b=u_ o->b≠#[0,s]:=λb o e z=>by rw[z] at e;exact A8 (uF e) (vL _)
 have O:∀b,b≠X.env.locals->b∉X.fs->b∉frs X.stack:=λb h1 h2 z=>(Aa.mp (I.stkSub b z)).elim h1 h2;exists ⟨I.ok.mod,S.kind,I.ok.glob,I.ok.blt,uj _,λx y c h1 h2=>I.ok.inj x y c (sub x c h1) (sub y c h2),λx hx=>?_,λx c z=>(by cases z),I.ok.hd,I.ok.frames,.inl rfl,λb hb=>?_,I.bs,uZ I.ok.bsz I.sz,λb o e hb=>?_,λb hb=>?_,I.stack,I.stkFree⟩,1,I.bare,Un.kept U,[_:ah:λi x v e1 e2 e3=>?_],λx c e=>?_,I.hok.fresh (uj _),λx c e=>I.freeC x c (sub x c e),λp hp=>?_,I.hok.kept U,?_,ht
 .have hm:=wA (env:=X.env) S.cell hx;exact KM hm (I.ok.has x (.inl (aa x hm)))
 .erw[ho b hb,o,e];exact[ae b o e:λx c e'=>(hf b hb).2.2.2.2.1 x c (sub x c e')]
 .rcases(hf b hb).2.2.2.1 with z|z
  .exact I.ok.noex b o e z
  .exact A8 (Vv (uF e) (uZ I.ok.bsz z)) (vL _)
 .exact O b (hf b hb).2.1 (hf b hb).2.2.1
 ·
  have hi:nt<=i:=by
   rcases V7 i nt with z|z
   .unfold OP at e2;rw[UF (by simpa using z),pk] at e2
    split at e2<;>cases e2
   .exact z
  obtain⟨k,rfl⟩:∃k,i=nt+k:=[i-nt:()]
  unfold OP at e2;rw[UD (by simp)] at e2
  simp![rm,Nat.add_sub_cancel_left,uG] at e2;cases ej:fr[k]? with
  |none=>rw[ej] at e2;cases e2
  |some j=>
   rw[ej] at e2;have ac:(σ[j]?).join=u_ v:=uJ e2;have af:σ[j]? =u_ (u_ v):=by
    cases q:σ[j]? with
    |none=>rw[q] at ac;cases ac
    |some z=>rw[q] at ac;exact A9 u_ ac
   erw[S.fr k j x ej e1,n1,n2];have kx:X.env.kindOf x=u_ .cell:=aa x (vJ n2);erw[I.loc,m,hn,hl];erw[hl j x v n1 af (.inr (.inl kx)),u,r,l];exists u,r,.inr [.inl (ZU I.ok.kind n2 kx):?_];rcases l with⟨z,_⟩|⟨_,c,ec,ad⟩
   .rw[kx] at z;cases z
   .erw[KM (cells:=X.env.cells) (cs:= []) (vJ n2) [c:ec],c',ag];have:=sub x c' ag;rw[ec] at this;cases this;erw[ad,o,q,d];exact⟨c,ag,o,U c o q,d⟩
 .erw[I.cell x c (sub x c e),v,o,q,d];exact⟨v,o,U c o q,d⟩
 .have ak:p>X.pn++oq:=by simpa using hp
  erw[I.pin p ak,e,n,ne,nf,d];exact⟨U _ _ e,n,ae _ _ e,O _ ne nf,d⟩
 .show(OP nt fr σ).length=↑Nb;unfold OP;rw[S.len];simp
def EG {tg ac am:Expr}{ao:oj Expr}{wi:TI}{g:TG}{tc:TT}{te:TE}{pos:Pos}{R:o6->o3->Gy->o7->Prop}{oq:oj (o3×Obj)}{s:o7}{σ:St}{H:Hp}{Q:VK}(S:LcS X scope Nb nt fr)(ap:X.calm=v_)(hi:PI X tg ac wi)
  (hg:∀cl C s₀ H₀ fp pn,PG (blk X scope Nb cl C s₀ H₀ fp pn) tg g) (hc:∀cl C s₀ H₀ fp pn,AcC (blk X scope Nb cl C s₀ H₀ fp pn) ao tc) (he:∀cl C s₀ H₀ fp pn,PE (blk X scope Nb cl C s₀ H₀ fp pn) am te)
  (I:#[I]) (h:tLC nt fr wi g tc te σ H Q)
  (hR:∀(D C:o3) (H':Hp) (s1:o7) (m:Str->om o6),Inv X oq σ H' s1->s1.heap.Ns C m->AX X oq H' C->Q (-D) H'->R (-D) C (.ok .next) s1):
  Vh #[X,X] X.A (eval ac X.env) (λx s₁=>Vh #[X,X] X.A (HY x) (λit s₂=>Vh #[X,X] X.A (HV []) (λay s₃=>
   Vh #[X,X] X.A (TQ scope X.env.globals (ny X.env.cells scope.names []) [] X.env.qual U_ .none (u_ X.env)) (λah s₄=>
    VM #[X,X] X.A (.compStart (.ListComp am [⟨tg,ac,ao,(0)⟩] scope pos) 0 it ay {ah with scope:=relabel scope X.env}) (R ay ah.locals) s₄) X.xe s₃) X.xe s₂) X.xe s₁) X.xe s:=by
 refine thn (hi oq s σ H _ I h) λv s1 h1=>thn h1 λaT s2 h2=>?_;erw[h2,it,fp,tn,J,H2,e,I2,T,aq,f2,q2];subst e;have aA:H2 #[0,s2]=none:=I2.hok.fresh (uj _);erw[q2 _ aA,n,W,hn,w0,step,fin];generalize hD:#[0,s2]=D at*;refine vy ?_;rw[hD];have I3:Inv X oq σ (upd H2 D (.lst [])) {s2 with heap:=s2.heap.push {cls:= .type "list",data:= .seq ([]:oj o6).toArray}}:=by
  have:=I2.lnew (ys:= []) (its:= []) (t':=s2.toks) .nil (uS _);rwa[hD] at this
 refine wpAny_newFunctionEnv S.cell (by intro y hy;simp at hy) (λh4 ae au=>?_) S.kind
 dsimp only at ae au⊢;generalize aB:s2.heap.push {cls:= .type "list",dict:=U_,data:= .seq ([]:oj o6).toArray}=h3 at ae au I3⊢;have hC:h3.objs.size=D+1:=by rw[<-aB,vm,hD]
 have af:∀b o,h3.get? b=u_ o->h4.get? b=u_ o:=λb o e=>au.extBut b o (uP (uF e)) (ub _ e);have aa:∀b o,s2.heap.get? b=u_ o->h3.get? b=u_ o:=λb o e=>by rw[<-aB];exact ub _ e
 have aw:∀b>fp,∃o,s2.heap.get? b=u_ o:=λb O=>let⟨o,e,_⟩:=T.obj _ _ aq b O;[o:e];have aH:∀b>fp,b≠D:=λb O z=>by
  erw[aw b O,o,e];have q:=uF e;rw[z,hD] at q;exact vL _ q
 have f3:∀b>fp,AX X oq (upd H2 D (.lst [])) b:=λb O=>⟨by rw[qj (aH b O)];exact(f2 b O).1,(f2 b O).2⟩
 have IB:=SN (C:=h3.objs.size) (h4:=h4) (tk:=s2.toks+↑([]:oj (Str×o6))) (fp:=fp) S I3 rfl ae af f3 λb O=>let⟨o,e⟩:=aw b O;[o:aa b o e];generalize U:blk X scope Nb (ny X.env.cells scope.names []) h3.objs.size {s2 with heap:=h3} (upd H2 D (.lst [])) fp (X.pn++oq)=Xb at IB
 have gB:=hg (ny X.env.cells scope.names []) h3.objs.size {s2 with heap:=h3} (upd H2 D (.lst [])) fp (X.pn++oq)
 have cB:=hc (ny X.env.cells scope.names []) h3.objs.size {s2 with heap:=h3} (upd H2 D (.lst [])) fp (X.pn++oq)
 have eB:=he (ny X.env.cells scope.names []) h3.objs.size {s2 with heap:=h3} (upd H2 D (.lst [])) fp (X.pn++oq)
 rw[U] at gB cB eB;have xP:Xb.prog=X.prog:=by rw[<-U]
 have xW:Xb.w=X.w:=by rw[<-U]
 have xK:Xb.K=X.K:=by rw[<-U]
 have xA:Xb.A=X.A:=by rw[<-U]
 have xC:Xb.calm=true:=by rwa[<-U]
 have xE:Xb.env=tQ scope (ny X.env.cells scope.names []) h3.objs.size X.env:=by rw[<-U]
 have xX:Xb.xe=λ_ _=>False:=by rw[<-U]
 have ag:∀{H':Hp},(∀b>fp,H' b=U_)->∀b>fp,AX Xb [] H' b:=λhn b O=>by
  erw[f2 b O,g1,g2,g3,g4,g5,g6];erw[aw b O,o,e];subst U;exists hn b O,λz=>?_,λz=>(Aa.mp (I2.stkSub b z)).elim g2 g3,.inl O,λx c ec=>g5 x c (KB (λy c e=>by simp at e) x c ec),λp hp=>g6 p (by simpa using hp)
  have ad:=uF (aa b o e);have z':b=h3.objs.size:=z;rw[z'] at ad;exact vL _ ad
 have ak:∀s5:o7,s5={s2 with heap:=h4,toks:=s2.toks+↑([]:oj (Str×o6))}->
   VM #[X,X] X.A (.compLoop (.ListComp am [⟨tg,ac,ao,(0)⟩] scope pos) 0 (-it) (-D) (tQ scope (ny X.env.cells scope.names []) h3.objs.size X.env))
    (R (-D) h3.objs.size) s5:=by
  rintro s5 rfl;refine AN (λk s'=>∃i σ' ys H',Inv Xb [] σ' H' s'/\tn i s'.heap/\(∀b>fp,H' b=U_)/\H' D=u_ (.lst ys)/\i<=n/\k=n-i/\↑ys<=i/\W i σ' ys H') ?_ n
   ⟨(0),OP nt fr σ,[],_,IB,T.keep _ _ _ aq λb O o e=>af b o (aa b o e),λb O=>(f3 b O).1,qg,uS _,1,uj _,w0⟩
  rintro k s' ⟨i,σ',ys,H',I',aC,aD,aE,aI,rfl,aJ,w'⟩;rcases V7 i n with ad|aK
  .erw[step i σ' ys H' ad w' aE aJ,go,next];have ti:=T.item Xb xP xW xK xC i [] s' σ' H' (λ_ _=>False) I' (ag aD) aC go;rw[xA] at ti;refine vg ti (λr s1 h1=>?_) λ_ _ z=>z.elim;erw[h1,u,rfl,h1];refine vg h1 (λ_ aF aL=>?_) λ_ _ z=>z.elim;erw[aL,x,H5,I5,r5,y5,ax,aM];have aN:=I5.pinned (ag aM) (T.obj _ _ ax);have ga:=gB _ aF σ' H5 x u _ aN r5 (next x H5 y5);rw[xP,xW,xA,xE,xX] at ga;refine vg ga (λ_ s3 aO=>?_) λ_ _ z=>z.elim;erw[aO,σ6,H6,I6,q6];have ca:=cB _ s3 σ6 H6 _ I6 q6;rw[xP,xW,xA,xE,xX] at ca;refine vg ca (λok s4 aP=>?_) λ_ _ z=>z.elim;erw[aP,H7,I7,q7];have al:∀{σ8:St}{H8:Hp}{s8:o7},Inv Xb ([]++oC fp aF.heap) σ8 H8 s8->Inv Xb [] σ8 H8 s8/\tn (i+1) s8.heap/\∀b>fp,H8 b=none:=λ{σ8 H8 s8} I8=>by
    exists I8.unpinned,T.keep _ _ _ ax λb O o e=>(I8.pin (b,o) (uN _ (uN _ (J6 O e)))).1,λb O=>?_;erw[T.obj _ _ ax b O,o,e,d];exact(I8.pin (b,o) (uN _ (uN _ (J6 O e)))).2.1
   cases ok with
   |false=>
    rw[A4 u8] at q7⊢;erw[al I7,b1,b2,b3];exact⟨n-(i+1),(),i+1,σ6,ys,H7,b1,b2,b3,q7.1,ad,1,(),q7.2⟩
   |true=>
    rw[A6 rfl] at q7⊢;have ea:=eB _ s4 σ6 H7 _ I7 q7;rw[xP,xW,xA,xE,xX] at ea;refine vg ea (λy s5 h5=>?_) λ_ _ z=>z.elim;erw[h5,yv,H8,I8,r8,aQ,q8];have ma:=YH (X:=Xb) _ s5 σ6 H8 (-D) [yv] (-D) [y] (λ_ H9=>H9=upd H8 D (.lst (ys++ [yv]))) I8 rfl (.cons r8 .nil) ⟨D,ys,yv,1,1,aQ,(),1⟩
    rw[xP,xW,xA,xX] at ma;refine vg ma (λ_ s6 h6=>?_) λ_ _ z=>z.elim;erw[h6,_,H9,I9,_,rfl];erw[al I9,b1,b2,b3];exact⟨n-(i+1),(),i+1,σ6,ys++ [yv],_,b1,b2,b3,qg,ad,1,by rw[uI,U6];omega,q8⟩
  .have aG:i=n:=Nat.le_antisymm aI aK;subst aG;erw[fin σ' ys H' w' aE,stop,hq];have td:=T.done Xb xP xW xK xC i [] s' σ' H' (λ_ _=>False) I' (ag aD) aC stop;rw[xA] at td;refine vg td (λr s1 h1=>?_) λ_ _ z=>z.elim;erw[h1,rfl,I6];erw[id I6.loc,m,hm,_];rw[xE] at hm;have aR:H' h3.objs.size=none:=by have:=I6.free;rwa[xE] at this
   have u6:Un (frs X.stack) fp (upd H2 D (.lst [])) H' h3 s1.heap:=by have:=I6.base;subst U;exact this
   have u2:Un (frs X.stack) fp H2 (upd H2 D (.lst [])) s2.heap h3:=Un.laid (λb o e=>aa b o e) (by rw[hD];exact uj _) aA
   have aS:s1.os=s2.os:=by have:=I6.os;subst U;exact this
   have hok:HOk X.prog X.w H' s1.heap:=by
    have:=I6.hok;subst U;exact this
   refine hR D h3.objs.size H' s1 m (I2.call' (s':=s1) (ch:=fp) aS (u2.trans u6) hok I6.bare λb O=>?_) hm (I2.fpOk () aR) hq
   erw[f2 b O,g1,g2,g3,g4,g5,g6];exact⟨g4,g2,g5,g6⟩
 exact codeAny_compStart_list (ak _ rfl) (T.self _ 0 _ _ _ (T.keep _ _ _ aq λb O o e=>af b o (aa b o e)) (ak _ rfl))
def zd {tg O ac:Expr}{ad:oj Expr}{wi:TI}{g:TG}{tc:TT}{te:TE}{pos:Pos}(S:LcS X scope Nb nt fr)(U:X.calm=v_)(hi:PI X tg O wi)
  (hg:∀cl C s₀ H₀ fp pn,PG (blk X scope Nb cl C s₀ H₀ fp pn) tg g) (hc:∀cl C s₀ H₀ fp pn,AcC (blk X scope Nb cl C s₀ H₀ fp pn) ad tc) (he:∀cl C s₀ H₀ fp pn,PE (blk X scope Nb cl C s₀ H₀ fp pn) ac te)
  (hs:∀x,To O X.env x=pure x):PE X (.ListComp ac [⟨tg,O,ad,(0)⟩] scope pos) (tLC nt fr wi g tc te):=by
 exists 2,Q,I,h;have aa:tL scope X.env=pure (ny X.env.cells scope.names []):=kP λy hy=>I.ok.has y (.inl (S.free _ hy rfl));rw[eval_ListComp];refine Rh (use:=U_) rfl hs aa S.kind S.names ?_;refine EG (R:=λae C=>compPost #[X,X] X.A X.xe U_ (EP X oq σ Q) ae C) S U hi hg hc he I h λD C H' s1 m I1 hm fc q=>?_;erw[fc,f0,f1,f2,f3,f4,f5];exact[m:hm:λh' af=>⟨-D,H',I1.turned (t':=s1.toks) (it:=C) (λb o hb e=>(af.2 b hb).trans e) f0 f1 f3 f4 f5,1,q⟩]
def By {i:Nat}{y:Str}{tg O U:Expr}{aa:oj Expr}{wi:TI}{g:TG}{tc:TT}{te:TE}{pos ac py:Pos}(hN:X.N.Nodup)(af:X.N[i]? =u_ y)(hy:Loc X.env.scope y)(S:LcS X scope Nb nt fr)(ad:X.calm=v_)(hi:PI X tg O wi)
  (hg:∀cl C s₀ H₀ fp pn,PG (blk X scope Nb cl C s₀ H₀ fp pn) tg g) (hc:∀cl C s₀ H₀ fp pn,AcC (blk X scope Nb cl C s₀ H₀ fp pn) aa tc) (he:∀cl C s₀ H₀ fp pn,PE (blk X scope Nb cl C s₀ H₀ fp pn) U te)
  (hs:∀x,To O X.env x=pure x) (ag:GG (.ListComp U [⟨tg,O,aa,(0)⟩] scope pos) (u_ (.Name y py)) ac.line X.env=pure v_)
  (hf:X.fn y=v_\/X.env.scope.names.lookup y=u_ .local):
  PS X (.Assign [.Name y py] (.ListComp U [⟨tg,O,aa,(0)⟩] scope pos) ac) (Adl (tLC nt fr wi g tc te) (YR i)):=by
 exists 2,D,I,h;have ae:tL scope X.env=pure (ny X.env.cells scope.names []):=kP λy hy=>I.ok.has y (.inl (S.free _ hy rfl));rw[exec_Assign_Name_used _ _ _ _ ag];refine A7 (HC (A7 ?_));show Vh _ X.A (do let _<-comprehension (.ListComp U [⟨tg,O,aa,(0)⟩] scope pos) scope X.env _ (HV []) Vg (eval O X.env) (u_ (Gn (.Name y py) X.env))) _ _ s
 refine A7 (vg (Rh (use:=u_ (Gn (.Name y py) X.env)) (Q:=λ_ s'=>SP X oq D .next s') rfl hs ae S.kind S.names ?_) (λ_ s' hq=>uw (uw hq)) λ_ _ e=>e);refine EG (R:=λah C=>compPost #[X,X] X.A X.xe (u_ (Gn (.Name y py) X.env)) (λ_ s'=>SP X oq D .next s') ah C) S ad hi hg hc he I h λA C H' s1 m I1 hm fc q=>?_;erw[fc,f0,f1,f2,f3,f4,f5];show Vh _ X.A (Gn (.Name y py) X.env (-A)) _ _ s1;refine Rg (nT (v:=-A) I1 hN af hy (show ik (-A) (-A) from rfl) (λs' I' zq=>?_) hf);erw[zq,a,sb,ha]
 have ak:C≠a:=by
  rcases ha with rfl|ha
  .exact f1
  .exact λz=>f4 y a ha z.symm
 refine[m:hm.sameBut sb ak:λh' al=>⟨_,H',I'.turned (t':=s'.toks) (it:=C) (λb o hb e=>(al.2 b hb).trans e) f0 f1 f3 f4 f5,q⟩]
end
def SG {X:Cx}{sc:VA}{x:Str}(O:sc.kind= .function:=by rfl)(U:∀y>sc.names,y.2≠ .cell:=by decide+kernel)(hn:∀y>sc.names,y.2= .local->sc.names.lookup y.1=u_ .local:=by decide+kernel)
  (hf:∀y>sc.names,y.2≠ .free:=by decide+kernel):LcS X sc [x] 1 []:=⟨O,U,hn,λy hy e=>A8 e (hf y hy),1,λk j x h=>by simp at h⟩
def Me {X:Cx}{sc:VA}{Nb:oj Str}{nt:Nat}{fr:oj Nat}(O:VA)(U:oj Str)(hX:X.env.scope=O:=by rfl)(hN:X.N=U:=by rfl)(hk:sc.kind= .function:=by rfl)(hc:∀y>sc.names,y.2≠ .cell:=by decide+kernel)
  (hn:∀y>sc.names,y.2= .local->sc.names.lookup y.1=u_ .local:=by decide+kernel) (hf:∀y>sc.names,y.2= .free->O.names.lookup y.1=u_ .cell:=by decide+kernel) (hl:↑Nb=nt+↑fr:=by rfl)
  (hz:((fr.zip (Nb.drop nt)).all λp=>decide (U[p.1]? =u_ p.2)&&decide (sc.names.lookup p.2=u_ .free))=true:=by decide+kernel):LcS X sc Nb nt fr:=by
 subst hX hN;exists hk,hc,hn,hf,hl,λk j x h1 h2=>?_;have hm:(fr.zip (Nb.drop nt))[k]? =u_ (j,x):=by
  rw[List.getElem?_zip_eq_some];exact⟨h1,by rwa[List.getElem?_drop]⟩
 have q:=List.all_eq_true.mp hz _ (uQ hm);rw[uC] at q;exact[um q.1:um q.2]
def AbY {z:Str}{D:o3}{H1:Hp}{te:TE}{tl:St}{Q:VK}(f:Nat->V)(hz:↑z<=Vk)(hD:H1 D=U_)
  (O:∀(i c:Nat) H (R:VK),z.cps[i]? =u_ c->ig H1 H->R (f c) H->te (u_ (.str ⟨#[c]⟩)::tl) H R)
  (hQ:∀H',ig H1 H'->H' D=u_ (.lst (z.cps.toList.map f))->Q (-D) H'):CQ D (Its z) (YR 0) nN te (U_::tl) H1 Q:=by
 exists z.cps.size,λi σ ys H=>(∃w,σ=w::tl)/\ys=(z.cps.toList.take i).map f/\ig H1 H,hz,[[U_:1]:1:qf hD _],?_,?_
 .rintro i σ ys H hi ⟨⟨w,rfl⟩,rfl,sm⟩ U hy;exists hi;rintro x H' ⟨rfl,c,hc,rfl⟩;dsimp![YR,nN,Go];rw[A6 rfl];refine O i c H' _ hc sm ⟨U,[u_ (.str ⟨#[c]⟩):1],?_,?_⟩
  .rw[vn,show z.cps.toList[i]? =u_ c by simpa using hc]
   simp
  .intro b o e;rw[qj (qk e hD)];exact sm b o e
 .rintro σ ys H ⟨_,rfl,sm⟩ U;exists 1,hQ H sm ?_;rw[U,vq (by simp)]
inductive IsT (H:Hp)(p:List V->Prop)(v:V):Prop
 |mk (a:Addr)(vs:List V)(_:v=-a)(_:H a=u_ (¬vs))(_:p vs)
inductive IsC (p:V->Prop)(q:List V->Prop)(vs:List V):Prop
 |mk (v:V)(r:List V)(_:vs=v::r)(_:p v)(_:q r)
mutual
noncomputable def Is (H:Hp):D->V->Prop
 | .non,v=>v= .non
 | .bl b,v=>v= .bl b
 | .int i,v=>v= .int i
 | .str z,v=>v= .str z/\↑z<=Vk
 | .lst,v=>∃a xs,v= .ref a/\H a=u_ (.lst xs)
 | .dct,v=>∃a kvs,v= .ref a/\H a=u_ (.dK kvs)
 | .tup xs,v=>IsT H (IsL H xs) v
noncomputable def IsL (H:Hp):oj D->oj V->Prop
 | [],vs=>vs= []
 |x::xs,vs=>IsC (Is H x) (IsL H xs) vs
end
structure Tk (H H':Hp):Prop where
 tup:∀b xs,H b=u_ (¬xs)->H' b=u_ (¬xs)
 lst:∀b xs,H b=u_ (.lst xs)->∃ys,H' b=u_ (.lst ys)
 dct:∀b xs,H b=u_ (.dK xs)->∃ys,H' b=u_ (.dK ys)
def ig.tk (s:ig H H'):Tk H H':=[λb xs e=>s b _ e:λb xs e=>[xs:s b _ e]:λb xs e=>[xs:s b _ e]]
def Tk.refl (H:Hp):Tk H H:=(ig.refl H).tk
def Tk.trans (a:Tk H H1)(b:Tk H1 H2):Tk H H2:=⟨λc xs e=>b.tup c xs (a.tup c xs e),λc xs e=>let⟨ys,e1⟩:=a.lst c xs e;b.lst c ys e1,λc xs e=>let⟨ys,e1⟩:=a.dct c xs e;b.dct c ys e1⟩
variable {xs ys:oj V}
def lQ.tk (k:lQ p H H')(h:H p=u_ (.lst xs))(h':H' p=u_ (.lst ys)):Tk H H':=by
 exists λb zs e=>k b _ e λz=>?_,λb zs e=>?_,λb zs e=>[zs:k b _ e λz=>?_]
 .rw[z,h] at e;cases e
 .by_cases z:b=p
  .exact[ys:z▸h']
  .exact[zs:k b _ e z]
 .rw[z,h] at e;cases e
mutual
theorem Is.mono {H H':Hp}(t:Tk H H'):∀{d:D}{v:V},Is H d v->Is H' d v
 | .non,_,h=>h
 | .bl _,_,h=>h
 | .int _,_,h=>h
 | .str _,_,h=>h
 | .lst,_,h=>by
  erw[h,a,vs,e,ha];erw[t.lst a vs ha,ys,q];exact⟨a,ys,e,q⟩
 | .dct,_,h=>by
  erw[h,a,vs,e,ha];erw[t.dct a vs ha,ys,q];exact⟨a,ys,e,q⟩
 | .tup xs,_,h=>by
  erw[h,a,vs,e,ha,O];exact⟨a,vs,e,t.tup a vs ha,IsL.mono t O⟩
theorem IsL.mono {H H':Hp}(t:Tk H H'):∀{ds:oj D}{vs:oj V},IsL H ds vs->IsL H' ds vs
 | [],_,h=>h
 |_::_,_,h=>by
  erw[h,v,r,e,h1,h2];exact⟨v,r,e,Is.mono t h1,IsL.mono t h2⟩
end
def IsL.length {H:Hp}:∀{ds:oj D}{vs:oj V},IsL H ds vs->↑vs=↑ds
 | [],_,h=>by cases(show _= [] from h);rfl
 |_::_,_,h=>by
  erw[h,v,r,rfl,_,h2];rw[ui,ui,IsL.length h2]
def IsL.get {H:Hp}:∀{ds:oj D}{vs:oj V}{i:Nat}{d:D},IsL H ds vs->ds[i]? =u_ d->∃v,vs[i]? =u_ v/\Is H d v
 | [],_,_,_,_,e=>by simp at e
 |x::_,_,0,d,h,e=>by
  erw[h,v,r,rfl,h1,_];have:x=d:=by simpa using e
  exact[v:1:this▸h1]
 |_::_,_,i+1,d,h,e=>by
  erw[h,v,r,rfl,_,h2];obtain⟨u,O,e2⟩:=IsL.get (i:=i) (d:=d) h2 (by simpa using e)
  exact⟨u,by simpa using O,e2⟩
def IsL.append {H:Hp}:∀{ds es:oj D}{vs us:oj V},IsL H ds vs->IsL H es us->IsL H (ds++es) (vs++us)
 | [],_,_,_,h,k=>by cases(show _= [] from h);exact k
 |_::_,_,_,_,h,k=>by
  erw[h,v,r,rfl,h1,h2];exact⟨v,0,h1,IsL.append h2 k⟩
variable {v:V}
def IsL.one {d:D}(h:Is H d v):IsL H [d] [v]:=⟨v,[],1,h,1⟩
variable {ds:oj D}
def Is.new {vs:oj V}(h:IsL H ds vs)(O:H p=U_):Is (upd H p (¬vs)) (¬ds) (-p):=
 ⟨p,vs,1,qg,h.mono (qf O _).tk⟩
abbrev tyD:D->o6
 | .non=> .type "NoneType"
 | .bl _=> .type "bool"
 | .int _=> .type "int"
 | .str _=> .type "str"
 | .lst=> .type "list"
 | .dct=> .type "dict"
 | .tup _=> .type "tuple"
def Is.ty {d:D}(h:Is H d v):AW K H v (tyD d):=by
 cases d with
 |non=>cases(show v= .non from h);exact .non
 |bl b=>cases(show v= .bl b from h);exact .bl b
 |int i=>cases(show v= .int i from h);exact .int i
 |str z=>
  erw[h,rfl,_];exact !z
 |lst=>
  erw[h,a,vs,rfl,ha];exact .lst ha
 |dct=>
  erw[h,a,vs,rfl,ha];exact .dK ha
 |tup xs=>
  erw[h,a,vs,rfl,ha,_];exact ¬ha
section
variable {X:Cx}
def D8:OpR X (Vs .Gt) (λx y H Q=>∃i j,x= .str i/\y= .str j/\Q (.bl (decide (j.cps.toList<i.cps.toList))) H):=by
 exists 2,x,y,v,u,Q,I,O,U,h;erw[h,i,j,rfl,rfl,q];erw[O,t,rfl];erw[U,t',rfl];exact PySem.P.gt_str (Ql I q rfl)
def sM (hc:X.calm=v_):Y3 X (.builtin "sum") (λxs H Q=>∃(p:o3) (ns:oj Int),xs= [-p]/\SqL X.K H p (ns.map V.int)/\Q (.int ns.sum) H):=by
 exists 2,xs,us,Q,I,r,h;erw[h,p,ns,rfl,hp,q];erw[xi r,u,rfl,ru];cases ru;erw[I.list hp,its,rv,pl,hz];have hi:GJ its ns:=CU rv;erw[hi.allInts.items,ys,U];have O:s.heap.IsList p (intItems ys):=U▸pl.isList;refine uW (n:=1) I.tk (sum_intListG (I.ok.hd hc) O λh' tk t' hk=>?_);intro htk;have e1:ns=ys.toList.map (·.1):=by
  have q1:=hi.numsOf;rw[<-nums_intItems,<-U];exact(show numsOf its.toArray.toList=ns from q1).symm
 have e2:preSum (numAt ys) ys.size=ns.sum:=by
  rw[preSum_eq,vq (by simp),e1]
 rw[e2];exact⟨.int ns.sum,H,I.kept hk,[t':1],q⟩
inductive Abp (K:PySem.W.Frag)(x:V)(y:V)(H:Hp)(Q:VK):Prop
 |mk (a:_)(b:_)(xs:_)(_:x=-a)(_:y=-b)(_:SqT K H a xs)(_:SqT K H b [])(_:Q (.bl xs.isEmpty) H)
def Kw (U:X.A.units<Vr):OpR X (Vs .Eq) (Abp X.K):=by
 exists 2,x,y,v,u,Q,I,rx,ry,h;erw[h,a,b,xs,rfl,rfl,ha,hb,q];cases rx;cases ry;erw[I.tuple ha,its,r,p,_];erw[I.tuple hb,O,r2,p2,_];cases r2;refine SeqAt.eq_tupleAt (e:=λ_=>v_) p p2 U (λj _ h2=>A8 h2 (UR _)) ⟨.bl xs.isEmpty,H,I,?_,q⟩;show GS _=GS _;cases r with
 |nil=>rfl
 |cons _ _=>simp
inductive DT (K:PySem.W.Frag)(x:V)(y:V)(H:Hp)(Q:VK):Prop
 |mk (a:_)(b:_)(xs:_)(ys:_)(_:x=-a)(_:y=-b)(_:SqT K H a xs)(_:SqT K H b ys)(_:↑xs+↑ys<=Vk)(_:(xs= []->Q (-b) H))(_:(xs≠ []->ys= []->Q (-a) H))(_:(xs≠ []->ys≠ []->∀p,H p=U_->Q (-p) (upd H p (.tup (xs++ys)))))
def Wi:OpR X (VJ .Add) (DT X.K):=by
 exists 2,x,y,v,u,Q,I,U,ry,h;erw[h,a,b,xs,ys,rfl,rfl,ha,hb,hz,q0,q1,q2];by_cases O:xs= []
 .cases U;cases ry;erw[I.tuple ha,its,r1,p1,_];erw[I.tuple hb,aa,r2,p2,_];subst O;cases r1;erw[id p1,[c1,d1,t1,l1],o1,e1,n1,f1];erw[id p2,[c2,d2,t2,l2],o2,e2,n2,f2];simp only at e1 f1 e2 f2;subst e1 f1 e2 f2;exact TJ p1.typeIs p2.typeIs TC T2 PySem.F.slot_tuple_add UN (UI _ _) (tuple_addW0 a b _ _ n1 n2 d1 d2 l1 l2 rfl) [o1:o2:⟨-b,H,I,1,q0 rfl⟩]
 .exact PB oq s σ H (-a) (-b) v u Q I U ry ⟨a,b,xs,ys,1,1,ha,hb,O,hz,q1 O,q2 O⟩
end
def Tk.updL (h:H p=u_ (.lst xs)):Tk H (upd H p (.lst ys)):=by
 exists λb zs e=>?_,λb zs e=>?_,λb zs e=>[zs:?_]
 .rw[qj (λz=>by rw[z,h] at e;cases e)];exact e
 .by_cases z:b=p
  .exact⟨ys,by rw[z];exact qg⟩
  .exact⟨zs,by rwa[qj z]⟩
 .rw[qj (λz=>by rw[z,h] at e;cases e)];exact e
def Aw {J:It}{A:o3}{H1:Hp}{te:TE}{tl:St}{Q:VK}{ds:oj D}(f:D->D)(hn:↑ds<=Vk)(hA:H1 A=U_)
  (aa:∀i H,ig H1 H->i<↑ds->J.go i H) (hy:∀i H x H' d,ig H1 H->ds[i]? =u_ d->J.yld i H x H'->H'=H/\Is H d x) (U:∀H,ig H1 H->J.stop ↑ds H)
  (ac:∀d x H (R:VK),d>ds->ig H1 H->Is H d x->(∀y H',ig H H'->Is H' (f d) y->R y H')->te (u_ x::tl) H R)
  (hQ:∀H' ys,ig H1 H'->H' A=u_ (.lst ys)->IsL H' (ds.map f) ys->Q (-A) H'):CQ A J (YR 0) nN te (U_::tl) H1 Q:=by
 exists ↑ds,λi σ ys H=>(∃w,σ=w::tl)/\IsL H ((ds.take i).map f) ys/\ig H1 H,hn,[[U_:1]:1:qf hA _],?_,?_
 .rintro i σ ys H hi ⟨⟨w,rfl⟩,hl,sm⟩ O ae;exists aa i H sm hi,λx H' y=>?_;erw[hy i H x H' ds[i] sm (uh hi) y,rfl,hx];dsimp![YR,nN,Go];rw[A6 rfl];refine ac ds[i] x H' _ (uT hi) sm hx λy' H4 s4 ad=>⟨s4 _ _ O,[u_ x:1],?_,λb o e=>?_⟩
  .have t:Tk H4 (upd H4 A (.lst (ys++ [y']))):=Tk.updL (s4 _ _ O);have e:(ds.take (i+1)).map f=(ds.take i).map f++ [f ds[i]]:=by
    rw[vn,uh hi,uq]
    rfl
   rw[e];exact((hl.mono s4.tk).mono t).append (IsL.one (ad.mono t))
  .rw[qj (qk e hA)];exact s4 b o (sm b o e)
 .rintro σ ys H ⟨_,hl,sm⟩ O;exists U H sm,hQ H ys sm O ?_;rwa[vq (uj _)] at hl
def Av {K:o0}{a A:o3}{H1:Hp}{te:TE}{tl:St}{Q:VK}{ds:oj D}{vs:oj V}(f:D->D)(ha:H1 a=u_ (¬vs))(U:IsL H1 ds vs)(hn:↑ds<=Vk)(hA:H1 A=U_)
  (O:∀d x H (R:VK),d>ds->ig H1 H->Is H d x->(∀y H',ig H H'->Is H' (f d) y->R y H')->te (u_ x::tl) H R)
  (hQ:∀H' ys,ig H1 H'->H' A=u_ (.lst ys)->IsL H' (ds.map f) ys->Q (-A) H'):CQ A (Itt K a) (YR 0) nN te (U_::tl) H1 Q:=by
 have ln:=↑U;refine Aw f hn hA (λi H sm hi=>⟨vs,vs[i]'(),SqT.of (sm _ _ ha),uh _⟩) (λi H x H' d sm hd y=>?_) (λH sm=>[vs:SqT.of (sm _ _ ha):()]) O hQ
 erw[y,rfl,y];erw[U.get hd,v,e1,e2];have e3:=y vs (SqT.of (sm _ _ ha));rw[e1] at e3;cases e3;exact[1:e2.mono sm.tk]
def SI {K:o0}{a A:o3}{H1:Hp}{te:TE}{tl:St}{Q:VK}{ds:oj D}{vs:oj V}(f:D->D)(ha:H1 a=u_ (.lst vs))(U:IsL H1 ds vs)(hn:↑ds<=Vk)(hA:H1 A=U_)
  (O:∀d x H (R:VK),d>ds->ig H1 H->Is H d x->(∀y H',ig H H'->Is H' (f d) y->R y H')->te (u_ x::tl) H R)
  (hQ:∀H' ys,ig H1 H'->H' A=u_ (.lst ys)->IsL H' (ds.map f) ys->Q (-A) H'):CQ A (Itl K a) (YR 0) nN te (U_::tl) H1 Q:=by
 have ln:=↑U;refine Aw f hn hA (λi H sm hi=>⟨vs,vs[i]'(),SqL.of (sm _ _ ha),uh _⟩) (λi H x H' d sm hd y=>?_) (λH sm=>[vs:SqL.of (sm _ _ ha):()]) O hQ
 erw[y,rfl,y];erw[U.get hd,v,e1,e2];have e3:=y vs (SqL.of (sm _ _ ha));rw[e1] at e3;cases e3;exact[1:e2.mono sm.tk]
def IsL.bls {H:Hp}:∀{bs:oj Bool}{vs:oj V},IsL H (bs.map D.bl) vs->vs=bs.map V.bl
 | [],_,h=>h
 |_::_,_,h=>by
  erw[h,v,r,rfl,h1,h2];rw[IsL.bls h2,show v=_ from h1];rfl
variable {Q:VK}
def Xw {i:Int}{d:D}(h:Is H (¬ds) v)(hi:atI ds i=u_ d)(q:∀x,Is H d x->Q x H):O0 K v (.int i) H Q:=by
 erw[h,a,vs,rfl,ha,O];erw[qae hi,j,h1,h2,h3,h4,h5];erw[O.get h2,x,e1,e2];exists a,vs,i,x,1,1,SqT.of ha,?_,q x e2;have ln:=↑O;unfold atI at hi⊢;rw[ln];cases e:ixN ↑ds i with
 |none=>rw[e] at hi;cases hi
 |some k=>
  rw[e] at hi;erw[Az e,U,_];rw[h1] at U;cases U;exact e1
abbrev inS (i j:Str):Bool:= !(Hx j i 0 ↑j 1).isEmpty
def SO (j:Str)(c:Nat):inS ⟨#[c]⟩ j=decide (c>j.cps.toList):=StrLaws.found_one j c
def SZ {z:Str}{g:TG}{tb:TS}{E:mF}{σ:St}{H:Hp}(O:Nat->St->Hp->Prop)(h0:O 0 σ H)
  (hs:∀(i c:Nat) σ H,z.cps[i]? =u_ c->O i σ H->g (.str ⟨#[c]⟩) σ H λσ2 H2=>tb {E with nx:=O (i+1),ct:=O (i+1),bk:=E.nx} σ2 H2) (hd:∀σ H,O z.cps.size σ H->E.nx σ H):
  ∃W:Nat->Nat->St->Hp->Prop,(∃m,W 0 m σ H)/\∀i m σ H,W i m σ H->
   ((Its z).stop i H/\E.nx σ H)\/((Its z).go i H/\∃N:St->Hp->Prop,(∀σ' H',N σ' H'->∃m',m'<m/\W (i+1) m' σ' H')/\∀x H',(Its z).yld i H x H'->g x σ H' λσ2 H2=>tb {E with nx:=N,ct:=N,bk:=E.nx} σ2 H2):=by
 exists λi m σ H=>m=z.cps.size-i/\i<=z.cps.size/\O i σ H,⟨z.cps.size,by simp,uS _,h0⟩
 rintro i m σ H ⟨rfl,hi,p⟩;by_cases U:i<z.cps.size
 .refine .inr ⟨U,O (i+1),λσ' H' p'=>⟨z.cps.size-(i+1),(),1,U,p'⟩,λx H' y=>?_⟩
  erw[y,rfl,c,hc,rfl];exact hs i c σ _ hc p
 .have e:i=z.cps.size:=by omega
  exact .inl [e:hd σ H (e▸p)]
def IsL.unsnoc {H:Hp}:∀{ds:oj D}{d:D}{vs:oj V},IsL H (ds++ [d]) vs->∃us x,vs=us++ [x]/\IsL H ds us/\Is H d x
 | [],d,_,h=>by
  erw[h,v,r,rfl,h1,h2];cases(show r= [] from h2)
  exact⟨[],v,1,1,h1⟩
 |e::r,d,_,h=>by
  erw[h,v,q,rfl,h1,h2];erw[IsL.unsnoc h2,us,x,rfl,h3,h4];exact⟨v::us,x,1,⟨v,us,1,h1,h3⟩,h4⟩
abbrev isStr:D->Bool
 | .str _=>v_
 |_=>Vg
abbrev zJ:D->Bool
 | .tup _=>v_
 |_=>Vg
section
variable {K:o0}
def Ny {T U:String}{b:Bool}(h:(GE T==GE U)=Vg)(hm:PySem.W.kitMeta U=v_)(O:(fastBuiltinMro T).map (·.contains (GE U))=u_ b):PySem.W.kitOne K (.type T) (.type U)=u_ b:=by
 unfold PySem.W.kitOne;rw[A4 (by rw[h];exact u8)]
 show(if PySem.W.kitMeta U=v_ then PySem.W.subIn K (.type T) (.type U) else U_)=u_ b
 rw[A6 hm];exact O
def BQ {T:String}(h:(GE T==GE T)=v_):PySem.W.kitOne K (.type T) (.type T)=u_ true:=by
 unfold PySem.W.kitOne;rw[A6 h]
def jJ (d:D):PySem.W.kitOne K (tyD d) (.type "str")=u_ (isStr d):=by
 cases d with
 |str z=>exact BQ ()
 |_=>exact Ny (b:=Vg) () () ()
def xU (d:D):PySem.W.kitOne K (tyD d) (.type "tuple")=u_ (zJ d):=by
 cases d with
 |tup z=>exact BQ ()
 |_=>exact Ny (b:=Vg) () () ()
end
def AbT (c k:Nat):decide ((⟨#[c]⟩:Str).cps.toList< [k])=decide (c<k):=by
 rw[vd];simp[FY]
def AbF (c k:Nat):decide ([k]<(⟨#[c]⟩:Str).cps.toList)=decide (k<c):=by
 rw[vd];simp[FY]
def Ay {X:Cx}{K:o0}(h:X.K=K):IxR X (O0 K):=by subst h;exact qC
inductive AcL (K:PySem.W.Frag)(R:(It->Hp->Prop))(x:V)(H1:Hp):Prop
 |mk (a:_)(xs:_)(_:x=-a)(_:SqT K H1 a xs)(_:(↑xs<=Vk->R (Itt K a) H1))
abbrev AdJ (K:o0)(tl:TE):TI:=λσ H R=>tl σ H λx H1=>AcL K R x H1
def xI {X:Cx}{tg l:Expr}{tl:TE}(U:PE X l tl):PI X tg l (AdJ X.K tl):=by
 exists 2,R,I,h;refine thn (U oq s σ H _ I h) λv s1 zq=>?_;erw[zq,x,H1,O,r1,q1];erw[q1,a,xs,e,hq,q];subst e;cases r1;erw[O.tuple hq,its,rv,p,hz];refine U3 (show s1.heap.IsTuple a its.toArray from p) ?_
 exists #[0,s1],[#[0,s1]],_,_,H1,1,O.kept (t':=s1.toks) λb o e=>ub _ e,ki a _,⟨_,uE _ rfl,1,1⟩,λb hb=>?_,q hz;have e:b=#[0,s1]:=by simpa using hb
 subst e;exact O.fpOk (uj _) (O.hok.fresh (uj _))
variable {X:Cx}
def IC:Y3 X (.builtin "len") (λxs H Q=>∃p ys,xs= [-p]/\(SqL X.K H p ys\/SqT X.K H p ys)/\(↑ys<=Vk->Q (.int ↑ys) H)):=by
 exists 2,xs,us,Q,I,r,h;erw[h,p,ys,e,O,q];have hz:↑ys<=sizeLine:=by
  rcases O with O|O
  .exact(I.list O).choose_spec.2.2
  .exact(I.tuple O).choose_spec.2.2
 exact qT oq s σ H xs us Q I r ⟨p,ys,e,O,q hz⟩
variable {n:Nat}
def zG (h:n<=↑xs):nj xs (u_ (n:Int)) U_=xs.drop n:=by
 unfold nj;rw[HT.sIx_none,HT.sIx_nat,TN h];exact vq (by rw[vZ];exact uj _)
end L2
namespace L2
open PySem PySem.Spec PyProof.Rows Builtin Builtin.Str
abbrev mZ (c:Nat):oj Nat->Nat->oj Nat
 | [],_=> []
 |a::r,i=>if a=c then i::mZ c r (i+1) else mZ c r (i+1)
abbrev i9 (c:Nat):Nat->oj Nat->oj (oj Nat)
 |0,L=> [L]
 |_+1,[]=> [[]]
 |n+1,a::r=>if a=c then []::i9 c n r else match i9 c (n+1) r with
  |p::q=>(a::p)::q
  | []=> [[a]]
abbrev ofL (l:oj Nat):Str:=⟨l.toArray⟩
def yb (z:Str):ofL z.cps.toList=z:=by
 unfold ofL;simp
def Ju (c:Nat):∀(n:Nat) (L:oj Nat),∃p q,i9 c n L=p::q
 |0,L=>⟨L,[],by simp[i9]⟩
 |n+1,[]=>⟨[],[],by simp[i9]⟩
 |n+1,a::r=>by
  by_cases h:a=c
  .exact⟨[],i9 c n r,by simp[i9,h]⟩
  .erw[Ju c (n+1) r,p,q,e];exact⟨a::p,q,by simp[i9,h,e]⟩
def Cd {c:Nat}{n:Nat}{r:oj Nat}:∀{p:oj Nat},c∉p->i9 c (n+1) (p++c::r)=p::i9 c n r
 | [],_=>by simp[i9]
 |a::p,h=>by
  have h1:a≠c:=λe=>h (by simp[e])
  have O:=Cd (n:=n) (r:=r) (p:=p) (λz=>h (uc _ z));show i9 c (n+1) (a::(p++c::r))=_;rw[i9,A4 h1,O]
def wB {c:Nat}{n:Nat}:∀{p:oj Nat},c∉p->i9 c n p= [p]
 | [],_=>by cases n<;>simp[i9]
 |a::p,h=>by
  have h1:a≠c:=λe=>h (by simp[e])
  cases n with
  |zero=>simp[i9]
  |succ n=>
   have O:=wB (n:=n+1) (p:=p) (λz=>h (uc _ z));rw[i9,A4 h1,O]
def Cn (x:Str)(c i:Nat)(h:i<↑x):subAt x ⟨#[c]⟩ i=decide (x.cps.toList[i]? =u_ c):=by
 rw[StrLaws.subAt_eq];have O:i<↑x.cps.toList:=by simpa [Gh] using h
 have U:(x.cps.toList.drop i).take 1= [x.cps.toList[i]]:=by
  rw[uV O]
  rfl
 show((x.cps.toList.drop i).take 1== [c])=_;rw[U,uh O];generalize x.cps.toList[i]=k;by_cases e:k=c
 .simp[e]
 .simp[e]
def oT (x:Str)(c n:Nat):∀(m k:Nat) (found:Array Nat) (free:Nat),k+m=↑x+1->free<=k->
  (G9 (GW k m) (found,free) (Gr x ⟨#[c]⟩ ↑x n)).run.fst.toList=found.toList++(mZ c (x.cps.toList.drop k) k).take (n-found.size)
 |0,k,found,free,hk,_=>by
  have hl:↑x.cps.toList<=k:=by simp[Gh] at hk⊢;omega
  rw[Up hl];simp[mZ]
 |m+1,k,found,free,hk,hf=>by
  rw[List.range'_succ,Uy];unfold Gr;have ad:↑x.cps.toList=↑x:=by simp[Gh]
  by_cases aa:k<↑x
  .have ac:k<↑x.cps.toList:=by omega
   rw[uV ac];have hs:=Cn x c k aa;rw[uh ac] at hs;by_cases e:x.cps.toList[k]=c
   .have O:subAt x ⟨#[c]⟩ k=true:=by rw[hs,e];simp
    by_cases hn:found.size<n
    .rw[A6 ⟨⟨[hn:hf],by show k+1<=↑x;omega⟩,O⟩]
     have U:=oT x c n m (k+1) (found.push k) (k+1) () (uj _)
     show(G9 (GW (k+1) m) (found.push k,k+1) (Gr x ⟨#[c]⟩ ↑x n)).run.fst.toList=_;rw[U];rw[mZ,A6 e,Array.toList_push,pB];obtain⟨j,hj⟩:∃j,n-found.size=j+1:=[n-found.size-1:()]
     rw[hj,Fk,show n-(found.size+1)=j by omega]
     simp
    .rw[A4 (λz=>hn z.1.1.1)];have U:=oT x c n m (k+1) found free () ()
     show(G9 (GW (k+1) m) (found,free) (Gr x ⟨#[c]⟩ ↑x n)).run.fst.toList=_;rw[U,show n-found.size=0 by omega]
     simp
   .have O:¬subAt x ⟨#[c]⟩ k=true:=by rw[hs];intro z;exact e (uJ (um z))
    rw[A4 (λz=>O z.2)];have U:=oT x c n m (k+1) found free () ()
    show(G9 (GW (k+1) m) (found,free) (Gr x ⟨#[c]⟩ ↑x n)).run.fst.toList=_;rw[U,mZ,A4 e]
  .rw[A4 (λz=>aa (by have:=z.1.2;show k<↑x;have h1:k+1<=↑x:=this;omega))]
   have U:=oT x c n m (k+1) found free () ()
   show(G9 (GW (k+1) m) (found,free) (Gr x ⟨#[c]⟩ ↑x n)).run.fst.toList=_;rw[U];have h1:↑x.cps.toList<=k:=by omega
   rw[Up h1,Up ()]
   simp[mZ]
def Ks (x:Str)(c n:Nat):occurrences x ⟨#[c]⟩ 0 ↑x n=(mZ c x.cps.toList 0).take n:=by
 rw[Rm];have:=oT x c n (↑x+1) 0 #[] 0 () (uj _)
 simpa using this
abbrev att (p:oj Nat):oj (oj Nat)->oj (oj Nat)
 |q::r=>(p++q)::r
 | []=> [p]
def LD (x:Str)(c:Nat):∀(m n a b:Nat),a<=b->b+m=↑x->
  HX x 1 a ((mZ c (x.cps.toList.drop b) b).take n)=(att ((x.cps.toList.drop a).take (b-a)) (i9 c n (x.cps.toList.drop b))).map ofL:=by
 have ac:↑x.cps.toList=↑x:=by simp[Gh]
 have O:∀i j,strSub x i j=ofL ((x.cps.toList.drop i).take (j-i)):=λi j=>by
  rw[<-yb (strSub x i j),rV]
 intro m
 induction m with
 |zero=>
  intro n a b aa hb;have h1:x.cps.toList.drop b= []:=Up ()
  rw[h1];have e1:i9 c n []= [[]]:=by cases n<;>simp[i9]
  rw[e1];simp![mZ,List.take_nil,HX,att,ve,uA,Ui];rw[O,show ↑x-a=b-a by omega]
 |succ m ih=>
  intro n a b aa hb;have U:b<↑x.cps.toList:=by omega
  rw[uV U];cases n with
  |zero=>
   simp![pH,HX,i9,att,uA,Ui];rw[O,<-uV U];have e2:(x.cps.toList.drop a).take (↑x-a)=x.cps.toList.drop a:=vq (by rw[vZ];omega)
   have e3:x.cps.toList.drop b=(x.cps.toList.drop a).drop (b-a):=by rw[List.drop_drop];congr 1;omega
   rw[e2,e3,UA]
  |succ n=>
   by_cases e:x.cps.toList[b]=c
   .rw[mZ,A6 e,Fk,HX,i9,A6 e];rw[ih n (b+1) (b+1) (uj _) ()]
    erw[Ju c n (x.cps.toList.drop (b+1)),p,q,e2];rw[e2,O];simp[att]
   .rw[mZ,A4 e,ih (n+1) a (b+1) () (),i9,A4 e]
    erw[Ju c (n+1) (x.cps.toList.drop (b+1)),p,q,e2];rw[e2];simp![att,uA]
    congr 2
    have e3:b+1-a=(b-a)+1:=by omega
    have hx:b-a<↑(x.cps.toList.drop a):=by rw[vZ];omega
    rw[e3,List.take_succ_eq_append_getElem hx];simp[show a+(b-a)=b by omega]
def oH (x:Str)(c n:Nat):partsBetween x (occurrences x ⟨#[c]⟩ 0 ↑x n) 1=(i9 c n x.cps.toList).map ofL:=by
 rw[StrLaws.partsBetween_eq,Ks];have:=LD x c ↑x n 0 0 (uj _) ()
 rw[Td] at this;rw[this];erw[Ju c n x.cps.toList,p,q,e];rw[e];simp[att]
def WC {c:Nat}:∀{L:oj Nat}{i:Nat},mZ c L i= []->c∉L
 | [],_,_=>by simp
 |a::r,i,h=>by
  by_cases e:a=c
  .simp[mZ,e] at h
  .rw[mZ,A4 e] at h;have:=WC h;simp[vV e,this]
def X2:∀(l:oj Str) (k:Nat),iw (l.map V.str) (strsFrom k l)
 | [],_=> .nil
 |x::r,k=> .cons [k:1] (X2 r (k+1))
def wD:∀{l:oj Str}{us:oj o6},iw (l.map V.str) us->∃ps:oj (Str×Tok),us=strValues ps/\ps.map (·.1)=l
 | [],_,.nil=>[[]:1:1]
 |x::r,_,.cons ⟨t,e⟩ h=>by
  erw[wD h,ps,O,e2];subst e;exact⟨(x,t)::ps,by rw[O];rfl,by rw[uA,e2]⟩
def ke (z:Str):¬VF z<VF " ":=by
 have h1:VF " "=1:=by decide+kernel
 rw[h1];unfold VF;split
 .omega
 .split<;>omega
def KL (c:Nat):∀(n:Nat) (L:oj Nat),↑(i9 c n L)<=↑L+1
 |0,L=>by simp[i9]
 |n+1,[]=>by simp[i9]
 |n+1,a::r=>by
  by_cases h:a=c
  .have:=KL c n r;simp[i9,h];omega
  .have:=KL c (n+1) r;erw[Ju c (n+1) r,p,q,e];rw[e] at this;simp![i9,A4 h,e];simp at this⊢;omega
abbrev spl (n:Nat)(z:Str):oj Str:=(i9 32 n z.cps.toList).map ofL
def Dq (n:Nat)(z:Str):↑(spl n z)<=↑z+1:=by
 unfold spl;rw[u9];have:=KL 32 n z.cps.toList
 simpa [Gh] using this
def J4:(" ":Str)=⟨#[32]⟩:=by decide+kernel
variable {z:Str}{n:Nat}
def Dp (hn:↑z<=n\/↑z<1\/True)(h:(occurrences z " " 0 ↑z n).isEmpty=v_)(h0:n≠0):spl n z= [z]:=by
 rw[J4,Ks,List.isEmpty_iff] at h;have h1:mZ 32 z.cps.toList 0= []:=by
  cases e:mZ 32 z.cps.toList 0 with
  |nil=>rfl
  |cons a r=>
   rw[e] at h;obtain⟨k,rfl⟩:∃k,n=k+1:=[n-1:()]
   simp at h
 unfold spl;rw[wB (WC h1)];simp[yb]
section
variable {X:Cx}
inductive Abm (x:V)(vs:List V)(H:Hp)(Q:VK):Prop
 |mk (z:_)(_:x= !z)(_:vs= [-" "])(_:↑z<=1000)(_:∀p,H p=U_->Q (-p) (upd H p (.lst ((spl (↑z+1) z).map V.str))))
variable {oq:oj (o3×Obj)}{σ:St}{H:Hp}{s:o7}{Q:VK}{ys:oj V}{its:oj o6}{t':Nat}
def J3 (I:#[I])(O:iw ys its)(hz:↑ys<=Vk)(q:∀p,H p=U_->Q (-p) (upd H p (.lst ys)))(U:0<t':=by ac_rfl):
  EP X oq σ Q (.ref #[0,s]) {s with heap:=s.heap.push {cls:= .type "list",data:= .seq its.toArray},toks:=t'}:=
 ⟨.ref #[0,s],_,I.lnew O hz,1,q _ I.fresh⟩
def BM:MtM X "str.split" Abm:=by
 exists 2,x,vs,v,us,Q,I,rx,rv,h;erw[h,z,rfl,rfl,hz,q];erw[rx,t,rfl];erw[rv.one,u,rfl,t',rfl];have O:↑z<=sizeLine:=by rw[uB];omega
 have one:spl (↑z+1) z= [z]->∀(T:Nat),0<T->EP X oq σ Q (.ref #[0,s]) {s with heap:=s.heap.push {cls:= .type "list",data:= .seq [VH z t].toArray},toks:=T}:=λe T hT=>by
  rw[e] at q;exact J3 (ys:= [V.str z]) I (.cons (show ik (V.str z) _ from[t:1]) .nil) (by show 1<=Vk;decide) q
 cases h1:(decide (↑z<(" ":Str).length)||decide (VF z<VF " ")) with
 |true=>
  refine vQ vI (vP _ _ _) vC (U8 _ _) (r6 z " " t t' h1) ?_;have h2:↑z<1:=by
   rw[US] at h1;rcases h1 with h1|h1
   .exact um h1
   .exact A8 (um h1) (ke z)
  refine one ?_ s.toks I.tk;have e:z.cps.toList= []:=Uk (by simpa [Gh] using h2)
  unfold spl;rw[e,i9];rw[<-yb z,e]
  rfl
 |false=>
  cases U:(occurrences z " " 0 ↑z (↑z+1)).isEmpty with
  |true=>
   refine vQ vI (vP _ _ _) vC (U8 _ _) (p8 z " " t t' h1 () U) ?_
   exact one (Dp (.inr (.inr trivial)) U ()) s.toks I.tk
  |false=>
   have hl:=Dq (↑z+1) z;have e:partsBetween z (occurrences z " " 0 ↑z (↑z+1)) (" ":Str).length=spl (↑z+1) z:=by
    rw[J4];exact oH z 32 (↑z+1)
   refine vQ vI (vP _ _ _) vC (U8 _ _) (F_ z " " t t' h1 () U O (by rw[e,uB];omega)) ?_
   rw[e];exact J3 I (X2 _ _) (by rw[u9,uB];omega) q
def Xf (x y:Str)(k:Int)(t u v:Tok)(hk:(decide (k< -(2^63:Int))||decide (k≥2^63))=Vg)(h1:(decide (↑x<↑y)||decide (VF x<VF y))=Vg)(hy:(↑y==0)=Vg)
  (hf:(occurrences x y 0 ↑x (Hu x k)).isEmpty=v_):GQ («str.split» [[.str x t,.str y u,.int k v]:[]]) (R7 x t):=by
 erw[pd x y k t u v hk,U,O];refine .of_wp λprog w A R s h=>?_;rw[O,h1,hy,hf];show Vh _ _ (do rule "str.split.same-object";ret (<-HV [.str x t])) _ _ s
 exact A7 (UJ (A7 (Tv (uw [0:h]) (by show 1<=Vk;decide))))
def Jm (x y:Str)(k:Int)(t u v:Tok)(hk:(decide (k< -(2^63:Int))||decide (k≥2^63))=Vg)(h1:(decide (↑x<↑y)||decide (VF x<VF y))=v_):
  GQ («str.split» [[.str x t,.str y u,.int k v]:[]]) (R7 x t):=by
 erw[pd x y k t u v hk,U,O];refine .of_wp λprog w A R s h=>?_;rw[O,h1];show Vh _ _ (do rule "str.split.sep-cannot-occur";ret (<-HV [.str x t])) _ _ s
 exact A7 (UJ (A7 (Tv (uw [0:h]) (by show 1<=Vk;decide))))
inductive OY (x:V)(vs:List V)(H:Hp)(Q:VK):Prop
 |mk (z:Str)(n:Nat)(_:x= !z)(_:vs= [-" ",.int (n:Int)])(_:↑z<=1000)(_:0<n)(_:n<=1000)(_:∀p,H p=U_->Q (-p) (upd H p (.lst ((spl n z).map V.str))))
def EA:MtM X "str.split" OY:=by
 exists 2,x,vs,v,us,Q,I,rx,rv,h;erw[h,z,n,rfl,rfl,hz,ac,hn,q];erw[rx,t,rfl];erw[Da rv,u,u',rfl,[t',rfl],[U,rfl]];have aa:↑z<=sizeLine:=by rw[uB];omega
 have hk:(decide ((n:Int)< -(2^63:Int))||decide ((n:Int)≥2^63))=false:=by
  rw[ug (),ug ()];rfl
 have O:Hu z (n:Int)=n:=by
  unfold Hu;rw[A4 ()]
  omega
 have one:spl n z= [z]->∀(T:Nat),0<T->EP X oq σ Q (.ref #[0,s]) {s with heap:=s.heap.push {cls:= .type "list",data:= .seq [VH z t].toArray},toks:=T}:=λe T hT=>by
  rw[e] at q;exact J3 (ys:= [V.str z]) I (.cons (show ik (V.str z) _ from[t:1]) .nil) (by show 1<=Vk;decide) q
 cases h1:(decide (↑z<(" ":Str).length)||decide (VF z<VF " ")) with
 |true=>
  refine vQ vI (vP _ _ _) vC (F.args_str_split_3 _ _ _) (Jm z " " n t t' U hk h1) ?_;have h2:↑z<1:=by
   rw[US] at h1;rcases h1 with h1|h1
   .exact um h1
   .exact A8 (um h1) (ke z)
  refine one ?_ s.toks I.tk;have e:z.cps.toList= []:=Uk (by simpa [Gh] using h2)
  obtain⟨j,rfl⟩:∃j,n=j+1:=[n-1:()]
  unfold spl;rw[e,i9];rw[<-yb z,e]
  rfl
 |false=>
  cases hf:(occurrences z " " 0 ↑z (Hu z (n:Int))).isEmpty with
  |true=>
   refine vQ vI (vP _ _ _) vC (F.args_str_split_3 _ _ _) (Xf z " " n t t' U hk h1 () hf) ?_
   rw[O] at hf;exact one (Dp (.inr (.inr trivial)) hf ()) s.toks I.tk
  |false=>
   have hl:=Dq n z;have e:partsBetween z (occurrences z " " 0 ↑z (Hu z (n:Int))) (" ":Str).length=spl n z:=by
    rw[J4,O];exact oH z 32 n
   refine vQ vI (vP _ _ _) vC (F.args_str_split_3 _ _ _) (meets_str_split_sep_max z " " n t t' U hk h1 () hf aa (by rw[e,uB];omega)) ?_
   rw[e];exact J3 I (X2 _ _) (by rw[u9,uB];omega) q
abbrev xq (c:Nat):oj Nat->oj Nat
 | []=> []
 |a::r=>if a=c then [] else a::xq c r
def sB {c:Nat}:∀{L:oj Nat}{i j:Nat}{r:oj Nat},mZ c L i=j::r->i<=j/\xq c L=L.take (j-i)
 | [],_,_,_,h=>by simp[mZ] at h
 |a::q,i,j,r,h=>by
  by_cases e:a=c
  .rw[mZ,A6 e] at h;cases h;exact⟨uj _,by simp[xq,e]⟩
  .rw[mZ,A4 e] at h;erw[sB h,h1,h2];exists ()
   rw[xq,A4 e,h2,show j-i=(j-(i+1))+1 by omega,Fk]
def Zd {c:Nat}:∀{L:oj Nat},c∉L->xq c L=L
 | [],_=>rfl
 |a::r,h=>by
  have h1:a≠c:=λe=>h (by simp[e])
  rw[xq,A4 h1,Zd λz=>h (uc _ z)]
abbrev hd (z:Str):Str:=ofL (xq 32 z.cps.toList)
def E9 (I:#[I])(O:iw ys its)(hz:↑ys<=Vk)(q:∀p,H p=U_->Q (-p) (upd H p (¬ys)))(U:0<t':=by ac_rfl):
  EP X oq σ Q (.ref #[0,s]) {s with heap:=s.heap.push {cls:= .type "tuple",data:= .seq its.toArray},toks:=t'}:=
 ⟨.ref #[0,s],_,I.laid (o:=¬ys) (λ_ _ w=>ub _ w) (uj _) ⟨hz,its,O,Hr _ _⟩,1,q _ I.fresh⟩
inductive Adu (x:V)(vs:List V)(H:Hp)(Q:VK):Prop
 |mk (z:_)(_:x= !z)(_:vs= [-" "])(_:↑z<=1000)(_:∀p a b,H p=U_->Q (-p) (upd H p (-[.str (hd z),!a,!b])))
def SD:MtM X "str.partition" Adu:=by
 exists 2,x,vs,v,us,Q,I,rx,rv,h;erw[h,z,rfl,rfl,hz,q];erw[rx,t,rfl];erw[rv.one,u,rfl,t',rfl];have U:↑z<=sizeLine:=by rw[uB];omega
 refine vQ F.slot_str_partition (vP _ _ _) F.entry_str_partition (F.args_str_partition_2 _ _) (meets_str_partition z " " t t' () U) ?_
 cases O:occurrences z " " 0 ↑z 1 with
 |nil=>
  have h0:hd z=z:=by
   rw[J4,Ks] at O;have h1:mZ 32 z.cps.toList 0= []:=by
    cases e:mZ 32 z.cps.toList 0 with
    |nil=>rfl
    |cons a r=>rw[e] at O;simp at O
   unfold hd;rw[Zd (WC h1),yb]
  refine E9 (ys:= [.str (hd z),!TV,!TV]) (t':=s.toks+1) I (.cons (show ik (V.str (hd z)) _ from⟨t,by rw[h0]⟩) (.cons (show ik (V.str _) _ from⟨0⟩) (.cons (show ik (V.str _) _ from⟨0⟩) .nil))) (by show 3<=Vk;decide) λp hp=>q p _ _ hp
 |cons i r=>
  have h0:hd z=strSub z 0 i:=by
   rw[J4,Ks] at O;cases e:mZ 32 z.cps.toList 0 with
   |nil=>rw[e] at O;simp at O
   |cons a r'=>
    rw[e] at O;have:a=i:=by simp at O;exact O.1
    subst this;erw[sB e,_,h2];unfold hd;rw[h2,<-yb (strSub z 0 a),rV,Td]
  refine E9 (ys:= [.str (hd z),-" ",.str _]) (t':=s.toks+1+1) I (.cons (show ik (V.str (hd z)) _ from⟨s.toks,by rw[h0]⟩) (.cons (show ik (V.str _) _ from[t':1]) (.cons (show ik (V.str _) _ from[s.toks+1:1]) .nil))) (by show 3<=Vk;decide) λp hp=>q p _ _ hp
inductive Abo (K:PySem.W.Frag)(x:V)(vs:List V)(H:Hp)(Q:VK):Prop
 |mk (sep:Str)(p:Addr)(l:List Str)(_:x= !sep)(_:vs= [-p])(_:SqL K H p (l.map V.str))(_:(l.map (·.length)).sum+↑l*↑sep<=1000000)(_:Q (.str (Vo sep l)) H)
def KQ:MtM X "str.join" (Abo X.K):=by
 exists 2,x,vs,v,us,Q,I,rx,rv,h;erw[h,sep,p,l,rfl,rfl,hp,hz,q];erw[rx,t,rfl];erw[rv.one,u,rfl,ru];cases ru;erw[I.list hp,its,r,pl,hl];erw[wD r,ps,rfl,e2];have U:tooLong ((ps.map (·.1)).toArray.foldl (·+ ·.length+↑sep) 0)=false:=by
  rw[e2];have:=Ri sep l;rw[this];unfold tooLong;refine ug ?_;rw[uB];omega
 refine vQ F.slot_str_join (vP _ _ _) F.entry_str_join (F.args_str_join_2 _ _) (meets_str_join_list sep t p ps U) [pl.isList:?_];have O:(glued sep (ps.map (·.1))).length<=sizeLine:=Rx U
 match ps,e2,O with
 | [],e2,O=>
  subst e2;exact⟨O,.str _,H,I.tok _,⟨0⟩,q⟩
 | [a],e2,_=>
  subst e2;exact⟨.str _,H,I,[a.2:1],q⟩
 |a::b::r,e2,O=>
  subst e2;exists O,.str _,H,I.tok _,⟨0⟩;rw[FS];exact q
def ID:Y3 X (.type "int") (λxs H Q=>∃z n,xs= [!z]/\PySem.intText? z=u_ n/\↑z<=640/\Q (.int n) H):=by
 exists 2,xs,us,Q,I,r,h;erw[h,z,n,rfl,hn,O,q];erw[xi r,u,rfl,t,rfl];exact PySem.W.KIN.call_text hn O ⟨.int n,H,I.tok _,⟨0⟩,q⟩
end
end L2
namespace L2
open PySem PySem.Spec PyProof.Rows
variable {X:Cx}{oq:oj (o3×Obj)}{σ:St}{H:Hp}{s:o7}{h':o8}{t':Nat}{fp:oj o3}
def Inv.turnedL (I:#[I])(k:∀b o,b∉fp->s.heap.get? b=u_ o->h'.get? b=u_ o)(U:∀b>fp,AX X oq H b)(ht:0<t':=by ac_rfl):Inv X oq σ H {s with heap:=h',toks:=t'}:=by
 have aa:∀b u,H b=u_ u->b∉fp:=λb u e z=>by
  have:=(U b z).1;rw[this] at e;cases e
 have nL:X.env.locals∉fp:=λz=>(U _ z).2.1 rfl;refine I.step (g':=s.gens) (d':=s.drawn) (ch:=fp) (λb hb=>⟨(U b hb).2.2.2.1,(U b hb).2.1,(U b hb).2.2.2.2.1,(U b hb).2.2.2.2.2⟩) (λb o _ _ O e _=>k b o O e) (λb o _ _ O e _=>[o.slots:k b o O e]) (λ_ _ _ _ n=>n)
  (λb o O e=>[o:k b o O e]) (λ_ _ e=>e) (λ_ _ _ e=>e) (λb ps e=>⟨#[],by rw[e];simp⟩) (λm hm=>?_) (λb u e=>?_) I.bare
 .erw[hm,o,es,ep,ho,r];exact⟨o,es,ep,k _ o nL ho,r⟩
 .refine(I.hok b u e).stay (λc v O q=>k c v ?_ q) (λ_ q=>q) λ_ _ q=>q;rcases O with z|z
  .rw[z];exact aa b u e
  .exact aa c _ z
def Inv.handed {X:Cx}{oq:oj (o3×Obj)}{σ:St}{H:Hp}{s:o7}{h':o8}{t':Nat}{fp:oj o3}{ys:oj V}{its:oj o6}(I:#[I])(hf:∀b>fp,AX X oq H b)(hl:∀b>fp,b<#[0,s])(hv:iw ys its)(hz:↑ys<=Vk)
  (hn:h'.get? #[0,s]=u_ {cls:= .type "tuple",data:= .seq its.toArray}) (hs:h'.objs.size=#[0,s]+1) (k:∀b o,b∉fp->s.heap.get? b=u_ o->h'.get? b=u_ o) (ht:0<t':=by ac_rfl):
  Inv X oq σ (upd H #[0,s] (¬ys)) {s with heap:=h',toks:=t'}/\∀b>fp,AX X oq (upd H #[0,s] (¬ys)) b:=by
 have I1:Inv X oq σ (upd H #[0,s] (¬ys)) {s with heap:=s.heap.push {cls:= .type "tuple",data:= .seq its.toArray},toks:=t'}:=
  I.laid (o:=¬ys) (λ_ _ w=>ub _ w) (uj _) ⟨hz,its,hv,Hr _ _⟩
 have O:∀b>fp,AX X oq (upd H #[0,s] (¬ys)) b:=λb U=>by
  erw[hf b U,f0,f1,f2,f3,f4,f5];have:=hl b U;exact⟨by rwa[qj (uP this)],f1,f2,f3,f4,f5⟩
 exists I1.turnedL (h':=h') (t':=t') (λb o U e=>?_) O,O;rcases Heap.get?_push_cases (show(s.heap.push {cls:= .type "tuple",data:= .seq its.toArray}).get? b=u_ o from e) with⟨rfl,rfl⟩|e'
 .exact hn
 .exact k b o U e'
abbrev Itz (K:o0)(a b:o3):It:=
 ⟨λi H=>∃xs ys x y,SqT K H a xs/\SqL K H b ys/\xs[i]? =u_ x/\ys[i]? =u_ y,
  λi H v H'=>∃p x y,v= .ref p/\H p=U_/\H'=upd H p (-[x,y])/\(∀xs,SqT K H a xs->xs[i]? =u_ x)/\∀ys,SqL K H b ys->ys[i]? =u_ y,
  λi H=>∃xs,SqT K H a xs/\↑xs=i⟩
abbrev Ite (K:o0)(a:o3)(c:Int):It:=
 ⟨λi H=>∃xs x,SqT K H a xs/\xs[i]? =u_ x,λi H v H'=>∃p x,v= .ref p/\H p=U_/\H'=upd H p (-[.int (c+i),x])/\∀xs,SqT K H a xs->xs[i]? =u_ x,λi H=>∃xs,SqT K H a xs/\↑xs=i⟩
abbrev tnZ (a b z p r i j:o3)(k:Nat)(h:o8):Prop:=
 VI h z p r .none/\Vx h p (-i) (-j)/\(∃u v,Vx h r u v)/\h.IsTupleIter i a k/\h.IsListIter j b k/\AwZ.Apt z p r i j a b
variable {w:og}{K:o0}
def IU {P:o9}{ac:oj Expr}{c:Nat}{tp:Pos}(a b z p r i j:o3):MN P w K (.Tuple ac c tp) (Itz K a b) [z,p,r,i,j] z (tnZ a b z p r i j) where
 mem:=by simp
 obj:=λk h st x hx=>by
  erw[st,h1,h2,[u,v,h3],[o4,e4,c4,d4],[o5,e5,c5,d5],D];simp![uD,uU,uM] at hx;rcases hx with rfl|rfl|rfl|rfl|rfl
  .exact⟨_,h1,λv z=>by cases z⟩
  .exact⟨_,h2,λv z=>by cases z⟩
  .exact⟨_,h3,λv z=>by cases z⟩
  .exact⟨o4,e4,λv z=>by rw[d4] at z;cases z⟩
  .exact⟨o5,e5,λv z=>by rw[d5] at z;cases z⟩
 keep:=λk h h' st kk=>by
  erw[st,h1,h2,[u,v,h3],[o4,e4,r4],[o5,e5,r5],D];exact⟨kk z (by simp) _ h1,kk p (by simp) _ h2,⟨u,v,kk r (by simp) _ h3⟩,⟨o4,kk i (by simp) _ e4,r4⟩,⟨o5,kk j (by simp) _ e5,r5⟩,D⟩
 item:=by
  intro X hP hw hK O k oq s σ H E I hf st hg;subst hP hw hK;erw[hg,xs,ys,x,y,ha,hb,hx,hy];erw[I.tuple ha,its,ra,pa,za];erw[I.list hb,al,rb,pb,zb];erw[ra.get hx,ux,af,ag];erw[rb.get hy,uy,ah,ak];erw[st,h1,h2,[u,v,h3],h4,h5,D];have l1:=uF h1;have l2:=uF h2;have l3:=uF h3;have l4:i<#[0,s]:=by erw[h4,o,e,_];exact uF e
  have l5:j<#[0,s]:=by erw[h5,o,e,_];exact uF e
  refine AwZ.zip_go D h1 h2 h3 h4 h5 (show s.heap.IsTuple a its.toArray from pa) pb.isList (x:=ux) (y:=uy) (by simpa using af) (by simpa using ah) λh' g1 g2 g3 g4 g5 g6 g7=>?_
  have g8:Vx h' p (-i) (-j):=g7 _ _ D.pz D.pr D.pi D.pj h2;obtain⟨I1,ad⟩:=I.handed (t':=s.toks) (ys:= [x,y]) (its:= [ux,uy]) hf (λc O=>by
   simp![uD,uU,uM] at O;rcases O with rfl|rfl|rfl|rfl|rfl<;>assumption) (.cons ag (.cons ak .nil)) (by show 2<=Vk;decide) g5 g6 (λc o O e=>by
    simp![uD,uU,uM,Vb] at O;exact g7 c o O.1 O.2.2.1 O.2.2.2.1 O.2.2.2.2 e)
  exists 0,wpAny_letOwnedTupleGo_zip (s:={s with heap:=h'}) g1 λae z2 s2=>?_
  have U:∀c o,c≠z->h'.get? c=u_ o->ae.get? c=u_ o:=λc o O e=>s2.extBut c o O e;exists .ref #[0,s],_,I1.turnedL (fp:= [z]) (h':=ae) (t':=s.toks) (λc o O e=>U c o (by simpa using O) e) (λc O=>ad c (by simp at O;simp[O])),1,⟨_,x,y,1,I.fresh,1,λzs aa=>?_,λzs aa=>?_⟩,⟨z2,U _ _ D.pz g8,[_:_:U _ _ D.rz g2],?_,?_,D⟩,λc O=>(ad c O).1
  .rwa[I.tuple_inj aa ha]
  .rwa[I.list_inj aa hb]
  .erw[g3,o,e,q];exact[o:U _ _ D.iz e:q]
  .erw[g4,o,e,q];exact[o:U _ _ D.jz e:q]
 done:=by
  intro X hP hw hK O k oq s σ H E I hf st hg;subst hP hw hK;erw[hg,xs,ha,hx];erw[I.tuple ha,its,ra,pa,za];have hl:=↑ra;erw[st,h1,h2,[u,v,h3],h4,h5,D];refine AwZ.zip_stop (A:=X.A) (I.ok.hd O) D h1 h2 h4 (show s.heap.IsTuple a its.toArray from pa) (by simp;omega) λh' kk=>[1:?_]
  exact I.turnedL (t':=s.toks) (λc o O e=>by
   simp![uD,uU,uM,Vb] at O;exact kk c o O.1 O.2.2.1 O.2.2.2.1 O.2.2.2.2 e) hf
 self:=λ_ _ _ _ _ st h=>R9 st.1 h
section
variable {X:Cx}
variable {n:Nat}
def Acu {a b:Nat}(ha:a<n)(O:b<n):AwZ.Apt (n+4) (n+2) (n+3) n (n+1) a b:=by
 constructor<;>exact(show _≠((_:Nat)) by omega)
def S1 {x:Nat}(h:x=n+4\/x=n+2\/x=n+3\/x=n\/x=n+1):n<=x:=by omega
def AaE {m x:Nat}(hm:m=n+1)(h:x=m\/x=n):n<=x:=by omega
abbrev Afa (K:o0)(ta:TA):TI:=λσ H R=>ta σ H λvs H1=>∃a b xs ys,vs= [-a,-b]/\SqT K H1 a xs/\SqL K H1 b ys/\R (Itz K a b) H1
def Abt {O:oj Expr}{c:Nat}{tp p pos:Pos}{e1 e2:Expr}{ta:TA}(hg:Gl X "zip")(hm:X.mg "zip"=U_)(ha:PA X [e1,e2] ta)(hs:Vl [e1,e2] X.env= [(Vg,eval e1 X.env),(Vg,eval e2 X.env)])(U:Vl [e2] X.env= [(Vg,eval e2 X.env)]):
  PI X (.Tuple O c tp) (.Call (.Name "zip" p) [e1,e2] [] pos) (Afa X.K ta):=by
 exists 2,R,I,h;refine Hk (Zr I hg hm boot_zip (vv (thn (ha pos oq s σ H _ I h) λus s1 zq=>?_) (by rw[hs,U]) (by rw[U];rfl)));erw[zq,vs,H1,I1,r1,q1]
 erw[q1,a,b,xs,ys,e,hA,hB,q];subst e;erw[Da r1,u,u',rfl,ru,ac];cases ru;cases ac;erw[I1.tuple hA,its,ra,pa,za];erw[I1.list hB,ad,rb,pb,zb];have la:a<#[0,s1]:=by erw[id pa,o,e,_];exact uF e
 have lb:b<#[0,s1]:=by erw[id pb,o,n,e,_];exact uF e
 refine AwZ.zip_call (show s1.heap.IsTuple a its.toArray from pa) pb.isList λh2 g1 g2 g3 g4 g5 g6 g7=>?_
 refine R9 (s:={s1 with heap:=h2}) g1 ?_
 exists _,[#[0,s1]+4,#[0,s1]+2,#[0,s1]+3,#[0,s1],#[0,s1]+1],_,_,H1,1,I1.kept (t':=s1.toks) g7,IU a b _ _ _ _ _,⟨g1,g2,[_:_:g3],g4,g5,?_⟩,λx hx=>?_,q
 .exact Acu la lb
 .have aa:#[0,s1]<=x:=by
   simp![uD,uU,uM] at hx;exact S1 hx
  exact I1.fpOk aa (I1.hok.fresh aa)
abbrev tnE (a e j:o3)(c:Int)(k:Nat)(h:o8):Prop:=(∃old,VZ h e j (c+k) old)/\h.IsTupleIter j a k/\e≠j
def Dc {P:o9}{aa:oj Expr}{cc:Nat}{tp:Pos}(a e j:o3)(c:Int):MN P w K (.Tuple aa cc tp) (Ite K a c) [e,j] e (tnE a e j c) where
 mem:=by simp
 obj:=λk h st x hx=>by
  erw[st,[U,h1],[o4,e4,c4,d4],D];simp![uD,uU,uM] at hx;rcases hx with rfl|rfl
  .exact⟨_,h1,λv z=>by cases z⟩
  .exact⟨o4,e4,λv z=>by rw[d4] at z;cases z⟩
 keep:=λk h h' st kk=>by
  erw[st,[U,h1],[o4,e4,r4],D];exact⟨⟨U,kk e (by simp) _ h1⟩,⟨o4,kk j (by simp) _ e4,r4⟩,D⟩
 item:=by
  intro X hP hw hK O k oq s σ H E I hf st hg;subst hP hw hK;erw[hg,xs,x,ha,hx];erw[I.tuple ha,its,ra,pa,za];erw[ra.get hx,ux,af,ag];erw[st,[U,h1],h4,D];have l1:=uF h1;have l4:j<#[0,s]:=by erw[h4,o,e,_];exact uF e
  refine AwZ.enum_go h1 h4 (show s.heap.IsTuple a its.toArray from pa) (x:=ux) (by simpa using af) D λh' g1 g3 g5 g6 g7=>?_
  obtain⟨I1,ac⟩:=I.handed (t':=s.toks+1) (ys:= [.int (c+k),x]) (its:= [.int (c+k) s.toks,ux]) hf (λc O=>by
   simp![uD,uU,uM] at O;rcases O with rfl|rfl<;>assumption) (.cons (show ik (V.int (c+k)) _ from⟨0⟩) (.cons ag .nil)) (by show 2<=Vk;decide) g5 g6 (λc o O e=>by
    simp![uD,uU,uM,Vb] at O;exact g7 c o O.1 O.2 e)
  exists 0,wpAny_letOwnedTupleGo_enum (s:={s with heap:=h',toks:=s.toks+1}) g1 λad z2 s2=>?_
  have ae:∀c o,c≠e->h'.get? c=u_ o->ad.get? c=u_ o:=λc o O e=>s2.extBut c o O e;exists .ref #[0,s],_,I1.turnedL (fp:= [e]) (h':=ad) (t':=s.toks+1) (λc o O e=>ae c o (by simpa using O) e) (λc O=>ac c (by simp at O;simp[O])),1,⟨_,x,1,I.fresh,1,λzs ah=>?_⟩,[[ux:?_]:?_:D],λc O=>(ac c O).1
  .rwa[I.tuple_inj ah ha]
  .have e1:c+((k+1:Nat):Int)=c+(k:Int)+1:=by omega
   rwa[e1]
  .erw[g3,o,e,q];exact[o:ae _ _ (vV D) e:q]
 done:=by
  intro X hP hw hK O k oq s σ H E I hf st hg;subst hP hw hK;erw[hg,xs,ha,hx];erw[I.tuple ha,its,ra,pa,za];have hl:=↑ra;erw[st,[U,h1],h4,D];refine AwZ.enum_stop (A:=X.A) (I.ok.hd O) h1 h4 (show s.heap.IsTuple a its.toArray from pa) (by simp;omega) λh' kk=>[1:?_]
  exact I.turnedL (t':=s.toks) (λc o O e=>by
   simp![uD,uU,uM,Vb] at O;exact kk c o O.2 e) hf
 self:=λ_ _ _ _ _ st h=>by
  erw[st,[U,h1],_];exact RW h1 h
abbrev IL (K:o0)(w:og)(a:o3):Prop:=(a==VC)=Vg/\∃es n,K.lookup a=u_ ⟨.type "dict",U_,.dict es n,#[]⟩/\PySem.W.KeysLit w.params es.toList
inductive Adv (K:PySem.W.Frag)(w:World)(x:V)(y:V)(H:Hp)(Q:VK):Prop
 |mk (z:_)(a:_)(r:_)(_:x= !z)(_:y=-a)(_:IL K w a)(_:PySem.W.nsIn K a z=u_ r)(_:Q (.bl (!(r.isSome))) H)
def Pz:OpR X (Vs .NotIn) (Adv X.K X.w):=by
 exists 2,x,y,v,u,Q,I,U,ry,h;erw[h,z,a,r,rfl,rfl,[hs,es,n,O,hk],hn,q];erw[U,t,rfl];cases ry;have hm:=PySem.W.mapOf_K (prog:=X.prog) (w:=X.w) I.kIn O hk;refine RM (TL X.prog X.w z t) hs hm ⟨.bl (!(r.isSome)),H,I.tok _,?_,q⟩;rw[PySem.W.find_K O hn]
 rfl
inductive Ae2 (K:PySem.W.Frag)(w:World)(x:V)(y:V)(H:Hp)(Q:VK):Prop
 |mk (z:_)(a:_)(u:_)(v:_)(_:x=-a)(_:y= !z)(_:IL K w a)(_:PySem.W.nsIn K a z=u_ (u_ u))(_:ik v u)(_:Q v H)
def Aex:IxR X (Ae2 X.K X.w):=by
 intro value slice oq s σ H x y v u Q I U ry h hs;erw[h,z,a,u',v',rfl,rfl,[_,es,n,O,hk],hn,hr,q];erw[ry,t,rfl];cases U;have hm:=PySem.W.mapOf_K (prog:=X.prog) (w:=X.w) I.kIn O hk;exact tN hm.typeIs slot_dict_getitem.lookup (pA (TL X.prog X.w z t) hm (PySem.W.find_K O hn) ⟨v',H,I.tok _,hr,q⟩) hs
end
section
variable {X:Cx}{K:o0}
def DY {es:oj Expr}{k:Nat}{t:TGs}{n:Nat}{pos:Pos}(U:X.K=K)(hc:X.calm=v_)(h:PGs X es t)
  (hn:↑(g_ es X.env)=n) (O:(g_ es X.env).findIdx? (·.1)=U_):PG X (.Tuple es k pos) (AdR K n t):=by subst U;exact oE hc h hn O
end
def wf {lo:Int}{n:Nat}{L:o3}{H1:Hp}{te:TE}{tl:St}{Q:VK}(C:Nat->oj V->Hp->Prop)(hn:n<=Vk)(h0:C 0 [] (upd H1 L (.lst [])))
  (hs:∀i ys H,i<n->C i ys H->H L=u_ (.lst ys)->↑ys<=i->∀R:VK,(∀y H4,H4 L=u_ (.lst ys)->C (i+1) (ys++ [y]) (upd H4 L (.lst (ys++ [y])))->R y H4)->te (u_ (.int (lo+(i:Int)))::tl) H R)
  (hQ:∀ys H,C n ys H->H L=u_ (.lst ys)->Q (-L) H):CQ L (Itr lo n) (YR 0) nN te (U_::tl) H1 Q:=by
 exists n,λi σ ys H=>(∃x,σ=x::tl)/\C i ys H,hn,[[U_:1]:h0],?_,?_
 .rintro i σ ys H hi ⟨⟨x,rfl⟩,O⟩ U hy;exists hi;rintro x' H' ⟨rfl,rfl⟩;dsimp![YR,nN,Go];rw[A6 rfl];exact hs i ys H' hi O U hy _ λy H4 e c=>[e:⟨0⟩:c]
 .rintro σ ys H ⟨_,O⟩ U;exact[uj _:hQ ys H O U]
def AbW {K:o0}{a b A:o3}{H1:Hp}{te:TE}{tl:St}{Q:VK}{xs ys:oj V}(f:Nat->D)(ha:∀H,ig H1 H->SqT K H a xs)(hb:∀H,ig H1 H->SqL K H b ys)(ad:↑xs=↑ys)(hn:↑xs<=Vk)(hA:H1 A=U_)
  (aa:∀i x y H (R:VK),xs[i]? =u_ x->ys[i]? =u_ y->ig H1 H->(∀v H',ig H H'->Is H' (f i) v->R v H')->te (u_ x::u_ y::tl) H R)
  (hQ:∀H' vs,ig H1 H'->H' A=u_ (.lst vs)->L2.IsL H' ((Vp ↑xs).map f) vs->Q (-A) H'):CQ A (Itz K a b) (AdR K 2 (SV (YR 0) (SV (YR 1) Aez))) nN te (U_::U_::tl) H1 Q:=by
 exists ↑xs,λi σ us H=>(∃u v,σ=u::v::tl)/\L2.IsL H ((Vp i).map f) us/\ig H1 H,hn,[[U_:U_:1]:1:qf hA _],?_,?_
 .rintro i σ us H hi ⟨⟨u,v,rfl⟩,hl,sm⟩ O ae;have hx:xs[i]? =u_ xs[i]:=uh hi;have hy:ys[i]? =u_ (ys[i]'()):=uh _
  exists ⟨xs,ys,_,_,ha H sm,hb H sm,hx,hy⟩,λx H' y=>?_;erw[y,p,x',y',rfl,hp,rfl,e1,e2];have e1:=e1 xs (ha H sm);have e2:=e2 ys (hb H sm);have s2:ig H (upd H p (-[x',y'])):=qf hp _;exists p,0,SqT.of qg,1,x',0,y',0,1;dsimp![nN];rw[A6 rfl];refine aa i x' y' _ _ e1 e2 (sm.trans s2) λy4 H4 U ac=>⟨U _ _ (s2 _ _ O),[_:0],?_,λb o e=>?_⟩
  .have t:Tk H4 (upd H4 A (.lst (us++ [y4]))):=Tk.updL (U _ _ (s2 _ _ O));rw[HN,uq];exact((hl.mono (s2.trans U).tk).mono t).append (IsL.one (ac.mono t))
  .rw[qj (qk e hA)];exact U b o (s2 b o (sm b o e))
 .rintro σ us H ⟨_,hl,sm⟩ O;exact[[xs:ha H sm:1]:hQ H us sm O hl]
def XC (z:Str)(l:oj Str):inV (!z) (l.map V.str)=decide (z>l):=by
 unfold inV;rw[Tg,vM,rq,vf];constructor
 .rintro⟨x,U,e⟩;have O:(x==z)=true:=e;rw[beq_iff_eq] at O;exact O▸U
 .intro h;exact⟨z,h,by show(z==z)=v_;exact beq_self_eq_true z⟩
def XO (l:oj Str):(l.map V.str).all Z7=true:=by
 rw[UK,Ul];intro x _
 rfl
inductive Pt where
 |s (z:Str)|n (i:Int)
abbrev Pt.d:Pt->D
 | .s z=> !z
 | .n i=> .int i
abbrev Pt.t:Pt->Str
 | .s z=>z
 | .n i=>Vq i
inductive Kd where
 |box|line|words
 deriving DecidableEq
abbrev Kd.t:Kd->Str
 | .box=>"box"
 | .line=>"line"
 | .words=>"words"
abbrev BX:oj Str:= ["a","b","c","d","e","f","g","h"]
abbrev FRM:oj (Str×oj Kd):= [("text",[.box,.words]),("self",[.box]),("copy",[.box,.box]),("row",[.box]),("put",[.box,.box]),("join",[.box,.box]),("first",[.box,.box]),("rest",[.box,.box]),
 ("size",[.box,.box]),("cut",[.box,.box,.box]),("glue",[.box,.box,.box]),("ask",[.box,.box]),("has",[.box,.box]),("names",[.box,.box]),("go",[.line]),("like",[.box,.box,.line]),
 ("rowed",[.box,.line]),("none",[.box,.line]),("say",[.box]),("fault",[])]
abbrev Abr (n m:Nat):Kd->Pt->Prop
 | .box,.s z=>z>BX
 | .line,.n i=>1<=i/\i<=n
 | .words,.s z=>↑z<=m/\z.cps.toList.all QA=v_
 |_,_=>False
abbrev Xt (n m:Nat):oj Kd->oj Pt->Prop
 | [],[]=>True
 |k::ks,p::ps=>Abr n m k p/\Xt n m ks ps
 |_,_=>False
nonrec abbrev Rw:=Str×oj Pt
abbrev Jk (n m:Nat)(r:Rw):Prop:=∃ks,(r.1,ks)>FRM/\Xt n m ks r.2
abbrev txs (r:Rw):oj Str:=r.1::r.2.map Pt.t
abbrev yU (r:Rw):Str:=Vo " " (txs r)
abbrev rowD (r:Rw):D:=-[.str r.1,.tup (r.2.map Pt.d)]
def Jz:∀(x y:Str) (r:oj Str),(Vo " " (x::y::r)).cps.toList=x.cps.toList++32::(Vo " " (y::r)).cps.toList:=by
 intro x y r;show((x.cps++(" ":Str).cps)++(Vo " " (y::r)).cps).toList=_;rw[TW,TW,J4];simp
nonrec abbrev C4 (z:Str):Prop:=32∉z.cps.toList
def KH:∀(l:oj Str) (z:Str) (n:Nat),(∀p>l,C4 p)->(n=0\/C4 z)->spl (↑l+n) (Vo " " (l++ [z]))=l++ [z]
 | [],z,n,_,hz=>by
  show spl (0+n) z= [z];rw[tV];unfold spl;rcases hz with rfl|hz
  .rw[i9];show [ofL z.cps.toList]= [z];rw[yb]
  .rw[wB hz];show [ofL z.cps.toList]= [z];rw[yb]
 |p::l,z,n,hl,hz=>by
  have O:=KH l z n (λq U=>hl q (uc _ U)) hz;have hp:C4 p:=hl p uf;obtain⟨y,r,e⟩:∃y r,l++ [z]=y::r:=by cases l<;>exact[_:0]
  show spl ((↑l+1)+n) (Vo " " (p::(l++ [z])))=p::(l++ [z]);rw[e] at O⊢;unfold spl at O⊢;rw[Jz,show ↑l+1+n=(↑l+n)+1 by omega,Cd hp,uA,O,yb]
def SS (w:Str)(r:oj Str)(h:C4 w):hd (Vo " " (w::r))=w:=by
 have O:∀(p q:oj Nat),32∉p->xq 32 (p++32::q)=p:=by
  intro p
  induction p with
  |nil=>intro q _;simp[xq]
  |cons a p U=>
   intro q h;have h1:a≠32:=λe=>h (by simp[e])
   show xq 32 (a::(p++32::q))=a::p;rw[xq,A4 h1,U q λz=>h (uc _ z)]
 cases r with
 |nil=>
  show ofL (xq 32 w.cps.toList)=w;rw[Zd h,yb]
 |cons y r=>
  unfold hd;rw[Jz,O _ _ h,yb]
def BS:∀(l:oj Str),l≠ []->(Vo " " l).length+1=(l.map (·.length)).sum+↑l
 | [],h=>A8 rfl h
 | [x],_=>by simp[Vo]
 |x::y::r,_=>by
  have O:=BS (y::r) (by simp)
  have e:(Vo " " (x::y::r)).length=↑x+(1+(Vo " " (y::r)).length):=by
   have:=A9 Gb (Jz x y r);rw[uI,ui] at this;simp![vi] at this;show(Vo " " (x::y::r)).cps.size=_;rw[this];show x.cps.size+((Vo " " (y::r)).cps.size+1)=x.cps.size+(1+(Vo " " (y::r)).cps.size);omega
  rw[e,uA,UC,ui];omega
def oU {i:Int}(h1:1<=i)(h2:i<=40):↑(Vq i:Str)<=2/\C4 (Vq i:Str)/\(Vq i:Str).cps.toList.all QA=true:=by
 obtain⟨k,rfl⟩:∃k:Fin 41,i=((k.val:Nat):Int):=⟨[i.toNat:()],by simp;omega⟩
 have O:∀k:Fin 41,↑(Vq ((k.val:Nat):Int):Str)<=2/\decide (C4 (Vq ((k.val:Nat):Int):Str))=v_/\(Vq ((k.val:Nat):Int):Str).cps.toList.all QA=true:=by decide+kernel
 erw[O k,a,b,c];exact[a:um b:c]
def qas {i:Int}(h1:1<=i)(h2:i<=40):PySem.intText? (Vq i:Str)=u_ i:=PySem.W.KIN.num_reads () ()
variable {z:Str}
def NN (h:z>BX):↑z=1/\C4 z/\z.cps.toList.all QA=true:=by
 have O:∀z>BX,↑z=1/\decide (C4 z)=v_/\z.cps.toList.all QA=true:=by decide+kernel
 erw[O z h,a,b,c];exact[a:um b:c]
def C9:∀x>FRM,decide (C4 x.1)=v_/\x.1.cps.toList.all QA=true:=by decide+kernel
def SY:∀x>FRM,(decide (Kd.words>x.2)=Vg)\/x=(("text":Str),[Kd.box,Kd.words]):=by decide+kernel
def E4:∀x>FRM,∀y>FRM,x.1=y.1->x=y:=by decide+kernel
variable {n:Nat}
def oB {m:Nat}(hn:n<=40){k:Kd}{p:Pt}(h:Abr n m k p)(O:k≠ .words):C4 p.t:=by
 cases k<;>cases p<;>simp![Abr] at h
 .exact(NN h).2.1
 .exact(oU h.1 ()).2.1
 .exact A8 rfl O
def Zs {n m:Nat}:∀{ks:oj Kd}{ps:oj Pt},Xt n m ks ps->↑ps=↑ks
 | [],[],_=>rfl
 |_::_,_::_,h=>by rw[ui,ui,Zs h.2]
 | [],_::_,h=>h.elim
 |_::_,[],h=>h.elim
def kG {n m:Nat}(hn:n<=40):∀{ks:oj Kd}{ps:oj Pt},Xt n m ks ps->Kd.words∉ks->∀p>ps.map Pt.t,C4 p
 | [],[],_,_=>λp O=>by simp at O
 |_::_,_::_,h,hk=>λp O=>by
  rw[uA] at O;rcases Aa.mp O with rfl|O
  .exact oB hn h.1 λe=>hk (by simp[e])
  .exact kG hn h.2 (λz=>hk (uc _ z)) p O
 | [],_::_,h,_=>h.elim
 |_::_,[],h,_=>h.elim
variable {r:Rw}
def SF {m:Nat}(h:Jk n m r):hd (yU r)=r.1:=by
 erw[h,ks,O,U];exact SS _ _ (um (C9 _ O).1)
variable {ks:oj Kd}
def Md {m:Nat}(hn:n<=40)(hk:(r.1,ks)>FRM)(hp:Xt n m ks r.2):spl (if Kd.words>ks then ↑ks else(yU r).length+1) (yU r)=txs r:=by
 have hw:C4 r.1:=um (C9 _ hk).1;by_cases h:Kd.words>ks
 .rw[A6 h];rcases SY _ hk with e|e
  .simp at e;exact A8 h e
  .have e1:ks= [.box,.words]:=A9 Prod.snd e;subst e1;erw[r,w,ps]
   match ps,hp with
   | [p,q],hp=>
    have:=KH [w,p.t] q.t 0 (λz hz=>by
     simp![uD,uU,uM] at hz;rcases hz with rfl|rfl
     .exact hw
     .exact oB hn hp.1 ()) (.inl rfl)
    exact this
 .rw[A4 h];have hf:∀p>txs r,C4 p:=λp U=>by
   rcases Aa.mp U with rfl|U
   .exact hw
   .exact kG hn hp h p U
  rcases tU (txs r) with e|⟨l,z,e⟩
  .simp[txs] at e
  .rw[rA] at e;have O:=BS (txs r) (by simp[txs])
   unfold yU;rw[e] at hf O⊢;have hl:↑l<=(Vo " " (l++ [z])).length:=by
    rw[uI] at O;simp![ui,tP] at O;omega
   have:=KH l z ((Vo " " (l++ [z])).length+1-↑l) (λq hq=>hf q (vz _ hq)) (.inr (hf z (by simp)))
   rw[show ↑l+((Vo " " (l++ [z])).length+1-↑l)=(Vo " " (l++ [z])).length+1 by omega] at this
   exact this
abbrev VE:oj o6:= [.type "ValueError",.type "Exception",.type "BaseException",.type "object"]
abbrev CX1 (P:o9)(w:og):CXT:=λouter H s E e s'=>∃(ea C:o3) (a0:o6) (H':Hp) (B:o8),e= .ref ea/\s'.os=s.os/\Ge s'.gens/\0<s'.toks/\Un (frs outer) [] H H' s.heap s'.heap/\HOk P w H' B/\
 TF B outer ea (-C) a0 s'.heap/\(∀b o,s.heap.get? b=u_ o->b∉frs outer->∃o',B.get? b=u_ o')/\E (-ea) (u_ C) H'
variable {h:o8}{C:o3}
def Aco {bmB:oj o6}{newId:String}(X:K.In h)(q:PySem.W.excIn K C bmB newId=v_):
  ∃bm N nm qn bs hdct sn sub ab col dd k0 k1 k2 k3 k5 mN,h.get? C=u_ (excClassObj nm qn C N bs bm hdct sn sub ab col dd k0 k1 k2 k3 k5 newId)/\h.Ns N mN/\mN "__init__"=U_/\OwnTail h bmB bm:=by
 unfold PySem.W.excIn at q;split at q
 .rename_i dd cd sl ho
  split at q
  .rename_i C' bm k0 k1 k2 k3 n k5 hm hs
   simp![uC,beq_iff_eq,Bool.not_eq_true'] at q;erw[q,[[[[rfl,rfl],O],ht],hok],U];erw[cd,nm,bs,aa,ns,qn,hd,sn,sub,ab,col,ac];dsimp only at hm O hok U;subst hm O;obtain⟨l⟩:=sl;simp only at hs;subst hs;exact⟨bm,ns,nm,qn,bs,hd,sn,sub,ab,col,dd,k0,k1,k2,k3,k5,_,X _ _ ho,.of_isNs (PySem.W.isNs_of_in X hok),PySem.W.nsMap_none_of_in X hok U,PySem.W.tail_of_in X ht⟩
  .cases q
 .cases q
def sG {h base B:o8}:∀{l:oj Env},h.FunFrames base l->(∀b>frs l,B.get? b=U_)->h.FunFrames B l
 | [],_,_=>trivial
 |env::r,⟨hk,⟨L,o,hf,hn,ho,hd⟩,hr⟩,hB=>by
  have e:frs (env::r)=L::frs r:=by unfold frs;rw[vU,hf]
  rw[e] at hB;exact[hk:⟨L,o,hf,hB L uf,ho,hd⟩:sG hr λb O=>hB b (uc _ O)]
abbrev AaM (E:XK)(C:o3)(ta:TE):TS:=λ_ σ H=>IX ta AaN σ H λvs H1=>↑vs=1/\∀e,E (-e) (u_ C) H1
def Kq {P:o9}{w:og}{K:o0}{mg:Str->om o6}{base:o8}{N:oj Str}{qual:Str}{scope:VA}{f:o3}{U:o6}{A:oh}{outer:oj Env}{s₀:o7}{H₀:Hp}{E:XK}
  {x:Str}{C:o3}{np cpos pos:Pos}{aa:Expr}{ta:TE} (hx:PySem.W.excIn K C VE "ValueError.__new__"=v_) (hg:Gl (cxOf (CX1 P w) P w K mg base N qual scope f U A outer s₀ H₀ E) x) (hm:mg x=u_ (-C))
  (ha:PE (cxOf (CX1 P w) P w K mg base N qual scope f U A outer s₀ H₀ E) aa ta) (hd:(x==("__debug__":Str))=Vg)
  (hs:Vl [aa] (Vn qual scope #[0,s₀] f U)= [(Vg,eval aa (Vn qual scope #[0,s₀] f U))]):
  PS (cxOf (CX1 P w) P w K mg base N qual scope f U A outer s₀ H₀ E) (.Raise (u_ (.Call (.Name x np) [aa] [] cpos)) U_ pos) (AaM E C ta):=by
 exists 2,D,I,h;erw[Aco I.mod.kin hx,bm,Nn,nm,q,bs,hdct,sn,sub,ab,col,dd,k0,k1,k2,k3,k5,mN,hC,hN,aq,T];have hT:bm.contains (.type "BaseException")=true:=T.hasType ()
 refine wpAny_Raise_call_subT (C:=C) (nm:=nm) (q:=q) (N:=Nn) (bs:=bs) (bm:=bm) (hdct:=hdct) (sn:=sn) (sub:=sub) (ab:=ab) (col:=col) (dd:=dd) (k0:=k0) (k1:=k1) (k2:=k2) (k3:=k3) (k5:=k5)
  (mN:=mN) F.excBase_ValueError hT (I.ok.hd rfl) (by show(Vt cpos (Vl [aa] (Vn qual scope #[0,s₀] f U))).any (·.1)=Vg;rw[hs];rfl) aq (xL I hg hm [1:?_] hd)
 have au:PA (cxOf (CX1 P w) P w K mg base N qual scope f U A outer s₀ H₀ E) [aa] (IX ta AaN):=qb ha qd hs;have hp:=au cpos oq s σ H (λvs H1=>↑vs=1/\∀e,E (-e) (u_ C) H1) I h;show Vh _ _ (evalArgs (-C) v_ (Vt cpos (Vl [aa] (Vn qual scope #[0,s₀] f U))) []) _ _ s;have aw:Vl [aa] (cxOf (CX1 P w) P w K mg base N qual scope f U A outer s₀ H₀ E).env= [(Vg,eval aa (Vn qual scope #[0,s₀] f U))]:=hs;rw[aw] at hp;rw[hs];refine Uc (vg hp (λvs s₂ h₂=>?_) λ_ _ y=>y);erw[h₂,ws,H2,I2,r2,q2];erw[q2,hl,q2];have bk:=I2.bk;have ax:↑vs<=sizeLine:=by rw[<-↑r2,hl];decide
 exists 1,ax,bk _ _ hC,hN.keeps bk,T.keeps bk,λh' e ad=>?_;show Vh (Vu P w) (A.deeper (Vn qual scope #[0,s₀] f U)) (tR (Vn qual scope #[0,s₀] f U) (-e)) (λ_ ag=>CX1 P w outer H₀ s₀ E (-e) ag) (λe' ag=>CX1 P w outer H₀ s₀ E e' ag) _;have ay:(A.deeper (Vn qual scope #[0,s₀] f U)).frames=u_ (Vn qual scope #[0,s₀] f U::outer):=I2.ok.frames;have ak:s₂.heap.FunFrames base (Vn qual scope #[0,s₀] f U::outer):=I2.stack;have ah:∀b>frs (Vn qual scope #[0,s₀] f U::outer),H2 b=none:=I2.stkFree;have al:frs (Vn qual scope #[0,s₀] f U::outer)=#[0,s₀]::frs outer:=rfl;have ap:#[0,s₀]<=#[0,s₀]:=I2.ok.above;have O:Un (frs outer) [] H₀ H2 s₀.heap s₂.heap:=I2.base;refine wpAny_leaves_madeW (base:=TI.gone s₂.heap (frs (Vn qual scope #[0,s₀] f U::outer))) (h:=s₂.heap) (L:=#[0,s₀]) ay rfl (λb o e=>(TI.gone_some e).2) (sG ak λb hb=>TI.gone_none hb) ad λam t af aB _ aA=>?_;have ae:∀b o,b∉frs (Vn qual scope #[0,s₀] f U::outer)->s₂.heap.get? b=u_ o->am.get? b=u_ o:=λb o hb e=>af.1 b o (by rwa[TI.gone_get hb])
 have slots:∀b o,s₂.heap.get? b=u_ o->(∀vs,o.data≠ .fields vs)->∃sl,am.get? b=u_ {o with slots:=sl}:=λb o e hn=>aA b o (ad.keeps b o e) hn
 have nd:∀b>frs outer,∀o,s₂.heap.get? b=u_ o->∀vs,o.data≠ .fields vs:=λb hb o e=>by
  obtain⟨_,o',e',hn⟩:=ak.mem (show b>(Vn qual scope #[0,s₀] f U::outer).filterMap (·.frame) from by rw[show(Vn qual scope #[0,s₀] f U::outer).filterMap (·.frame)=frs (Vn qual scope #[0,s₀] f U::outer) from rfl,al];exact uc _ hb)
  rw[e] at e';cases e';exact hn
 have ac:∀b o,s₀.heap.get? b=u_ o->b∉frs outer->b∉frs (Vn qual scope #[0,s₀] f U::outer):=λb o e hb hm=>by
  rw[al] at hm;rcases Aa.mp hm with rfl|hm
  .exact A8 (uF e) (vL _)
  .exact hb hm
 exists e,C,-t,H2,0,I2.os,I2.bare,(by first|exact I2.tk|exact Vv I2.tk (Va _ _)|((try dsimp only);first|assumption|exact Inv.tk (by assumption)|exact HW _|exact Vv (Inv.tk (by assumption)) (by assumption)|exact Nat.add_pos_left (Inv.tk (by assumption)) _|omega)),⟨?_,?_,O.free,?_,O.tups,O.frzs,O.tbls⟩,?_,af,?_,q2 e
 .intro b o e1 hn hb hx;exact ae b o (ac b o e1 hb) (O.keep b o e1 hn hb hx)
 .intro b o e1 hn hb hx;erw[O.slot b o e1 hn hb hx,sl,e2];erw[slots b _ e2 (nd b hb _ e2),ao,e3];exact[ao:e3]
 .intro b o e1 hx;erw[O.there b o e1 hx,o',e2];by_cases hb:b>frs outer
  .erw[slots b _ e2 (nd b hb _ e2),ao,e3];exact[_:e3]
  .exact[o':ae b o' (ac b o e1 hb) e2]
 .intro b u hb;refine(I2.hok b u hb).stay (λc v hc q=>?_) (λ_ q=>q) λ_ _ q=>q;rw[TI.gone_get]
  .exact q
  .intro hm;have hn:=ah c hm;rcases hc with z|z
   .rw[z,hb] at hn;cases hn
   .rw[z] at hn;cases hn
 .intro b o e1 hb;obtain⟨o',e2⟩:=O.there b o e1 (by simp)
  exact⟨o',by rwa[TI.gone_get (ac b o e1 hb)]⟩
nonrec abbrev Cx.marked (X:Cx)(ee:o3)(xe:o6->o7->Prop):Cx:={X with A:=X.A.mark (u_ (-ee)),calm:=Vg,xe:=xe}
section
variable {X:Cx}{oq:oj (o3×Obj)}{σ:St}{H:Hp}{s:o7}{ee:o3}{xe:o6->o7->Prop}
def Cx.Ok.marked (ok:X.Ok):(X.marked ee xe).Ok:=
 ⟨ok.mod,ok.kind,ok.glob,ok.blt,ok.above,ok.inj,ok.has,ok.cab,(λz=>A8 z u8),ok.frames,ok.stk,ok.exf,ok.bs,ok.bsz,ok.noex,ok.exfs,ok.funs,ok.frf⟩
def Inv.marked (I:#[I]):Inv (X.marked ee xe) oq σ H s:=⟨I.ok.marked,I.os,I.bare,I.base,I.loc,I.cell,I.free,I.freeC,I.pin,I.hok,I.len,I.tk⟩
def Inv.unmarked (ok:X.Ok)(I:Inv (X.marked ee xe) oq σ H s):#[I]:=⟨ok,I.os,I.bare,I.base,I.loc,I.cell,I.free,I.freeC,I.pin,I.hok,I.len,I.tk⟩
def SP.unmarked (ok:X.Ok){D:mF}{f:Flow}{s':o7}(h:SP (X.marked ee xe) oq D f s'):SP X oq D f s':=by
 cases f with
 |next=>erw[h,O,H',I,q];exact⟨O,H',I.unmarked ok,q⟩
 |brk=>erw[h,O,H',I,q];exact⟨O,H',I.unmarked ok,q⟩
 |cont=>erw[h,O,H',I,q];exact⟨O,H',I.unmarked ok,q⟩
 |ret u=>erw[h,v,O,H',I,r,q];exact⟨v,O,H',I.unmarked ok,r,q⟩
abbrev Cat (X:Cx)(oq:oj (o3×Obj))(σ:St)(E:XK)(e:o6)(s':o7):Prop:=∃H1 s1,Inv X oq σ H1 s1/\CX1 X.prog X.w X.stack H1 s1 E e s'
def MH {k:Nat}{f:o3}{fd:Vi}{ps:oj Str}{sp:Sp}{x:Str}{p pos:Pos}{e:Expr}{es:oj Expr}{t:TA}{Q:VK}{E:XK}(F:FnOk X.prog X.w X.K X.mg X.base (CX1 X.prog X.w) k f fd ps sp)(hr:mj k X.A)(hg:Gl X x)(hm:X.mg x=u_ (-f))
  (hk:PySem.W.keepIn X.K (-f)=v_) (hb:Jr X.K fd ps []) (ha:PA X.nox (e::es) t) (I:#[I]) (h:t σ H λvs H1=>sp vs H1 Q E) (aa:(x==("__debug__":Str))=Vg)
  (he:Vl (e::es) X.env=(Vg,eval e X.env)::Vl es X.env) (ac:(Vt pos (Vl es X.env)).any (·.1)=Vg):
  Vh #[X,X] X.A (eval (.Call (.Name x p) (e::es) [] pos) X.env) (EP X oq σ Q) (Cat X oq σ E) s:=by
 refine Ut (xL I hg hm ?_ aa);refine U4 (h₀:=X.base) I.ok.mod.kin hk (vg (ha pos oq s σ H _ (I.wish _) h) (λus s1 h1=>?_) λ_ _ z=>z.elim) he ac;erw[h1,vs,H1,ad,r,q];have O:Inv X oq σ H1 s1:=ad.unwish;exists O.kIn;have hl:↑us=↑ps:=by rw[<-↑r];exact F.len _ _ _ _ q
 have U:=hb s1 us O.kIn (by rwa[ve])
 rw[ve] at U;refine UZ (Uh (F.run X.A X.stack s1 H1 [us:[]] us vs Q E hr O.env0 U r q (.inl O.tk)) λr s' hq=>?_);cases r with
 |error e=>exact⟨H1,s1,O,hq⟩
 |ok fl=>
  cases fl with
  |ret u=>exact O.after hq
  |next=>exact Vw hq
  |brk=>exact Vw hq
  |cont=>exact Vw hq
def ME {D:mF}{e:o6}{s':o7}{c:Str}{np am:Pos}{Cc C':o3}{b₀:Stmt}{ac:oj Stmt}{ts:TS}(aw:Cat X oq σ (λ_ C H2=>C=u_ Cc/\ts D σ H2) e s')(ad:X.stack=X.env::X.outer/\X.env.frame=u_ X.env.locals)
  (hg:Gl X c) (hm:X.mg c=u_ (-C')) (hx:PySem.W.exmOne X.K (-Cc) (-C')=u_ v_) (hs:∀ee xe,PSs (X.marked ee xe) (b₀::ac) ts) (ax:(c==("__debug__":Str))=Vg):
  Vh #[X,X] X.A (Fu e X.env) (λ_ s2=>Vh #[X,X] X.A (setFlight e U_) (λ_ s3=>Vh #[X,X] X.A (handleBy e X.env [.ExceptHandler (u_ (.Name c np)) U_ (b₀::ac) am]) (SP X oq D) X.xe s3) X.xe s2) X.xe s':=by
 erw[aw,H1,s1,I,ea,C,a0,H',B,rfl,ay,ah,htk,O,ao,aa,hold,hC,aA];cases hC;have step:∀hk,B.StaysIn hk->s'.heap.UpToSlots hk->Inv X oq σ H' {s' with heap:=hk}:=by
  intro hk hB hU;have nd:∀b>frs X.stack,∀o,s'.heap.get? b=u_ o->∀vs,o.data≠ .fields vs:=λb hb o e=>by
   obtain⟨_,o',e',hn⟩:=aa.2.2.1.mem (show b>X.stack.filterMap (·.frame) from hb)
   rw[e] at e';cases e';exact hn
  have aB:∀b o o',B.get? b=u_ o'->s'.heap.get? b=u_ o->hk.get? b=u_ o:=λb o o' e1 e2=>by
   have:=aa.1 b o' e1;rw[e2] at this;cases this;exact hB b o e1
  refine I.call' (s':={s' with heap:=hk}) (ch:= []) ay ⟨?_,?_,O.free,?_,O.tups,O.frzs,O.tbls⟩ (ao.kept λb u e=>hB b u e) ah (λb z=>by simp at z)
  .intro b o e1 hn hb ae;erw[hold b o e1 hb,o',e2];exact aB b o o' e2 (O.keep b o e1 hn hb ae)
  .intro b o e1 hn hb ae;erw[O.slot b o e1 hn hb ae,sl,e2];erw[hU b _ e2 (nd b hb _ e2),ap,e3];exact[ap:e3]
  .intro b o e1 ae;by_cases hb:b>frs X.stack
   .erw[O.there b o e1 ae,o',e2];erw[hU b _ e2 (nd b hb _ e2),ap,e3];exact[_:e3]
   .erw[hold b o e1 hb,o',e2];exact[o':hB b o' e2]
 rw[ad.1] at aa;have aC:X.A.frames=u_ (X.env::X.outer):=by rw[I.ok.frames,ad.1]
 refine FE (base:=B) aC ad.2 aa λh1 ak af=>?_;refine rJ ak λh2 U ag=>?_;have I2:=step h2 U.1 (af.trans ag);refine rD (Ry ?_) (by intro q;cases q)
 refine xL (X:=X.marked ea X.xe) I2.marked hg hm ?_ ax;erw[U.there,oe,he,aq];have LT:PySem.W.Looks #[X,X] h2 (hW (-ea)) (-Cc):=aq▸(PySem.W.Looks.ld he).andThen .now;refine PySem.W.exm_one I2.kIn LT hx _ _ _ _ (λb o e=>e) ?_;refine codeAny_handlers_suite (p9 U λh3 al au=>?_);have I3:=step h3 al.1 ((af.trans ag).trans au);exact vg (hs ea _ oq _ σ H' D I3.marked aA) (λf s4 h4=>h4.unmarked I.ok) λ_ _ z=>z
end
def Fun.okX {P:o9}{w:og}{K:o0}{mg:Str->om o6}{base:o8}{x qual:Str}{st:Stmt}{f:o3}{fd:Vi}{N ps:oj Str}{k:Nat}{sp:Sp}(F:Fun K x qual st f fd)(S:qv N ps (qh st))(len:∀vs H Q E,sp vs H Q E->↑vs=↑ps)
  (O:∀(cdv:o6) (A:oh) (outer:oj Env) (s:o7) (H:Hp) (vs:oj V) (Q:VK) (E:XK),mj k (A.deeper (Vn qual (qh st) #[0,s] f cdv))->sp vs H Q E->
   ∃t,PSs (cxOf (CX1 P w) P w K mg base N qual (qh st) f cdv A outer s H E) (yZ st) t/\t {nx:=λ_ H'=>Q .non H',rt:=Q} (Kn N vs) H):FnOk P w K mg base (CX1 P w) (k+1) f fd ps sp:=by
 erw[F.ex,oc,od,kV,doc,pm,an,cdv,ct,osl,rfl,lk,U];exact Acd lk U S len λA outer s H vs Q E hr aa=>O cdv A outer s H vs Q E hr aa
end L2
namespace HT
open PySem PyProof.Rows
section
variable {prog:o9}{w:og}{A:oh}{E:o6->o7->Prop}{s:o7}
def getItem_tuple_all {t sl:o3}{items:Array o6}{vl vu:o6}{lo hi:om Int}{Q:o6->o7->Prop}(O:G_ s.heap t items)(hs:s.heap.IsSliceOf sl vl vu .none)(pl:Gg vl lo)(pu:Gg vu hi)
  (hw:sIx items.size 0 lo=0/\sIx items.size items.size hi=items.size) (h:Q (-t) s):Vh #[w,w] A (VV (-t) (-sl)) Q E s:=by
 erw[id hs,os,aa,ac,ae];have ad:s.TypeIs (-sl) "slice":=[os:aa:ac];unfold VV
 try with_reducible refine VL ?_
 first|refine A7 (uw ?_)|skip
 refine A7 (RZ O.typeIs () ?_)
 refine A7 (vj (name:=GB "__getitem__") O.typeIs vK
  (vH vK O.typeIs FN ?_ (FT _ _)))
 show Vh _ _ (p6 (-t)>>=_) _ _ s;refine A7 (RA O ?_);refine A7 (GC ad ?_);rw[A6 ()]
 refine A7 (Je hs pl pu ?_);have U:((((sIx items.size 0 lo:Nat):Int)==0&&(1:Int)==1&&(sIx items.size items.size hi-sIx items.size 0 lo)==items.size)=v_):=by
  rw[hw.1,hw.2];simp
 show Vh _ _ (if(((sIx items.size 0 lo:Nat):Int)==0&&(1:Int)==1&&(sIx items.size items.size hi-sIx items.size 0 lo)==items.size)=v_ then _ else _) _ _ s
 rw[A6 U];unfold Pu;refine A7 (A7 (GC O.typeIs (uw ?_)));rw[A6 ()]
 exact A7 (UJ (uw [0:uw h]))
end
end HT
namespace L2
open PySem PySem.Spec PyProof.Rows
section
variable {X:Cx}
inductive Aeq (K:PySem.W.Frag)(x:V)(lo:Option Int)(hi:Option Int)(H:Hp)(Q:VK):Prop
 |mk (a:_)(xs:_)(_:x=-a)(_:SqT K H a xs)(_:(HT.sIx ↑xs 0 lo=0/\HT.sIx ↑xs ↑xs hi=↑xs->Q (-a) H))(_:(¬(HT.sIx ↑xs 0 lo=0/\HT.sIx ↑xs ↑xs hi=↑xs)->∀p,H p=U_->Q (-p) (upd H p (.tup (nj xs lo hi)))))
def DE:SlR X (Aeq X.K):=by
 exists 2,x,v,vl,vu,lo,hi,sl,Q,I,rx,hs,pl,pu,h;erw[h,a,xs,rfl,hx,q1,q2];by_cases U:HT.sIx ↑xs 0 lo=0/\HT.sIx ↑xs ↑xs hi=↑xs
 .cases rx;erw[I.tuple hx,its,r,ht,hz];have O:its.toArray.size=↑xs:=by rw[ur];exact r.length.symm
  exists "tuple",_,PyProof.Rows.slot_tuple_getitem.lookup,ht.typeIs;exact HT.getItem_tuple_all ht hs pl pu (by rwa[O]) ⟨-a,H,I,1,q1 U⟩
 .exact Aba oq s σ H (-a) v vl vu lo hi sl Q I rx hs pl pu ⟨a,xs,1,hx,U,q2 U⟩
end
abbrev Yq (n:Nat):Kd->Str->om Pt
 | .words,z=>u_ (.s z)
 | .box,z=>if z>BX then u_ (.s z) else U_
 | .line,z=>((Vp n).find? λi:Nat=>decide ((Vq (1+(i:Int)):Str)=z)).map λi:Nat=> .n (1+(i:Int))
abbrev Yy (n:Nat):oj Kd->oj Str->om (oj Pt)
 | [],_=>u_ []
 |k::ks,z::zs=>match Yq n k z,Yy n ks zs with
  |some p,u_ ps=>u_ (p::ps)
  |_,_=>U_
 |_::_,[]=>U_
abbrev xB (w:Str):om (oj Kd):=(FRM.find? λx=>decide (x.1=w)).map (·.2)
abbrev pcs (ks:oj Kd)(z:Str):oj Str:=spl (if Kd.words>ks then ↑ks else ↑z+1) z
abbrev Wh (n:Nat)(z:Str):om Rw:=
 if QB z=v_ then match xB (hd z) with
  |none=>U_
  |some ks=>if(pcs ks z).length=1+↑ks then(Yy n ks ((pcs ks z).drop 1)).map λl=>(hd z,l) else U_
 else U_
variable {ks:oj Kd}
def zQ {w:Str}(h:xB w=u_ ks):(w,ks)>FRM:=by
 unfold xB at h;cases e:FRM.find? λx=>decide (x.1=w) with
 |none=>rw[e] at h;cases h
 |some x=>
  rw[e] at h;have O:=HA e;have hm:=Ub e;cases h;have:x.1=w:=um O;subst this;exact hm
def WU {w:Str}(h:xB w=U_):∀x>FRM,x.1≠w:=by
 unfold xB at h;rw[T7,Uv] at h;intro x O e;exact h x O (ud e)
variable {n:Nat}{z:Str}
def D2 {m:Nat}{k:Kd}{p:Pt}(hz:↑z<=m)(ha:z.cps.toList.all QA=v_)(h:Yq n k z=u_ p):Abr n m k p/\p.t=z:=by
 cases k with
 |words=>cases h;exact[[hz:ha]:1]
 |box=>
  simp![Yq] at h;by_cases O:z>BX
  .rw[A6 O] at h;cases h;exact[O:1]
  .rw[A4 O] at h;cases h
 |line=>
  simp![Yq] at h;cases e:(Vp n).find? λi:Nat=>decide ((Vq (1+(i:Int)):Str)=z) with
  |none=>rw[e] at h;cases h
  |some i=>
   rw[e] at h;cases h;have h1:=HA e;have h2:=List.mem_range.mp (Ub e);exact[[():()]:um h1]
def kX {n m:Nat}:∀{ks:oj Kd}{zs:oj Str}{ps:oj Pt},(∀z>zs,↑z<=m/\z.cps.toList.all QA=v_)->↑zs=↑ks->Yy n ks zs=u_ ps->Xt n m ks ps/\ps.map Pt.t=zs
 | [],[],ps,_,_,h=>by cases h;exact[trivial:1]
 | [],_::_,_,_,hl,_=>by simp at hl
 |_::_,[],_,_,hl,_=>by simp at hl
 |k::ks,z::zs,ps,hz,hl,h=>by
  unfold Yy at h;split at h
  .rename_i p qs h1 h2
   cases h;erw[D2 (hz z uf).1 (hz z uf).2 h1,O,U];obtain⟨b1,b2⟩:=kX (λy hy=>hz y (uc _ hy)) (by simpa using hl) h2
   exact⟨[O:b1],by rw[uA,U,b2]⟩
  .cases h
abbrev KC:oj (oj Nat)->oj Nat
 | []=> []
 | [x]=>x
 |x::y::r=>x++32::KC (y::r)
def CS (x:oj Nat){q:oj (oj Nat)}(O:q≠ []):KC (x::q)=x++32::KC q:=by
 cases q with
 |nil=>exact A8 rfl O
 |cons y r=>rfl
def KJ:∀(n:Nat) (L:oj Nat),KC (i9 32 n L)=L
 |0,L=>by simp[i9,KC]
 |n+1,[]=>by simp[i9,KC]
 |n+1,a::r=>by
  by_cases h:a=32
  .have O:=KJ n r;erw[Ju 32 n r,p,q,e];rw[i9,A6 h,CS [] (by rw[e];simp),O,h]
   rfl
  .have O:=KJ (n+1) r;erw[Ju 32 (n+1) r,p,q,e];rw[e] at O;simp![i9,A4 h,e];cases q with
   |nil=>simp![KC] at O⊢;rw[O]
   |cons y t=>
    simp![KC] at O⊢;rw[U0,O]
def BR:∀l:oj (oj Nat),(Vo " " (l.map ofL)).cps.toList=KC l
 | []=>rfl
 | [x]=>by show(ofL x).cps.toList=x;unfold ofL;simp
 |x::y::r=>by
  have O:=BR (y::r);show(Vo " " (ofL x::ofL y::r.map ofL)).cps.toList=_;rw[Jz];have e:(ofL x).cps.toList=x:=by unfold ofL;simp
  rw[e];show x++32::(Vo " " ((y::r).map ofL)).cps.toList=_;rw[O]
  rfl
def Lc (n:Nat)(z:Str):Vo " " (spl n z)=z:=by
 unfold spl;have h:=BR (i9 32 n z.cps.toList);rw[KJ] at h;rw[<-yb (Vo " " ((i9 32 n z.cps.toList).map ofL)),h,yb]
def Cb:∀(n:Nat) (L:oj Nat),∃q,i9 32 (n+1) L=xq 32 L::q
 |n,[]=>⟨[],by simp[i9,xq]⟩
 |n,a::r=>by
  by_cases h:a=32
  .exact⟨i9 32 n r,by simp[i9,xq,h]⟩
  .erw[Cb n r,q,e];exact⟨q,by simp![i9,A4 h,e,xq]⟩
def Lb (n:Nat)(z:Str):∃q,spl (n+1) z=hd z::q:=by
 erw[Cb n z.cps.toList,q,e];exact⟨q.map ofL,by unfold spl hd;rw[e];rfl⟩
def AM:∀(n:Nat) (L:oj Nat),∀p>i9 32 n L,↑p<=↑L/\∀c>p,c>L
 |0,L=>λp O=>by
  simp[i9] at O;subst O;exact[uj _:λc U=>U]
 |n+1,[]=>λp O=>by
  simp[i9] at O;subst O;exact[uj _:λc U=>U]
 |n+1,a::r=>λp O=>by
  by_cases h:a=32
  .rw[i9,A6 h] at O;rcases Aa.mp O with rfl|O
   .exact⟨uS _,λc U=>by simp at U⟩
   .erw[AM n r p O,h1,h2];exact⟨by simp;omega,λc U=>uc _ (h2 c U)⟩
  .erw[Ju 32 (n+1) r,p0,q,e];have ih:=AM (n+1) r;rw[e] at ih;simp![i9,A4 h,e] at O;rcases Aa.mp O with rfl|O
   .erw[ih p0 uf,h1,h2];refine⟨by simp;omega,λc U=>?_⟩
    rcases Aa.mp U with rfl|U
    .exact uf
    .exact uc _ (h2 c U)
   .erw[ih p (uc _ O),h1,h2];exact⟨by simp;omega,λc U=>uc _ (h2 c U)⟩
def MX {m:Nat}(hz:↑z<=m)(ha:z.cps.toList.all QA=v_):∀p>spl n z,↑p<=m/\p.cps.toList.all QA=true:=by
 intro p O;erw[Ae.mp O,q,U,rfl];erw[AM n z.cps.toList q U,h1,h2];have e:(ofL q).cps.toList=q:=by unfold ofL;simp
 exists ?_,?_
 .have:↑(ofL q)=↑q:=by unfold ofL Gh;simp
  rw[this];have:↑z.cps.toList=↑z:=by simp[Gh]
  omega
 .rw[e,Ul];intro c hc;exact List.all_eq_true.mp ha c (h2 c hc)
variable {r:Rw}
def Bp (h:Wh n z=u_ r):Jk n 300 r/\yU r=z:=by
 unfold Wh at h;split at h
 .rename_i ht
  have O:=ht;unfold QB at O;rw[uC,vf] at O;split at h
  .cases h
  .rename_i ks hk
   split at h
   .rename_i hl
    cases e:Yy n ks ((pcs ks z).drop 1) with
    |none=>rw[e] at h;cases h
    |some l=>
     rw[e] at h;cases h;have hm:=zQ hk;have U:∀p>(pcs ks z).drop 1,↑p<=300/\p.cps.toList.all QA=true:=λp hp=>MX O.1 O.2 p (tW hp);obtain⟨a1,a2⟩:=kX U (by rw[vZ,hl];omega) e
     exists [ks:hm:a1];have aa:∃j,(if Kd.words>ks then ↑ks else ↑z+1)=j+1:=by
      split
      .rename_i hw
       exact⟨↑ks-1,by have:=List.length_pos_iff.mpr (λe=>by rw[e] at hw;simp at hw:ks≠ []);omega⟩
      .exact[↑z:1]
     erw[aa,j,hj];erw[Lb j z,q,hq];have hp:pcs ks z=hd z::q:=by unfold pcs;rwa[hj]
     have hb:Vo " " (pcs ks z)=z:=Lc _ z;show Vo " " (hd z::l.map Pt.t)=z;rw[a2];rw[hp] at hb⊢;exact hb
   .cases h
 .cases h
abbrev AY (a C:o3):HO:= .ext λh=>∃o,h.get? a=u_ o/\o.cls= .ref C/\PySem.W.notCls o=v_
variable {w:og}{H:Hp}{h:o8}{a C:o3}{o:Obj}
def AY.ok {P:o9}(e:h.get? a=u_ o)(c:o.cls=-C)(n:PySem.W.notCls o=v_):ye P w H h a (AY a C):=
 [⟨o,e,c,n⟩:[o:e]:λ_ _ ⟨o,e,c,n⟩ k=>⟨o,k o e,c,n⟩]
def ye.here {P:o9}{o:HO}(x:ye P w H h a o):∃u,h.get? a=u_ u:=by
 cases o with
 |lst xs=>erw[x,_,_,_,_,e];exact[_:e]
 |tup xs=>erw[x,_,_,_,u,e,_];exact[_:e]
 |dK kvs=>erw[x,_,_,_,_,u,_,_,e,_];exact[_:e]
 |dT kvs=>erw[x,_,_,_,_,u,_,_,e,_];exact[_:e]
 |set S n=>erw[x,u,_,_,_,e,_];exact[_:e]
 |ins C dx fs=>erw[x,_,_,_,e,_];exact[_:e]
 |own y=>exact x
 |xd fs=>erw[x,_,[_,_,_,e,_],_];exact[_:e]
 |rng lo hi=>erw[x,_,_,_,e];exact[_:e]
 |frz ob u=>erw[x,e,_];exact[_:e]
 |tbl ps=>exact⟨_,show h.get? a=u_ _ from x⟩
 |met f y=>exact⟨_,show h.get? a=u_ _ from x⟩
 |ext φ=>erw[x,_,q,_];exact q
abbrev mF.less (D:mF)(i:Nat):mF:={nx:=λσ H=>D.nx (σ.set i U_) H,rt:=D.rt,bk:=λσ H=>D.bk (σ.set i U_) H,ct:=λσ H=>D.ct (σ.set i U_) H}
section
variable {X:Cx}{oq:oj (o3×Obj)}{σ:St}{H:Hp}{s:o7}
def zr {M:Gq}{A:oh}{E:o6->o7->Prop}{i:Nat}{x:Str}{pos:Pos}{Q:Unit->o7->Prop}(I:#[I])(hN:X.N.Nodup)(hi:X.N[i]? =u_ x)(hx:X.env.scope.names.lookup x=u_ .local)
  (h:∀s',Inv X oq (σ.set i U_) H s'->Q G7 s'):Vh M A (do bindName X.env x .none;pM X.env x pos) Q E s:=by
 have hk:X.env.kindOf x=u_ .local:=hx;have ac:(X.env.scope.kind== .class||(X.env.scope.kind== .module&&X.env.locals !=X.env.globals))=false:=by rw[I.ok.kind];rfl
 have ad:i<↑σ:=by rw[I.len];exact(Af.mp hi).1
 refine A7 (wpAny_bindName (zn (v:= .non) I hN hi (.inl hx) rfl (λs1 O=>?_) (.inr hx)));erw[id O.loc,m,hn,hl];have aa:(m x).isSome=true:=by
  obtain⟨u,ru,q⟩:=hl i x .non hi (by rw[Uo ad]) (.inl hx)
  rcases q with⟨_,e⟩|⟨k,_⟩
  .rw[e];rfl
  .rw[hk] at k;rcases k with k|k<;>cases k
 unfold pM;refine HI ?_;unfold unbindName;refine A7 (p7 (A7 ?_));unfold deleteName;simp![hk,ac];rw[A4 ()]
 refine A7 (wpAny_nsDel_keeps hn λh2 v ae U=>?_);rw[aa];simp![Ve,Tl,U5,Vc];have cne:=O.cne;have af:HOk X.prog X.w H h2:=HOk.sameBut O.hok O.free U;have I2:Inv X oq (σ.set i U_) H {s1 with heap:=h2}:=by
  refine⟨O.ok,O.os,O.bare,⟨λb o e n hb hx=>?_,λb o e n hb hx=>?_,O.base.free,λb o e hx=>?_,O.base.tups,O.base.frzs,O.base.tbls⟩,[_:ae:λj y v' e1 e2 e3=>?_],λy c e=>?_,O.free,O.freeC,λp hp=>?_,af,by rw[pJ];exact I.len,O.tk⟩
  .exact(U.2 b (uP (Vv (uF e) O.ok.above))).trans (O.base.keep b o e n hb hx)
  .erw[O.base.slot b o e n hb hx,sl,e1];exact[sl:(U.2 b (uP (Vv (uF e) O.ok.above))).trans e1]
  .erw[O.base.there b o e hx,o',e1];exact[o':(U.2 b (uP (Vv (uF e) O.ok.above))).trans e1]
  .by_cases hj:j=i
   .subst hj;rw[Uo ad] at e2;cases e2
   .rw[UE (vV hj)] at e2;obtain⟨u',r',q⟩:=hl j y v' e1 (by rw[UE (vV hj)];exact e2) e3
    exists u',r';rcases q with⟨k,e⟩|⟨k,c,e,z⟩
    .refine .inl [k:?_];have ag:y≠x:=λe=>hj (qat hN e1 (e▸hi));simp[ag,e]
    .exact .inr ⟨k,c,e,z.sameBut U (cne y c e)⟩
  .erw[O.cell y c e,w',z];exact[w':z.sameBut U (cne y c e)]
  .erw[O.pin p hp,e,n,ne,nf,d];exact⟨(U.2 p.1 ne).trans e,n,ne,nf,d⟩
 exact uw (p7 (h _ I2))
def MF {D:mF}{e:o6}{s':o7}{c n:Str}{i:Nat}{np aw:Pos}{C':o3}{b₀:Stmt}{ae:oj Stmt}{ts:TS}
  (aE:Cat X oq σ (λv C H2=>∃Cc,C=u_ Cc/\PySem.W.exmOne X.K (-Cc) (-C')=u_ v_/\∀O,v= .ref O->H2 O=U_->ts (D.less i) (σ.set i (u_ (-O))) (upd H2 O (AY O Cc))) e s') (af:X.stack=X.env::X.outer/\X.env.frame=u_ X.env.locals)
  (hg:Gl X c) (hm:X.mg c=u_ (-C')) (hN:X.N.Nodup) (hi:X.N[i]? =u_ n) (hn:X.env.scope.names.lookup n=u_ .local) (hs:∀ee xe,PSs (X.marked ee xe) (b₀::ae) ts) (aF:(c==("__debug__":Str))=Vg):
  Vh #[X,X] X.A (Fu e X.env) (λ_ s2=>Vh #[X,X] X.A (setFlight e U_) (λ_ s3=>Vh #[X,X] X.A (handleBy e X.env [.ExceptHandler (u_ (.Name c np)) (u_ n) (b₀::ae) aw]) (SP X oq D) X.xe s3) X.xe s2) X.xe s':=by
 erw[aE,H1,s1,I,O,Cc,a0,H',B,rfl,aG,ao,htk,ac,ak,U,hold,C2,hC,hx,ap];cases hC;have aq:H' O=none:=by
  cases q:H' O with
  |none=>rfl
  |some u=>
   erw[(ak O u q).here,o,z];rw[U.2.1] at z;cases z
 have ap:=ap O rfl aq;have nd:∀b>frs X.stack,∀o,s'.heap.get? b=u_ o->∀vs,o.data≠ .fields vs:=λb hb o e=>by
  obtain⟨_,o',e',hn⟩:=U.2.2.1.mem (show b>X.stack.filterMap (·.frame) from hb)
  rw[e] at e';cases e';exact hn
 have ax:∀o,s1.heap.get? O=u_ o->False:=λo z=>by
  by_cases hb:O>frs X.stack
  .erw[U,_,_,_,oe,vs,_,_,_,he,_,hd,_];exact nd O hb oe he vs hd
  .erw[hold O o z hb,o',q];rw[U.2.1] at q;cases q
 have step:∀hk,B.StaysIn hk->s'.heap.UpToSlots hk->(∃o,hk.get? O=u_ o/\o.cls= .ref Cc/\PySem.W.notCls o=v_)->Inv X oq σ (upd H' O (AY O Cc)) {s' with heap:=hk}:=by
  intro hk hB hU ⟨oe,he,hc,aH⟩;have aI:∀b o o',B.get? b=u_ o'->s'.heap.get? b=u_ o->hk.get? b=u_ o:=λb o o' e1 e2=>by
   have:=U.1 b o' e1;rw[e2] at this;cases this;exact hB b o e1
  have aJ:∀b o,s1.heap.get? b=u_ o->b≠O:=λb o e z=>ax o (z▸e);have ay:HOk X.prog X.w (upd H' O (AY O Cc)) hk:=λb u e=>by
   by_cases z:b=O
   .subst z;rw[qg] at e;cases e;exact AY.ok he hc aH
   .rw[qj z] at e;have ag:∀c u,H' c=u_ u->upd H' O (AY O Cc) c=u_ u:=λc u q=>by rwa[qj (qk q aq)]
    exact(ak b u e).stay (λc v _ q=>hB c v q) (λc q=>ag c _ q) λc xs q=>ag c _ q
  have hT:∀b u,H' b=u_ u->upd H' O (AY O Cc) b=u_ u:=λb u q=>by rwa[qj (qk q aq)]
  refine I.call' (s':={s' with heap:=hk}) (ch:= []) aG ⟨?_,?_,?_,?_,λb xs q=>hT b _ (ac.tups b xs q),λb o u q=>hT b _ (ac.frzs b o u q),λb ps q=>?_⟩ ay ao (λb z=>by simp at z)
  .intro b o e1 hn hb ad;erw[hold b o e1 hb,o',e2];exact aI b o o' e2 (ac.keep b o e1 hn hb ad)
  .intro b o e1 hn hb ad;erw[ac.slot b o e1 hn hb ad,sl,e2];erw[hU b _ e2 (nd b hb _ e2),aA,e3];exact[aA:e3]
  .intro b o e1 hn ad;rw[qj (aJ b o e1)];exact ac.free b o e1 hn ad
  .intro b o e1 ad;by_cases hb:b>frs X.stack
   .erw[ac.there b o e1 ad,o',e2];erw[hU b _ e2 (nd b hb _ e2),aA,e3];exact[_:e3]
   .erw[hold b o e1 hb,o',e2];exact[o':hB b o' e2]
  .erw[ac.tbls b ps q,more,q2];exact[more:hT b _ q2]
 have aB:∀{l:oj Env}{hk:o8},TF B l O (-Cc) a0 hk->∃o,hk.get? O=u_ o/\o.cls= .ref Cc/\PySem.W.notCls o=true:=λf=>by
  erw[f,_,_,_,oe,vs,_,_,_,he,hc,hd,_];exact⟨oe,he,hc.1,by unfold PySem.W.notCls;rw[hd]⟩
 rw[af.1] at U;have aK:X.A.frames=u_ (X.env::X.outer):=by rw[I.ok.frames,af.1]
 refine FE (base:=B) aK af.2 U λh1 au al=>?_;refine rJ au λh2 aa am=>?_;have I2:=step h2 aa.1 (al.trans am) (aB aa);refine rD (Ry ?_) (by intro q;cases q)
 refine xL (X:=X.marked O X.xe) I2.marked hg hm ?_ aF;erw[aa.there,oe,he,aC];have LT:PySem.W.Looks #[X,X] h2 (hW (-O)) (-Cc):=aC▸(PySem.W.Looks.ld he).andThen .now;refine PySem.W.exm_one I2.kIn LT hx _ _ _ _ (λb o e=>e) ?_;refine codeAny_handlers_suite_as (p9 aa λh3 ah aD=>?_);have I3:=step h3 ah.1 ((al.trans am).trans aD) (aB ah);refine zn (v:=-O) I3 hN hi (.inl hn) rfl (λs4 I4=>?_) (.inr hn);refine vg (hs O _ oq _ _ _ (D.less i) I4.marked ap) (λf s5 h5=>?_) λ_ _ z=>z;have h5:=h5.unmarked I.ok;cases f with
 |next=>erw[h5,σ',H5,I5,q];exact zr I5 hN hi hn λs6 I6=>⟨_,H5,I6,q⟩
 |brk=>erw[h5,σ',H5,I5,q];exact zr I5 hN hi hn λs6 I6=>⟨_,H5,I6,q⟩
 |cont=>erw[h5,σ',H5,I5,q];exact zr I5 hN hi hn λs6 I6=>⟨_,H5,I6,q⟩
 |ret u=>erw[h5,v,σ',H5,I5,r,q];exact zr I5 hN hi hn λs6 I6=>⟨v,_,H5,I6,r,q⟩
abbrev AaK (K:o0)(sp:Sp)(t:TA)(i:Nat)(C':o3)(ts:TS):TS:=λD σ H=>t σ H λvs H1=>sp vs H1 (λ_ H2=>D.nx σ H2) (λv C H2=>∃Cc,C=u_ Cc/\PySem.W.exmOne K (-Cc) (-C')=u_ v_/\∀ea,v= .ref ea->H2 ea=U_->ts (D.less i) (σ.set i (u_ (-ea))) (upd H2 ea (AY ea Cc)))
def Lw {i k:Nat}{f:o3}{fd:Vi}{ps:oj Str}{sp:Sp}{x c n:Str}{p np cpos U aa pos:Pos}{e:Expr}{es:oj Expr}{t:TA}{C':o3}{b₀:Stmt}{O:oj Stmt}{ts:TS}(hN:X.N.Nodup)(hi:X.N[i]? =u_ n)(hn:X.env.scope.names.lookup n=u_ .local)
  (F:FnOk X.prog X.w X.K X.mg X.base (CX1 X.prog X.w) k f fd ps sp) (hr:mj k X.A)
  (hg:Gl X x) (hm:X.mg x=u_ (-f)) (hk:PySem.W.keepIn X.K (-f)=v_) (hb:Jr X.K fd ps []) (ha:PA X.nox (e::es) t) (ac:X.stack=X.env::X.outer/\X.env.frame=u_ X.env.locals) (ad:Gl X c) (ae:X.mg c=u_ (-C'))
  (hs:∀ee xe,PSs (X.marked ee xe) (b₀::O) ts) (af:(x==("__debug__":Str))=Vg) (ag:(c==("__debug__":Str))=Vg)
  (he:Vl (e::es) X.env=(Vg,eval e X.env)::Vl es X.env) (ah:(Vt cpos (Vl es X.env)).any (·.1)=Vg) (ak:GG (.Call (.Name x p) (e::es) [] cpos) U_ U.line X.env=pure Vg):
  PS X (.Try [.Expr (.Call (.Name x p) (e::es) [] cpos) U] [.ExceptHandler (u_ (.Name c np)) (u_ n) (b₀::O) aa] [] [] pos) (AaK X.K sp t i C' ts):=by
 exists 2,D,I,h;refine RJ (V8 ?_);refine vg (T1 (Q:=SP X oq D) (vg (MH F hr hg hm hk hb ha I h af he ah) (λv s1 ⟨y,H1,I1,r1,q1⟩=>⟨σ,H1,I1,q1⟩) λ_ _ z=>z) I.quiet ak) (λfl s1 q=>?_) λe' s1 q=>MF q ac ad ae hN hi hn hs ag;cases fl with
 |next=>exact vW (vW q)
 |ret v=>exact q
 |brk=>exact q
 |cont=>exact q
end
end L2
namespace PySem.AwV
open PySem PySem.Calls PyProof.Rows Builtin Builtin.ObjectAttr Builtin.Getset_descriptor PySem.W
structure zf (K:Frag)(C:o3):Prop where
 ga:findIn K (-C) "__getattribute__"=u_ (u_ (.builtin "BaseException.__getattribute__"))
 gt:findIn K (-C) "__getattr__"=u_ U_
 cl:findIn K (-C) "__class__"=u_ (u_ (.builtin "object.__class__"))
 sp:specialIn K (.builtin "object.__class__") "__get__"=u_ (u_ (.builtin "getset_descriptor.__get__"))
 tk:takesIn K (.builtin "object.__class__")=u_ v_
 ob:mroIn K C (.type "object")=u_ v_
 be:mroIn K C (.type "BaseException")=u_ v_
abbrev C5 (x C:o3)(h:o8):Prop:=∃o,h.get? x=u_ o/\o.cls= .ref C/\notCls o=v_
section
variable {prog:o9}{w:og}{A:oh}{E:o6->o7->Prop}{s:o7}{K:Frag}{x C:o3}
variable {M:Gq}{h:o8}
def X5 (I:C5 x C h):Looks M h (hW (-x)) (-C):=by
 erw[I,o,e,c,_];exact c▸(Looks.ld e).andThen .now
def Mt (X:K.In h)(Z:zf K C):Looks M h (find (-x) (-C) "__class__") (.bind (.builtin "getset_descriptor.__get__") (.builtin "object.__class__")):=by
 refine(looks_findIn (M:=M) X Z.cl).andThen (Looks.andThen (a:=u_ (.builtin "getset_descriptor.__get__")) (show Looks M h (getOf (u_ _)) _ from looks_specialIn X Z.sp) ?_)
 have O:=looks_takesIn (M:=M) X Z.tk;exact(show Looks M h (dataDescriptor? (u_ _) (u_ _)) (u_ (_,_)) from
  O.andThen .now).andThen (Looks.tag .now)
def S3 {O:o6}{R:Gy->o7->Prop}(X:K.In s.heap)(I:C5 x C s.heap)(Z:zf K C)(h:R (.ok (.ret (-C))) s):
  VM #[w,w] A (.call (.builtin "getset_descriptor.__get__") [[.builtin "object.__class__",-x,O]:[]]) R s:=by
 erw[s,U,g,dr,t,os];have L0:=X5 (M:=Vu prog w) I;have L1:=looks_mroIn (M:=Vu prog w) X Z.ob;have ck:=KF.slot_gs.check #[w,w] A;refine Ud KF.slot_gs.plain KF.entry_gs
  (KF.slot_gs.check _ _ _ _ _ _ _ _ KF.type_class (KF.args_gs _ _ _) ?_)
 unfold VP.«getset_descriptor.__get__»;unfold descrGet;rw[dga_obj];refine A7 (uw ?_);unfold descrGetter descrCheckInstance;unfold descrNameAndClass isInstance;simp![KF.owner_class]
 repeat lk
 refine⟨FH _ (),
  UQ KF.entry_class ?_⟩
 unfold VP.«object.__class__» shownTypeOf
 repeat lk
 exact h
def Ic {rest:oj o6}{Q:Unit->o7->Prop}(X:K.In s.heap)(I:C5 x C s.heap)(Z:zf K C)(ha:tJ "BaseException.__getattribute__" [.ref x::rest:[]])(h:Q G7 s):
  Vh #[w,w] A (Ho "BaseException.__getattribute__" [.ref x::rest:[]]) Q E s:=by
 have O:splitId "BaseException.__getattribute__"=u_ ("BaseException","__getattribute__"):=by decide+kernel
 have hk:rM "BaseException.__getattribute__"=u_ .slot:=by
  simp![rM,O]
  decide+kernel
 have LI:Looks #[w,w] s.heap (isInstance (-x) (.type "BaseException")) true:=(X5 I).andThen (looks_mroIn X Z.be);simp![Ho,hk,O];refine A7 (LI A _ E s (λ_ _ e=>e) ?_);simp![Tl,U5,Vc];cases U:pZ "BaseException.__getattribute__" with
 |none=>exact uw h
 |some aa=>
  simp![tJ,U] at ha;have h2:rS "BaseException.__getattribute__" aa ⟨.ref x::rest,[]⟩=pure Unit.unit:=ha;exact(show Vh #[w,w] A (rS _ aa _) Q E s from by
   rw[h2];exact uw h)
def Ia {tk:Tok}{Q:Fin->o7->Prop}(X:K.In s.heap)(I:C5 x C s.heap)(Z:zf K C)(h:Q (.done (.ret (-C))) s):
  Vh #[w,w] A (VP.«object.__getattribute__» [[-x,.str "__class__" tk]:[]]) Q E s:=by
 have O:=I;have U:=X;erw[s,hh,g,dr,t,os];have L0:=X5 (M:=Vu prog w) I;have L1:=Mt (M:=Vu prog w) (x:=x) X Z;refine A7 (uw (A7 (uw (A7 (L0.at (A7 (L1.at ?_)))))));show Vh #[w,w] A (VY [.builtin "object.__class__"] (call (.builtin "getset_descriptor.__get__") [.builtin "object.__class__",-x,-C])>>=ret) Q E _;refine A7 (VL (UZ (S3 U O Z ?_)));exact uw h
def Ib {Q:om o6->o7->Prop}(X:K.In s.heap)(I:C5 x C s.heap)(Z:zf K C)(h:Q (u_ (-C)) {s with toks:=s.toks+1}):
  Vh #[w,w] A (tj (-x) "__class__") Q E s:=by
 have O:=I;have U:=X;erw[s,hh,g,dr,t,os];have L0:=X5 (M:=Vu prog w) I;have L1:=looks_findIn (M:=Vu prog w) X Z.ga;have L2:=looks_findIn (M:=Vu prog w) X Z.gt;have f3:=F.excAttr_ValueError.ga.bind (-x);unfold tj getAttrBy?;refine A7 (Ts (A7 (Uj ?_)));unfold getAttrBy;refine VL (A7 (L0.at (A7 (L1.at ?_))));show Vh #[w,w] A (tG (-x) _ (-C) (.builtin "BaseException.__getattribute__") Vg Vg) _ _ _;unfold tG;refine A7 ((show Looks #[w,w] hh (hookBefore (-C)) U_ from L2).at ?_)
 refine A7 (Uj (VL ?_));show Vh #[w,w] A (HL (.builtin "BaseException.__getattribute__") (-x) _) _ _ _;unfold HL;rw[f3];refine A7 (uw (UZ (Ud F.excAttr_ValueError.ga.plain F.entry_bexc_ga (Ic U O Z (F.args_bexc_ga _ _) (Ia U O Z ?_)))));show Vh #[w,w] A (handedOut (-C)) _ _ _;rw[handedOut_of (show handedIn (-C)=v_ from rfl)]
 exact uw (uw h)
def exc_kit (Z:zf K C):KitX K (-x) (-C) (C5 x C) where
 ty:=λ_ _ _ I=>X5 I
 it:=λM h X _=>by
  erw[Option.bind_eq_some_iff.mp Z.ob,cd,O,_];unfold clsIn at O;split at O
  .rename_i U
   intro A' Q' E' s' k q;unfold isType loadHead;exact A7 (pf (k _ _ (X _ _ U))
    (uw q))
  .cases O
 ne:=λh tp dd its n sl X aa=>by
  erw[Option.bind_eq_some_iff.mp Z.ob,cd,O,_];refine Bool.eq_false_iff.mpr λq=>?_;have e:C=tp:=pT (beq_iff_eq.mp q);subst e;unfold clsIn at O;split at O
  .rename_i U
   have z:=(X _ _ U).symm.trans aa;cases z
  .cases O
 ca:=λX I q=>Ib X I Z q
end
end PySem.AwV
namespace L2
open PySem PySem.Spec PyProof.Rows
inductive TyX (K:PySem.W.Frag)(H:Hp):V->o6->Prop where
 |ty {x:V}{t:o6}(h:AW K H x t):TyX K H x t
 |exc {a C:Addr}(h:H a=u_ (AY a C))(Z:AwV.zf K C):TyX K H (-a) (-C)
section
variable {X:Cx}{oq:oj (o3×Obj)}{σ:St}{H:Hp}{s:o7}
inductive Aeh:V->o6->Prop where
 |ty (T:String):Aeh (.ty T) (.type T)
 |own (C:Addr):Aeh (-C) (-C)
variable {u:o6}{A:oh}{E:o6->o7->Prop}
def Mh {x:V}{t c:o6}{b:Bool}{Q:o6->o7->Prop}(I:#[I])(O:ik x u)(ty:TyX X.K H x t)(e:PySem.W.kitOne X.K t c=u_ b)(h:∀tk,Q (.bool b) {s with toks:=tk}):
  Vh #[X,X] A (call (.builtin "isinstance") [u,c]) Q E s:=by
 cases ty with
 |ty z=>exact su I O z e h
 | @exc a C ea Z=>
  cases(show u=Vm a from O)
  obtain⟨p,_,_⟩:=(show ye X.prog X.w H s.heap a (AY a C) from I.hok a _ ea)
  exact vw (AwV.exc_kit Z) I.kIn p e (λz=>nomatch z) h
def sO {K:o0}(U:X.K=K):Y3 X (.builtin "isinstance") (λxs H Q=>∃x y c t b,xs= [x,y]/\Aeh y c/\TyX K H x t/\PySem.W.kitOne K t c=u_ b/\Q (.bl b) H):=by
 exists 2,xs,us,Q,I,r,h;erw[h,x,y,c,t,b,rfl,hc,ty,e,q];erw[Da r,u,u',rfl,ru,O];subst U;have e':u'=c:=by cases hc<;>exact O
 subst e';exact uW (n:=1) I.tk (Mh I ru ty e λtk htk=>⟨.bl b,H,I.tok tk,1,q⟩)
def nP:∀{cs:oj o3}{its:oj o6},iw (cs.map V.ref) its->its=cs.map Vm
 | [],_,h=>by cases h;rfl
 |c::cs,_,h=>by
  cases h with
  |cons O U=>
   rw[nP U,show _=Vm c from O]
   rfl
end
section
variable {X:Cx}
def Z2:∀{ls:oj Str}{its:oj o6},iw (ls.map V.str) its->TR its ls
 | [],_,h=>by cases h;exact .nil
 |z::ls,_,h=>by
  cases h with
  |cons O U=>
   erw[O,t,e];rw[e];exact .cons z t (Z2 U)
def ZR:∀{ls:oj Str}{its:oj o6},TR its ls->iw (ls.map V.str) its
 |_,_,.nil=> .nil
 |_,_,.cons x t h=> .cons [t:1] (ZR h)
def qaq:∀{xs:oj V}{us:oj o6},↑xs=↑us->(∀(j:Nat) (x:V) (v:o6),xs[j]? =u_ x->us[j]? =u_ v->ik x v)->iw xs us
 | [],[],_,_=> .nil
 |x::xs,u::us,hl,h=> .cons (h 0 x u rfl rfl) (qaq (by simpa using hl) λj y v h1 h2=>h (j+1) y v (by simpa using h1) (by simpa using h2))
 | [],_::_,hl,_=>by simp at hl
 |_::_,[],hl,_=>by simp at hl
def sN (hc:X.calm=v_):Y3 X (.builtin "sorted") (λxs H Q=>∃(d:o3) (kvs:oj (Key×V)) (ls:oj Str),xs= [-d]/\H d=u_ (.dK kvs)/\kvs.map (·.1)=ls.map Vj/\↑ls<64/\∀(ms:oj Str) (q:o3),ms.Perm ls->sortedS ms=v_->H q=U_->Q (-q) (upd H q (.lst (ms.map V.str)))):=by
 exists 2,xs,us,Q,I,r,h;erw[h,d,kvs,ls,rfl,hd,hk,am,q];erw[xi r,u,rfl,ru];cases ru;erw[Mz I.hok hd,hz,lo,vs,ae,dd];erw[id dd,o,es,ep,ho];have af:s.heap.DictAt (Qm X.prog X.w) d vs ep:=[o:es:ho];have aa:↑vs=↑ls:=by
  have h1:=A9 Gb hk;rw[u9,u9] at h1;rw[<-↑ae,h1]
 refine uW (n:=1) I.tk ?_;refine PySem.Calls.call_function_entry kind_sorted plain_sorted entry_sorted (args_sorted1 _) ?_;unfold VP.«sorted»;refine A7 (m:=checkCount "sorted" 1 1 _) (uw ?_);refine A7 (PySem.W.kdu_collect (A:=X.A.in1) (PySem.W.kdl_dict lo) (I.ok.hd hc) af (by rw[aa,uB];omega) λh' tk U ag O=>?_)
 have hS:TR U.toList ls:=by
  refine Z2 (qaq (by rw[u9,vi];exact aa.symm.trans O.1.symm) λj x v hx hv=>?_)
  rw[uG] at hx;cases ac:ls[j]? with
  |none=>rw[ac] at hx;cases hx
  |some z=>
   rw[ac] at hx;cases hx;obtain⟨k,y,e1,e2⟩:=O.2 j v (by rwa[<-tX])
   have e3:(kvs.map (·.1))[j]? =u_ k:=by
    rw[ae.keys,uG,e1]
    rfl
   rw[hk,uG,ac] at e3;cases e3;rcases Qw (show oZ (Vj z) v=v_ from e2) with⟨i,t,e4,e5⟩|⟨z',t,e4,e5⟩
   .cases e4
   .cases e4;exact[t:e5]
 have ah:↑U.toList=↑ls:=by rw[vi,O.1,aa]
 refine A7 (Tv ?_ (by rw[ah,uB];omega))
 have ad:(h'.push (seqObj "list" U.toList.toArray 0)).get? h'.objs.size=u_ (seqObj "list" U.toList.toArray 0):=uE _ rfl;refine A7 (VL (vH slot_list_sort [_:ad:1] entry_list_sort (list_sort_treeK strKind_oneLt ad hS.keysOf (λv₁ v₂ rest e=>keyKind_strs (by rwa[<-e])) () λak a1 a2=>[0:?_]) (args_list_sort _)))
 refine uw [0:?_];erw[sorted_out_str hS a1 a2,ms,b1,b2,b3];erw[sortedHeap_at (out:=(arrOf ak).map (·.2)) ad,e,he];have al:↑ms=↑ls:=b2.length_eq;intro htk;have I':Inv X oq σ H {s with heap:=h',toks:=tk}:=I.kept ag
 exists .ref h'.objs.size,_,I'.laid (t':=tk) (o:= .lst (ms.map V.str)) (λb u w=>?_) (uj _) ⟨?_,_,e,ZR b1,he⟩,1,q ms _ b2 b3 (I'.hok.fresh (uj _))
 .have hb:=uF w;rw[sortedHeap_old (uP hb) (by rw[size_push'];exact Nat.lt_succ_of_lt hb)]
  exact ub _ w
 .rw[u9,al,uB];omega
abbrev Itd (d:o3)(o:Obj):It:=
 ⟨λi H=>∃kvs,H d=u_ (.frz o (.dK kvs))/\i<↑kvs,λi H x H'=>H'=H/\∀kvs,H d=u_ (.frz o (.dK kvs))->(kvs.map λp=>kV p.1)[i]? =u_ x,λi H=>∃kvs,H d=u_ (.frz o (.dK kvs))/\↑kvs<=i⟩
variable {w:og}
def D3 {P:o9}{es:oj hZ}{kvs:oj (Key×o6)}(h:Pairs (Qm P w) es kvs):↑es=↑kvs:=↑h
variable {H:Hp}{h:o8}{o:Obj}{es:Array hZ}
def E1 {P:o9}{d:o3}{kvs:oj (Key×V)}{ep:Nat}(ok:HOk P w H h)(e:H d=u_ (.frz o (.dK kvs)))(hd:o.data= .dict es ep):
  (d==VC)=Vg/\∃vs,KV kvs vs/\h.DictAt (Qm P w) d vs ep/\↑vs=es.size/\↑kvs<=sizeLine:=by
 obtain⟨U,hz,lo,vs,r,o',aa,ac,O,c1,c2,c3,c4,c5⟩:=(show ye P w H h d (.frz o (.dK kvs)) from ok d _ e)
 rw[U] at O;cases O;rw[hd] at c2;cases c2;exact⟨lo,vs,r,⟨o,es,U,c1,hd,c3,c4,c5⟩,by rw[<-vi];exact(D3 c4).symm,hz⟩
def Nz {k:Key}{v:o6}(h:oZ k v=v_):ik (kV k) v:=by
 rcases Qw h with⟨i,t,rfl,rfl⟩|⟨z,t,rfl,rfl⟩
 .exact[t:1]
 .exact[t:1]
variable {K:o0}{tg:Expr}
def Dd {P:o9}(d it:o3){ep:Nat}(hd:o.data= .dict es ep):MN P w K tg (Itd d o) [it] it (λi h=>h.IsKeyIter it d i es.size ep) where
 mem:=by simp
 obj:=λi h st b O=>by
  have e:b=it:=by simpa using O
  subst e;erw[st,o,e,c,d];exact⟨o,e,λv z=>by rw[d] at z;cases z⟩
 keep:=λi h h' st k=>by
  erw[st,o,e,c,dd];exact⟨o,k it (by simp) o e,c,dd⟩
 item:=by
  intro X hP hw hK hc i oq s σ H E I hf st hg;subst hP hw hK;erw[hg,kvs,hq,hx];erw[E1 I.hok hq hd,lo,vs,r,U,hl,_];have ae:=↑r;obtain⟨f0,f1,f2,f3,f4,f5⟩:=hf it (by simp)
  obtain⟨⟨k,v⟩,aa⟩:∃p,vs[i]? =u_ p:=[_:uh ()]
  refine wpAny_pyNext_dict_item (by rwa[hl]) U aa λaf h' hk ac sb=>?_
  have I1:Inv X oq σ H {s with heap:=h'}:=I.turned (t':=s.toks) (λb o O e=>(sb.2 b O).trans e) f0 f1 f3 f4 f5
  erw[id ac,oi,e,c,di];refine⟨af,1,CV (s:={s with heap:=h'}) e c di () ⟨kV k,H,I1,Nz hk,[1:λag ad=>?_],by rw[<-hl];exact ac,λb O=>(hf b O).1⟩⟩
  rw[hq] at ad;cases ad;have e3:(kvs.map (·.1))[i]? =u_ k:=by
   rw[r.keys,uG,aa]
   rfl
  rw[uG] at e3⊢;cases h4:kvs[i]? with
  |none=>rw[h4] at e3;cases e3
  |some p=>
   rw[h4] at e3;cases e3
   rfl
 done:=by
  intro X hP hw hK hc i oq s σ H E I hf st hg;subst hP hw hK;erw[hg,kvs,hq,hx];erw[E1 I.hok hq hd,lo,vs,r,U,hl,_];have ae:=↑r;obtain⟨f0,f1,f2,f3,f4,f5⟩:=hf it (by simp)
  exact wpAny_pyNext_dict_end (I.ok.hd hc) (by rwa[hl]) U (rg ()) λh' eb=>[1:I.turned (t':=s.toks) (λb o O e=>eb b o O e) f0 f1 f3 f4 f5]
 self:=λ_ _ _ _ _ st h=>wpAny_pyIter_keyiter st h
abbrev AdO (tl:TE):TI:=λσ H R=>tl σ H λx H1=>∃d o kvs,x= .ref d/\H1 d=u_ (.frz o (.dK kvs))/\R (Itd d o) H1
def O8 {tg l:Expr}{tl:TE}(hl:PE X l tl):PI X tg l (AdO tl):=by
 exists 2,R,I,h;refine thn (hl oq s σ H _ I h) λv s1 zq=>?_;erw[zq,x,H1,O,r1,q1];erw[q1,d,o,kvs,rfl,hq,q];cases r1;obtain⟨ho,_,lo,vs,r,o',es,ep,U,c1,c2,_⟩:=(show ye X.prog X.w H1 s1.heap d (.frz o (.dK kvs)) from O.hok d _ hq)
 rw[ho] at U;cases U;erw[E1 O.hok hq c2,lo,vs,r,aa,hl,_];refine wpAny_pyIter_dict lo aa ?_;refine⟨#[0,s1],[#[0,s1]],_,_,H1,1,O.kept (t':=s1.toks) λb o e=>ub _ e,Dd d _ c2,⟨_,uE _ rfl,1,by rw[hl];rfl⟩,λb hb=>?_,q⟩
 have e:b=#[0,s1]:=by simpa using hb
 subst e;exact O.fpOk (uj _) (O.hok.fresh (uj _))
end
end L2
namespace PySem.AwK
open PySem Builtin Builtin.ObjectAttr
def SE:HJ (.type "list") "keys"=pure none:=by rw[pc,Rp];kernel_rfl
section
variable {prog:o9}{w:og}{A:oh}{E:o6->o7->Prop}{s:o7}
def KI:isSubtype (.type "AttributeError") (.type "AttributeError")=pure true:=by rw[isSubtype_type];kernel_rfl
def Cz {α:Type}{o:o6}{name O:Str}{Q:α->o7->Prop}(hh:A.handled=U_)(hm:↑O<=Vk)
  (hq:∀h' ac e,(∀b ob,s.heap.get? b=u_ ob->h'.get? b=u_ ob)->(∃oe,h'.get? e=u_ oe/\oe.cls= .type "AttributeError")->E (-e) {s with heap:=h',toks:=ac}):
  Vh #[w,w] A (pD o name O:Sem α) Q E s:=by
 unfold pD;refine A7 (wpAny_mkStr (A7 ?_) hm);unfold newExc Fd;refine A7 (vy ?_ (by show(1:Nat)<=Vk;rw[uB];decide))
 refine A7 (m:=Fp _ _) (HB (a:=Gf) (by kernel_rfl) ?_)
 obtain⟨h1,aa⟩:∃h1,h1=s.heap.push {cls:= .type "tuple",data:= .seq #[VH O s.toks]}:=⟨0⟩;have k1:∀b ob,s.heap.get? b=u_ ob->h1.get? b=u_ ob:=λb ob e=>by rw[aa];exact ub _ e
 show Vh #[w,w] A (newObj (.type "AttributeError") (.fields #[.ref #[0,s],.none,.none,.none,.bool Vg,.none,V_,V_])) _ E {s with heap:=s.heap.push {cls:= .type "tuple",data:= .seq #[VH O s.toks]},toks:=s.toks+1}
 rw[<-aa];refine vy ?_ (by unfold sizeOk;first|trivial|(rw[uB];simp)|decide)
 obtain⟨h2,U⟩:∃h2,h2=h1.push {cls:= .type "AttributeError",data:= .fields #[.ref #[0,s],.none,.none,.none,.bool Vg,.none,V_,V_]}:=⟨0⟩;have k2:∀b ob,h1.get? b=u_ ob->h2.get? b=u_ ob:=λb ob e=>by rw[U];exact ub _ e
 have e2:h2.get? h1.objs.size=u_ {cls:= .type "AttributeError",data:= .fields #[.ref #[0,s],.none,.none,.none,.bool Vg,.none,V_,V_]}:=by rw[U];exact uE _ rfl
 show Vh #[w,w] A (do let x<-mkText name;noteAttr (-h1.objs.size) o x;raiseNew (-h1.objs.size)) Q E {s with heap:=h1.push {cls:= .type "AttributeError",data:= .fields #[.ref #[0,s],.none,.none,.none,.bool Vg,.none,V_,V_]},toks:=s.toks+1}
 rw[<-U];have ne:∀b ob,h1.get? b=u_ ob->b≠h1.objs.size:=λb ob e=>uP (uF e);generalize h1.objs.size=e at e2 ne⊢;refine A7 (Ts (A7 ?_));have hT:∀g d t os,(⟨h2,g,d,t,os⟩:o7).TypeIs (-e) "AttributeError":=λ_ _ _ _=>[_:e2:1];unfold noteAttr lacksNameAndObj;refine A7 (A7 (UG (hT _ _ _ _) KI ?_));simp![Tl,U5,Vc];refine A7 (tI e2 ?_);dsimp only;rw[A4 (by simp[V_,VQ]),A4 (by simp[V_,doubtfulMember,VQ])]
 refine uw ?_;rw[A6 rfl];refine A7 (UJ (A7 (GC (hT _ _ _ _) ?_)));show Vh #[w,w] A (layMembers e 6 #[VH name (s.toks+1),o]) _ E _;unfold layMembers;refine A7 (tI e2 ?_);dsimp only;refine wpAny_update e2 ?_;have e3:=Fj (pw λvs=>vs.extract 0 6++ #[VH name (s.toks+1),o]) e2 rfl;have k3:∀b ob,b≠e->h2.get? b=u_ ob->(h2.update e (pw λvs=>vs.extract 0 6++ #[VH name (s.toks+1),o])).get? b=u_ ob:=λb ob hb q=>(Fs _ _ (vV hb)).trans q;exact wpAny_raiseNew_none hh (hq _ _ e (λb ob q=>k3 b ob (ne b ob (k1 b ob q)) (k2 b ob (k1 b ob q))) [_:e3:1])
end
section
variable {prog:o9}{w:og}{A:oh}{E:o6->o7->Prop}{h:o8}{g:Array tZ}{d:Drawn}{t:Nat}{os:OsState}{a:o3}{its:Array o6}{n:Nat}{sl:Array (om o6)}
def L8 {tk:Tok}{Q:Fin->o7->Prop}(hh:A.handled=U_)(hx:h.get? a=u_ {cls:= .type "list",dict:=U_,data:= .seq its n,slots:=sl})
  (hq:∀h' O e,(∀b ob,h.get? b=u_ ob->h'.get? b=u_ ob)->(∃U,h'.get? e=u_ U/\U.cls= .type "AttributeError")->E (-e) ⟨h',g,d,O,os⟩):
  Vh #[w,w] A (VP.«object.__getattribute__» [[-a,.str "keys" tk]:[]]) Q E ⟨h,g,d,t,os⟩:=by
 have hT:(⟨h,g,d,t,os⟩:o7).TypeIs (-a) "list":=[_:hx:1];have f4:=SE
 repeat (any_goals (first|assumption|wp_step))
 exact Cz hh (by rw[uB];decide+kernel) hq
def Sx {tk:Tok}{R:Gy->o7->Prop}(hh:A.handled=U_)(U:h.get? a=u_ {cls:= .type "list",dict:=U_,data:= .seq its n,slots:=sl})
  (hq:∀h' O e,(∀b ob,h.get? b=u_ ob->h'.get? b=u_ ob)->(∃oe,h'.get? e=u_ oe/\oe.cls= .type "AttributeError")->R (.error (-e)) ⟨h',g,d,O,os⟩):
  VM #[w,w] A (.call (.builtin "list.__getattribute__") [[-a,.str "keys" tk]:[]]) R ⟨h,g,d,t,os⟩:=
 Ud F.slot_list_getattribute.plain F.entry_list_ga (F.slot_list_getattribute.check _ _ _ _ _ _ _ _ (show(⟨h,g,d,t,os⟩:o7).TypeIs (-a) "list" from[_:U:1]) (F.args_list_getattribute_2 _ _) (L8 hh U hq))
def Sw {Q:om o6->o7->Prop}(hh:A.handled=U_)(U:h.get? a=u_ {cls:= .type "list",dict:=U_,data:= .seq its n,slots:=sl})
  (hq:∀h' O,(∀b ob,h.get? b=u_ ob->h'.get? b=u_ ob)->Q U_ ⟨h',g,d,O,os⟩):Vh #[w,w] A (tj (-a) "keys") Q E ⟨h,g,d,t,os⟩:=by
 have hT:∀t,(⟨h,g,d,t,os⟩:o7).TypeIs (-a) "list":=λt=>[_:U:1];unfold tj getAttrBy?;refine A7 (Ts (A7 (Uj ?_)));unfold getAttrBy;refine VL (A7 (GC (hT _) ?_));rw[F.slot_list_getattribute.lookup];refine A7 (uw ?_);show Vh #[w,w] A (tG (-a) _ (.type "list") (.builtin "list.__getattribute__") Vg Vg) _ _ _;unfold tG;refine A7 (m:=hookBefore _) (uw ?_);refine A7 (Uj (VL ?_));show Vh #[w,w] A (HL (.builtin "list.__getattribute__") (-a) _) _ _ _;unfold HL;rw[F.slot_list_getattribute.bind];refine A7 (uw (UZ (Sx hh U λh' O e k zq=>?_)));erw[zq,oe,e1,e2];have hE:∀t,(⟨h',g,d,t,os⟩:o7).TypeIs (-e) "AttributeError":=λt=>[_:e1:e2];show Vh #[w,w] A (pC (-a) _ (.type "list") (-e) U_ Vg Vg) _ _ ⟨h',g,d,O,os⟩;unfold pC;refine A7 (UG (hE _) KI ?_);rw[A6 rfl];have lg:hookBehind (.type "list") U_=pure none:=by
  show HJ (.type "list") "__getattr__"=pure U_;rw[pc,Rp]
  kernel_rfl
 rw[lg];refine A7 (uw ?_);show Vh #[w,w] A (RX (-a) _ (-e) Vg Vg) _ _ _;unfold RX;refine RS ?_;refine A7 (UG (hE _) KI ?_);rw[A6 rfl];exact uw (hq h' O k)
end
def ku:entryFor table "dict.update.loop"=u_ VP.«dict.update.loop»:=entryFor_of_fast (by kernel_rfl)
def J8:plainId "dict.update.loop"=true:=by decide+kernel
section
variable {prog:o9}{w:og}{A:oh}{E:o6->o7->Prop}{K:Type}[DecidableEq K]{knd:KeyKind prog w K}
abbrev addAll (cur:oj (K×o6)):oj (K×o6)->oj (K×o6)
 | []=>cur
 |p::r=>addAll (GM cur p.1 p.2) r
structure AcB (h:o8)(d it:o3)(v:o6)(p:K×o6):Prop where
 at_:∃(t:o3) (o:Obj) (k:o6) (n:Nat),v= .ref t/\t≠d/\t≠it/\h.get? t=u_ o/\o.cls= .type "tuple"/\o.data= .seq #[k,p.2] n/\knd.is p.1 k=v_
def CB (hh:A.handled=U_){d it l:o3}{items:Array o6}{ps:oj (K×o6)}{R:Gy->o7->Prop}(au:d≠l)(aw:it≠l)(ac:d≠it)(hn:items.size=↑ps)(hz:2*↑ps<=Vk)(res:o6):
  ∀(m i:Nat) (s:o7) (O:oj (K×o6)),i+m=↑ps->s.heap.IsListIter it l i->s.heap.IsList l items->s.heap.DictOf knd d O->↑O<=i->
  (∀(j:Nat) (v:o6) (p:K×o6),items[j]? =u_ v->ps[j]? =u_ p->AcB (knd:=knd) s.heap d it v p)->
  (∀h' ad,h'.DictOf knd d (addAll O (ps.drop i))->(∀b o,b≠d->b≠it->s.heap.get? b=u_ o->h'.get? b=u_ o)->R (.ok (.ret res)) {s with heap:=h',toks:=ad})->
  VM #[w,w] A (.builtin "dict.update.loop" [[-d,-it,VQ i,res]:[]]) R s:=by
 intro m
 induction m with
 |zero=>
  intro i s O hm ae hl hd hc hp hR;refine UQ ku ?_;rw[TM J8 _];show Vh _ A.in1 (VO (-it)>>=_) _ _ s;refine A7 (rc (A:=A.in1) hh ae hl (by rw[Array.getElem?_eq_none ()]) λh' eb=>?_)
  have af:h'.DictOf knd d O:=by
   erw[hd,o,es,ep,ho,r];exact⟨o,es,ep,eb d o ac ho,r⟩
  have:=hR h' s.toks (by rwa[List.drop_eq_nil_of_le ()]) λb o aa U e=>eb b o U e
  show Vh #[w,w] A.in1 (Dict.addKeywords d []>>=λ_=>ret res) _ _ _;refine A7 (m:=Dict.addKeywords d []) (uw ?_);exact uw this
 |succ m ih=>
  intro i s O hm ae hl hd hc hp hR;refine UQ ku ?_;rw[TM J8 _];have hi:i<items.size:=by omega
  have ah:i<↑ps:=by omega
  have hx:items[i]? =u_ items[i]:=Array.getElem?_eq_getElem hi;have ax:ps[i]? =u_ ps[i]:=uh ah;erw[(hp i _ _ hx ax).at_,t,o,k,n,ev,aE,ay,ho,aA,aB,hk];rw[ev] at hx;show Vh _ A.in1 (VO (-it)>>=_) _ _ s;refine A7 (RF (A:=A.in1) ae hl hx λh1 ak ag=>?_);have al:h1.get? t=u_ o:=(ag.2 t ay).trans ho;have hT:(({s with heap:=h1}:o7)).TypeIs (-t) "tuple":=[_:al:aA]
  have am:h1.DictOf knd d O:=hd.sameBut ag ac;dsimp only;refine A7 (VL (A7 (wpAny_tryCatch ?_)));unfold Dict.pairItems;refine A7 (GC hT ?_);rw[A6 ()]
  refine A7 ?_;unfold Tf;refine A7 (tI al ?_);rw[aB];refine uw (uw ?_);show Vh #[w,w] A.in1 (VY [k,ps[i].2] (dictSet d k ps[i].2)) _ _ _;refine VL (wpAny_dictSet_pairs hk am (λh2 aC ao=>?_) ())
  have ap:h2.IsListIter it l (i+1):=by
   erw[ak,oi,e,c];exact[oi:(ao.2 it (vV ac)).trans e:c]
  have keep:∀b ob,b≠d->b≠it->s.heap.get? b=u_ ob->h2.get? b=u_ ob:=λb ob aa U e=>(ao.2 b aa).trans ((ag.2 b U).trans e);have aD:h2.IsList l items:=by
   erw[hl,ol,e,c];exact[ol:keep l ol (vV au) (vV aw) e:c]
  refine uw [TB J8 _:?_];have aq:↑(GM O ps[i].1 ps[i].2)<=i+1:=by
   unfold GM;split
   .rw[u9];omega
   .rw[uI];show ↑O+1<=i+1;omega
  refine ih (i+1) _ _ () ap aD aC aq (λj v p h1 h2=>?_) λh' ad af kp=>?_
  .erw[(hp j v p h1 h2).at_,t',o',k',n',e1,e2,e3,e4,e5];exact⟨⟨t',o',k',n',e1,e2,e3,keep t' o' e2 e3 e4,e5⟩⟩
  .refine hR h' ad ?_ λb ob aa U e=>kp b ob aa U (keep b ob aa U e);rw[uV ah];exact af
def dict_pairs (hh:A.handled=U_){s:o7}{l:o3}{items:Array o6}{n:Nat}{sl:Array (om o6)}{ps:oj (K×o6)}{Q:o6->o7->Prop}(hl:s.heap.get? l=u_ {cls:= .type "list",dict:=U_,data:= .seq items n,slots:=sl})(hn:items.size=↑ps)(hz:2*↑ps<=Vk)
  (hp:∀(j:Nat) (v:o6) (p:K×o6),items[j]? =u_ v->ps[j]? =u_ p->∃(t:o3) (o:Obj) (k:o6) (n:Nat),v= .ref t/\s.heap.get? t=u_ o/\o.cls= .type "tuple"/\o.data= .seq #[k,p.2] n/\knd.is p.1 k=v_)
  (hQ:∀h' ac,h'.DictOf knd #[0,s] (addAll [] ps)->(∀b o,s.heap.get? b=u_ o->h'.get? b=u_ o)->Q (.ref #[0,s]) {s with heap:=h',toks:=ac}):
  Vh #[w,w] A (call (.type "dict") [-l]) Q E s:=by
 refine RG (Q₁:=λobj s₁=>obj= .ref #[0,s]/\s₁={s with heap:=s.heap.push {cls:= .type "dict",data:= .dict #[]}}) F.kt_called_dict (F.kt_typeCall_dict_1 _) F.entry_dict_init (kt_code_dict_new _ [1:1]) ?_
 rintro obj s₁ ⟨rfl,rfl⟩;have U:(s.heap.push {cls:= .type "dict",data:= .dict #[]}).DictOf knd #[0,s] []:=Fz s.heap;exists U.typeIs,F.args_dict_init_2 _ _;unfold VP.«dict.__init__»;refine A7 ?_;unfold Px;refine A7 (wpAny_notOrdered_dict U.typeIs ?_);refine(show Vh _ _ (pure (#[0,s],[Vm l])) _ _ _ from ?_)
 refine uw ?_;refine(show Vh _ _ (FK "dict.__init__" #[0,s] (-l) [] .none) _ _ _ from ?_)
 unfold FK;have aa:(s.heap.push {cls:= .type "dict",data:= .dict #[]}).get? l=u_ {cls:= .type "list",dict:=U_,data:= .seq items n,slots:=sl}:=ub _ hl;refine A7 (GC (T:="list") [_:aa:1] ?_);rw[A6 ()]
 refine A7 (Sw (A:=A.in1.in1) hh aa λh2 am k2=>?_);rw[A6 (show(U_:om o6).isNone=v_ from rfl)]
 have ad:l<#[0,s]:=uF hl;have af:h2.IsList l items:=⟨_,k2 _ _ aa,1,n,1⟩;refine A7 (UJ (A7 (UX af ?_)));have ae:h2.DictOf knd #[0,s] []:=by
  erw[U,o,es,ep,ho,r];exact⟨o,es,ep,k2 _ _ ho,r⟩
 have O:#[0,s]<h2.objs.size:=by
  erw[ae,o,es,ep,ho,r];exact uF ho
 have k1:∀b o,s.heap.get? b=u_ o->h2.get? b=u_ o:=λb o e=>k2 b o (ub _ e);have k3:∀b o,h2.get? b=u_ o->(h2.push {cls:= .type "list_iterator",data:= .fields #[-l,.int 0 0]}).get? b=u_ o:=λb o e=>ub _ e;have ag:(h2.push {cls:= .type "list_iterator",data:= .fields #[-l,.int 0 0]}).IsList l items:=⟨_,k3 _ _ (k2 _ _ aa),1,n,1⟩;have ah:(h2.push {cls:= .type "list_iterator",data:= .fields #[-l,.int 0 0]}).DictOf knd #[0,s] []:=ae.push _;refine uw [TB J8 _:CB (A:=A.in1) hh (d:=#[0,s]) (it:=h2.objs.size) (l:=l) (items:=items) (ps:=ps) (U2 ad) (U2 (HK ad O)) (uP O) hn hz .none ↑ps 0 _ [] () ⟨_,uE _ rfl,1,1⟩ ag ah (uj _) (λj v p h1 ak=>?_) λh' ac al kp=>?_]
 .erw[hp j v p h1 ak,t,o,k,n',e1,e2,e3,e4,e5];have ht:=uF e2;exact⟨⟨t,o,k,n',e1,uP ht,uP (HK ht O),k3 _ _ (k1 _ _ e2),e3,e4,e5⟩⟩
 .exists 1,hQ h' ac al λb o e=>?_;have hb:=uF e;exact kp b o (uP hb) (uP (HK hb O)) (k3 _ _ (k1 _ _ e))
end
end PySem.AwK
namespace L2
open PySem PySem.Spec PyProof.Rows
section
variable {X:Cx}
abbrev jM (ps:oj (Str×V)):oj (Key×V):=ps.map λp=>(Vj p.1,p.2)
def wR (ps:oj (Str×V)):(jM ps).map (·.1)=(ps.map (·.1)).map Sum.inr:=by
 unfold jM;rw[uK,uK]
 rfl
def Co {kvs:oj (Key×o6)}{k:Key}{v:o6}(h:k∉kvs.map (·.1)):GM kvs k v=kvs++ [(k,v)]:=by
 unfold GM;rw[A4];intro q;erw[List.any_eq_true.mp q,p,O,e];exact h (Ae.mpr [p:O:um e])
def Kc:∀{ps O:oj (Key×o6)},((O++ps).map (·.1)).Nodup->AwK.addAll O ps=O++ps
 | [],O,_=>(ve O).symm
 |p::r,O,h=>by
  unfold AwK.addAll;have U:p.1∉O.map (·.1):=by
   rw[uq,uA] at h;intro q;exact(List.nodup_append.mp h).2.2 _ q _ uf rfl
  rw[Co U,Kc (by rw[V1];exact h),V1]
  rfl
def oI {P:o9}{w:og}{H:Hp}{h:o8}(ok:HOk P w H h):∀{ts:oj o3}{ps:oj (Str×V)},↑ts=↑ps->(∀(i:Nat) (t:o3) (p:Str×V),ts[i]? =u_ t->ps[i]? =u_ p->H t=u_ (-[.str p.1,p.2]))->
  ∃pv:oj (Key×o6),KV (jM ps) pv/\∀(j:Nat) (v:o6) (p:Key×o6),(ts.map Vm)[j]? =u_ v->pv[j]? =u_ p->∃(t:o3) (o:Obj) (k:o6) (n:Nat),v= .ref t/\h.get? t=u_ o/\o.cls= .type "tuple"/\o.data= .seq #[k,p.2] n/\(Qm P w).is p.1 k=v_
 | [],[],_,_=>⟨[],.nil,λj v p e=>by simp at e⟩
 |t::ts,p::ps,hl,hp=>by
  obtain⟨pv,h1,h2⟩:=oI ok (ts:=ts) (ps:=ps) (by simpa using hl) λi t' p' O e2=>hp (i+1) t' p' (by simpa using O) (by simpa using e2)
  obtain⟨_,its,rv,o,U,hc,n,hd⟩:=(show ye P w H h t (-[.str p.1,p.2]) from ok t _ (hp 0 t p rfl rfl))
  cases rv with
  |cons r1 rv=>
  cases rv with
  |cons r2 rv=>
  cases rv with
  |nil=>
  erw[r1,tk,rfl]
  rename_i u
  exists (Vj p.1,u)::pv,.cons [1:r2] h1,λj v q O e2=>?_;cases j with
  |zero=>
   simp![uA,List.getElem?_cons_zero,P0] at O e2;subst O e2;exact⟨t,o,_,n,1,U,hc,hd,wC _ _ _ _⟩
  |succ j=>exact h2 j v q (by simpa using O) (by simpa using e2)
 | [],_::_,hl,_=>by simp at hl
 |_::_,[],hl,_=>by simp at hl
abbrev Cj (H:Hp)(l:o3)(ps:oj (Str×V)):Prop:=∃ts:oj o3,H l=u_ (.lst (ts.map V.ref))/\↑ts=↑ps/\∀(i:Nat) (t:o3) (p:Str×V),ts[i]? =u_ t->ps[i]? =u_ p->H t=u_ (-[.str p.1,p.2])
def Io {oq:oj (o3×Obj)}{σ:St}{H:Hp}{s:o7}{l:o3}{ps:oj (Str×V)}{Q:o6->o7->Prop}(hc:X.calm=v_)(I:#[I])(hl:Cj H l ps)(hn:(ps.map (·.1)).Nodup)(hz:↑ps<=1000)
  (h:∀h' O pv,0<O->(∀b o,s.heap.get? b=u_ o->h'.get? b=u_ o)->KV (jM ps) pv->h'.DictOf (Qm X.prog X.w) #[0,s] pv->Q (.ref #[0,s]) {s with heap:=h',toks:=O}):
  Vh #[X,X] X.A (call (.type "dict") [-l]) Q X.xe s:=by
 erw[hl,ts,e1,e2,e3];obtain⟨_,its,n,rv,ho⟩:=(show ye X.prog X.w H s.heap l (.lst (ts.map V.ref)) from I.hok l _ e1)
 cases nP rv;erw[oI I.hok e2 e3,pv,r,hp];have ad:↑pv=↑ps:=by
  rw[<-↑r];unfold jM;rw[u9]
 have aa:(pv.map (·.1)).Nodup:=by
  rw[<-r.keys,wR];exact pQ _ (λa b ac e=>ac (Ux e)) hn
 refine uW (n:=1) I.tk ?_;refine AwK.dict_pairs (knd:=Qm X.prog X.w) (I.ok.hd hc) (ps:=pv) ho (by rw[ur,u9];omega) (by rw[uB];omega) (λj v p h1 h2=>hp j v p (by simpa using h1) h2) λh' O U kp=>?_
 rw[Kc (by simpa using aa),tY] at U
 exact λhtk=>h h' O pv htk kp r U
def CZ (hc:X.calm=v_):Y3 X (.type "dict") (λxs H Q=>∃(l:o3) (ps:oj (Str×V)),xs= [-l]/\Cj H l ps/\(ps.map (·.1)).Nodup/\↑ps<=1000/\∀q,H q=U_->Q (-q) (upd H q (.dK (jM ps)))):=by
 exists 2,xs,us,Q,I,r,h;erw[h,l,ps,rfl,hl,hn,hz,q];erw[xi r,u,rfl,ru];cases ru;refine Io hc I hl hn hz λh' aa pv htk kp rel dd=>?_;have O:(#[0,s]==VC)=false:=by
  rw[beq_eq_false_iff_ne];exact U2 I.big
 have U:↑(jM ps)<=sizeLine:=by unfold jM;rw[u9,uB];omega
 exact⟨.ref #[0,s],_,I.laid kp (uj _) (sK U O rel dd),1,q _ I.fresh⟩
def C0 (hc:X.calm=v_):Y3 X (.type "dict") (λxs H Q=>∃(l:o3) (ps:oj (Str×V)),xs= [-l]/\Cj H l ps/\(ps.map (·.1)).Nodup/\↑ps<=1000/\∀q o,H q=U_->Q (-q) (upd H q (.frz o (.dK (jM ps))))):=by
 exists 2,xs,us,Q,I,r,h;erw[h,l,ps,rfl,hl,hn,hz,q];erw[xi r,u,rfl,ru];cases ru;refine Io hc I hl hn hz λh' aa pv htk kp rel dd=>?_;have O:(#[0,s]==VC)=false:=by
  rw[beq_eq_false_iff_ne];exact U2 I.big
 have U:↑(jM ps)<=sizeLine:=by unfold jM;rw[u9,uB];omega
 erw[id dd,o,es,ep,ho,rr];exact⟨.ref #[0,s],_,I.laid (o:= .frz o (.dK (jM ps))) kp (uj _) [ho:sK U O rel dd],1,q _ o I.fresh⟩
end
mutual
noncomputable def puD:D->Bool
 | .str _=>v_
 | .int _=>v_
 | .tup xs=>puL xs
 |_=>Vg
noncomputable def puL:oj D->Bool
 | []=>v_
 |x::r=>puD x&&puL r
end
mutual
noncomputable def eqD:D->D->Bool
 | .str a,.str b=>a==b
 | .int a,.int b=>a==b
 | .tup xs,.tup ys=>eqL xs ys
 |_,_=>Vg
noncomputable def eqL:oj D->oj D->Bool
 | [],[]=>v_
 |x::r,y::q=>eqD x y&&eqL r q
 |_,_=>Vg
end
mutual
theorem AH:∀{d e:D},puD d=v_->(eqD d e=v_↔d=e)
 | .str a,e,_=>by cases e<;>simp[eqD]
 | .int a,e,_=>by cases e<;>simp[eqD]
 | .tup xs,¬ys,h=>by
  have:=eqL_iff (xs:=xs) (ys:=ys) (by simpa [puD] using h)
  simp![eqD,this,D.tup.injEq]
 | .tup xs,.non,_=>by simp[eqD]
 | .tup xs,.bl _,_=>by simp[eqD]
 | .tup xs,.int _,_=>by simp[eqD]
 | .tup xs,.str _,_=>by simp[eqD]
 | .tup xs,.lst,_=>by simp[eqD]
 | .tup xs,.dct,_=>by simp[eqD]
 | .non,_,h=>by simp[puD] at h
 | .bl _,_,h=>by simp[puD] at h
 | .lst,_,h=>by simp[puD] at h
 | .dct,_,h=>by simp[puD] at h
theorem eqL_iff:∀{xs ys:oj D},puL xs=v_->(eqL xs ys=v_↔xs=ys)
 | [],[],_=>by simp[eqL]
 | [],_::_,_=>by simp[eqL]
 |_::_,[],_=>by simp[eqL]
 |x::r,y::q,h=>by
  have h':puD x=v_/\puL r=true:=by simpa [puL] using h
  simp![eqL,uC,AH h'.1,eqL_iff h'.2,UT]
end
mutual
theorem Is.det {H:Hp}:∀{d e:D}{v:V},puD d=v_->puD e=v_->Is H d v->Is H e v->d=e
 | .str a,e,v,_,he,h1,h2=>by
  obtain⟨rfl,_⟩:=(show v= .str a/\_ from h1)
  cases e with
  |str b=>obtain⟨q,_⟩:=(show V.str a=V.str b/\_ from h2);cases q;rfl
  |int b=>cases(show V.str a=V.int b from h2)
  |tup ys=>erw[h2,p,us,q,_];cases q
  |_=>simp[puD] at he
 | .int a,e,v,_,he,h1,h2=>by
  cases(show v= .int a from h1)
  cases e with
  |str b=>obtain⟨q,_⟩:=(show V.int a=V.str b/\_ from h2);cases q
  |int b=>cases(show V.int a=V.int b from h2);rfl
  |tup ys=>erw[h2,p,us,q,_];cases q
  |_=>simp[puD] at he
 | .tup xs,e,v,hd,he,h1,h2=>by
  erw[h1,p,vs,rfl,hp,hl];cases e with
  |str b=>obtain⟨q,_⟩:=(show V.ref p=V.str b/\_ from h2);cases q
  |int b=>cases(show V.ref p=V.int b from h2)
  |tup ys=>
   erw[h2,p',us,q,O,U];cases q;rw[hp] at O;cases O;rw[IsL.det (by simpa [puD] using hd) (by simpa [puD] using he) hl U]
  |_=>simp[puD] at he
 | .non,_,_,hd,_,_,_=>by simp[puD] at hd
 | .bl _,_,_,hd,_,_,_=>by simp[puD] at hd
 | .lst,_,_,hd,_,_,_=>by simp[puD] at hd
 | .dct,_,_,hd,_,_,_=>by simp[puD] at hd
theorem IsL.det {H:Hp}:∀{xs ys:oj D}{vs:oj V},puL xs=v_->puL ys=v_->IsL H xs vs->IsL H ys vs->xs=ys
 | [],[],_,_,_,_,_=>rfl
 | [],_::_,_,_,_,h1,h2=>by
  cases(show _= [] from h1)
  erw[h2,v,r,q,_];cases q
 |_::_,[],_,_,_,h1,h2=>by
  cases(show _= [] from h2)
  erw[h1,v,r,q,_];cases q
 |x::xs,y::ys,_,hd,he,h1,h2=>by
  erw[h1,v,r,rfl,a1,a2];erw[h2,v',r',q,b1,b2];cases q;have O:puD x=v_/\puL xs=true:=by simpa [puL] using hd
  have U:puD y=v_/\puL ys=true:=by simpa [puL] using he
  rw[Is.det O.1 U.1 a1 b1,IsL.det O.2 U.2 a2 b2]
end
def AG:∀(xs ys:oj D),eqL xs ys=((Vp (min ↑xs ↑ys)).all (λj=>eqD (xs.getD j .non) (ys.getD j .non))&&↑xs==↑ys)
 | [],[]=>by simp[eqL]
 | [],_::_=>by simp[eqL]
 |_::_,[]=>by simp[eqL]
 |x::r,y::q=>by
  have O:=AG r q;rw[ui,ui,show min (↑r+1) (↑q+1)=min ↑r ↑q+1 by omega,Ff,vB,UK]
  have e:(Vp (min ↑r ↑q)).all ((λj=>eqD ((x::r).getD j .non) ((y::q).getD j .non))∘TD)=(Vp (min ↑r ↑q)).all λj=>eqD (r.getD j .non) (q.getD j .non):=by congr 1
  rw[e];have e2:(↑r+1==↑q+1)=(↑r==↑q):=by rw[vM];simp
  rw[e2,rC,<-O]
  rfl
section
variable {X:Cx}{oq:oj (o3×Obj)}{σ:St}{H:Hp}{s:o7}
variable {z:Str}{e:D}{A:oh}
def Mx (I:#[I]){t:Tok}{u:V}{b:o6}(U:puD e=v_)(h2:Is H e u)(O:ik u b)(hu:A.units<Vr):Vz A s (.str z t) b (eqD (!z) e):=by
 cases e with
 |str y=>
  obtain⟨rfl,_⟩:=(show u= .str y/\_ from h2)
  erw[O,t2,rfl];exact Fc _ _ _ _
 |int y=>
  cases(show u= .int y from h2)
  erw[O,t2,rfl];exact UM _ _ _ _
 |tup ys=>
  erw[id h2,p,us,rfl,hp,hl];cases O;erw[I.tuple (.inl (.of hp)),its,_,q,_];exact rQ _ _ q hu
 |_=>simp[puD] at U
def B9 (I:#[I]){z:Int}{t:Tok}{u:V}{b:o6}(U:puD e=v_)(h2:Is H e u)(O:ik u b)(hu:A.units<Vr):Vz A s (.int z t) b (eqD (.int z) e):=by
 cases e with
 |str y=>
  obtain⟨rfl,_⟩:=(show u= .str y/\_ from h2)
  erw[O,t2,rfl];exact UL _ _ _ _
 |int y=>
  cases(show u= .int y from h2)
  erw[O,t2,rfl];exact Ft _ _ _ _
 |tup ys=>
  erw[id h2,p,us,rfl,hp,hl];cases O;erw[I.tuple (.inl (.of hp)),its,_,q,_];exact Rc _ _ q hu
 |_=>simp[puD] at U
def WK:∀{xs:oj D}{j:Nat}{x:D},puL xs=v_->xs[j]? =u_ x->puD x=v_
 | [],_,_,_,e=>by simp at e
 |y::r,0,x,h,e=>by
  have h':puD y=v_/\puL r=true:=by simpa [puL] using h
  have:y=x:=by simpa using e
  exact this▸h'.1
 |y::r,j+1,x,h,e=>by
  have h':puD y=v_/\puL r=true:=by simpa [puL] using h
  exact WK h'.2 (by simpa using e)
def Mw (I:#[I]){xs:oj D}{e:D}{v u:V}{a b:o6}{A:oh}(hd:puD (¬xs)=v_)(he:puD e=v_)(h1:Is H (¬xs) v)(h2:Is H e u)(r1:ik v a)(r2:ik u b)(hu:A.units<Vr)
  (ih:∀x>xs,∀(e:D) (v u:V) (a b:o6),puD x=v_->puD e=v_->Is H x v->Is H e u->ik v a->ik u b->Vz A.in1 s a b (eqD x e)):Vz A s a b (eqD (¬xs) e):=by
 erw[id h1,p,vs,rfl,hp,hl];cases r1;erw[I.tuple (.inl (.of hp)),its,rv,q,_];cases e with
 |str y=>
  obtain⟨rfl,_⟩:=(show u= .str y/\_ from h2)
  erw[r2,t2,rfl];exact Rv _ _ q hu
 |int y=>
  cases(show u= .int y from h2)
  erw[r2,t2,rfl];exact pG _ _ q hu
 |tup ys=>
  by_cases hv:V.ref p=u
  .have:=Is.det (e:=¬ys) hd he h1 (hv▸h2);subst hv;cases r2;rw[<-this,(AH hd).mpr rfl];exact tO _
  .erw[id h2,p',us,rfl,aa,O];cases r2;erw[I.tuple (.inl (.of aa)),its',U,q',_];have l1:↑its=↑xs:=by rw[<-↑rv,↑hl]
   have l2:↑its'=↑ys:=by rw[<-↑U,↑O]
   have ac:puL xs=true:=by simpa [puD] using hd
   have ad:puL ys=true:=by simpa [puD] using he
   have ae:=V2 (e:=λj=>eqD (xs.getD j .non) (ys.getD j .non)) q q' hu λj a1 a2=>by
    have j1:j<↑xs:=by rw[<-l1];simpa using a1
    have j2:j<↑ys:=by rw[<-l2];simpa using a2
    obtain⟨v1,e1,i1⟩:=hl.get (i:=j) (d:=xs[j]) (by simp[j1])
    obtain⟨v2,e2,i2⟩:=O.get (i:=j) (d:=ys[j]) (by simp[j2])
    erw[rv.get e1,b1,f1,g1];erw[U.get e2,b2,f2,g2];have k1:its.toArray[j]=b1:=by
     have:=f1;rw[uh (by rwa[l1])] at this
     simpa using this
    have k2:its'.toArray[j]=b2:=by
     have:=f2;rw[uh (by rwa[l2])] at this
     simpa using this
    have d1:xs.getD j .non=xs[j]:=by simp[G6,j1]
    have d2:ys.getD j .non=ys[j]:=by simp[G6,j2]
    show Vz _ s _ _ (eqD (xs.getD j .non) (ys.getD j .non));rw[k1,k2,d1,d2];exact ih _ (uT j1) _ _ _ _ _ (WK (j:=j) ac (by simp[j1])) (WK (j:=j) ad (by simp[j2])) i1 i2 g1 g2
   have e1:eqD (¬xs) (¬ys)=((Vp (min its.toArray.size its'.toArray.size)).all (λj=>eqD (xs.getD j .non) (ys.getD j .non))&&its.toArray.size==its'.toArray.size):=by
    rw[ur,ur,l1,l2,<-AG];simp![eqD]
   rw[e1];exact rW (λz=>hv (by rw[z])) ae
 |_=>simp[puD] at he
def NL (I:#[I]):∀(n:Nat) (d e:D) (v u:V) (a b:o6) (A:oh),dp d<=n->puD d=v_->puD e=v_->Is H d v->Is H e u->ik v a->ik u b->A.units+n<Vr->Vz A s a b (eqD d e):=by
 intro n
 induction n with
 |zero=>
  intro d e v u a b A hn hd U h1 h2 r1 r2 hu;cases d with
  |int z=>
   cases(show v= .int z from h1)
   erw[r1,t,rfl];exact B9 I U h2 r2 hu
  |str z=>simp[dp] at hn
  |tup xs=>simp[dp] at hn
  |_=>simp[puD] at hd
 |succ n ih=>
  intro d e v u a b A hn hd U h1 h2 r1 r2 hu;have O:A.units<cLine:=vA (Va _ _) hu;cases d with
  |int z=>
   cases(show v= .int z from h1)
   erw[r1,t,rfl];exact B9 I U h2 r2 O
  |str z=>
   obtain⟨rfl,_⟩:=(show v= .str z/\_ from h1)
   erw[r1,t,rfl];exact Mx I U h2 r2 O
  |tup xs=>
   have hm:dpL xs<=n:=by
    have:dp (¬xs)=1+dpL xs:=by simp![dp]
    omega
   exact Mw I hd U h1 h2 r1 r2 O λx hx e v u a b k1 k2 k3 k4 k5 k6=>ih x e v u a b A.in1 ((wz xs).mp hm x hx) k1 k2 k3 k4 k5 k6 (by rw[uY];omega)
  |_=>simp[puD] at hd
end
section
variable {X:Cx}
abbrev trD:D->Bool
 | .str _=>v_
 | .tup xs=>puL xs
 |_=>Vg
def MV {d:D}(h:trD d=v_):puD d=true:=by
 cases d<;>simp_all [trD,puD]
variable {oq:oj (o3×Obj)}{σ:St}{H:Hp}{s:o7}{A:oh}{n:Nat}{its:oj o6}
def LE (I:#[I]){xs ys:oj D}{vs us:oj V}{its':oj o6}(hn:dpL xs<=n)(hd:puL xs=v_)(he:puL ys=v_)(hl:IsL H xs vs)(O:IsL H ys us)(rv:iw vs its)(U:iw us its')(hu:A.units+n<Vr):
  ∀j (a1:j<its.toArray.size) (a2:j<its'.toArray.size),Vz A s its.toArray[j] its'.toArray[j] (eqD (xs.getD j .non) (ys.getD j .non)):=λj a1 a2=>by
 have l1:↑its=↑xs:=by rw[<-↑rv,↑hl]
 have l2:↑its'=↑ys:=by rw[<-↑U,↑O]
 have j1:j<↑xs:=by rw[<-l1];simpa using a1
 have j2:j<↑ys:=by rw[<-l2];simpa using a2
 obtain⟨v1,e1,i1⟩:=hl.get (i:=j) (d:=xs[j]) (by simp[j1])
 obtain⟨v2,e2,i2⟩:=O.get (i:=j) (d:=ys[j]) (by simp[j2])
 erw[rv.get e1,b1,f1,g1];erw[U.get e2,b2,f2,g2];have k1:its.toArray[j]=b1:=by
  have:=f1;rw[uh (by rwa[l1])] at this
  simpa using this
 have k2:its'.toArray[j]=b2:=by
  have:=f2;rw[uh (by rwa[l2])] at this
  simpa using this
 have d1:xs.getD j .non=xs[j]:=by simp[G6,j1]
 have d2:ys.getD j .non=ys[j]:=by simp[G6,j2]
 rw[k1,k2,d1,d2];exact NL I n _ _ _ _ _ _ A ((wz xs).mp hn _ (uT j1)) (WK (j:=j) hd (by simp[j1])) (WK (j:=j) he (by simp[j2])) i1 i2 g1 g2 hu
variable {e:D}{y:V}{u:o6}
def AeX (I:#[I]){d:D}{x:V}{v:o6}(h1:Is H d x)(h2:Is H e y)(p1:trD d=v_)(p2:trD e=v_)(hn:dp d<=60)(rx:ik x v)(ry:ik y u)(hu:A.units+64<Vr):
  rK A s v u (eqD d e)/\rX A s v u (!(eqD) d e):=by
 have O:A.units<cLine:=by omega
 cases d with
 |str z=>
  obtain⟨rfl,_⟩:=(show x= .str z/\_ from h1)
  erw[rx,t,rfl];cases e with
  |str w=>
   obtain⟨rfl,_⟩:=(show y= .str w/\_ from h2)
   erw[ry,t2,rfl];exact[Pr _ _ _ _:pW _ _ _ _]
  |tup ys=>
   erw[id h2,p,us,rfl,hp,hl];cases ry;erw[I.tuple (.inl (.of hp)),its,_,q,_];exact[Po _ _ q O:pP _ _ q O]
  |_=>simp[trD] at p2
 |tup xs=>
  erw[id h1,p,vs,rfl,hp,hl];cases rx;erw[I.tuple (.inl (.of hp)),its,rv,q,_];cases e with
  |str w=>
   obtain⟨rfl,_⟩:=(show y= .str w/\_ from h2)
   erw[ry,t2,rfl];exact[pS _ _ q O:Pl _ _ q O]
  |tup ys=>
   erw[id h2,p',us,rfl,ac,U];cases ry;erw[I.tuple (.inl (.of ac)),its',aa,q',_];have hm:dpL xs<=60:=by
    have:dp (¬xs)=1+dpL xs:=by simp![dp]
    omega
   have l1:↑its=↑xs:=by rw[<-↑rv,↑hl]
   have l2:↑its'=↑ys:=by rw[<-↑aa,↑U]
   have pe:=LE I (A:=A.in1) hm (by simpa [trD] using p1) (by simpa [trD] using p2) hl U rv aa (by rw[uY];omega)
   have e1:eqD (¬xs) (¬ys)=((Vp (min its.toArray.size its'.toArray.size)).all (λj=>eqD (xs.getD j .non) (ys.getD j .non))&&its.toArray.size==its'.toArray.size):=by
    rw[ur,ur,l1,l2,<-AG];simp![eqD]
   rw[e1];exact[V2 q q' O pe:rP q q' O pe]
  |_=>simp[trD] at p2
 |_=>simp[trD] at p1
inductive Adw (g:Bool->Bool)(x:V)(y:V)(H:Hp)(Q:VK):Prop
 |mk (d e:D)(_:Is H d x)(_:Is H e y)(_:trD d=v_)(_:trD e=v_)(_:dp d<=60)(_:Q (.bl (g (eqD d e))) H)
def BD (O:X.A.units+64<Vr):OpR X (Vs .Eq) (Adw id):=by
 exists 2,x,y,v,u,Q,I,U,ry,h;erw[h,d,e,h1,h2,p1,p2,hn,q];exact(AeX I h1 h2 p1 p2 hn U ry O).1 X.prog X.w X.xe _ ⟨.bl _,H,I,1,q⟩
end
variable {X:Cx}
def JJ:Y3 X (.builtin "len") (λxs H Q=>(∃z:Str,xs= [!z]/\↑z<=Vk/\Q (.int ↑z) H)\/∃p ys,xs= [-p]/\(SqL X.K H p ys\/SqT X.K H p ys)/\(↑ys<=Vk->Q (.int ↑ys) H)):=by
 exists 2,xs,us,Q,I,r,h;rcases h with⟨z,e,hz,q⟩|h
 .exact Kv oq s σ H xs us Q I r ⟨_,↑z,e,[hz:1],q⟩
 .exact IC oq s σ H xs us Q I r h
abbrev AdS (K:o0)(n:Nat)(t:TGs):TG:=λv σ H Q=>∃a xs,v= .ref a/\SqL K H a xs/\↑xs=n/\t xs σ H Q
def O9 {X:Cx}{es:oj Expr}{k:Nat}{t:TGs}{n:Nat}{pos:Pos}(hc:X.calm=v_)(h:PGs X es t)
  (hn:↑(g_ es X.env)=n) (O:(g_ es X.env).findIdx? (·.1)=U_):PG X (.Tuple es k pos) (AdS X.K n t):=by
 exists 2,v,u,Q,I,r,U;erw[U,a,xs,e1,hq,hl,U];subst e1;cases r;erw[I.list hq,its,rv,ht,hz];rw[assign_Tuple];refine A7 (HC ?_);unfold unpack;rw[O,hn,<-hl,show ↑xs=its.toArray.size by simp[rv.length]]
 refine A7 (VL (PySem.W.kun_itemsOf (I.ok.hd hc) ht.isList λh' hx=>?_));have I1:Inv X oq σ H {s with heap:=h'}:=I.kept (t':=s.toks) λb o e=>hx b o (uP (uF e)) e
 exact h oq _ σ H xs _ Q I1 (by simpa using rv) U
variable {w:og}{K:o0}{mg:Str->om o6}{base:o8}{f:o3}{A:oh}
def Abz {P:o9}{N:oj Str}{qual:Str}{scope:VA}{cd:o6}{outer:oj Env}{s₀:o7}{H₀:Hp}{E:XK}:
  XV (CX1 P w) (cxOf (CX1 P w) P w K mg base N qual scope f cd A outer s₀ H₀ E) E:=by
 intro oq σ H s e s' I h;erw[h,ea,C,a0,H',B,rfl,au,ae,htk,aw,al,am,hold,hE];show Vh (Vu P w) (A.deeper (Vn qual scope #[0,s₀] f cd)) (tR (Vn qual scope #[0,s₀] f cd) (-ea)) (λ_ af=>CX1 P w outer H₀ s₀ E (-ea) af) (λe' af=>CX1 P w outer H₀ s₀ E e' af) _;have ax:(A.deeper (Vn qual scope #[0,s₀] f cd)).frames=u_ (Vn qual scope #[0,s₀] f cd::outer):=I.ok.frames;have ag:frs (Vn qual scope #[0,s₀] f cd::outer)=#[0,s₀]::frs outer:=rfl;have O:Un (frs outer) [] H₀ H s₀.heap s.heap:=I.base;have U:Un (frs (Vn qual scope #[0,s₀] f cd::outer)) [] H H' s.heap s'.heap:=aw;have aa:TF B (Vn qual scope #[0,s₀] f cd::outer) ea (-C) a0 s'.heap:=am;have ac:∀b o,s.heap.get? b=u_ o->b∉frs (Vn qual scope #[0,s₀] f cd::outer)->∃o',B.get? b=u_ o':=hold;have ay:=aa.2.2.1;have ad:∀b o,s₀.heap.get? b=u_ o->b∉frs outer->b∉frs (Vn qual scope #[0,s₀] f cd::outer):=λb o e hb hm=>by
  rw[ag] at hm;rcases Aa.mp hm with rfl|hm
  .exact A8 (uF e) (vL _)
  .exact hb hm
 have nd:∀b>frs outer,∀o,s'.heap.get? b=u_ o->∀vs,o.data≠ .fields vs:=λb hb o e=>by
  obtain⟨_,o',e',hn⟩:=ay.mem (show b>(Vn qual scope #[0,s₀] f cd::outer).filterMap (·.frame) from by rw[show(Vn qual scope #[0,s₀] f cd::outer).filterMap (·.frame)=frs (Vn qual scope #[0,s₀] f cd::outer) from rfl,ag];exact uc _ hb)
  rw[e] at e';cases e';exact hn
 refine wpAny_leaves_onW (base:=B) (L:=#[0,s₀]) ax rfl aa λaA ah ao=>?_;have aB:∀b o o',B.get? b=u_ o'->s'.heap.get? b=u_ o->aA.get? b=u_ o:=λb o o' e1 e2=>by
  have:=aa.1 b o' e1;rw[e2] at this;cases this;exact ah.1 b o e1
 exists ea,C,a0,H',B,1,au.trans I.os,ae,htk,⟨?_,?_,?_,?_,?_,?_,?_⟩,al,ah,?_,hE
 .intro b o e1 hn hb hx;have e2:=O.keep b o e1 hn hb hx;have ak:=O.free b o e1 hn hx;have ap:=ad b o e1 hb;have e3:=U.keep b o e2 ak ap hx;erw[ac b o e2 ap,o',e4];exact aB b o o' e4 e3
 .intro b o e1 hn hb hx;erw[O.slot b o e1 hn hb hx,sl,e2];have ak:=O.free b o e1 hn hx;obtain⟨aC,e3⟩:=U.slot b _ e2 ak (by rw[ag];exact uc _ hb) hx
  erw[ao b _ e3 (nd b hb _ e3),aq,e4];exact[aq:e4]
 .intro b o e1 hn hx;erw[O.there b o e1 hx,o',e2];exact U.free b o' e2 (O.free b o e1 hn hx) hx
 .intro b o e1 hx;erw[O.there b o e1 hx,o',e2];by_cases hb:b>frs outer
  .erw[U.there b o' e2 hx,o2,e3];erw[ao b _ e3 (nd b hb _ e3),aq,e4];exact[_:e4]
  .erw[ac b o' e2 (ad b o e1 hb),o2,e3];exact[o2:ah.1 b o2 e3]
 .exact λb xs e=>U.tups b xs (O.tups b xs e)
 .exact λb o u e=>U.frzs b o u (O.frzs b o u e)
 .intro b ps e;erw[O.tbls b ps e,m1,e1];erw[U.tbls b _ e1,m2,e2];exact⟨m1++m2,by rwa[<-TX]⟩
 .intro b o e1 hb;obtain⟨o',e2⟩:=O.there b o e1 (by simp)
  exact ac b o' e2 (ad b o e1 hb)
def oG:XV (CX1 X.prog X.w) X E0:=λ_ _ _ _ _ _ _ h=>by
 erw[h,_,_,_,_,_,_,_,_,_,_,_,_,_,z];exact Vw z
end L2
namespace L2
open PySem PyProof.Rows
variable {H:Hp}{p:o3}
def Tk.updD {xs ys:oj (Key×V)}(h:H p=u_ (.dK xs)):Tk H (upd H p (.dK ys)):=by
 exists λb zs e=>?_,λb zs e=>[zs:?_],λb zs e=>?_
 .rw[qj (λz=>by rw[z,h] at e;cases e)];exact e
 .rw[qj (λz=>by rw[z,h] at e;cases e)];exact e
 .by_cases z:b=p
  .exact⟨ys,by rw[z];exact qg⟩
  .exact⟨zs,by rwa[qj z]⟩
variable {C dx:o3}
def Tk.updI {O dx':o3}{xs ys:oj (Str×V)}(h:H p=u_ (.ins C dx xs)):Tk H (upd H p (.ins O dx' ys)):=
 ⟨λb zs e=>by rw[qj (λz=>by rw[z,h] at e;cases e)];exact e,λb zs e=>⟨zs,by rw[qj (λz=>by rw[z,h] at e;cases e)];exact e⟩,λb zs e=>⟨zs,by rw[qj (λz=>by rw[z,h] at e;cases e)];exact e⟩⟩
section
variable {X:Cx}
inductive OX (x:V)(vs:List V)(H:Hp)(Q:VK):Prop
 |mk (z y:Str)(_:x= !z)(_:vs= [!y])(_:Q (.bl (GF z y)) H)
def Ez:MtM X "str.startswith" OX:=by
 exists 2,x,vs,v,us,Q,I,O,rv,h;erw[h,z,y,rfl,rfl,q];erw[O,t,rfl];erw[rv.one,u,rfl,t',rfl];exact SC.startswith ⟨.bl (GF z y),H,I,1,q⟩
end
def SJ {d A:o3}{o:Obj}{H1:Hp}{tc:TT}{te:TE}{tl:St}{Q:VK}{kvs:oj (Key×V)}{ls:oj Str}(p:Str->Bool)(f:Str->V)(hd:H1 d=u_ (.frz o (.dK kvs)))(hk:kvs.map (·.1)=ls.map Vj)(hn:↑ls<=Vk)(hA:H1 A=U_)
  (U:∀z H (R:Bool->Hp->Prop),z>ls->ig H1 H->R (p z) H->tc (u_ (!z)::tl) H R)
  (aa:∀z H (R:VK),z>ls->ig H1 H->R (f z) H->te (u_ (!z)::tl) H R)
  (hQ:∀H',ig H1 H'->H' A=u_ (.lst ((ls.filter p).map f))->Q (-A) H'):CQ A (Itd d o) (YR 0) tc te (U_::tl) H1 Q:=by
 have ad:↑kvs=↑ls:=by
  have:=A9 Gb hk
  simpa using this
 exists ↑ls,λi σ ys H=>(∃w,σ=w::tl)/\ys=((ls.take i).filter p).map f/\ig H1 H,hn,[[U_:1]:1:qf hA _],?_,?_
 .rintro i σ ys H hi ⟨⟨w,rfl⟩,rfl,sm⟩ O hy;exists [kvs:sm _ _ hd:()]
  rintro x H' ⟨rfl,hx⟩;have e:=hx kvs (sm _ _ hd);have e2:(kvs.map λp=>kV p.1)[i]? =u_ (V.str ls[i]):=by
   have:(kvs.map λp=>kV p.1)=(kvs.map (·.1)).map kV:=by rw[uK];rfl
   rw[this,hk,uK,uG,uh hi]
   rfl
  rw[e2] at e;cases e;have et:ls.take (i+1)=ls.take i++ [ls[i]]:=by rw[vn,uh hi];rfl
  have ac:∀ys,ig H1 (upd H' A (.lst ys)):=λys b o' e=>by
   rw[qj (qk e hA)];exact sm _ _ e
  dsimp![YR,Go];refine U ls[i] H' _ (uT hi) sm ?_;cases hp:p ls[i] with
  |true=>
   refine lm (aa ls[i] H' _ (uT hi) sm ⟨O,⟨0⟩,?_,ac _⟩);rw[et,FG,uq];simp[hp]
  |false=>
   refine iR ⟨O,⟨0⟩,?_,sm⟩;rw[et,FG,uq];simp[hp]
 .rintro σ ys H ⟨_,rfl,sm⟩ O;rw[U1] at O;exact[[kvs:sm _ _ hd:()]:hQ H sm O]
def SH {K:o0}{a A:o3}{H1:Hp}{te:TE}{tl:St}{Q:VK}{ls:oj Str}(C:Nat->oj V->Hp->Prop)(ha:H1 a=u_ (.lst (ls.map V.str)))(hn:↑ls<=Vk)(hA:H1 A=U_)(h0:C 0 [] (upd H1 A (.lst [])))
  (aa:∀i z ys H,ls[i]? =u_ z->C i ys H->H A=u_ (.lst ys)->H a=u_ (.lst (ls.map V.str))->↑ys<=i->∀R:VK,(∀y H4,H4 A=u_ (.lst ys)->H4 a=u_ (.lst (ls.map V.str))->C (i+1) (ys++ [y]) (upd H4 A (.lst (ys++ [y])))->R y H4)->te (u_ (!z)::tl) H R)
  (hQ:∀ys H,C ↑ls ys H->H A=u_ (.lst ys)->Q (-A) H):CQ A (Itl K a) (YR 0) nN te (U_::tl) H1 Q:=by
 have U:a≠A:=qk ha hA;refine⟨↑ls,λi σ ys H=>(∃w,σ=w::tl)/\C i ys H/\H a=u_ (.lst (ls.map V.str)),hn,⟨[U_:1],h0,by rwa[qj U]⟩,?_,?_⟩
 .rintro i σ ys H hi ⟨⟨w,rfl⟩,hc,hl⟩ O hy;have e0:(ls.map V.str)[i]? =u_ (V.str ls[i]):=by rw[uG,uh hi];rfl
  exists ⟨_,_,SqL.of hl,e0⟩;rintro x H' ⟨rfl,hx⟩;have e:=hx _ (SqL.of hl);rw[e0] at e;cases e;dsimp![YR,nN,Go];rw[A6 rfl];exact aa i ls[i] ys H' (uh hi) hc O hl hy _ λy H4 h4 h5 c4=>⟨h4,⟨0⟩,c4,by rwa[qj U]⟩
 .rintro σ ys H ⟨_,hc,hl⟩ O;exact⟨⟨_,SqL.of hl,by simp⟩,hQ ys H hc O⟩
section
variable {X:Cx}{K:o0}{o e:Expr}{es:oj Expr}{to:TE}{t:TA}{name:Str}{apos cpos:Pos}{T id:String}{r:V->oj V->Hp->VK->Prop}
def Aby (hK:X.K=K)(pa:F0 T)(slot:Slot T name id)(ad:hW (.builtin id)=pure (.type "method_descriptor"))(hm:MtR X id r)(ho:PE X o to)(ha:PA X (e::es) t)
  (U:GN o name X.env (eval o X.env)=eval o X.env)
  (ac:((Vt cpos (Vl (e::es) X.env)).all (λx=> !(x).1)&&(Gk cpos (Gi [] X.env)).all (λx=>x.1.isSome)
   &&decide (↑(e::es)+↑([]:oj Gu)+(if([]:oj Gu).isEmpty then 0 else 1)<30))=v_)
  (aa:(apos.endLine==cpos.line)=v_) (hs:Vl (e::es) X.env=(Vg,eval e X.env)::Vl es X.env) (O:(Vt cpos (Vl es X.env)).any (·.1)=Vg):
  PE X (.Call (.Attribute o name apos) (e::es) [] cpos) (tBM K T r to t):=by
 subst hK;exact j0 pa slot ad hm ho ha U ac aa hs O
end
def oJ {α β:Type}{F:α->β->Prop}:∀{l₁:oj α}{l₂:oj β},Paired F l₁ l₂->∀{j:Nat}{a:α}{b:β},l₁[j]? =u_ a->l₂[j]? =u_ b->F a b
 |_,_,.nil,j,a,b,h,_=>by simp at h
 |_,_,.cons f r,0,a,b,h1,h2=>by
  cases h1;cases h2;exact f
 |_,_,.cons f r,j+1,a,b,h1,h2=>oJ r (j:=j) (by simpa using h1) (by simpa using h2)
abbrev No:D->Bool
 | .non=>v_
 |d=>trD d
section
variable {X:Cx}
inductive Ae5 (x:V)(y:V)(H:Hp)(Q:VK):Prop
 |mk (d:D)(z:Str)(_:Is H d x)(_:y= !z)(_:↑z<=1000)(_:No d=v_)(_:dp d<=60)(_:Q (.bl (eqD d (!z))) H)
def AbE (hu:X.A.units+64<Vr):OpR X (Vs .Eq) Ae5:=by
 exists 2,x,y,v,u,Q,I,O,U,h;erw[h,d,z,hd,rfl,hz,hk,hp,q];cases d with
 |non=>
  cases(show x= .non from hd)
  exact QJ oq s σ H .non (!z) v u Q I O U ⟨1,by simpa [eqD] using q⟩
 |str a=>exact BD hu oq s σ H x _ v u Q I O U ⟨_,!z,hd,⟨1,by rw[uB];omega⟩,hk,1,hp,q⟩
 |tup a=>exact BD hu oq s σ H x _ v u Q I O U ⟨_,!z,hd,⟨1,by rw[uB];omega⟩,hk,1,hp,q⟩
 |_=>simp[No,trD] at hk
inductive Ae3 (K:PySem.W.Frag)(x:V)(y:V)(H:Hp)(Q:VK):Prop
 |mk (d:D)(p:Addr)(ls:List Str)(_:Is H d x)(_:y=-p)(_:(SqL K H p (ls.map V.str)\/SqT K H p (ls.map V.str)))(_:(∀z>ls,↑z<=1000))(_:No d=v_)(_:dp d<=60)(_:Q (.bl (ls.any λz=>eqD d (!z))) H)
def E7 (us:oj Str):(us.map V.str).all Z7=true:=by
 rw[UK,Ul];exact λ_ _=>rfl
def Nk (hu:X.A.units+64<Vr):OpR X (Vs .In) (Ae3 X.K):=by
 exists 2,x,y,v,u,Q,I,rx,ry,h;erw[h,d,p,ls,hd,rfl,O,ac,hk,hp,q];cases d with
 |non=>
  cases(show x= .non from hd)
  refine QS oq s σ H .non _ v u Q I rx ry ⟨p,0,O,1,E7 _,?_⟩;have e:inV .non (ls.map V.str)=ls.any λz=>eqD .non (!z):=by
   unfold inV;rw[Tg]
   rfl
  rwa[A4 u8,e]
 |str a=>
  erw[hd,rfl,_];refine QS oq s σ H _ _ v u Q I rx ry ⟨p,0,O,1,E7 _,?_⟩;have e:inV (!a) (ls.map V.str)=ls.any λz=>eqD (!a) (!z):=by
   unfold inV;rw[Tg];refine A9 (λf=>ls.any f) (funext λz=>?_);show(z==a)=(a==z);rw[vM,beq_iff_eq,beq_iff_eq];exact eq_comm
  rwa[A4 u8,e]
 |tup xs=>
  have e:(ls.any λz=>eqD (¬xs) (!z))=false:=by
   rw[t_];intro z _;simp[eqD]
  rw[e] at q;erw[hd,pa,vs,rfl,ha,hl];cases rx;cases ry;erw[I.tuple (.inl (.of ha)),ad,ae,af,_];have ag:X.A.units<cLine:=by omega
  have U:∀{its:oj o6},iw (ls.map V.str) its->∀w>its,∀A:oh,A.units+1<Vr->Vz A s w (-pa) false:=by
   intro its r w hw A hA;erw[List.mem_iff_getElem?.mp hw,j,hj];have aa:j<↑ls:=by
    have:=(Af.mp hj).1;have:=↑r;rw[u9] at this;omega
   obtain⟨u',e1,e2⟩:=r.get (i:=j) (x:=V.str ls[j]) (by rw[uG,uh aa];rfl)
   rw[hj] at e1;cases e1;have:=NL I 1 (.str ls[j]) (¬xs) (.str ls[j]) (-pa) _ (-pa) A (by simp[dp]) rfl (by simpa [No,trD,puD] using hk) ⟨1,by have:=ac _ (uT aa);rw[uB];omega⟩ ⟨pa,vs,1,ha,hl⟩ e2 rfl ()
   simpa [eqD] using this
  rcases O with O|O
  .erw[I.list O,its,r,pl,hz];refine RU (λ_=>Vg) pl.isList (λw hw=>U r w (by simpa using hw) _ ?_) ⟨.bl _,H,I,1,?_⟩
   .first|omega|(rw[uY];omega)|(rw[uY,uY];omega)|(rw[uY,uY,uY];omega)
   .rw[show its.toArray.any (λ_=>Vg)=Vg by rw[rZ];exact List.any_eq_false.mpr λ_ _=>u8]
    exact q
  .erw[I.tuple O,its,r,pl,hz];refine FW (λ_=>Vg) pl (λw hw=>U r w (by simpa using hw) _ ?_) ⟨.bl _,H,I,1,?_⟩
   .first|omega|(rw[uY];omega)|(rw[uY,uY];omega)|(rw[uY,uY,uY];omega)
   .rw[show its.toArray.any (λ_=>Vg)=Vg by rw[rZ];exact List.any_eq_false.mpr λ_ _=>u8]
    exact q
 |_=>simp[No,trD] at hk
end
end L2
namespace L2
open PySem PySem.Spec PyProof.Rows Builtin Builtin.Str
abbrev AaW (P:o9)(w:og)(K:o0)(mg:Str->om o6)(base:o8)(k:Nat)(tf:TE)(t:TA):TE:=λσ H Q=>tf σ H λv H1=>∃(f:o3) (fd:Vi) (ps:oj Str) (sp:Sp),v= .ref f/\
 FnOk P w K mg base CX0 k f fd ps sp/\Jr K fd ps []/\PySem.W.keepIn K (-f)=v_/\t σ H1 λvs H2=>sp vs H2 Q E0
def LC {X:Cx}{o i e:Expr}{es:oj Expr}{O pos:Pos}{tf:TE}{t:TA}{k:Nat}{P:o9}{w:og}{K:o0}{mg:Str->om o6}{base:o8}(e1:X.prog=P/\X.w=w/\X.K=K/\X.mg=mg/\X.base=base)(hf:PE X (.Subscript o i O) tf)(hr:mj k X.A)(ha:PA X (e::es) t)
  (he:Vl (e::es) X.env=(Vg,eval e X.env)::Vl es X.env) (U:(Vt pos (Vl es X.env)).any (·.1)=Vg):
  PE X (.Call (.Subscript o i O) (e::es) [] pos) (AaW P w K mg base k tf t):=by
 erw[e1,rfl,rfl,rfl,rfl,rfl];exists 2,Q,I,h;show Vh _ _ (do Hm pos (<-eval (.Subscript o i O) X.env) [] (Vt pos (Vl (e::es) X.env)) (Gk pos (Gi [] X.env))) _ _ s
 refine A7 (thn (hf oq s σ H _ I h) λu s1 zq=>?_);erw[zq,v,H1,I1,rv,f,fd,ps,sp,ev,F,hb,hk,q];subst ev;obtain rfl:u=Vm f:=rv;refine U4 (h₀:=X.base) I1.ok.mod.kin hk (thn (ha pos oq s1 σ H1 _ I1 q) λus s2 ⟨vs,H2,I2,r,q2⟩=>[I2.kIn:?_]) he U;exact Bm (ds:= []) (dvs:= []) F hr hb .nil qy I2 r (by rw[ve];exact q2)
def K0 (z y:Str)(hi O:Nat):∀(l:oj Nat) (st:Array Nat×Nat),(G9 l st (Gr z y hi O)).run.fst.size<=st.fst.size+↑l
 | [],st=>uj _
 |a::l,st=>by
  rw[Uy];unfold Gr;split
  .refine uZ (K0 z y hi O l _) ?_;simp![pB,ui];omega
  .refine uZ (K0 z y hi O l _) ?_;simp![ui];omega
def So (z y:Str)(n:Nat):↑(occurrences z y 0 ↑z n)<=↑z+1:=by
 rw[Rm];have:=K0 z y ↑z n (GW 0 (↑z+1-0)) (#[],0);rw[vi];refine uZ this ?_;simp
abbrev spG (z y:Str):oj Str:=if(decide (↑z<↑y)||decide (VF z<VF y))=v_ then [z] else if(occurrences z y 0 ↑z (↑z+1)).isEmpty=v_ then [z] else partsBetween z (occurrences z y 0 ↑z (↑z+1)) ↑y
def OO (z y:Str):↑(spG z y)<=↑z+2:=by
 unfold spG;have h:=So z y (↑z+1);split
 .simp
 .split
  .simp
  .simp![partsBetween,u9,List.length_zip,ui,uI,tP];omega
variable {z:Str}
def ON {y p:Str}(h:p>spG z y):↑p<=↑z:=by
 unfold spG at h;split at h
 .rw[Uw] at h;subst h;exact uj _
 .split at h
  .rw[Uw] at h;subst h;exact uj _
  .simp![partsBetween,Ae] at h;erw[h,q,_,e];rw[<-e];exact strSub_length_le _ _ _
section
variable {X:Cx}
inductive OZ (x:V)(vs:List V)(H:Hp)(Q:VK):Prop
 |mk (z:_)(y:_)(_:x= !z)(_:vs= [!y])(_:0<↑y)(_:↑z<=1000)(_:∀p,H p=U_->Q (-p) (upd H p (.lst ((spG z y).map V.str))))
def EB:MtM X "str.split" OZ:=by
 exists 2,x,vs,v,us,Q,I,rx,rv,h;erw[h,z,y,rfl,rfl,hy,hz,q];erw[rx,t,rfl];erw[rv.one,u,rfl,t',rfl];have aa:↑z<=sizeLine:=by rw[uB];omega
 have O:(↑y==0)=false:=by simp;omega
 have one:spG z y= [z]->∀(T:Nat),0<T->EP X oq σ Q (.ref #[0,s]) {s with heap:=s.heap.push {cls:= .type "list",data:= .seq [VH z t].toArray},toks:=T}:=λe T hT=>by
  rw[e] at q;exact J3 (ys:= [V.str z]) I (.cons (show ik (V.str z) _ from[t:1]) .nil) (by show 1<=Vk;decide) q
 cases h1:(decide (↑z<↑y)||decide (VF z<VF y)) with
 |true=>
  refine vQ vI (vP _ _ _) vC (U8 _ _) (r6 z y t t' h1) ?_;exact one (by unfold spG;rw[A6 h1]) s.toks I.tk
 |false=>
  cases U:(occurrences z y 0 ↑z (↑z+1)).isEmpty with
  |true=>
   refine vQ vI (vP _ _ _) vC (U8 _ _) (p8 z y t t' h1 O U) ?_;exact one (by unfold spG;rw[A4 (by rw[h1];decide),A6 U]) s.toks I.tk
  |false=>
   have hl:=OO z y;have e:spG z y=partsBetween z (occurrences z y 0 ↑z (↑z+1)) ↑y:=by unfold spG;rw[A4 (by rw[h1];decide),A4 (by rw[U];decide)]
   rw[e] at q hl;refine vQ vI (vP _ _ _) vC (U8 _ _) (F_ z y t t' h1 O U aa (by rw[uB];omega)) ?_
   exact J3 I (X2 _ _) (by rw[u9,uB];omega) q
inductive Abn (K:PySem.W.Frag)(x:V)(vs:List V)(H:Hp)(Q:VK):Prop
 |mk (sep:Str)(p:Addr)(l:List Str)(_:x= !sep)(_:vs= [-p])(_:SqT K H p (l.map V.str))(_:(l.map (·.length)).sum+↑l*↑sep<=1000000)(_:Q (.str (Vo sep l)) H)
def L9:MtM X "str.join" (Abn X.K):=by
 exists 2,x,vs,v,us,Q,I,rx,rv,h;erw[h,sep,p,l,rfl,rfl,hp,hz,q];erw[rx,t,rfl];erw[rv.one,u,rfl,ru];cases ru;erw[I.tuple hp,its,r,pl,hl];erw[wD r,ps,rfl,e2];have U:tooLong ((ps.map (·.1)).toArray.foldl (·+ ·.length+↑sep) 0)=false:=by
  rw[e2];have:=Ri sep l;rw[this];unfold tooLong;refine ug ?_;rw[uB];omega
 refine vQ F.slot_str_join (vP _ _ _) F.entry_str_join (F.args_str_join_2 _ _) (meets_str_join_tuple sep t p ps U) ⟨(let⟨o,h1,h2,n,h3⟩:=pl;⟨o,n,h1,h2,h3⟩),?_⟩;have O:(glued sep (ps.map (·.1))).length<=sizeLine:=Rx U
 match ps,e2,O with
 | [],e2,O=>
  subst e2;exact⟨O,.str _,H,I.tok _,⟨0⟩,q⟩
 | [a],e2,_=>
  subst e2;exact⟨.str _,H,I,[a.2:1],q⟩
 |a::b::r,e2,O=>
  subst e2;exists O,.str _,H,I.tok _,⟨0⟩;rw[FS];exact q
def Abc:SlR X (λx lo hi H Q=>Aep x lo hi H Q\/Aeq X.K x lo hi H Q):=Abb.or DE
end
end L2
namespace L2
open PySem PySem.Spec PyProof.Rows
open Builtin.Int (intBits)
section
variable {X:Cx}
inductive Ae4 (K:PySem.W.Frag)(w:World)(x:V)(y:V)(H:Hp)(Q:VK):Prop
 |mk (z:_)(a:_)(r:_)(_:x= !z)(_:y=-a)(_:IL K w a)(_:PySem.W.nsIn K a z=u_ r)(_:Q (.bl r.isSome) H)
def AbD:OpR X (Vs .In) (Ae4 X.K X.w):=by
 exists 2,x,y,v,u,Q,I,U,ry,h;erw[h,z,a,r,rfl,rfl,[hs,es,n,O,hk],hn,q];erw[U,t,rfl];cases ry;have hm:=PySem.W.mapOf_K (prog:=X.prog) (w:=X.w) I.kIn O hk;refine FO (TL X.prog X.w z t) hs hm ⟨.bl r.isSome,H,I.tok _,?_,q⟩;rw[PySem.W.find_K O hn]
 rfl
end
end L2
namespace L2
open PySem PySem.Spec PyProof.Rows
mutual
noncomputable def nD:D->Bool
 | .non=>v_
 | .str _=>v_
 | .int _=>v_
 | .tup xs=>nL xs
 |_=>Vg
noncomputable def nL:oj D->Bool
 | []=>v_
 |x::r=>nD x&&nL r
end
def Ey:∀{xs:oj D}{j:Nat}{x:D},nL xs=v_->xs[j]? =u_ x->nD x=v_
 | [],_,_,_,e=>by simp at e
 |y::r,0,x,h,e=>by
  have h':nD y=v_/\nL r=true:=by simpa [nL] using h
  have:y=x:=by simpa using e
  exact this▸h'.1
 |y::r,j+1,x,h,e=>by
  have h':nD y=v_/\nL r=true:=by simpa [nL] using h
  exact Ey h'.2 (by simpa using e)
end L2
namespace AwZ
open PySem PySem.Spec PyProof.Rows
def tc_enum0 (a:o6):rO "enumerate" [[a]:[]]=pure Unit.unit:=by kernel_rfl
def nc_enum0 (a:o6):Ho "enumerate.__new__" [[.type "enumerate",a]:[]]=pure Unit.unit:=by kernel_rfl
def enum0_made (l:o3)(its:Array o6):GQ (VP.«enumerate.__new__» [[.type "enumerate",-l]:[]]) (λ_ R s=>s.heap.IsTuple l its/\
   R (.ok (.ret (.ref (q1 s.heap l).objs.size))) {s with heap:=(q1 s.heap l).push {cls:= .type "enumerate",data:= .fields #[.none,.bool Vg,.ref #[0,s],VQ 0,.none,.none]}}):=
 .of_wp λprog w A R s h=>by
  erw[s,O,g,d,tk,os];erw[h,U,h];have sub:=sub_enumerate;have h1:Rb (Ti ⟨O,g,d,tk,os⟩) l its:=U
  wp_walk
  refine wpAny_stack_any λst=>uw ?_;split
  .rename_i c _ _ _ _ _
   cases(c==GE "enumerate")
   .wp_walk using U3 h1
    exact[0:h]
   .wp_walk using U3 h1
    exact[0:h]
  .wp_walk using U3 h1
   exact[0:h]
end AwZ
namespace L2
open PySem PySem.Spec PyProof.Rows
section
variable {X:Cx}{oq:oj (o3×Obj)}{σ:St}{H:Hp}{s:o7}
abbrev Afd (K:o0)(te:TE):TI:=λσ H R=>te σ H λx H2=>∃a xs,x= .ref a/\SqT K H2 a xs/\(↑xs<=Vk->R (Ite K a 0) H2)
def Bz {U:oj Expr}{c:Nat}{tp p pos:Pos}{e:Expr}{te:TE}(hg:Gl X "enumerate")(hm:X.mg "enumerate"=U_)(he:PE X e te)(hs:Vl [e] X.env= [(Vg,eval e X.env)]):
  PI X (.Tuple U c tp) (.Call (.Name "enumerate" p) [e] [] pos) (Afd X.K te):=by
 exists 2,R,I,h;have ha:PA X [e] (IX te AaN):=qb he qd hs;refine Hk (Zr I hg hm boot_enumerate (vv (thn (ha pos oq s σ H (λvs H2=>match vs with| [x]=>∃a xs,x= .ref a/\SqT X.K H2 a xs/\(↑xs<=Vk->R (Ite X.K a 0) H2)|_=>False) I h) λus s2 zq=>?_) (by rw[hs];rfl) ()));erw[zq,vs,H2,I2,r1,q1]
 match vs,r1,q1 with
 | [x],r1,q1=>
 erw[q1,a,xs,rfl,hA,q];erw[xi r1,u,rfl,ru];cases ru;erw[I2.tuple hA,its,ra,pa,za];refine AwZ.new_kw (kw:= []) F.called_enumerate () (AwZ.tc_enum0 _) (AwZ.nc_enum0 _) (λobj=>F.args_object_init_2 _ _) F.entry_enumerate_new (AwZ.enum0_made a its.toArray) ⟨show s2.heap.IsTuple a its.toArray from pa,?_⟩
 have hz:(AwZ.q1 s2.heap a).objs.size=#[0,s2]+1:=vm ..;have O:VZ ((AwZ.q1 s2.heap a).push {cls:= .type "enumerate",data:= .fields #[.none,.bool Vg,.ref #[0,s2],VQ 0,.none,.none]}) (AwZ.q1 s2.heap a).objs.size #[0,s2] 0 .none:=uE _ rfl;exists [_:O:1];refine RW (s:={s2 with heap:=_}) O ?_
 exists _,[(AwZ.q1 s2.heap a).objs.size,#[0,s2]],_,_,H2,1,I2.kept (t':=s2.toks) (λb o e=>ub _ (ub _ e)),Dc a _ _ 0,[[.none:O]:⟨_,ub _ (uE _ rfl),1,1⟩:λe=>U2 (V9 _) (hz.symm.trans e)],λx hx=>?_,q za;have aa:#[0,s2]<=x:=by
  simp![uD,uU,uM] at hx;exact AaE hz hx
 exact I2.fpOk aa (I2.hok.fresh aa)
mutual
noncomputable def eqN:D->D->Bool
 | .non,.non=>v_
 | .str a,.str b=>a==b
 | .int a,.int b=>a==b
 | .tup xs,.tup ys=>eqNL xs ys
 |_,_=>Vg
noncomputable def eqNL:oj D->oj D->Bool
 | [],[]=>v_
 |x::r,y::q=>eqN x y&&eqNL r q
 |_,_=>Vg
end
mutual
theorem Id:∀{d e:D},nD d=v_->(eqN d e=v_↔d=e)
 | .non,e,_=>by cases e<;>simp[eqN]
 | .str a,e,_=>by cases e<;>simp[eqN]
 | .int a,e,_=>by cases e<;>simp[eqN]
 | .tup xs,¬ys,h=>by
  have:=eqNL_iff (xs:=xs) (ys:=ys) (by simpa [nD] using h)
  simp![eqN,this,D.tup.injEq]
 | .tup xs,.non,_=>by simp[eqN]
 | .tup xs,.bl _,_=>by simp[eqN]
 | .tup xs,.int _,_=>by simp[eqN]
 | .tup xs,.str _,_=>by simp[eqN]
 | .tup xs,.lst,_=>by simp[eqN]
 | .tup xs,.dct,_=>by simp[eqN]
 | .bl _,_,h=>by simp[nD] at h
 | .lst,_,h=>by simp[nD] at h
 | .dct,_,h=>by simp[nD] at h
theorem eqNL_iff:∀{xs ys:oj D},nL xs=v_->(eqNL xs ys=v_↔xs=ys)
 | [],[],_=>by simp[eqNL]
 | [],_::_,_=>by simp[eqNL]
 |_::_,[],_=>by simp[eqNL]
 |x::r,y::q,h=>by
  have h':nD x=v_/\nL r=true:=by simpa [nL] using h
  simp![eqNL,uC,Id h'.1,eqNL_iff h'.2,UT]
end
mutual
theorem Is.detN {H:Hp}:∀{d e:D}{v:V},nD d=v_->nD e=v_->Is H d v->Is H e v->d=e
 | .non,e,v,_,he,h1,h2=>by
  cases(show v= .non from h1)
  cases e with
  |non=>rfl
  |str b=>obtain⟨q,_⟩:=(show V.non=V.str b/\_ from h2);cases q
  |int b=>cases(show V.non=V.int b from h2)
  |tup ys=>erw[h2,p,us,q,_];cases q
  |_=>simp[nD] at he
 | .str a,e,v,_,he,h1,h2=>by
  obtain⟨rfl,_⟩:=(show v= .str a/\_ from h1)
  cases e with
  |non=>cases(show V.str a=V.non from h2)
  |str b=>obtain⟨q,_⟩:=(show V.str a=V.str b/\_ from h2);cases q;rfl
  |int b=>cases(show V.str a=V.int b from h2)
  |tup ys=>erw[h2,p,us,q,_];cases q
  |_=>simp[nD] at he
 | .int a,e,v,_,he,h1,h2=>by
  cases(show v= .int a from h1)
  cases e with
  |non=>cases(show V.int a=V.non from h2)
  |str b=>obtain⟨q,_⟩:=(show V.int a=V.str b/\_ from h2);cases q
  |int b=>cases(show V.int a=V.int b from h2);rfl
  |tup ys=>erw[h2,p,us,q,_];cases q
  |_=>simp[nD] at he
 | .tup xs,e,v,hd,he,h1,h2=>by
  erw[id h1,p,vs,rfl,hp,hl];cases e with
  |non=>cases(show V.ref p=V.non from h2)
  |str b=>obtain⟨q,_⟩:=(show V.ref p=V.str b/\_ from h2);cases q
  |int b=>cases(show V.ref p=V.int b from h2)
  |tup ys=>
   erw[h2,p',us,q,O,U];cases q;rw[hp] at O;cases O;rw[IsL.detN (by simpa [nD] using hd) (by simpa [nD] using he) hl U]
  |_=>simp[nD] at he
 | .bl _,_,_,hd,_,_,_=>by simp[nD] at hd
 | .lst,_,_,hd,_,_,_=>by simp[nD] at hd
 | .dct,_,_,hd,_,_,_=>by simp[nD] at hd
theorem IsL.detN {H:Hp}:∀{xs ys:oj D}{vs:oj V},nL xs=v_->nL ys=v_->IsL H xs vs->IsL H ys vs->xs=ys
 | [],[],_,_,_,_,_=>rfl
 | [],_::_,_,_,_,h1,h2=>by
  cases(show _= [] from h1)
  erw[h2,v,r,q,_];cases q
 |_::_,[],_,_,_,h1,h2=>by
  cases(show _= [] from h2)
  erw[h1,v,r,q,_];cases q
 |x::xs,y::ys,_,hd,he,h1,h2=>by
  erw[h1,v,r,rfl,a1,a2];erw[h2,v',r',q,b1,b2];cases q;have O:nD x=v_/\nL xs=true:=by simpa [nL] using hd
  have U:nD y=v_/\nL ys=true:=by simpa [nL] using he
  rw[Is.detN O.1 U.1 a1 b1,IsL.detN O.2 U.2 a2 b2]
end
def qag:∀(xs ys:oj D),eqNL xs ys=((Vp (min ↑xs ↑ys)).all (λj=>eqN (xs.getD j .non) (ys.getD j .non))&&↑xs==↑ys)
 | [],[]=>by simp[eqNL]
 | [],_::_=>by simp[eqNL]
 |_::_,[]=>by simp[eqNL]
 |x::r,y::q=>by
  have O:=qag r q;rw[ui,ui,show min (↑r+1) (↑q+1)=min ↑r ↑q+1 by omega,Ff,vB,UK]
  have e:(Vp (min ↑r ↑q)).all ((λj=>eqN ((x::r).getD j .non) ((y::q).getD j .non))∘TD)=(Vp (min ↑r ↑q)).all λj=>eqN (r.getD j .non) (q.getD j .non):=by congr 1
  rw[e];have e2:(↑r+1==↑q+1)=(↑r==↑q):=by rw[vM];simp
  rw[e2,rC,<-O]
  rfl
variable {e:D}{A:oh}
def sH (I:#[I]){u:V}{b:o6}(U:nD e=v_)(h2:Is H e u)(O:ik u b)(hu:A.units<Vr):Vz A s .none b (eqN .non e):=by
 cases e with
 |non=>
  cases(show u= .non from h2)
  cases O;exact tO _
 |str y=>
  obtain⟨rfl,_⟩:=(show u= .str y/\_ from h2)
  erw[O,t2,rfl];exact rG _ _
 |int y=>
  cases(show u= .int y from h2)
  erw[O,t2,rfl];exact R_ _ _
 |tup ys=>
  erw[id h2,p,us,rfl,hp,hl];cases O;erw[I.tuple (.inl (.of hp)),its,_,q,_];exact Pg q hu
 |_=>simp[nD] at U
variable {z:Str}
def Ig (I:#[I]){t:Tok}{u:V}{b:o6}(U:nD e=v_)(h2:Is H e u)(O:ik u b)(hu:A.units<Vr):Vz A s (.str z t) b (eqN (!z) e):=by
 cases e with
 |non=>
  cases(show u= .non from h2)
  cases O;exact FA _ _
 |str y=>
  obtain⟨rfl,_⟩:=(show u= .str y/\_ from h2)
  erw[O,t2,rfl];exact Fc _ _ _ _
 |int y=>
  cases(show u= .int y from h2)
  erw[O,t2,rfl];exact UM _ _ _ _
 |tup ys=>
  erw[id h2,p,us,rfl,hp,hl];cases O;erw[I.tuple (.inl (.of hp)),its,_,q,_];exact rQ _ _ q hu
 |_=>simp[nD] at U
def sI (I:#[I]){z:Int}{t:Tok}{u:V}{b:o6}(U:nD e=v_)(h2:Is H e u)(O:ik u b)(hu:A.units<Vr):Vz A s (.int z t) b (eqN (.int z) e):=by
 cases e with
 |non=>
  cases(show u= .non from h2)
  cases O;exact rY _ _
 |str y=>
  obtain⟨rfl,_⟩:=(show u= .str y/\_ from h2)
  erw[O,t2,rfl];exact UL _ _ _ _
 |int y=>
  cases(show u= .int y from h2)
  erw[O,t2,rfl];exact Ft _ _ _ _
 |tup ys=>
  erw[id h2,p,us,rfl,hp,hl];cases O;erw[I.tuple (.inl (.of hp)),its,_,q,_];exact Rc _ _ q hu
 |_=>simp[nD] at U
def DZ {xs ys:oj D}{vs us:oj V}{its its':oj o6}{A:oh}(hd:nL xs=v_)(he:nL ys=v_)(hl:IsL H xs vs)(O:IsL H ys us)(rv:iw vs its)(U:iw us its')
  (ih:∀x>xs,∀(e:D) (v u:V) (a b:o6),nD x=v_->nD e=v_->Is H x v->Is H e u->ik v a->ik u b->Vz A s a b (eqN x e)):
  ∀j (a1:j<its.toArray.size) (a2:j<its'.toArray.size),Vz A s its.toArray[j] its'.toArray[j] (eqN (xs.getD j .non) (ys.getD j .non)):=λj a1 a2=>by
 have l1:↑its=↑xs:=by rw[<-↑rv,↑hl]
 have l2:↑its'=↑ys:=by rw[<-↑U,↑O]
 have j1:j<↑xs:=by rw[<-l1];simpa using a1
 have j2:j<↑ys:=by rw[<-l2];simpa using a2
 obtain⟨v1,e1,i1⟩:=hl.get (i:=j) (d:=xs[j]) (by simp[j1])
 obtain⟨v2,e2,i2⟩:=O.get (i:=j) (d:=ys[j]) (by simp[j2])
 erw[rv.get e1,b1,f1,g1];erw[U.get e2,b2,f2,g2];have k1:its.toArray[j]=b1:=by
  have:=f1;rw[uh (by rwa[l1])] at this
  simpa using this
 have k2:its'.toArray[j]=b2:=by
  have:=f2;rw[uh (by rwa[l2])] at this
  simpa using this
 have d1:xs.getD j .non=xs[j]:=by simp[G6,j1]
 have d2:ys.getD j .non=ys[j]:=by simp[G6,j2]
 rw[k1,k2,d1,d2];exact ih _ (uT j1) _ _ _ _ _ (Ey (j:=j) hd (by simp[j1])) (Ey (j:=j) he (by simp[j2])) i1 i2 g1 g2
def Ie (I:#[I]){xs:oj D}{e:D}{v u:V}{a b:o6}{A:oh}(hd:nD (¬xs)=v_)(he:nD e=v_)(h1:Is H (¬xs) v)(h2:Is H e u)(r1:ik v a)(O:ik u b)(hu:A.units<Vr)
  (ih:∀x>xs,∀(e:D) (v u:V) (a b:o6),nD x=v_->nD e=v_->Is H x v->Is H e u->ik v a->ik u b->Vz A.in1 s a b (eqN x e)):Vz A s a b (eqN (¬xs) e):=by
 erw[id h1,p,vs,rfl,hp,hl];cases r1;erw[I.tuple (.inl (.of hp)),its,rv,q,_];cases e with
 |non=>
  cases(show u= .non from h2)
  cases O;exact p_ q hu
 |str y=>
  obtain⟨rfl,_⟩:=(show u= .str y/\_ from h2)
  erw[O,t2,rfl];exact Rv _ _ q hu
 |int y=>
  cases(show u= .int y from h2)
  erw[O,t2,rfl];exact pG _ _ q hu
 |tup ys=>
  by_cases hv:V.ref p=u
  .have:=Is.detN (e:=¬ys) hd he h1 (hv▸h2);subst hv;cases O;rw[<-this,(Id hd).mpr rfl];exact tO _
  .erw[id h2,p',us,rfl,ac,U];cases O;erw[I.tuple (.inl (.of ac)),its',aa,q',_];have l1:↑its=↑xs:=by rw[<-↑rv,↑hl]
   have l2:↑its'=↑ys:=by rw[<-↑aa,↑U]
   have ad:=V2 (e:=λj=>eqN (xs.getD j .non) (ys.getD j .non)) q q' hu (DZ (by simpa [nD] using hd) (by simpa [nD] using he) hl U rv aa ih)
   have e1:eqN (¬xs) (¬ys)=((Vp (min its.toArray.size its'.toArray.size)).all (λj=>eqN (xs.getD j .non) (ys.getD j .non))&&its.toArray.size==its'.toArray.size):=by
    rw[ur,ur,l1,l2,<-qag];simp![eqN]
   rw[e1];exact rW (λz=>hv (by rw[z])) ad
 |_=>simp[nD] at he
def Ach (I:#[I]):∀(n:Nat) (d e:D) (v u:V) (a b:o6) (A:oh),dp d<=n->nD d=v_->nD e=v_->Is H d v->Is H e u->ik v a->ik u b->A.units+n<Vr->Vz A s a b (eqN d e):=by
 intro n
 induction n with
 |zero=>
  intro d e v u a b A hn hd U h1 h2 r1 r2 hu;cases d with
  |non=>
   cases(show v= .non from h1)
   cases r1;exact sH I U h2 r2 hu
  |int z=>
   cases(show v= .int z from h1)
   erw[r1,t,rfl];exact sI I U h2 r2 hu
  |str z=>simp[dp] at hn
  |tup xs=>simp[dp] at hn
  |_=>simp[nD] at hd
 |succ n ih=>
  intro d e v u a b A hn hd U h1 h2 r1 r2 hu;have O:A.units<cLine:=vA (Va _ _) hu;cases d with
  |non=>
   cases(show v= .non from h1)
   cases r1;exact sH I U h2 r2 O
  |int z=>
   cases(show v= .int z from h1)
   erw[r1,t,rfl];exact sI I U h2 r2 O
  |str z=>
   obtain⟨rfl,_⟩:=(show v= .str z/\_ from h1)
   erw[r1,t,rfl];exact Ig I U h2 r2 O
  |tup xs=>
   have hm:dpL xs<=n:=by
    have:dp (¬xs)=1+dpL xs:=by simp![dp]
    omega
   exact Ie I hd U h1 h2 r1 r2 O λx hx e v u a b k1 k2 k3 k4 k5 k6=>ih x e v u a b A.in1 ((wz xs).mp hm x hx) k1 k2 k3 k4 k5 k6 (by rw[uY];omega)
  |_=>simp[nD] at hd
inductive Abq (g:Bool->Bool)(x:V)(y:V)(H:Hp)(Q:VK):Prop
 |mk (ds es:List D)(_:Is H (¬ds) x)(_:Is H (¬es) y)(_:nL ds=v_)(_:nL es=v_)(_:dpL ds<=60)(_:Q (.bl (g (eqNL ds es))) H)
variable {ds:oj D}{y:V}{u:o6}
def Aeo (I:#[I]){es:oj D}{x:V}{v:o6}(h1:Is H (¬ds) x)(h2:Is H (¬es) y)(hn:nL ds=v_)(aa:nL es=v_)(hd:dpL ds<=60)(rx:ik x v)(ry:ik y u)(hu:X.A.units+64<Vr):
  rK X.A s v u (eqNL ds es)/\rX X.A s v u (!(eqNL) ds es):=by
 erw[id h1,p,vs,rfl,hp,hl];erw[id h2,p',us,rfl,ac,O];cases rx;cases ry;erw[I.tuple (.inl (.of hp)),its,rv,q,_];erw[I.tuple (.inl (.of ac)),its',U,q',_];have l1:↑its=↑ds:=by rw[<-↑rv,↑hl]
 have l2:↑its'=↑es:=by rw[<-↑U,↑O]
 have pe:=DZ (A:=X.A.in1) hn aa hl O rv U λx hx e v u a b k1 k2 k3 k4 k5 k6=>Ach I 60 x e v u a b X.A.in1 ((wz ds).mp hd x hx) k1 k2 k3 k4 k5 k6 (by rw[uY];omega)
 have e1:=V2 (e:=λj=>eqN (ds.getD j .non) (es.getD j .non)) q q' () pe
 have e2:=rP (e:=λj=>eqN (ds.getD j .non) (es.getD j .non)) q q' () pe
 rw[ur,ur,l1,l2,<-qag] at e1 e2;exact[e1:e2]
def oO (U:X.A.units+64<Vr):OpR X (Vs .Eq) (Abq id):=by
 exists 2,x,y,v,u,Q,I,rx,ry,h;erw[h,ds,es,h1,h2,hn,O,hd,q];exact(Aeo I h1 h2 hn O hd rx ry U).1 X.prog X.w X.xe _ ⟨.bl _,H,I,1,q⟩
def wM (U:X.A.units+64<Vr):OpR X (Vs .NotEq) (Abq not):=by
 exists 2,x,y,v,u,Q,I,rx,ry,h;erw[h,ds,es,h1,h2,hn,O,hd,q];exact(Aeo I h1 h2 hn O hd rx ry U).2 X.prog X.w X.xe _ ⟨.bl _,H,I,1,q⟩
end
end L2
namespace L2
open PySem PyProof.Rows
section
variable {X:Cx}{oq:oj (o3×Obj)}{σ:St}{H:Hp}{s:o7}
def Ma {pl:Sem Bool}{k:Nat}{C f:o3}{fd:Vi}{ps:oj Str}{sp:Sp}{m:Str}{o:Expr}{apos pos:Pos}{e:Expr}{es:oj Expr}{ta:TE}{t:TA}{Q:VK}{E:XK}(he:PE X.nox o ta)(c:Cls X.K C)(hm:Aax X.K C m f)(F:FnOk X.prog X.w X.K X.mg X.base (CX1 X.prog X.w) k f fd ps sp)(hr:mj k X.A)
  (hb:Jr X.K fd ps []) (ha:PA X.nox (e::es) t) (I:#[I]) (h:ta σ H λx H1=>∃a dx fs,x= .ref a/\H1 a=u_ (.ins C dx fs)/\fs.lookup m=U_/\t σ H1 λvs H2=>sp (x::vs) H2 Q E)
  (aa:Vl (e::es) X.env=(Vg,eval e X.env)::Vl es X.env) (ac:(Vt pos (Vl es X.env)).any (·.1)=Vg)
  (ht:eval (.Call (.Attribute o m apos) (e::es) [] pos) X.env=(do
   let ov<-eval o X.env
   GK apos.atName
   let(f,first)<-VY [ov] (GV ov m pl)
   Hm pos f first (Vt pos (Vl (e::es) X.env)) (Gk pos (Gi [] X.env)))):
  Vh #[X,X] X.A (eval (.Call (.Attribute o m apos) (e::es) [] pos) X.env) (EP X oq σ Q) (Cat X oq σ E) s:=by
 refine PySem.W.methodCall_KW (pl:=pl) (vg (he oq s σ H _ (I.wish _) h) (λu s1 h1=>?_) λ_ _ z=>z.elim) ht;erw[h1,x,H1,ad,rx,a,dx,fs,ex,ea,l,q];have I1:Inv X oq σ H1 s1:=ad.unwish;subst ex;obtain rfl:u=Vm a:=rx;refine zK I1 ea c hm l ?_;refine U4 (first:= [-a]) (h₀:=X.base) I.ok.mod.kin hm.kp (vg (ha pos oq s1 σ H1 _ (I1.wish _) q) (λus s2 h2=>?_) λ_ _ z=>z.elim) aa ac;erw[h2,vs,H2,ae,r,q2];have O:Inv X oq σ H2 s2:=ae.unwish;exists O.kIn;have r2:iw (V.ref a::vs) (Vm a::us):= .cons rfl r;have hl:↑(Vm a::us)=↑ps:=by rw[<-↑r2];exact F.len _ _ _ _ q2
 have U:=hb s2 (Vm a::us) O.kIn (by rwa[ve])
 rw[ve] at U;refine UZ (Uh (F.run X.A X.stack s2 H2 [Vm a::us:[]] (Vm a::us) (V.ref a::vs) Q E hr O.env0 U r2 q2 (.inl O.tk)) λr s' hq=>?_);cases r with
 |error e=>exact⟨H2,s2,O,hq⟩
 |ok fl=>
  cases fl with
  |ret u=>exact O.after hq
  |next=>exact Vw hq
  |brk=>exact Vw hq
  |cont=>exact Vw hq
abbrev Ac9 (C:o3)(m:Str)(sp:Sp)(ta:TE)(t:TA)(Cc:o3)(ts:TS):TS:=λD σ H=>ta σ H λx H1=>∃a dx fs,x= .ref a/\H1 a=u_ (.ins C dx fs)/\fs.lookup m=U_/\t σ H1 λvs H2=>sp (x::vs) H2 (λ_ H3=>D.nx σ H3) (λ_ C' H3=>C'=u_ Cc/\ts D σ H3)
def O2 {pl:Sem Bool}{k:Nat}{C f:o3}{fd:Vi}{ps:oj Str}{sp:Sp}{m c:Str}{o:Expr}{apos np cpos U aa pos:Pos}{e:Expr}{es:oj Expr}{ta:TE}{t:TA}{Cc C':o3}{b₀:Stmt}{O:oj Stmt}{ts:TS}(ho:PE X.nox o ta)(cl:Cls X.K C)(hm:Aax X.K C m f)(F:FnOk X.prog X.w X.K X.mg X.base (CX1 X.prog X.w) k f fd ps sp)(hr:mj k X.A)
  (hb:Jr X.K fd ps []) (ha:PA X.nox (e::es) t) (ac:X.stack=X.env::X.outer/\X.env.frame=u_ X.env.locals) (ad:Gl X c) (ae:X.mg c=u_ (-C'))
  (hx:PySem.W.exmOne X.K (-Cc) (-C')=u_ v_) (hs:∀ee xe,PSs (X.marked ee xe) (b₀::O) ts) (af:(c==("__debug__":Str))=Vg)
  (he:Vl (e::es) X.env=(Vg,eval e X.env)::Vl es X.env) (ag:(Vt cpos (Vl es X.env)).any (·.1)=Vg) (ah:GG (.Call (.Attribute o m apos) (e::es) [] cpos) U_ U.line X.env=pure Vg)
  (ht:eval (.Call (.Attribute o m apos) (e::es) [] cpos) X.env=(do
   let ov<-eval o X.env
   GK apos.atName
   let(f,first)<-VY [ov] (GV ov m pl)
   Hm cpos f first (Vt cpos (Vl (e::es) X.env)) (Gk cpos (Gi [] X.env)))):
  PS X (.Try [.Expr (.Call (.Attribute o m apos) (e::es) [] cpos) U] [.ExceptHandler (u_ (.Name c np)) U_ (b₀::O) aa] [] [] pos) (Ac9 C m sp ta t Cc ts):=by
 exists 2,D,I,h;refine RJ (V8 ?_);refine vg (T1 (Q:=SP X oq D) (vg (Ma ho cl hm F hr hb ha I h he ag ht) (λv s1 ⟨y,H1,I1,r1,q1⟩=>⟨σ,H1,I1,q1⟩) λ_ _ z=>z) I.quiet ah) (λfl s1 q=>?_) λe' s1 q=>ME q ac ad ae hx hs af;cases fl with
 |next=>exact vW (vW q)
 |ret v=>exact q
 |brk=>exact q
 |cont=>exact q
end
end L2
namespace L2
open PySem PySem.Spec PyProof.Rows
structure FF (K:o0)(mg:Str->om o6)(x:Str)(st:Stmt)(ps:oj Str)(f:o3)(fd:Vi):Prop where
 F:Fun K x x st f fd
 b:Jr K fd ps []
 m:mg x=u_ (-f)
structure FM (K:o0)(C:o3)(x q:Str)(st:Stmt)(ps:oj Str)(f:o3)(fd:Vi):Prop where
 F:Fun K x q st f fd
 b:Jr K fd ps []
 h:Aax K C x f
abbrev FZ (K:o0)(x q:Str)(st:Stmt)(f:o3):Prop:=∃(oc kV dc pm cd ct:o6) (od an:om o3) (sl:Array (om o6)),K.lookup f=u_ ⟨oc,od,.func (PySem.W.fnOf x q (YT st) (yZ st) (qh st) .none kV dc pm an cd ct),sl⟩/\PySem.W.codeIn K cd q=v_/\PySem.W.keepIn K (-f)=v_
abbrev FZg (K:o0)(x:Str)(st:Stmt)(f:o3):Prop:=PySem.W.nsIn K VD x=u_ (u_ (-f))/\FZ K x x st f
abbrev FZm (K:o0)(C:o3)(x q:Str)(st:Stmt)(f:o3):Prop:=PySem.W.findIn K (-C) x=u_ (u_ (-f))/\PySem.W.isFn K (-f)=v_/\FZ K x q st f
abbrev BOk (x q:Str)(st:Stmt)(ps:oj Str):Prop:=∀(kV doc pm:o6) (an:om o3) (cdv ct:o6) (us:oj o6),↑us=↑ps->Gz (PySem.W.fnOf x q (YT st) (yZ st) (qh st) .none kV doc pm an cdv ct) [us:[]]=pure (ps.zip us)
variable {K:o0}{h:o8}{mg:Str->om o6}{x:Str}{st:Stmt}{f:o3}
def Qd (X:K.In h)(G:h.Ns VD mg)(z:FZg K x st f)(ps:oj Str)(O:BOk x x st ps):∃fd,FF K mg x st ps f fd:=by
 erw[z,a,oc,kV,dc,pm,U,ct,od,an,sl,l,c,k];have F:=NH (st:=st) l c k;exact⟨_,F,F.binds O,uO X G a⟩
variable {C:o3}
def y9 {q:Str}(z:FZm K C x q st f)(ps:oj Str)(O:BOk x q st ps):∃fd,FM K C x q st ps f fd:=by
 erw[z,a,i,oc,kV,dc,pm,U,ct,od,an,sl,l,c,k];have F:=NH (st:=st) l c k;exact⟨_,F,F.binds O,[a:i:k]⟩
variable {fd:Vi}
def FF.law {ps:oj Str}(T:FF K mg x st ps f fd){y:Str}(h:∀(kV doc pm:o6) (an:om o3) (cdv ct u:o6),Gz (PySem.W.fnOf x x (YT st) (yZ st) (qh st) .none kV doc pm an cdv ct) [[u]:[]]=pure [(y,u)])(s:o7)(u:o6):GZ s fd [[u]:[]] [(y,u)]:=by
 erw[T.F.ex,oc,od,kV,doc,pm,an,cdv,ct,osl,rfl,lk,O];exact .of_eq (h kV doc pm an cdv ct u)
abbrev txt? (u:o6):om Str:=match u with
 | .str z _=>u_ z
 |_=>U_
abbrev TZ (K:o0)(q:o3)(l:oj Str):Prop:=∃(d:om o3) (i:Array o6) (n:Nat) (sl:Array (om o6)),K.lookup q=u_ ⟨.type "tuple",d,.seq i n,sl⟩/\i.toList.map txt? =l.map u_
def zL:∀{l:oj Str}{us:oj o6},us.map txt? =l.map u_->iw (l.map V.str) us
 | [],[],_=> .nil
 |z::l,u::us,h=>by
  rw[uA,uA] at h;injection h with h1 h2
  cases u with
  |str y t=>
   have:y=z:=uJ h1;subst this;exact .cons [t:1] (zL h2)
  |_=>cases h1
 | [],_::_,h=>by simp at h
 |_::_,[],h=>by simp at h
variable {H:Hp}{q:o3}{l:oj Str}
def TZ.sq (h:TZ K q l)(hz:↑l<=100):SqT K H q (l.map V.str):=by
 erw[h,d,its,n,sl,U,e];have O:its.size=↑l:=by rw[<-vi];simpa using A9 Gb e
 exact .inr ⟨_,its,n,U,1,1,by rw[O];exact V6 (XG ()),zL e⟩
abbrev TZn (K:o0)(a:o3)(x:Str)(l:oj Str):Prop:=∃q,PySem.W.nsIn K a x=u_ (u_ (-q))/\TZ K q l
end L2
namespace L2
open PySem PyProof.Rows
variable {σ:St}{H:Hp}
def qB {t u:TS}{D:mF}(h:∀N:St->Hp->Prop,(∀O H',u D O H'->N O H')->t {D with nx:=N} σ H):nw t u D σ H:=h (u D) λ_ _ h=>h
def Ww {xs:oj V}{us:oj o6}(r:iw xs us):∀is:oj Nat,iw (is.filterMap (xs[·]?)) (is.filterMap (us[·]?))
 | []=> .nil
 |i::is=>by
  rw[vU,vU];have O:=↑r;cases e:xs[i]? with
  |none=>
   have:us[i]? =none:=rg (by have:=List.getElem?_eq_none_iff.mp e;omega)
   rw[this];exact Ww r is
  |some x=>
   erw[r.get e,u,e2,g];rw[e2];exact .cons g (Ww r is)
section
variable {X:Cx}
inductive Ad6 (K:PySem.W.Frag)(Q:VK)(x:V)(H2:Hp):Prop
 |mk (a:_)(xs:_)(_:x=-a)(_:SqL K H2 a xs)(_:∀ys p,↑ys<=↑xs->(∀y>ys,y>xs)->H2 p=U_->Q (-p) (upd H2 p (.lst ys)))
abbrev AeM (K:o0)(te:TE)(tl:TO):TE:=λσ H Q=>te σ H λx H1=>tl σ H1 λ_ H2=>Ad6 K Q x H2
def BA {e:Expr}{te:TE}{lo:om Expr}{tl:TO}{k:Int}{j pos p1 p2}(hk:k≠0)(he:PE X e te)(hl:PO X lo tl)(U:Hq (.Slice lo U_ (u_ (.Constant (.int k) j p1)) p2) Vg=λv u=>HU [v,u] (VV v u)):PE X (.Subscript e (.Slice lo U_ (u_ (.Constant (.int k) j p1)) p2) pos) (AeM X.K te tl):=by
 exists 2,Q,I,h;refine HZ (thn (he oq s σ H _ I h) λv s1 zq=>?_);erw[zq,x,H1,I1,r1,q1];refine Ru (thn (hl oq s1 σ H1 _ I1 q1) λvl s2 zq=>?_);erw[zq,lv,H2,I2,pl,q2];rw[Tp];refine uw ?_;rw[RY];refine thn (qi (i:=k) oq s2 σ H2 (λy H3=>y= .int k/\H3=H2) I2 [1:1]) λu O h3=>?_;erw[h3,y,H3,I3,r3,rfl,rfl];erw[r3,tk,rfl];erw[q2,a,xs,rfl,hH,q];cases r1;have I4:Inv X oq σ H3 {O with heap:=O.heap.push {cls:= .type "slice",data:= .fields #[vl,.none,.int k tk]}}:=I3.kept (t':=O.toks) λb ob q=>ub _ q
 erw[I4.list hH,its,r,aa,hz];have ac:its.toArray.size=↑xs:=by rw[ur];exact r.length.symm
 show Vh #[X,X] X.A (HH e (.Slice lo U_ (u_ (.Constant (.int k) j p1)) p2) (-a) (.ref #[0,O])) (EP X oq σ Q) X.xe {O with heap:=O.heap.push {cls:= .type "slice",data:= .fields #[vl,.none,.int k tk]}}
 refine tN (ops:= [-a,.ref #[0,O]]) aa.isList.typeIs slot_list_getitem.lookup ?_ (by rw[U])
 refine Fy (st:=u_ k) aa.isList (Re ..) pl .none (.int k tk) (by simpa using hk) ?_ (by rwa[ac])
 have hsz:=slicePick_size_le its.toArray lv U_ (u_ k);unfold Fm at hsz⊢;generalize sliceRange (gV lv U_ (u_ k) its.toArray.size).1 (gV lv U_ (u_ k) its.toArray.size).2.1 (gV lv U_ (u_ k) its.toArray.size).2.2=is at hsz⊢;have ep:is.filterMap (its.toArray[·]?)=is.filterMap (its[·]?):=by simp
 rw[ep] at hsz⊢;have vp:=Ww r is;have ad:(is.filterMap (xs[·]?)).length<=↑xs:=by
  rw[↑vp];rwa[ur,ur,<-↑r] at hsz
 exists .ref _,_,I4.laid (t':=O.toks) (o:= .lst (is.filterMap (xs[·]?))) (λb ob q=>ub _ q) (uj _) ⟨uZ ad hz,_,(0),vp,uE _ rfl⟩,1,q _ _ ad (λy hy=>?_) (I4.hok.fresh (uj _));erw[List.mem_filterMap.mp hy,i,_,hi];exact uQ hi
end
end L2
namespace L2
open PySem PySem.Spec PyProof.Rows
section
variable {X:Cx}{oq:oj (o3×Obj)}{σ:St}{H:Hp}{s:o7}{d:o3}
def De {prog:o9}{w:og}{A:oh}{E:o6->o7->Prop}{r:o3}{Q:o6->o7->Prop}{G:oj o6->o7->Prop}(aa:s.TypeIs (-r) "dict")
  (U:∀(R:oj o6->o7->Prop) (E':o6->o7->Prop),(∀vs s',G vs s'->R vs s')->Vh #[w,w] A.in1.in1 (collect (-r)) R E' s)
  (hQ:∀vs s',G vs s'->↑vs<=Vk/\Q (.ref #[0,s']) {s' with heap:=s'.heap.push {cls:= .type "tuple",data:= .seq vs.toArray}}):
  Vh #[w,w] A (call (.type "tuple") [-r]) Q E s:=by
 have new:VM #[w,w] A.in1 (.call (.builtin "tuple.__new__") ⟨[.type "tuple",-r],[]⟩) (wants (λobj O=>O.TypeIs obj "tuple"/\Q obj O) E) s:=by
  refine RT ?_;show Vh _ A.in1.in1 (do Ho "tuple.__new__" [[.type "tuple",-r]:[]];again (.builtin "tuple.__new__" [[.type "tuple",-r]:[]])) _ _ s
  refine A7 (HB (PySem.F.newCall_tuple_1 _) (uw [TB PySem.F.plain_tuple_new _:UQ PySem.F.entry_tuple_new ?_]));rw[TM PySem.F.plain_tuple_new _];have s1:=sub_tuple_self;have s2:=init_tuple_lookup;have s3:=madeHere_tuple
  wp_walk using GC aa,U
  intro vs s' hg;erw[hQ vs s' hg,hl,hq];show Vh _ _ (GU vs.toArray>>=λv=>ret v) _ _ _;unfold GU;refine A7 (vy ?_ (by show vs.toArray.size<=Vk;simpa using hl))
  exact uw [[_:uE _ rfl:1]:hq]
 refine RG (Q₁:=λobj O=>O.TypeIs obj "tuple"/\Q obj O) PySem.F.called_tuple (PySem.F.typeCall_tuple_1 _) PySem.F.entry_object_init new λobj O h₁=>?_;exact[h₁.1:PySem.F.args_object_init_2 obj _:object_init_meets PySem.F.called_tuple.init.lookup PySem.F.called_tuple.made () prog w A.in1 _ O [h₁.1:1:h₁.2]]
end
section
variable {X:Cx}
def AO (hc:X.calm=v_):Y3 X (.type "tuple") (λxs H Q=>∃(d:o3) (kvs:oj (Key×V)),xs= [-d]/\Rd H d (.dK kvs)/\∀t,H t=U_->Q (-t) (upd H t (.tup (kvs.map λp=>kV p.1)))):=by
 exists 2,xs,us,Q,I,r,h;erw[h,d,kvs,rfl,hd,q];erw[xi r,u,rfl,ru];cases ru;erw[qan I.hok hd,hz,lo,vs,aa,dd];erw[id dd,o,es,ep,ho];have ad:s.heap.DictAt (Qm X.prog X.w) d vs ep:=[o:es:ho];refine uW (n:=1) I.tk ?_;refine De (G:=λus s'=>∃(h':o8) (tk:Nat) (O:Array o6),us=O.toList/\s'={s with heap:=h',toks:=tk}/\(∀b o,s.heap.get? b=u_ o->h'.get? b=u_ o)/\ItemsOf (λi v=>∃k x,vs[i]? =u_ (k,x)/\(Qm X.prog X.w).is k v=v_) O ↑vs) dd.typeIs
  (λR E' k=>PySem.W.kdu_collect (A:=X.A.in1.in1) (PySem.W.kdl_dict lo) (I.ok.hd hc) ad (by rwa[<-↑aa]) λh' tk O ac U=>k _ _ ⟨h',tk,O,1,1,ac,U⟩) ?_
 rintro us s' ⟨h',tk,O,rfl,rfl,ac,U⟩;have ae:↑O.toList=↑vs:=by rw[vi,U.1]
 have af:=↑aa;exists (),λhtk=>?_
 have I':Inv X oq σ H {s with heap:=h',toks:=tk}:=I.kept ac htk
 have hv:iw (kvs.map λp=>kV p.1) O.toList:=by
  refine qaq (by rw[u9];omega) λj x v hx hv=>?_
  rw[uG] at hx;cases hj:kvs[j]? with
  |none=>rw[hj] at hx;cases hx
  |some p=>
   rw[hj] at hx;cases hx;obtain⟨k,y,e1,e2⟩:=U.2 j v (by rwa[<-tX])
   have e3:=(oJ aa hj e1).1;show ik (kV p.1) v;rw[e3];exact Nz e2
 refine⟨-h'.objs.size,_,I'.laid (t':=tk) (o:= .tup (kvs.map λp=>kV p.1)) (λb u w=>ub _ w) (uj _) ⟨by rwa[u9],O.toList,hv,⟨_,uE _ rfl,1,0⟩⟩ htk,1,q _ (I'.hok.fresh (uj _))⟩
end
section
variable {x q:Str}{st:Stmt}{a b c d:Str}
def bo1 (h:∀(kV doc pm:o6) (an:om o3) (cdv ct u:o6),Gz (PySem.W.fnOf x q (YT st) (yZ st) (qh st) .none kV doc pm an cdv ct) [[u]:[]]=pure [(a,u)]):BOk x q st [a]:=by
 intro k1 k2 k3 U k5 k6 us O;rcases us with _|⟨u,_|⟨_,_⟩⟩
 .cases O
 .exact h k1 k2 k3 U k5 k6 u
 .cases O
def bo2 (h:∀(kV doc pm:o6) (an:om o3) (cdv ct u v:o6),Gz (PySem.W.fnOf x q (YT st) (yZ st) (qh st) .none kV doc pm an cdv ct) [[u,v]:[]]=pure [(a,u),(b,v)]):BOk x q st [a,b]:=by
 intro k1 k2 k3 U k5 k6 us O;rcases us with _|⟨u,_|⟨v,_|⟨_,_⟩⟩⟩
 .cases O
 .cases O
 .exact h k1 k2 k3 U k5 k6 u v
 .cases O
def bo3 (h:∀(kV doc pm:o6) (an:om o3) (cdv ct u v w:o6),Gz (PySem.W.fnOf x q (YT st) (yZ st) (qh st) .none kV doc pm an cdv ct) [[u,v,w]:[]]=pure [(a,u),(b,v),(c,w)]):BOk x q st [a,b,c]:=by
 intro k1 k2 k3 U k5 k6 us O;rcases us with _|⟨u,_|⟨v,_|⟨w,_|⟨_,_⟩⟩⟩⟩
 .cases O
 .cases O
 .cases O
 .exact h k1 k2 k3 U k5 k6 u v w
 .cases O
def bo4 (h:∀(kV doc pm:o6) (an:om o3) (cdv ct u v w z:o6),Gz (PySem.W.fnOf x q (YT st) (yZ st) (qh st) .none kV doc pm an cdv ct) [[u,v,w,z]:[]]=pure [(a,u),(b,v),(c,w),(d,z)]):BOk x q st [a,b,c,d]:=by
 intro k1 k2 k3 U k5 k6 us O;rcases us with _|⟨u,_|⟨v,_|⟨w,_|⟨z,_|⟨_,_⟩⟩⟩⟩⟩
 .cases O
 .cases O
 .cases O
 .cases O
 .exact h k1 k2 k3 U k5 k6 u v w z
 .cases O
end
end L2
namespace L2
open PySem PyProof.Rows
abbrev cl {α β:Type}(t:α->β->TS)(a:α)(b:β):TS:=t a b
section
variable {α β:Type}{t u:α->β->TS}{c:α->β->TT}{wi:α->β->TI}{g:α->β->TG}{a:α}{b:β}{D:mF}{σ:St}{H:Hp}
def cl_i (h:let S:St:=σ;let D1:mF:=D;cl t a b D1 S H):t a b D σ H:=h
def seq_oC (h:let S:St:=σ;let D1:mF:=D;∀N:St->Hp->Prop,(∀O H',cl u a b D1 O H'->N O H')->let E:mF:={D1 with nx:=N};cl t a b E S H):cl (λx y=>nw (t x y) (u x y)) a b D σ H:=h (u a b D) λ_ _ h=>h
def seq_0 (h:let S:St:=σ;let D1:mF:=D;let E:mF:={D1 with nx:=cl u a b D1};cl t a b E S H):cl (λx y=>nw (t x y) (u x y)) a b D σ H:=h
def if_C (h:let S:St:=σ;let D1:mF:=D;c a b S H λk H1=>if k=v_ then cl t a b D1 S H1 else cl u a b D1 S H1):cl (λx y=>Aek (c x y) (t x y) (u x y)) a b D σ H:=h
def while_C (h:let S:St:=σ;let D1:mF:=D;∃W:Nat->St->Hp->Prop,(∃m,W m S H)/\∀m σ H,W m σ H->
 c a b σ H λk H1=>if k=v_ then∃N:St->Hp->Prop,(∀O H',N O H'->∃U,U<m/\W U O H')/\cl t a b {D1 with nx:=N,ct:=N,bk:=D1.nx} σ H1 else D1.nx σ H1):cl (λx y=>MW (c x y) (t x y)) a b D σ H:=h
def for_C (h:let S:St:=σ;let D1:mF:=D;wi a b S H λJ H1=>∃W:Nat->Nat->St->Hp->Prop,(∃m,W 0 m S H1)/\∀i m σ H,W i m σ H->
 (J.stop i H/\D1.nx σ H)\/(J.go i H/\∃N:St->Hp->Prop,(∀O H',N O H'->∃U,U<m/\W (i+1) U O H')/\∀x H',J.yld i H x H'->g a b x σ H' λσ2 H2=>cl t a b {D1 with nx:=N,ct:=N,bk:=D1.nx} σ2 H2)):cl (λx y=>Ael (wi x y) (g x y) (t x y)) a b D σ H:=h
end
end L2
namespace L2
open PySem PySem.Spec PySem.W PyProof.Rows
variable {i:Nat}{v:V}{σ:St}{H:Hp}
def gN_ {Q:St->Hp->Prop}(h:Q (σ.set i (u_ v)) H):YR i v σ H Q:=h
end L2
namespace L2
open PySem PySem.Spec PySem.W PySem.Calls PyProof.Rows
section
variable {X:Cx}{oq:oj (o3×Obj)}{σ:St}{H:Hp}{s:o7}{a:o3}{kvs:oj (Key×V)}{k:Key}{u r:o6}{v:V}{A:oh}{E:o6->o7->Prop}
def MB {Q:o6->o7->Prop}(I:#[I])(e:H a=u_ (.dK kvs))(ry:ik (kV k) u)(rv:ik v r)(hl:↑kvs<Vk)(h1:∀O w' s',iS kvs k=u_ O->Inv X oq σ H s'->ik O w'->Q w' s')
  (h2:iS kvs k=U_->∀s',Inv X oq σ (upd H a (.dK (lR kvs k v))) s'->Q r s'):Vh #[X,X] A (call (.builtin "dict.setdefault") [-a,u,r]) Q E s:=by
 erw[Mz I.hok e,z,hd,vs,rel,dd];refine tD PySem.F.slot_dict_setdefault dd.typeIs PySem.F.entry_dict_setdefault (PySem.F.args_dict_setdefault_3 _ _ _) (kt_meets_setdefault (Qm X.prog X.w) a (so ry) hd r) ⟨vs,dd,by rwa[<-↑rel],λw' hw=>?_,λhn h' ac hs=>?_⟩
 .cases U:iS kvs k with
  |none=>
   have:=nu.qaw (o:=VU vs k) (by rw[<-U];exact rel.val k)
   rw[this] at hw;cases hw
  |some O=>
   obtain⟨w2,aa,ad⟩:=nu.some_of (v:=O) (o:=VU vs k) (by rw[<-U];exact rel.val k)
   rw[aa] at hw;cases hw;exact h1 O _ _ U (I.tok _) ad
 .have U:iS kvs k=none:=by
   cases U:iS kvs k with
   |none=>rfl
   |some O=>
    obtain⟨w2,aa,_⟩:=nu.some_of (v:=O) (o:=VU vs k) (by rw[<-U];exact rel.val k)
    rw[aa] at hn;cases hn
  have ae:↑(lR kvs k v)<=sizeLine:=by have:=yu kvs k v;omega
  have he:∃q,h'.get? a=u_ q:=let⟨q,_,_,hq,_⟩:=ac;[q:hq];exact h2 U _ (qac I (by rw[e];exact VN) hs he (sK ae hd (rel.put k rv) ac))
end
inductive Aak (ty tx:TE)(σ:St)(Q:VK)(x:V)(H1:Hp):Prop
 |mk (a:Addr)(_:x=-a)(_:IsD H1 a)(_:ty σ H1 λy H2=>tx σ H2 λz H3=>∃kvs k,H3 a=u_ (.dK kvs)/\y=kV k/\↑kvs<Vk/\(∀v,iS kvs k=u_ v->Q v H3)/\(iS kvs k=U_->Q z (upd H3 a (.dK (lR kvs k z)))))
abbrev AaR (td ty tx:TE):TE:=λσ H Q=>td σ H λx H1=>Aak ty tx σ Q x H1
section
variable {X:Cx}{o e f:Expr}{apos cpos:Pos}{td ty tx:TE}
def LA (ho:PE X o td)(he:PE X e ty)(hf:PE X f tx)(m:M2 X o "setdefault" apos e f cpos):PE X (.Call (.Attribute o "setdefault" apos) [e,f] [] cpos) (AaR td ty tx):=by
 exists 2,Q,I,h;refine Fg m.base m.few m.line UO PySem.F.slot_dict_setdefault PySem.F.type_dict_setdefault (thn (ho oq s σ H _ I h) λu s1 zq=>?_);erw[zq,x,H1,I1,rx,a,ex,d,q1];subst ex;obtain rfl:u=Vm a:=rx;erw[EQ I1 d,t1,t2,_];exists t1,t2;rw[m.trees];refine vX rfl (Uc (Us (thn (he oq s1 σ H1 _ I1 q1) λiv s2 ⟨y,H2,I2,ry,q2⟩=>
  Us (thn (hf oq s2 σ H2 _ I2 q2) λfv s3 ⟨z,H3,I3,rz,kvs,k,ea,ey,hl,q3,q4⟩=>UY ?_))))
 subst ey;exact MB I3 ea ry rz hl (λv0 w' s4 O U aa=>⟨v0,H3,U,aa,q3 v0 O⟩) λO s4 U=>⟨z,_,U,rz,q4 O⟩
end
variable {w:og}{K:o0}{mg:Str->om o6}{base:o8}{f:o3}{fd:Vi}
def FnOk.up0 {P:o9}{CX:CXT}{k:Nat}{ps:oj Str}{sp:Sp}(F:FnOk P w K mg base CX0 k f fd ps sp):FnOk P w K mg base CX k f fd ps sp:=
 ⟨F.len,λA outer s H args us vs Q E O U hb hv h ht=>Uh (F.run A outer s H args us vs Q E O U hb hv h ht) λr s' h=>by
  cases r with
  |ok c=>cases c<;>exact h
  |error e=>exact Vw h⟩
end L2
namespace L2
open PySem PySem.Spec PySem.W PyProof.Rows
abbrev AcE (lo:Int)(n:Nat):It:=[λi _=>i<n:λi H x H'=>H'=H/\x= .int (lo-i):λi _=>n<=i]
variable {w:og}{K:o0}{tg:Expr}
def sX {P:o9}(it:o3)(lo:Int)(n:Nat):MN P w K tg (AcE lo n) [it] it (λi h=>HD h it (lo+(i:Nat)*(-1)) ((n:Int)-(i:Nat)) (-1)) where
 mem:=by simp
 obj:=λi h st b O=>by
  have e:b=it:=by simpa using O
  subst e;exact⟨_,st,λv z=>by
   have z':rH _=RQ v:=z;cases z'⟩
 keep:=λi h h' st k=>k it (by simp) _ st
 item:=by
  intro X hP hw hK hc i oq s σ H E I hf st hg;subst hP hw hK;obtain⟨f0,f1,f2,f3,f4,f5⟩:=hf it (by simp)
  have W:=RH (prog:=X.prog) (w:=X.w) (I.ok.hd hc) it lo (-1) n;refine uW (n:=1) I.tk (W.item i s _ _ hg st λv h' tk hv U kk=>?_);intro htk;erw[hv,t,rfl];have I1:Inv X oq σ H {s with heap:=h',toks:=tk}:=I.turned (λb o O e=>kk b o (by simpa using O) e) f0 f1 f3 f4 f5
  exists 0,CV (s:={s with heap:=h',toks:=tk}) (n:="range_iterator") U rfl rfl () ⟨.int (lo-i),H,I1,[t:?_],[1:1],U,λb O=>(hf b O).1⟩
  have:lo+(i:Int)*(-1)=lo-(i:Int):=by omega
  rw[this]
 done:=by
  intro X hP hw hK hc i oq s σ H E I hf st hg;subst hP hw hK;obtain⟨f0,f1,f2,f3,f4,f5⟩:=hf it (by simp)
  exact FJ (I.ok.hd hc) st (by have:n<=i:=hg;omega) λh' eb=>[1:I.turned (t':=s.toks) (λb o O e=>eb b o O e) f0 f1 f3 f4 f5]
 self:=λ_ _ _ _ _ st h=>rp st h
inductive AcM (R:(It->Hp->Prop))(vs:List V)(H1:Hp):Prop
 |mk (i j:Int)(_:vs= [.int i,.int j,.int (-1)])(_: -1000<=i/\i<=1000/\ -1000<=j/\j<=i)(_:R (AcE i (i-j).toNat) H1)
abbrev AdK (ta:TA):TI:=λσ H R=>ta σ H λvs H1=>AcM R vs H1
def Abd {i j:Int}(h:j<=i):H_ i j (-1)=((i-j).toNat:Int):=by
 unfold H_;rw[A4 ()]
 split
 .have:(i-j-1)/ -(-1)=i-j-1:=by rw[Int.neg_neg,rT]
  omega
 .omega
def Aa9 {i j:Int}(h1: -1000<=i/\i<=1000/\ -1000<=j/\j<=i):pN i j (-1)=true:=by
 unfold pN;rw[Abd h1.2.2.2];simp![pV,uC,US,vf,beq_iff_eq,show¬GT.gt (-1:Int) 0 by decide,Vc]
 omega
section
variable {X:Cx}{tg:Expr}
def DW {a b c:Expr}{ta:TA}{p pos:Pos}(hg:Gl X "range")(hm:X.mg "range"=U_)(ha:PA X [a,b,c] ta)(hs:Vl [a,b,c] X.env= [(Vg,eval a X.env),(Vg,eval b X.env),(Vg,eval c X.env)])(U:Vl [b,c] X.env= [(Vg,eval b X.env),(Vg,eval c X.env)]):
  PI X tg (.Call (.Name "range" p) [a,b,c] [] pos) (AdK ta):=by
 exists 2,R,I,h;refine Hk (Zr I hg hm Tw (vv (thn (ha pos oq s σ H _ I h) λus s1 zq=>?_) (by rw[hs,U]) (by rw[U];rfl)));erw[zq,vs,H1,I1,r1,q1]
 erw[q1,i,j,e,hb,q];subst e;cases r1 with
 |cons r rr=>
  cases rr with
  |cons r' rr=>
   cases rr with
   |cons aa rr=>
    cases rr;erw[r,t,rfl];erw[r',t',rfl];erw[aa,O,rfl];refine call_range_3 () ?_ (GL (Ro ()))
    refine FU (rR ..) (Aa9 hb) ?_;have I2:Inv X oq σ H1 {s1 with heap:=s1.heap.push {cls:= .type "range",data:= .fields #[.int i t,.int j t',.int (-1) O]},toks:=s1.toks}:=I1.kept λb o e=>ub _ e
    refine⟨(s1.heap.push {cls:= .type "range",data:= .fields #[.int i t,.int j t',.int (-1) O]}).objs.size,[(s1.heap.push {cls:= .type "range",data:= .fields #[.int i t,.int j t',.int (-1) O]}).objs.size],_,_,H1,1,
     I2.kept (t':=s1.toks) λb o e=>ub _ e,sX _ i (i-j).toNat,?_,λb hb=>?_,q⟩
    .have e1:i+((0:Nat):Int)*(-1)=i:=by simp
     have e2:(((i-j).toNat:Nat):Int)-((0:Nat):Int)=H_ i j (-1):=by rw[Abd hb.2.2.2];omega
     show HD _ _ (i+((0:Nat):Int)*(-1)) ((((i-j).toNat:Nat):Int)-((0:Nat):Int)) (-1);rw[e1,e2];exact uE _ rfl
    .have e:b=(s1.heap.push {cls:= .type "range",data:= .fields #[.int i t,.int j t',.int (-1) O]}).objs.size:=by simpa using hb
     subst e;exact I2.fpOk (uj _) (I2.hok.fresh (uj _))
end
def CW {lo:Int}{n:Nat}{g:TG}{tb:TS}{D:mF}{σ:St}{H:Hp}(O:Nat->St->Hp->Prop)(h0:O 0 σ H)
  (hs:∀i σ H,i<n->O i σ H->g (.int (lo-i)) σ H λσ2 H2=>tb {D with nx:=O (i+1),ct:=O (i+1),bk:=D.nx} σ2 H2) (hd:∀σ H,O n σ H->D.nx σ H):
  ∃W:Nat->Nat->St->Hp->Prop,(∃m,W 0 m σ H)/\∀i m σ H,W i m σ H->
   ((AcE lo n).stop i H/\D.nx σ H)\/((AcE lo n).go i H/\∃N:St->Hp->Prop,(∀σ' H',N σ' H'->∃m',m'<m/\W (i+1) m' σ' H')/\∀x H',(AcE lo n).yld i H x H'->g x σ H' λσ2 H2=>tb {D with nx:=N,ct:=N,bk:=D.nx} σ2 H2):=by
 exists λi m σ H=>m=n-i/\i<=n/\O i σ H,⟨n,by simp,uS _,h0⟩
 rintro i m σ H ⟨rfl,hi,p⟩;by_cases U:i<n
 .refine .inr ⟨U,O (i+1),λσ' H' p'=>⟨n-(i+1),(),1,U,p'⟩,λx H' y=>?_⟩
  erw[y,e,y];subst e y;exact hs i σ _ U p
 .have e:i=n:=by omega
  subst e;exact .inl [uj _:hd σ H p]
end L2
namespace K41
open PySem L2 PyProof.Rows
inductive A5 (p0 p1 p2 p3 p4:Prop):Prop
 |mk (_:p0)(_:p1)(_:p2)(_:p3)(_:p4)
inductive E3 {t0 t1 t2:Type}(p:t0->t1->t2->Prop):Prop
 |mk (x0:t0)(x1:t1)(x2:t2)(h:p x0 x1 x2)
open Builtin.Int (intBits)
abbrev top (i:Nat):Stmt:=PySem.Challenge.pw_askwright_k41_papers_are_right.main.body.getD i (.Pass ⟨(0),(0),(0),(0)⟩)
nonrec abbrev wv:Stmt:=top 17
nonrec abbrev zC:Stmt:=top 18
nonrec abbrev wS:Stmt:=top 19
nonrec abbrev wx:Stmt:=top 21
nonrec abbrev y6:Stmt:=top 22
nonrec abbrev Xm:Stmt:=top 23
nonrec abbrev w9:Stmt:=top 29
nonrec abbrev Xv:Stmt:=top 30
nonrec abbrev wg:Stmt:=top 31
nonrec abbrev J0:Stmt:=top 32
nonrec abbrev XA:Stmt:=top 33
nonrec abbrev zP:Stmt:=top 34
nonrec abbrev WD:Stmt:=top 35
nonrec abbrev Xj:Stmt:=top 38
nonrec abbrev Xq:Stmt:=top 39
nonrec abbrev xY:Stmt:=top 40
nonrec abbrev Zq:Stmt:=top 41
nonrec abbrev Zo:Stmt:=top 42
nonrec abbrev xR:Stmt:=top 43
nonrec abbrev JQ:Stmt:=top 44
nonrec abbrev Xs:Stmt:=top 45
nonrec abbrev Xl:Stmt:=top 46
nonrec abbrev Zi:Stmt:=top 47
nonrec abbrev Xn:Stmt:=top 48
nonrec abbrev YL:Stmt:=top 50
nonrec abbrev YA:Stmt:=top 51
nonrec abbrev jl:Stmt:=Qk (top 52) 0
nonrec abbrev jL:Stmt:=Qk (top 52) 1
nonrec abbrev Yv:Stmt:=Qk (top 52) 2
nonrec abbrev Y2:Stmt:=Qk (top 52) 3
nonrec abbrev YX:Stmt:=Qk (top 52) 6
nonrec abbrev yg:Stmt:=Qk (top 52) 7
nonrec abbrev Yw:Stmt:=Qk (top 52) 8
nonrec abbrev jh:Stmt:=Qk (top 52) 9
nonrec abbrev y8:Stmt:=top 53
nonrec abbrev DL:Stmt:=top 54
nonrec abbrev JD:Stmt:=Qk (top 56) 0
nonrec abbrev jX:Stmt:=Qk (top 56) 1
nonrec abbrev Jw:Stmt:=Qk (top 56) 2
nonrec abbrev jk:Stmt:=Qk (top 56) 3
nonrec abbrev JW:Stmt:=Qk (top 56) 4
nonrec abbrev JX:Stmt:=Qk (top 56) 5
nonrec abbrev Yf:Stmt:=Qk (top 57) 0
nonrec abbrev QX:Stmt:=Qk (top 57) 1
nonrec abbrev Q1:Stmt:=Qk (top 57) 2
nonrec abbrev yO:Stmt:=Qk (top 57) 3
nonrec abbrev yt:Stmt:=Qk (top 57) 4
nonrec abbrev yp:Stmt:=Qk (top 57) 5
nonrec abbrev yR:Stmt:=Qk (top 57) 6
nonrec abbrev yM:Stmt:=Qk (top 57) 7
nonrec abbrev QZ:Stmt:=Qk (top 57) 8
nonrec abbrev Yt:Stmt:=top 58
nonrec abbrev WN:Stmt:=top 59
nonrec abbrev xQ:Stmt:=top 60
nonrec abbrev JR:Stmt:=top 61
nonrec abbrev j3:Stmt:=top 62
nonrec abbrev Jv:Stmt:=top 63
nonrec abbrev JV:Stmt:=top 64
nonrec abbrev Xx:Stmt:=top 65
nonrec abbrev Zk:Stmt:=top 66
nonrec abbrev Ko:Stmt:=top 67
nonrec abbrev Ja:Stmt:=top 69
nonrec abbrev Jn:Stmt:=top 70
nonrec abbrev ja:Stmt:=top 71
nonrec abbrev Ye:Stmt:=top 72
nonrec abbrev jI:Stmt:=top 73
nonrec abbrev xJ:Stmt:=top 74
nonrec abbrev wr:Stmt:=top 75
nonrec abbrev Xo:Stmt:=top 78
nonrec abbrev Yi:Stmt:=Qk (top 79) 0
nonrec abbrev jE:Stmt:=Qk (top 79) 1
nonrec abbrev yn:Stmt:=Qk (top 79) 2
nonrec abbrev Q0:Stmt:=Qk (top 79) 3
nonrec abbrev jZ:Stmt:=top 80
nonrec abbrev jS:Stmt:=top 82
nonrec abbrev WB:Stmt:=top 83
nonrec abbrev zI:Stmt:=top 84
nonrec abbrev Zb:Stmt:=top 85
nonrec abbrev xh:Stmt:=top 86
nonrec abbrev J5:Stmt:=top 87
nonrec abbrev Xd:Stmt:=top 88
nonrec abbrev J9:Stmt:=top 89
nonrec abbrev JG:Stmt:=top 90
nonrec abbrev jU:Stmt:=top 91
nonrec abbrev jK:Stmt:=top 92
nonrec abbrev XB:Stmt:=top 93
nonrec abbrev Yb:Stmt:=top 94
nonrec abbrev Ls:Stmt:=top 95
set_option genInjectivity false in
set_option genSizeOf false in
structure Ad where
 f_is_text:o3
 d_is_text:Vi
 f_is_tree:o3
 d_is_tree:Vi
 f_is_name:o3
 d_is_name:Vi
 f_is_pair:o3
 d_is_pair:Vi
 ju:o3
 jm:Vi
 wJ:o3
 WE:Vi
 f_part_of:o3
 d_part_of:Vi
 wy:o3
 wn:Vi
 f_row_of:o3
 d_row_of:Vi
 ZC:o3
 ZX:Vi
 wk:o3
 Wn:Vi
 W6:o3
 kc:Vi
 f_is_rule:o3
 d_is_rule:Vi
 Xu:o3
 WJ:Vi
 xV:o3
 Wf:Vi
 Xr:o3
 wQ:Vi
 Za:o3
 kt:Vi
 zV:o3
 kr:Vi
 Xe:o3
 Wb:Vi
 JN:o3
 Zy:Vi
 Xc:o3
 Wr:Vi
 XD:o3
 Wu:Vi
 zO:o3
 kI:Vi
 Xk:o3
 wq:Vi
 JS:o3
 JP:Vi
 Jf:o3
 Jb:Vi
 jg:o3
 xw:Vi
 zi:o3
 XW:Vi
 Yz:o3
 Yx:Vi
 Jy:o3
 JI:Vi
 Jx:o3
 JH:Vi
 YB:o3
 YC:Vi
 Jg:o3
 Ji:Vi
 xH:o3
 xv:Vi
 jv:o3
 jx:Vi
 f_does:o3
 d_does:Vi
 JK:o3
 Zt:Vi
 XS:o3
 zj:Vi
 ZD:o3
 ZS:Vi
 xu:o3
 xy:Vi
 ZV:o3
 Z0:Vi
 Zu:o3
 ZJ:Vi
 Yg:o3
 jw:Vi
 yH:o3
 yG:Vi
 yQ:o3
 yT:Vi
 Y4:o3
 Y6:Vi
 YY:o3
 YV:Vi
 YW:o3
 YJ:Vi
 Y8:o3
 jd:Vi
 Y5:o3
 jc:Vi
 yD:o3
 yS:Vi
 Jh:o3
 Jc:Vi
 f_has_run:o3
 d_has_run:Vi
 wp:o3
 Wp:Vi
 ZT:o3
 ZY:Vi
 XX:o3
 XR:Vi
 Z1:o3
 ZP:Vi
 Zx:o3
 ZI:Vi
 wT:o3
 Wy:Vi
 kO:o3
 Ke:Vi
 f_met_by:o3
 d_met_by:Vi
 XF:o3
 zg:Vi
 ZG:o3
 ZM:Vi
 Zv:o3
 ZO:Vi
 jo:o3
 jG:Vi
 zB:o3
 XI:Vi
 Wg:o3
 wW:Vi
 f_shown:o3
 d_shown:Vi
 Wl:o3
 wP:Vi
 jj:o3
 xD:Vi
 zS:o3
 Zn:Vi
 YU:o3
 YI:Vi
 YN:o3
 Y0:Vi
 XJ:o3
 zm:Vi
 zc:o3
 X6:Vi
 f_law_pot:o3
 d_law_pot:Vi
 kg:o3
 kU:Vi
 kK:o3
 kn:Vi
 kE:o3
 Kg:Vi
 Ka:o3
 Kh:Vi
 wK:o3
 wI:Vi
 kD:o3
 kL:Vi
 ZA:o3
 ZF:Vi
 X0:o3
 zo:Vi
 zh:o3
 XH:Vi
 ww:o3
 wE:Vi
 jr:o3
 jq:Vi
 f_law:o3
 d_law:Vi
 qm:o3
 qK:o3
 qr:o3
 qG:o3
structure Tx (K:o0)(mg:Str->om o6)(a:Ad):Prop where
 mM:FF K mg "is_text" wv ["value"] a.f_is_text a.d_is_text
 lh:FF K mg "is_tree" zC ["value"] a.f_is_tree a.d_is_tree
 iD:FF K mg "is_name" wS ["value"] a.f_is_name a.d_is_name
 nI:FF K mg "is_pair" wx ["value"] a.f_is_pair a.d_is_pair
 lG:FF K mg "is_row_of_names" y6 ["tree"] a.ju a.jm
 mV:FF K mg "is_answer" Xm ["ask","answer"] a.wJ a.WE
 nG:FF K mg "part_of" w9 ["kind","piece","count"] a.f_part_of a.d_part_of
 mR:FF K mg "pieces_of" Xv ["line","form"] a.wy a.wn
 sE:FF K mg "row_of" wg ["line","count"] a.f_row_of a.d_row_of
 lT:FF K mg "read_lines" J0 ["value"] a.ZC a.ZX
 lz:FF K mg "rule_rows" XA ["tree"] a.wk a.Wn
 lW:FF K mg "bad_line" zP ["tree"] a.W6 a.kc
 mO:FF K mg "is_rule" WD ["value"] a.f_is_rule a.d_is_rule
 lp:FF K mg "text_made" Xj ["boxes","own","parts"] a.Xu a.WJ
 lr:FF K mg "self_made" Xq ["boxes","own","parts"] a.xV a.Wf
 lJ:FF K mg "copy_made" xY ["boxes","own","parts"] a.Xr a.wQ
 lS:FF K mg "row_made" Zq ["boxes","own","parts"] a.Za a.kt
 lU:FF K mg "put_made" Zo ["boxes","own","parts"] a.zV a.kr
 lE:FF K mg "join_made" xR ["boxes","own","parts"] a.Xe a.Wb
 lc:FF K mg "first_made" JQ ["boxes","own","parts"] a.JN a.Zy
 lC:FF K mg "rest_made" Xs ["boxes","own","parts"] a.Xc a.Wr
 lq:FF K mg "size_made" Xl ["boxes","own","parts"] a.XD a.Wu
 lV:FF K mg "cut_made" Zi ["boxes","own","parts"] a.zO a.kI
 lI:FF K mg "glue_made" Xn ["boxes","own","parts"] a.Xk a.wq
 lY:FF K mg "is_jump_taken" YL ["boxes","word","parts"] a.JS a.JP
 lO:FF K mg "asked_or_fault" YA ["word","held"] a.Jf a.Jb
 iQ:FM K a.qm "__init__" "Machine.__init__" jl ["self","rule","own"] a.jg a.xw
 iG:FM K a.qm "now" "Machine.now" jL ["self"] a.zi a.XW
 iI:FM K a.qm "answer" "Machine.answer" Yv ["self","tree"] a.Yz a.Yx
 lZ:FM K a.qm "asked" "Machine.asked" Y2 ["self"] a.Jy a.JI
 iW:FM K a.qm "go_on" "Machine.go_on" YX ["self"] a.Jx a.JH
 im:FM K a.qm "is_waiting" "Machine.is_waiting" yg ["self"] a.YB a.YC
 lP:FM K a.qm "do_row" "Machine.do_row" Yw ["self","row"] a.Jg a.Ji
 mf:FM K a.qm "hold" "Machine.hold" jh ["self","box","tree"] a.xH a.xv
 iP:FF K mg "asks_that_stand" y8 ["machine","asks"] a.jv a.jx
 EZ:FF K mg "does" DL ["rule","own","run"] a.f_does a.d_does
 mJ:FM K a.qK "__init__" "Going.__init__" JD ["self","name","source","order"] a.JK a.Zt
 lL:FM K a.qK "begin" "Going.begin" jX ["self","rule"] a.XS a.zj
 lX:FM K a.qK "look" "Going.look" Jw ["self"] a.ZD a.ZS
 mh:FM K a.qK "wanted" "Going.wanted" jk ["self"] a.xu a.xy
 lf:FM K a.qK "take" "Going.take" JW ["self","answer"] a.ZV a.Z0
 mK:FM K a.qK "full" "Going.full" JX ["self"] a.Zu a.ZJ
 lK:FM K a.qr "__init__" "PlainOrder.__init__" Yf ["self","project"] a.Yg a.jw
 iN:FM K a.qr "begin_anew" "PlainOrder.begin_anew" QX ["self","project"] a.yH a.yG
 iM:FM K a.qr "go_through" "PlainOrder.go_through" Q1 ["self","name"] a.yQ a.yT
 iL:FM K a.qr "enter" "PlainOrder.enter" yO ["self","name"] a.Y4 a.Y6
 iY:FM K a.qr "settle" "PlainOrder.settle" yt ["self","going"] a.YY a.YV
 iZ:FM K a.qr "runner" "PlainOrder.runner" yp ["self","rule","own"] a.YW a.YJ
 lj:FM K a.qr "leave" "PlainOrder.leave" yR ["self","going"] a.Y8 a.jd
 ll:FM K a.qr "go_on" "PlainOrder.go_on" yM ["self","going"] a.Y5 a.jc
 io:FM K a.qr "answer_yet" "PlainOrder.answer_yet" QZ ["self","name"] a.yD a.yS
 iq:FF K mg "answer_at_once" Yt ["source"] a.Jh a.Jc
 mP:FF K mg "has_run" WN ["source"] a.f_has_run a.d_has_run
 iV:FF K mg "answer_by" xQ ["end"] a.wp a.Wp
 iC:FF K mg "check_name" JR ["name"] a.ZT a.ZY
 mC:FF K mg "check_names" j3 ["names"] a.XX a.XR
 iH:FF K mg "order_from" Jv ["project","name"] a.Z1 a.ZP
 ky:FF K mg "order_over" JV ["project","names"] a.Zx a.ZI
 me:FF K mg "answer_of" Xx ["project","name"] a.wT a.Wy
 ni:FF K mg "full_run" Zk ["project","name"] a.kO a.Ke
 sF:FF K mg "met_by" Ko ["project","name"] a.f_met_by a.d_met_by
 iE:FF K mg "first_wrong" Ja ["project","paper"] a.XF a.zg
 iO:FF K mg "first_ends" Jn ["paper"] a.ZG a.ZM
 mH:FF K mg "wrong_word" ja ["project","ends","earlier","step"] a.Zv a.ZO
 lH:FF K mg "is_right_answer" Ye ["project","earlier","ask","answer"] a.jo a.jG
 mB:FF K mg "is_full_run" jI ["source","name","asks","end"] a.zB a.XI
 mU:FF K mg "is_run_of" xJ ["rule","own","asks","end"] a.Wg a.wW
 iA:FF K mg "shown" wr ["project","paper","name"] a.f_shown a.d_shown
 mT:FF K mg "is_source" Xo ["value"] a.Wl a.wP
 li:FM K a.qG "__init__" "Project.__init__" Yi ["self","sources"] a.jj a.xD
 BZ:FM K a.qG "sources" "Project.sources" jE ["self"] a.zS a.Zn
 ii:FM K a.qG "source_of" "Project.source_of" yn ["self","name"] a.YU a.YI
 iK:FM K a.qG "looked_up" "Project.looked_up" Q0 ["self","ask"] a.YN a.Y0
 mq:FF K mg "longest_row" jZ ["names"] a.XJ a.zm
 my:FF K mg "_law_cell_at" jS ["script","k"] a.zc a.X6
 nH:FF K mg "_law_pot" WB ["cell","salt"] a.f_law_pot a.d_law_pot
 il:FF K mg "_law_take" zI ["pot","many"] a.kg a.kU
 iB:FF K mg "_law_word" Zb ["pot","names"] a.kK a.kn
 nh:FF K mg "_law_line" xh ["pot","names","many","k"] a.kE a.Kg
 mD:FF K mg "_law_rule" J5 ["pot","names"] a.Ka a.Kh
 mS:FF K mg "_law_maker" Xd ["pot","names"] a.wK a.wI
 mE:FF K mg "_law_leaf" J9 ["pot","names"] a.kD a.kL
 mI:FF K mg "_law_source" JG ["pot","names"] a.ZA a.ZF
 mr:FF K mg "_law_sources" jU ["script"] a.X0 a.zo
 mt:FF K mg "_law_refused" jK ["project","paper","text"] a.zh a.XH
 md:FF K mg "_law_right" XB ["project","paper","names"] a.ww a.wE
 lD:FF K mg "_law_chain_right" Yb ["many"] a.jr a.jq
 BY:FF K mg "law" Ls ["script"] a.f_law a.d_law
 qu:Cls K a.qm
 wt:Mk K a.qm a.jg
 WS:mg "Machine"=u_ (-a.qm)
 Yk:QR K a.qm "rows"
 W4:QR K a.qm "rule"
 X1:QR K a.qm "own"
 Qv:QR K a.qm "boxes"
 Qo:QR K a.qm "place"
 ym:QR K a.qm "done"
 Y1:QR K a.qm "given"
 qL:QR K a.qm "there"
 qQ:Cls K a.qK
 M_Going:Mk K a.qK a.JK
 m_Going:mg "Going"=u_ (-a.qK)
 Yn:QR K a.qK "name"
 zq:QR K a.qK "order"
 yP:QR K a.qK "made_by"
 yW:QR K a.qK "rule_asks"
 qW:QR K a.qK "rule_run"
 Q9:QR K a.qK "end"
 qx:Cls K a.qr
 M_PlainOrder:Mk K a.qr a.Yg
 m_PlainOrder:mg "PlainOrder"=u_ (-a.qr)
 Qf:QR K a.qr "given_project"
 QF:QR K a.qr "stack"
 Qx:QR K a.qr "under_way"
 Qg:QR K a.qr "full_runs"
 QG:QR K a.qr "found"
 Q4:Cls K a.qG
 M_Project:Mk K a.qG a.jj
 m_Project:mg "Project"=u_ (-a.qG)
 yd:QR K a.qG "by_name"
 m_MOST_SIGNS:∃t,mg "MOST_SIGNS"=u_ (.int 300 t)
 m_MOST_PARTS:∃t,mg "MOST_PARTS"=u_ (.int 40 t)
 m_MOST_SIZE:∃t,mg "MOST_SIZE"=u_ (.int 600 t)
 m_MOST_DEPTH:∃t,mg "MOST_DEPTH"=u_ (.int 12 t)
 Zm:∃t,mg "MOST_NAME_SIGNS"=u_ (.int 24 t)
 m_LETTERS:∃t,mg "LETTERS"=u_ (.str "abcdefghijklmnopqrstuvwxyz" t)
 m_NAME_SIGNS:∃t,mg "NAME_SIGNS"=u_ (.str "abcdefghijklmnopqrstuvwxyz0123456789./" t)
 m_PERCENT:∃t,mg "PERCENT"=u_ (.int 37 t)
 m_MOST_LINES:∃t,mg "MOST_LINES"=u_ (.int 40 t)
 m_MOST_DONE:∃t,mg "MOST_DONE"=u_ (.int 300 t)
 m_MOST_NAMES:∃t,mg "MOST_NAMES"=u_ (.int 60 t)
 z_ord:mg "ord"=U_
 Yo:mg "len"=U_
 qR:mg "isinstance"=U_
 JO:mg "str"=U_
 QD:mg "tuple"=U_
 z_all:mg "all"=U_
 z_int:mg "int"=U_
 J2:mg "range"=U_
 z_zip:mg "zip"=U_
 z_dict:mg "dict"=U_
 wL:mg "enumerate"=U_
 z_sorted:mg "sorted"=U_
 z_abs:mg "abs"=U_
 z_min:mg "min"=U_
 z_sum:mg "sum"=U_
def k8:qv ["value","sign"] ["value"] (qh wv):=by trivial
def yB:qv ["value","size","waiting","pair","part","depth"] ["value"] (qh zC):=by trivial
def Ct:qv ["value"] ["value"] (qh wS):=by trivial
def Cs:qv ["value"] ["value"] (qh wx):=by trivial
def X3:qv ["tree"] ["tree"] (qh y6):=by trivial
def oo:qv ["ask","answer"] ["ask","answer"] (qh Xm):=by trivial
def kj:qv ["kind","piece","count","numbers"] ["kind","piece","count"] (qh w9):=by trivial
def nY:qv ["line","form"] ["line","form"] (qh Xv):=by trivial
def JE:qv ["line","count","word","form","pieces","parts"] ["line","count"] (qh wg):=by trivial
def YE:qv ["value","rows","line","row"] ["value"] (qh J0):=by trivial
def ZN:qv ["tree","read"] ["tree"] (qh XA):=by trivial
def s9:qv ["tree"] ["tree"] (qh zP):=by trivial
def Cr:qv ["value"] ["value"] (qh WD):=by trivial
def nV:qv ["boxes","own","parts"] ["boxes","own","parts"] (qh Xj):=by trivial
def nX:qv ["boxes","own","parts"] ["boxes","own","parts"] (qh Xq):=by trivial
def ot:qv ["boxes","own","parts"] ["boxes","own","parts"] (qh xY):=by trivial
def sZ:qv ["boxes","own","parts"] ["boxes","own","parts"] (qh Zq):=by trivial
def Wv:qv ["boxes","own","parts","row"] ["boxes","own","parts"] (qh Zo):=by trivial
def Jp:qv ["boxes","own","parts","one","other"] ["boxes","own","parts"] (qh xR):=by trivial
def X7:qv ["boxes","own","parts","whole"] ["boxes","own","parts"] (qh JQ):=by trivial
def Zw:qv ["boxes","own","parts","whole"] ["boxes","own","parts"] (qh Xs):=by trivial
def nW:qv ["boxes","own","parts"] ["boxes","own","parts"] (qh Xl):=by trivial
def Xp:qv ["boxes","own","parts","whole","between"] ["boxes","own","parts"] (qh Zi):=by trivial
def JZ:qv ["boxes","own","parts","row","between"] ["boxes","own","parts"] (qh Xn):=by trivial
def Z9:qv ["boxes","word","parts"] ["boxes","word","parts"] (qh YL):=by trivial
def zU:qv ["word","held"] ["word","held"] (qh YA):=by trivial
def wu:qv ["self","rule","own"] ["self","rule","own"] (qh jl):=by trivial
def W5:qv ["self"] ["self"] (qh jL):=by trivial
def jp:qv ["self","tree","ask"] ["self","tree"] (qh Yv):=by trivial
def Z4:qv ["self"] ["self"] (qh Y2):=by trivial
def Z5:qv ["self"] ["self"] (qh YX):=by trivial
def Jq:qv ["self"] ["self"] (qh yg):=by trivial
def yY:qv ["self","row","word","parts"] ["self","row"] (qh Yw):=by trivial
def Wa:qv ["self","box","tree"] ["self","box","tree"] (qh jh):=by trivial
def yE:qv ["machine","asks","count","pair"] ["machine","asks"] (qh y8):=by trivial
def DI:qv ["rule","own","run","machine"] ["rule","own","run"] (qh DL):=by trivial
def qai:qv ["self","name","source","order"] ["self","name","source","order"] (qh JD):=by trivial
def WX:qv ["self","rule"] ["self","rule"] (qh jX):=by trivial
def Ky:qv ["self"] ["self"] (qh Jw):=by trivial
def Wk:qv ["self"] ["self"] (qh jk):=by trivial
def Kt:qv ["self","answer"] ["self","answer"] (qh JW):=by trivial
def XM:qv ["self","asks"] ["self"] (qh JX):=by trivial
def XU:qv ["self","project"] ["self","project"] (qh Yf):=by trivial
def js:qv ["self","project"] ["self","project"] (qh QX):=by trivial
def QO:qv ["self","name","top","missing"] ["self","name"] (qh Q1):=by trivial
def xS:qv ["self","name"] ["self","name"] (qh yO):=by trivial
def xp:qv ["self","going"] ["self","going"] (qh yt):=by trivial
def xm:qv ["self","rule","own"] ["self","rule","own"] (qh yp):=by trivial
def xT:qv ["self","going"] ["self","going"] (qh yR):=by trivial
def yo:qv ["self","going","ask","answer"] ["self","going"] (qh yM):=by trivial
def yz:qv ["self","name","at_once"] ["self","name"] (qh QZ):=by trivial
def zN:qv ["source"] ["source"] (qh Yt):=by trivial
def Cu:qv ["source"] ["source"] (qh WN):=by trivial
def ow:qv ["end"] ["end"] (qh xQ):=by trivial
def qao:qv ["name"] ["name"] (qh JR):=by trivial
def xx:qv ["names","name"] ["names"] (qh j3):=by trivial
def KZ:qv ["project","name"] ["project","name"] (qh Jv):=by trivial
def jP:qv ["project","names","order","name"] ["project","names"] (qh JV):=by trivial
def ou:qv ["project","name"] ["project","name"] (qh Xx):=by trivial
def WI:qv ["project","name","order"] ["project","name"] (qh Zk):=by trivial
def DH:qv ["project","name"] ["project","name"] (qh Ko):=by trivial
def Q6:qv ["project","paper","ends","earlier","place","step","word"] ["project","paper"] (qh Ja):=by trivial
def yI:qv ["paper","ends","name","asks","end"] ["paper"] (qh Jn):=by trivial
def YD:qv ["project","ends","earlier","step","name","end","source"] ["project","ends","earlier","step"] (qh ja):=by trivial
def Y9:qv ["project","earlier","ask","answer","source"] ["project","earlier","ask","answer"] (qh Ye):=by trivial
def Yh:qv ["source","name","asks","end","rule"] ["source","name","asks","end"] (qh jI):=by trivial
def ZW:qv ["rule","own","asks","end","machine"] ["rule","own","asks","end"] (qh xJ):=by trivial
def Bl:qv ["project","paper","name","ends"] ["project","paper","name"] (qh wr):=by trivial
def nZ:qv ["value"] ["value"] (qh Xo):=by trivial
def yF:qv ["self","sources","by_name","name","source"] ["self","sources"] (qh Yi):=by trivial
def xo:qv ["self","name"] ["self","name"] (qh yn):=by trivial
def xn:qv ["self","ask"] ["self","ask"] (qh Q0):=by trivial
def Yl:qv ["names","row","name"] ["names"] (qh jZ):=by trivial
def WW:qv ["script","k"] ["script","k"] (qh jS):=by trivial
def YG:qv ["cell","salt","step","big","k"] ["cell","salt"] (qh WB):=by trivial
def wG:qv ["pot","many","digit"] ["pot","many"] (qh zI):=by trivial
def wm:qv ["pot","names","some"] ["pot","names"] (qh Zb):=by trivial
def yw:qv ["pot","names","many","k","words","word","one","two","three","at"] ["pot","names","many","k"] (qh xh):=by trivial
def jO:qv ["pot","names","body","many","lines"] ["pot","names"] (qh J5):=by trivial
def Y7:qv ["pot","names","asked","lines"] ["pot","names"] (qh Xd):=by trivial
def Wo:qv ["pot","names","kind"] ["pot","names"] (qh J9):=by trivial
def X9:qv ["pot","names","kind"] ["pot","names"] (qh JG):=by trivial
def yj:qv ["script","names","pairs","k","cell"] ["script"] (qh jU):=by trivial
def Ym:qv ["project","paper","text","found","e"] ["project","paper","text"] (qh jK):=by trivial
def Q8:qv ["project","paper","names","there","name","source","due","found"] ["project","paper","names"] (qh XB):=by trivial
def QH:qv ["many","pairs","steps","k","project"] ["many"] (qh Yb):=by trivial
def ZQ:qv ["script","pairs","project","names","k","name","paper","text"] ["script"] (qh Ls):=by trivial
structure Ga where
 (boxes asking forms makers br bn ba we:o3)
abbrev AcD:oj Str:= ["ask","has","names","go","like","rowed","none","say","fault"]
structure Fx (K:o0)(w:og)(mg:Str->om o6)(g:Ga)(a:Ad):Prop where
 m_BOXES:mg "BOXES"=u_ (-g.boxes)
 m_ASKING:mg "ASKING"=u_ (-g.asking)
 m_FORMS:mg "FORMS"=u_ (-g.forms)
 m_MAKERS:mg "MAKERS"=u_ (-g.makers)
 boxes:∀H,SqT K H g.boxes (BX.map V.str)
 asking:∀H,SqT K H g.asking [-"ask",-"has",-"names"]
 kd:IL K w g.forms
 forms:∀x>FRM,∃q,PySem.W.nsIn K g.forms x.1=u_ (u_ (-q))/\∀H,SqT K H q (x.2.map λk=>V.str k.t)
 km:IL K w g.makers
 k_text:PySem.W.nsIn K g.makers "text"=u_ (u_ (-a.Xu))
 k_self:PySem.W.nsIn K g.makers "self"=u_ (u_ (-a.xV))
 k_copy:PySem.W.nsIn K g.makers "copy"=u_ (u_ (-a.Xr))
 k_row:PySem.W.nsIn K g.makers "row"=u_ (u_ (-a.Za))
 k_put:PySem.W.nsIn K g.makers "put"=u_ (u_ (-a.zV))
 k_join:PySem.W.nsIn K g.makers "join"=u_ (u_ (-a.Xe))
 k_first:PySem.W.nsIn K g.makers "first"=u_ (u_ (-a.JN))
 k_rest:PySem.W.nsIn K g.makers "rest"=u_ (u_ (-a.Xc))
 k_size:PySem.W.nsIn K g.makers "size"=u_ (u_ (-a.XD))
 k_cut:PySem.W.nsIn K g.makers "cut"=u_ (u_ (-a.zO))
 k_glue:PySem.W.nsIn K g.makers "glue"=u_ (u_ (-a.Xk))
 k_no:∀z>AcD,PySem.W.nsIn K g.makers z=u_ U_
 none_:∀z,xB z=U_->PySem.W.nsIn K g.forms z=u_ U_
 m_BadRule:mg "BadRule"=u_ (-g.br)
 x_BadRule:PySem.W.excIn K g.br VE "ValueError.__new__"=v_
 Wx:mg "BadName"=u_ (-g.bn)
 x_BadName:PySem.W.excIn K g.bn VE "ValueError.__new__"=v_
 m_BadAnswer:mg "BadAnswer"=u_ (-g.ba)
 e_BadAnswer:PySem.W.exmOne K (-g.ba) (-g.ba)=u_ v_
 KO:mg "WrightError"=u_ (-g.we)
 ew:PySem.W.exmOne K (-g.bn) (-g.we)=u_ v_
 xc:AwV.zf K g.bn
variable {n:Nat}
def small (h:n<=1000):n<=sizeLine:=V6 (XG h)
def sml (h:Nat.ble n 1000=v_):n<=sizeLine:=small (Nat.le_of_ble_eq_true h)
def mW (h:n<=16000000):n<=sizeLine:=by rw[uB];omega
def Zl {α:Type}{xs:oj α}{i:Int}{c:α}(h:atI xs i=u_ c):c>xs:=by
 unfold atI at h;erw[Option.bind_eq_some_iff.mp h,j,_,e];exact uQ e
variable {z:Str}
def Ap (h:300<↑z):QB z=false:=by
 unfold QB;rw[ug ()]
 rfl
abbrev Mi:D->Bool
 | .str z=>QB z
 |_=>Vg
inductive kQ:Sp
 |mk (v:_)(d:_)(_:vs= [v])(_:Is H d v)(_:Q (.bl (Mi d)) H)
inductive kT:Sp
 |mk (v:_)(d:_)(_:vs= [v])(_:Is H d v)(_:∀H',ig H H'->Q (.bl (isT d)) H')
abbrev pr (p:D×Nat):D:=-[p.1,.int (p.2:Int)]
variable {i:Nat}
def CJ {c:Nat}(h:z.cps[i]? =u_ c)(O:QA c=Vg):QB z=false:=by
 unfold QB;have hm:c>z.cps.toList:=by
  have:z.cps.toList[i]? =u_ c:=by simpa using h
  exact uQ this
 have:z.cps.toList.all QA=false:=by
  rw[List.all_eq_false];exact⟨c,hm,by rw[O];exact u8⟩
 rw[this,f_]
section
variable {P:o9}{w:og}{K:o0}{mg:Str->om o6}{base:o8}{a:Ad}
def W8:#[T,1,a.f_is_text,a.d_is_text,["value"],kQ]:=by
 exists 9,T.mM,k8
 erw[h,v,d,rfl,hv,k];exists 3,%[@qF _ _ _ _ _ _ _ _ #[xl,#[Qi,#[Qb,#[qz,#[qX,2,rfl],T.qR,vb,#v[pv 0,#[yh,.ty "str",T.JO,Ue]]]]],#[jt,#[qp,CD,#[qz,ZB,T.Yo,uL,#v[pv 0]],#[qav,T.m_MOST_SIGNS],qw _]]].pt %[|#[qo,Yc]] qt,#[YO,#[Ni,4,pv 0],#[qP,(1),k8.nd],%[|@qF _ _ _ _ _ _ _ _ #[xl,#[qp,D4,pv 1,ql,qw _],#[xl,#[qp,D8,pv 1,ql,qw _],#[jt,#[qp,QJ,#[qz,MG,T.z_ord,boot_ord,#v[pv 1]],#[qav,T.m_PERCENT],qw _]]]].pt %[|#[qo,Yc]] qt]]|#[qo,Yc]]
 exists 0,v,"str",tyD d,isStr d,1,hv.ty,jJ d,0;cases d with
 |str z=>
  erw[hv,rfl,hz];refine iR ?_
  exists 0,z,1,hz,_,0,1,0;refine l6 (λc=>?_) (λc=>?_)
  .have c':(300:Int)<(↑z:Int):=um c;have e:Mi (!z)=false:=Ap ()
   rwa[e] at k
  .have c':¬(300:Int)<(↑z:Int):=λq=>c (ud q)
   exists 0,z,1
   let J1_:Nat->L2.St->Hp->Prop:=λi σ H'=>(∃x,σ= [u_ (!z),x])/\H'=H/\(z.cps.toList.take i).all QA=v_
   refine SZ J1_ [⟨0⟩:1:1] ?_ ?_
   .rintro i c σ H' hc ⟨⟨x,rfl⟩,rfl,O⟩;have bad:QA c=Vg->Q (.bl Vg) H':=λe=>by
     have e':Mi (!z)=false:=CJ hc e;rwa[e'] at k
    exists 0,_,0,1,0;rw[show decide ((⟨#[c]⟩:Str).cps.toList<(" ":Str).cps.toList)=decide (c<32) from AbT c 32]
    refine l6 (λc1=>?_) (λc1=>?_)
    .refine lm (bad ?_);have:=um c1;unfold QA;rw[ug ()]
     rfl
    .have aa:¬c<32:=λq=>c1 (ud q)
     exists 0,_,0,1,0;rw[show decide (("~":Str).cps.toList<(⟨#[c]⟩:Str).cps.toList)=decide (126<c) from AbF c 126]
     refine l6 (λc2=>?_) (λc2=>?_)
     .refine lm (bad ?_);have:=um c2;unfold QA;rw[ug (p:=c<=126) (),f_]
      rfl
     .have ac:¬126<c:=λq=>c2 (ud q)
      exists 0,0,1,1,0;refine l6 (λc3=>?_) (λc3=>?_)
      .have U:c=37:=by
        have:=um c3;have:=V.int.inj this;exact pU this
       exact bad (by subst U;rfl)
      .have U:c≠37:=λq=>c3 (ud (by rw[q];rfl))
       exists ⟨0⟩,1;rw[vn,show z.cps.toList[i]? =u_ c by simpa using hc,UP,O]
       show(v_&&(QA c&&v_))=v_;unfold QA;rw[ud (),ud (p:=c<=126) (),ud U]
       rfl
   .rintro σ H' ⟨⟨x,rfl⟩,rfl,O⟩;have e:Mi (!z)=true:=by
     show QB z=v_;unfold QB;rw[vq (by simp)] at O
     rw[O,ud ()]
     rfl
    rwa[e] at k
 |_=>exact lm (lm k)
def BN {α β:Type}(f:α->β)(xs:oj α)(x:α):(xs++ [x]).map f=xs.map f++ [f x]:=by simp
def SK {α:Type}(us:oj α)(x:α):(us++ [x])[↑(us++ [x])-1]? =u_ x:=by simp
def Ii {α:Type}(us:oj α)(x:α):(us++ [x]).dropLast=us:=by simp
abbrev Wt (v:V)(d:D)(H:Hp)(L:o3)(m:Nat)(σ:L2.St)(H':Hp):Prop:=
 ∃(n:Nat) (w:oj (D×Nat)) (ws:oj V) (x3 x4 x5:om V),σ= [u_ v,u_ (.int n),u_ (-L),x3,x4,x5]/\ig H H'/\H' L=u_ (.lst ws)/\IsL H' (w.map pr) ws/\G w n=isT d/\n<=600/\↑w<=1+40*n/\m=ndL (w.map (·.1))
def jD:#[T,2,a.f_is_tree,a.d_is_tree,["value"],kT]:=by
 have Wq:=#[W8,T];refine T.lh.F.ok yB () (λ_ _ _ _ H vs Q E hr h=>?_)
 erw[h,v,d,rfl,hv,k];exists 3,%[#[qE,(1),yB.nd,qi],#[qE,(2),yB.nd,#[Q7,#v[#[qD,#v[pv 0,qi]]]]],#[wc,6,uR,#[Bw,3,pv 2,(λ_=>rfl)],%[#[qE,(3),yB.nd,#[Nj,9,vc,PySem.F.slot_list_pop,PySem.F.type_list_pop,Nu,pv 2,_,_]],#[qE,(4),yB.nd,#[qH,qC,pv 3]],#[qE,2,(5),4,yB.nd,rfl,GH rfl,#[qH,qC,pv 3],_,_],@qF _ _ _ _ _ _ _ _ #[Bv,7,#[Qb,#[qz,#[qX,2,rfl],T.qR,vb,#v[pv 4,#[yh,.ty "tuple",T.QD,vo]]]],#[qal,4,#[qp,D6,#[qz,Kv,T.Yo,uL,#v[pv 4]],#[qav,T.m_MOST_PARTS],qw _]]].pt %[#[Nf,2,(1),6,yB.nd,rfl,GL rfl,qi,NC,_]|#[Qa,#[j0,vc,PySem.F.slot_list_extend,PySem.F.type_list_extend,oW,pv 2,#v[#[zd,["below","depth"],[5],Me (qh zC) ["value","size","waiting","pair","part","depth"],#[xI,pv 4],(λ_ _ _ _ _ _=>#[qP,(0),(show Vy (["below","depth"]:oj Str) by decide+kernel)]),(λ_ _ _ _ _ _=>#[qD,#v[pv 0,#[qV,yA,pv 1,qi]]])]]]]] %[|#[qF,#[Qb,#[qq,Wq,T.mM,#v[pv 4]]],%[|#[Nf,2,(1),6,yB.nd,rfl,GL rfl,#[qV,yA,qi,#[qz,Kv,T.Yo,uL,#v[pv 4]]],NC,_]],%[|#[qo,Yc]]]]|@qF _ _ _ _ _ _ _ _ #[xl,#[qp,CD,pv 5,#[qav,T.m_MOST_DEPTH],qw _],#[jt,#[qp,CD,pv 1,#[qav,T.m_MOST_SIZE],qw _]]].pt %[|#[qo,Yc]] qt]]|#[qo,Yc]]
 have no:∀{H':Hp}{w:oj (D×Nat)}{n:Nat},ig H H'->G w n=isT d->G w n=Vg->Q (.bl Vg) H':=λ{H' w n} sm e1 e2=>by
  have q:=k H' sm;rwa[<-e1,e2] at q
 exists 0,(sml rfl),λt1 h1=>[(sml rfl):λL hL=>?_];have s1:ig H (upd H t1 (-[v,.int 1])):=qf h1 _;have s2:ig H (upd (upd H t1 (-[v,.int 1])) L (.lst [-t1])):=s1.trans (qf hL _);have ak:H L=none:=s1.free hL;have i1:Is (upd H t1 (-[v,.int 1])) (pr (d,1)) (-t1):=Is.new (ds:= [d,.int 1]) ⟨v,0,hv,_,0,1,1⟩ h1
 exists Wt v d H L,⟨_,(0),[(d,1)],[-t1],U_,U_,U_,1,s2,qg,IsL.one (i1.mono (qf hL _).tk),Aao d,(),by simp,1⟩
 rintro m σ H' ⟨n,w,ws,x3,x4,x5,rfl,sm,hl,hw,hG,hn,am,rfl⟩
 exists 0,!(ws.isEmpty),.inl [ws:SqL.of hl:1];rcases tU w with rfl|⟨w',⟨e,j⟩,rfl⟩
 .cases(show ws= [] from hw)
  refine iR ?_;have q:=k H' sm;rwa[<-hG,Aef hn] at q
 .rw[rA] at*;rw[BN] at hw;erw[hw.unsnoc,us,x,rfl,hu,hx];have ne:(!(us++ [x]).isEmpty)=true:=by simp
  rw[ne];refine lm ⟨λσ' ao=>∃m',m'<ndL ((w'++ [(e,j)]).map (·.1))/\Wt v d H L m' σ' ao,λ_ _ h=>h,?_⟩;have hm:ndL ((w'++ [(e,j)]).map (·.1))=ndL (w'.map (·.1))+nd e:=by
   rw[BN,zH];simp[ndL]
  have aq:↑w'<=40*n:=by
   rw[uI,U6] at am;omega
  have lu:=↑hu;rw[u9] at lu
  exists 0,.inl [1:_:SqL.of hl],L,_,x,1,1,hl,SK us x;rw[Ii];have t2:Tk H' (upd H' L (.lst us)):=Tk.updL hl;have O:ig H (upd H' L (.lst us)):=λb o z=>by rw[qj (qk z ak)];exact sm b o z
  have ae:Is (upd H' L (.lst us)) (-[e,.int (j:Int)]) x:=hx.mono t2;have af:IsL (upd H' L (.lst us)) (w'.map pr) us:=hu.mono t2;have U:upd H' L (.lst us) L=u_ (.lst us):=qg;generalize upd H' L (.lst us)=H2 at t2 O ae af U⊢;clear t2 hl hx hu sm
  exists 0,Xw (i:=0) ae rfl λy hy=>?_
  exists 0,Xw (i:=1) ae rfl λy1 ap=>?_;cases(show y1= .int (j:Int) from ap)
  show nw _ _ _ _ H2;refine qB λN0 n0=>n0 _ _ ?_;exists 8,BB,bb;have ad:∀(n':Nat) (w2:oj (D×Nat)) (aa:oj V) (H3:Hp),ig H H3->H3 L=u_ (.lst aa)->IsL H3 (w2.map pr) aa->(j<=12->n'<=600->G w2 n'=isT d)->(12<j\/600<n'->isT d=Vg)->↑w2<=1+40*n'->ndL (w2.map (·.1))<ndL ((w'++ [(e,j)]).map (·.1))->
    BB [u_ v,u_ (V.int (n':Int)),u_ (V.ref L),u_ x,u_ y,u_ (V.int (j:Int))] H3:=by
   intro n' w2 aa H3 s3 l3 i3 g3 b3 al m3;have bad:isT d=Vg->Q (.bl Vg) H3:=λe=>by
    have q:=k H3 s3;rwa[e] at q
   refine bb _ _ ?_
   exists 0,_,0,1,0;refine l6 (λc=>lm (bad (b3 (.inl ?_)))) (λc=>⟨0,_,0,1,0,?_⟩)
   .have:=um c;omega
   .have c':¬(12:Int)<(j:Int):=λq=>c (ud q);refine l6 (λc2=>bad (b3 (.inr ?_))) (λc2=>?_)
    .have:=um c2;omega
    .have au:¬(600:Int)<(n':Int):=λq=>c2 (ud q);exact⟨_,m3,n',w2,aa,_,_,0,s3,l3,i3,g3 () (),(),al,1⟩
  exists 0,y,"tuple",tyD e,zJ e,1,hy.ty,xU e,0;cases e with
  |tup xs=>
   refine lm ?_;erw[hy,a0,vs,rfl,ac,ag];have lv:=↑ag
   exists 0,_,↑vs,1,.inr [vs:SqT.of ac:1],_,0,1,0;refine l6 (λc=>?_) (λc=>?_)
   .have c':(↑vs:Int)<=40:=um c
    exists 0,_,0,1
    exists 0,.inl [1:_:SqL.of U],0,a0,vs,1,SqT.of ac,λaw A0 ah=>?_;refine Av (tl:= [u_ (.int (j:Int))]) (λd0=>-[d0,.int ((j+1:Nat):Int)]) ac ag (mW ()) ah (λd0 x0 H3 R _ s3 i3 r=>?_) λH3 ys s3 l3 i3=>?_
    .exists 0,0,_,0,1,(sml rfl),λp hp=>?_;exact r _ _ (qf hp _) (Is.new (ds:= [d0,.int ((j+1:Nat):Int)]) ⟨x0,0,i3,_,0,1,1⟩ hp)
    .have ly:=↑i3;rw[u9] at ly;have eA:A0≠L:=λz=>by rw[z,U] at ah;cases ah
     exists L,A0,us,ys,1,1,s3 _ _ U,l3,mW ()
     have t4:Tk H3 (upd H3 L (.lst (us++ys))):=Tk.updL (s3 _ _ U);have em:(w'++xs.map λd0=>(d0,j+1)).map pr=w'.map pr++xs.map λd0=>-[d0,.int ((j+1:Nat):Int)]:=by
      rw[uq,uK];rfl
     have ef:(w'++xs.map λd0=>(d0,j+1)).map (·.1)=w'.map (·.1)++xs:=by
      rw[uq,uK]
      congr 1
      exact HF xs
     refine ad (n+1) (w'++xs.map λd0=>(d0,j+1)) (us++ys) _ (λb o z=>by rw[qj (qk z ak)];exact s3 b o (O b o z)) qg (by rw[em];exact((af.mono s3.tk).mono t4).append (i3.mono t4)) (λh1 h2=>?_) (λh=>?_) ?_ ?_
     .rw[<-hG,Aed () h1]
     .rw[<-hG];rcases h with h|h
      .exact NS h
      .exact AcQ h
     .rw[uI,u9];omega
     .rw[ef,hm,zH];simp![nd];omega
   .have c':¬(↑vs:Int)<=40:=λq=>c (ud q)
    exists 0,_,¬xs,1,(show Is _ (¬xs) (-a0) from⟨a0,vs,1,ac,ag⟩),0
    refine iR ?_;refine no O hG (Aap ?_);simp![iX];rw[ug ()]
    rfl
  |str z=>
   refine iR ?_;erw[hy,rfl,hz]
   exists 0,_,!z,1,[1:hz],0;cases ht:QB z with
   |false=>
    have e1:Mi (!z)=false:=ht;rw[e1];refine iR ?_;refine no O hG (Aap ?_);simp![iX];exact ht
   |true=>
    have e1:Mi (!z)=true:=ht;rw[e1];refine lm ?_
    exists 0,0,_,↑z,1,[hz:1],_,0,1,_,0,1;have en:(n:Int)+(1+(↑z:Int))=((n+(1+↑z):Nat):Int):=by omega
    show BB [u_ v,u_ (V.int ((n:Int)+(1+(↑z:Int)))),u_ (V.ref L),u_ x,u_ (V.str z),u_ (V.int (j:Int))] _;rw[en];refine ad (n+(1+↑z)) w' us _ O U af (λh1 h2=>?_) (λh=>?_) () (by rw[hm];simp![nd];omega)
    .rw[<-hG,Aee ht h1]
    .rw[<-hG];rcases h with h|h
     .exact NS h
     .refine AcR ?_;simp![sz];omega
  |_=>
   refine iR ?_
   exact⟨0,_,0,hy,0,iR (no O hG (Aap rfl))⟩
abbrev LET:Str:="abcdefghijklmnopqrstuvwxyz"
abbrev NSG:Str:="abcdefghijklmnopqrstuvwxyz0123456789./"
abbrev nm (z:Str):Bool:=decide (1<=(↑z:Int))&&decide ((↑z:Int)<=24)&&inS ⟨#[z.cps.getD 0 0]⟩ LET&&(z.cps.toList.map λc=>inS ⟨#[c]⟩ NSG).all id
abbrev mG:D->Bool
 | .str z=>nm z
 |_=>Vg
inductive Ox:Sp
 |mk (v:_)(d:_)(_:vs= [v])(_:Is H d v)(_:∀H',ig H H'->Q (.bl (mG d)) H')
def B7 (h:1<=↑z):atI z.cps.toList 0=u_ (z.cps.getD 0 0):=by
 have h':0<z.cps.size:=h;have q:z.cps.toList[0]? =u_ (z.cps.getD 0 0):=by simp[Array.getD,h']
 exact qI q
def Acy (z:Str):(z.cps.toList.map λc=>V.bl (inS ⟨#[c]⟩ NSG))=(z.cps.toList.map λc=>inS ⟨#[c]⟩ NSG).map V.bl:=by
 rw[uK]
 rfl
def BJ (h:¬(1<=(↑z:Int)/\(↑z:Int)<=24)):nm z=false:=by
 unfold nm;by_cases h1:1<=(↑z:Int)
 .have h2:¬(↑z:Int)<=24:=λq=>h [h1:q];rw[ug h2];simp
 .rw[ug h1];simp
def BK (h:inS ⟨#[z.cps.getD 0 0]⟩ LET=Vg):nm z=false:=by
 unfold nm;rw[h];simp
def Ew (h1:1<=(↑z:Int))(h2:(↑z:Int)<=24)(h:inS ⟨#[z.cps.getD 0 0]⟩ LET=v_):nm z=(z.cps.toList.map λc=>inS ⟨#[c]⟩ NSG).all id:=by
 unfold nm;rw[h,ud h1,ud h2];simp
def Xg:#[T,1,a.f_is_name,a.d_is_name,["value"],Ox]:=by
 exists 9,T.iD,Ct
 erw[h,x,d,rfl,hv,k];exists 3,%[@qF _ _ _ _ _ _ _ _ #[xl,#[Qi,#[Qb,#[qz,#[qX,2,rfl],T.qR,vb,#v[pv 0,#[yh,.ty "str",T.JO,Ue]]]]],#[jt,#[Qi,#[Bx,12,D6,D6,qi,#[qz,ZB,T.Yo,uL,#v[pv 0]],#[qav,T.Zm],_]]]].pt %[|#[qo,Yc]] qt,#[qF,#[qp,oK,#[qH,BV,pv 0],#[Abx,4,_,T.m_LETTERS,_],#[w]],%[|#[qo,Yc]],qt]|#[qo,#[qz,#[zt,1,rfl],T.z_all,Hy,#v[#[zd,["sign"],[],SG,#[Ni,4,pv 0],(λ_ _ _ _ _ _=>#[qP,(0),(show Vy (["sign"]:oj Str) by decide+kernel)]),(λ_ _ _ _ _ _=>#[Qp,8,D7,pv 0,#[Abx,4,_,T.m_NAME_SIGNS,_],#[w]])]]]]]
 exists 0,x,"str",tyD d,isStr d,1,hv.ty,jJ d,0;cases hd:isStr d with
 |false=>
  refine lm (lm ?_);have:=k H (ig.refl H);have e:mG d=false:=by cases d<;>first|rfl|simp[isStr] at hd
  rwa[e] at this
 |true=>
  obtain⟨z,rfl⟩:∃z,d= !z:=by cases d<;>simp[isStr] at hd;exact⟨0⟩
  erw[hv,rfl,hz];have k:∀H',ig H H'->Q (.bl (nm z)) H':=k;refine iR ?_
  exists 0,z,1,hz,_,0,1,0;have stop:nm z=Vg->Q (.bl Vg) H:=λe=>by
   have:=k H (ig.refl H);rwa[e] at this
  refine l6 (λU=>?_) (λU=>?_)
  .have aa:1<=(↑z:Int):=um U
   exists _,0,1,0;by_cases O:(↑z:Int)<=24
   .rw[ud O];refine iR ?_
    exists 0,_,_,0,1,hz,B7 (),_,0,1,0
    cases e:inS ⟨#[z.cps.getD 0 0]⟩ LET with
    |false=>
     have e':(!(Hx ("abcdefghijklmnopqrstuvwxyz":Str) ⟨#[z.cps.getD 0 0]⟩ 0 ("abcdefghijklmnopqrstuvwxyz":Str).length 1).isEmpty)=false:=e;rw[e'];refine lm ?_;exact stop (BK e)
    |true=>
     have e':(!(Hx ("abcdefghijklmnopqrstuvwxyz":Str) ⟨#[z.cps.getD 0 0]⟩ 0 ("abcdefghijklmnopqrstuvwxyz":Str).length 1).isEmpty)=true:=e;rw[e'];refine iR ?_
     exists 0,z,1,λD hD=>?_;refine AbY (λc=> .bl (inS ⟨#[c]⟩ NSG)) (hz) hD (λi c H' R hc sm r=>⟨0,_,0,1,r⟩) λH' sm hl=>?_
     exists D,z.cps.toList.map λc=>inS ⟨#[c]⟩ NSG,1,SqL.of (by rw[hl,Acy])
     have:=k H' sm;rwa[Ew aa O e] at this
   .rw[ug O];refine lm ?_;exact stop (BJ λq=>O q.2)
  .exists 0;refine lm ?_;exact stop (BJ λq=>U (ud q.1))
end
abbrev Aav:om Pt->D
 |none=> .non
 |some p=>p.d
inductive Ot:Sp
 |mk (n:Nat)(kd:Kd)(z:Str)(_:vs= [!kd.t,!z,.int (n:Int)])(_:n<=40)(_:↑z<=300)(_:∀(v:V)(H':Hp),ig H H'->Is H' (Aav (Yq n kd z)) v->Q v H')
inductive Dw (K:PySem.W.Frag):Sp
 |mk (z:Str)(ks:List Kd)(q:Addr)(_:vs= [!z,-q])(_:↑z<=300)(_:↑ks<=3)(_:SqT K H q (ks.map λk=>V.str k.t))(_:∀p,H p=U_->Q (-p) (upd H p (.lst ((pcs ks z).map V.str))))
def Qt {c:Bool}{A B:Prop}(h:c=Vg)(b:B):if c=v_ then A else B:=by rw[A4 (by rw[h];exact u8)];exact b
def QQ {c:Bool}{A B:Prop}(h:c=v_)(a:A):if c=v_ then A else B:=by rw[A6 h];exact a
def Zp (ks:oj Kd):(ks.map λk=>V.str k.t)=(ks.map Kd.t).map V.str:=by rw[uK];rfl
def IQ (ks:oj Kd):inV (-"words") (ks.map λk=>V.str k.t)=decide (Kd.words>ks):=by
 rw[Zp,XC,vd,Ae];constructor
 .rintro⟨k,O,e⟩;cases k with
  |words=>exact O
  |box=>exact A8 e ()
  |line=>exact A8 e ()
 .intro h;exact[_:h:1]
def B6:∀x>FRM,↑x.2<=3:=by decide+kernel
def KU (h:z∉BX):Yq n .box z=none:=by
 unfold Yq;exact A4 h
def zy (h:z>BX):Yq n .box z=u_ (.s z):=by
 unfold Yq;exact A6 h
def W2 (h:z∉(Vp n).map λi:Nat=>(Vq (1+(i:Int)):Str)):Yq n .line z=none:=by
 unfold Yq;rw[T7,Uv];intro i hi e;exact h (Ae.mpr [i:hi:um e])
def xF (h:z>(Vp n).map λi:Nat=>(Vq (1+(i:Int)):Str)):∃j:Int,1<=j/\j<=n/\z=(Pt.n j).t/\Yq n .line z=u_ (.n j):=by
 erw[Ae.mp h,i,hi,e];unfold Yq;cases e2:(Vp n).find? λi:Nat=>decide ((Vq (1+(i:Int)):Str)=z) with
 |none=>exact A8 (ud e) (List.find?_eq_none.mp e2 i hi)
 |some j=>
  have h1:=HA e2;have h2:=List.mem_range.mp (Ub e2);exact⟨1+(j:Int),(),(),(um h1).symm,by show Ra _ _=_;rw[e2];rfl⟩
section
variable {P:o9}{w:og}{K:o0}{mg:Str->om o6}{base:o8}{a:Ad}{g:Ga}
def PR:#[C,1,a.f_part_of,a.d_part_of,["kind","piece","count"],Ot]:=by
 exists 9,T.nG,kj
 erw[h,n,kd,z,rfl,hn,hz,k];exists 3,%[#[qF,#[qp,QJ,pv 0,ql,qw _],%[|#[qo,pv 1]],qt],#[qF,#[qp,QJ,pv 0,ql,qw _],%[|#[qo,#[ya,#[qp,QS,pv 1,#[pe_gR,C.m_BOXES],#[w]],pv 1,qO]]],qt],#[By,2,["number"],(1),[],(3),12,kj.nd,rfl,GL rfl,SG,rfl,#[DX,7,_,T.J2,#v[qi,#[qV,yA,pv 2,qi]],_,_],(λ_ _ _ _ _ _=>#[qP,(0),(show Vy (["number"]:oj Str) by decide+kernel)]),(λ_ _ _ _ _ _=> @yq _),(λ_ _ _ _ _ _=>#[qS,QV,T.JO,Ue,#v[pv 0]]),_,_,_]|#[qo,#[ya,#[qp,QS,pv 1,pv 3,#[w]],#[qS,ID,T.z_int,boot_int,#v[pv 1]],qO]]]
 exists 0,1,0;cases kd with
 |words=>
  refine QQ () [0:?_]
  exact k _ H (ig.refl _) [1:small ()]
 |box=>
  refine Qt () ⟨0,1,0,?_⟩
  refine QQ () ⟨0,g.boxes,0,.inr (C.boxes _),1,XO _,0,?_⟩
  rw[A4 u8,XC];refine l6 (λc=>?_) (λc=>?_)
  .have U:z>BX:=um c;rw[zy U] at k;exact[0:k _ H (ig.refl _) [1:small ()]]
  .have U:z∉BX:=λq=>c (ud q);rw[KU U] at k;exact k _ H (ig.refl _) rfl
 |line=>
  refine Qt () ⟨0,1,0,?_⟩
  refine Qt () ?_
  exists 0,_,0,1,(1),(n:Int)+1,1,⟨(),(),(),()⟩,λL hL=>?_
  rw[show((n:Int)+1-1).toNat=n by omega]
  refine wf (lo:=1) (tl:= []) (λi ys H'=>ys=(Vp i).map (λi:Nat=>V.str (Vq (1+(i:Int))))/\ig H H') (mW ()) [1:qf hL _] ?_ ?_
  .rintro i ys H' hi ⟨rfl,sm⟩ O hy R hR
   exists 0,0,?_,hR _ _ O [?_:?_]
   .have h1:(1+(i:Int)).natAbs<=41:=by omega
    have h2:=vS (1+(i:Int)).natAbs;omega
   .rw[HN,uq]
    rfl
   .intro b o e;rw[qj (qk e hL)];exact sm b o e
  .rintro ys H' ⟨rfl,sm⟩ O;have hy:(Vp n).map (λi:Nat=>V.str (Vq (1+(i:Int))))=((Vp n).map λi:Nat=>(Vq (1+(i:Int)):Str)).map V.str:=by rw[uK];rfl
   exists 5
   refine⟨0,0,L,0,.inl (SqL.of O),1,by rw[hy];exact XO _,0,?_⟩
   rw[A4 u8,hy,XC];refine l6 (λc=>?_) (λc=>?_)
   .erw[xF (um c),j,j1,j2,rfl,ej];rw[ej] at k;have hj:=oU j1 ()
    exact⟨0,_,j,1,qas j1 (),uZ hj.1 (),k _ _ sm rfl⟩
   .rw[W2 λq=>c (ud q)] at k;exact k _ _ sm rfl
def El:#[T,1,a.wy,a.wn,["line","form"],(Dw K)]:=by
 exists 9,T.mR,nY
 erw[h,z,ks,q,rfl,hz,hk,U,k];exists 3,%[#[qF,#[qp,QS,ql,pv 1,#[w]],%[|#[qo,#[j0,uX,Uq,Ur,EA,pv 0,#v[ql,#[qz,qT,T.Yo,uL,#v[pv 1]]]]]],qt]|#[qo,#[j0,uX,Uq,Ur,BM,pv 0,#v[ql]]]]
 exists 5
 refine⟨0,q,0,.inr U,1,by rw[Zp];exact XO _,0,?_⟩
 rw[A4 u8,IQ];unfold pcs at k;refine l6 (λc=>?_) (λc=>?_)
 .have O:Kd.words>ks:=um c;rw[A6 O] at k;have h0:0<↑ks:=List.length_pos_iff.mpr λe=>by rw[e] at O;simp at O
  exact⟨0,1,0,q,0,.inr U,_,↑ks,1,by rw[u9],(),h0,(),k⟩
 .have O:Kd.words∉ks:=λz=>c (ud z);rw[A4 O] at k;exact⟨0,1,0,1,(),k⟩
abbrev Aeu:om Rw->D
 |none=> .non
 |some r=>rowD r
abbrev Qq (n:Nat):D->om Rw
 | .str z=>Wh n z
 |_=>U_
inductive Dv:Sp
 |mk (v:V)(d:D)(n:Nat)(_:vs= [v,.int (n:Int)])(_:Is H d v)(_:n<=40)(_:∀(v':V)(H':Hp),ig H H'->Is H' (Aeu (Qq n d)) v'->Q v' H')
def Cy:∀{d:D},Mi d=Vg->Qq n d=U_
 | .str z,h=>by
  show Wh n z=U_;unfold Wh;exact A4 (by rw[show QB z=Vg from h];exact u8)
 | .non,_=>rfl
 | .int _,_=>rfl
 | .bl _,_=>rfl
 | .lst,_=>rfl
 | .dct,_=>rfl
 | .tup _,_=>rfl
def NY:∀{d:D},Mi d=v_->∃z,d= !z
 | .str z,_=>[z:1]
abbrev Jl (n:Nat)(ks:oj Kd)(zs:oj Str):oj (om Pt):=List.zipWith (Yq n) ks zs
def kZ {n:Nat}:∀{ks:oj Kd}{zs:oj Str},(Jl n ks zs).any Hn=v_->Yy n ks zs=U_
 | [],_,h=>by simp[Jl] at h
 |_::_,[],h=>by simp[Jl] at h
 |k::ks,z::zs,h=>by
  rw[Jl,TU,UB,US] at h;unfold Yy;rcases h with h|h
  .rw[Option.isNone_iff_eq_none.mp h]
  .rw[kZ h];split
   .rename_i h1 h2;cases h2
   .rfl
def k9 {n:Nat}:∀{ks:oj Kd}{zs:oj Str},↑zs=↑ks->(Jl n ks zs).any Hn=Vg->∃ps,Yy n ks zs=u_ ps/\Jl n ks zs=ps.map u_
 | [],[],_,_=>[[]:1:1]
 | [],_::_,hl,_=>by simp at hl
 |_::_,[],hl,_=>by simp at hl
 |k::ks,z::zs,hl,h=>by
  rw[Jl,TU,UB,Bool.or_eq_false_iff] at h;obtain⟨ps,O,e2⟩:=k9 (ks:=ks) (zs:=zs) (by simpa using hl) h.2
  cases e:Yq n k z with
  |none=>rw[e] at h;cases h.1
  |some p=>
   exists p::ps,?_,?_
   .unfold Yy;rw[e,O]
   .rw[Jl,TU,e,uA]
    congr 1
def MT {H:Hp}:∀{os:oj (om Pt)}{vs:oj V},L2.IsL H (os.map Aav) vs->vs.all Z7=v_/\inV .non vs=os.any Hn
 | [],_,h=>by cases(show _= [] from h);exact[1:1]
 |q::ps,_,h=>by
  erw[h,v,r,rfl,h1,h2];erw[MT h2,U,i2];have O:Z7 v=v_/\eqV v .non=q.isNone:=by
   cases q with
   |none=>cases(show v= .non from h1);exact[1:1]
   |some q=>
    cases q with
    |s z=>erw[h1,rfl,_];exact[1:1]
    |n i=>cases(show v= .int i from h1);exact[1:1]
  exists ?_,?_
  .rw[vB,O.1,U];rfl
  .show(eqV v .non||inV .non r)=_
   rw[O.2,i2];rfl
def DS {α:Type}(l:oj α)(h:α->D)(f:Nat->D)(O:∀i q,l[i]? =u_ q->f i=h q):(Vp ↑l).map f=l.map h:=by
 apply List.ext_getElem
 .simp
 .intro i h1 h2;simp![u9,vT] at h1;simp![List.getElem_map,List.getElem_range];exact O i l[i] (uh h1)
def Ej:#[C,2,a.f_row_of,a.d_row_of,["line","count"],Dv]:=by
 have Wq:=#[W8,T];have aa:=#[PR,T,C];have O:=#[El,T];refine T.sE.F.ok JE () (λ_ _ _ _ H vs Q E hr h=>?_)
 erw[h,v,d,n,rfl,hv,hn,k];exists 3,%[#[qF,#[Qi,#[Qb,#[qq,Wq,T.mM,#v[pv 0]]]],%[|#[qo,qO]],qt],#[qE,(2),JE.nd,#[qH,qC,#[j0,uX,PySem.F.slot_str_partition,PySem.F.type_str_partition,SD,pv 0,#v[ql]]]],#[qF,#[qp,Pz,pv 2,#[pe_gR,C.m_FORMS],#[w]],%[|#[qo,qO]],qt],#[qE,(3),JE.nd,#[qH,7,Aex,#[pe_gR,C.m_FORMS],pv 2,(λ_ _=>rfl)]],#[qE,(4),JE.nd,#[qq,O,T.mR,#v[pv 0,pv 3]]],#[qF,#[qp,CC,#[qz,qT,T.Yo,uL,#v[pv 4]],#[qV,yA,qi,#[qz,qT,T.Yo,uL,#v[pv 3]]],qw _],%[|#[qo,qO]],qt],#[qE,(5),JE.nd,#[qS,qU,T.QD,vo,#v[#[zd,2,["kind","piece","count"],(2),[1],9,Me (qh wg) ["line","count","word","form","pieces","parts"],rfl,#[Abt,9,_,T.z_zip,#v[pv 3,#[xg,Kl,pv 4,#[jN,qi],We]],_,_],(λ_ _ _ _ _ _=>#[DY,1,K,3,(2),1,rfl,rfl,QM #[qP,(0),(show Vy (["kind","piece","count"]:oj Str) by decide+kernel)] (QM #[qP,(1),(show Vy (["kind","piece","count"]:oj Str) by decide+kernel)] XE),_,_]),(λ_ _ _ _ _ _=> @yq _),(λ_ _ _ _ _ _=>#[qq,aa,T.nG,#v[pv 0,pv 1,pv 2]]),_]]]]|#[qo,#[ya,#[qp,QS,qO,pv 5,#[w]],qO,#[qD,#v[pv 2,pv 5]]]]]
 exists 0,v,d,1,hv,0;cases e0:Mi d with
 |false=>
  rw[Cy e0] at k;exact QQ rfl (k _ H (ig.refl _) rfl)
 |true=>
 erw[NY e0,z,rfl];erw[hv,rfl,au];have ht:QB z=true:=e0;have hz:↑z<=300:=by
  have U:=ht;unfold QB at U;rw[uC,vf] at U;exact U.1
 have k:∀(v':V) (H':Hp),ig H H'->Is H' (Aeu (Wh n z)) v'->Q v' H':=k;refine Qt rfl ?_
 exists 0,1,0,1,(),λt1 x1 x2 g1=>?_
 exists t1,_,(0),0,1,SqT.of qg,1;have s1:ig H (upd H t1 (-[.str (hd z),!x1,!x2])):=qf g1 _;generalize upd H t1 (-[.str (hd z),!x1,!x2])=H1 at s1⊢;unfold Wh at k;rw[A6 ht] at k;cases ef:xB (hd z) with
 |none=>
  rw[ef] at k
  exact⟨0,hd z,g.forms,0,1,C.kd,C.none_ _ ef,0,QQ rfl (k _ _ s1 rfl)⟩
 |some ks=>
 have hk:=zQ ef;rw[ef] at k;simp only at k;erw[C.forms _ hk,q,ah,ac];have hf:↑ks<=3:=B6 _ hk
 exists 0,hd z,g.forms,0,1,C.kd,ah,0;refine Qt rfl ?_
 exists 0,hd z,g.forms,_,-q,1,1,C.kd,ah,1
 exists 0,0,z,ks,q,1,hz,hf,ac _,λp2 g2=>?_;have s2:ig H1 (upd H1 p2 (.lst ((pcs ks z).map V.str))):=qf g2 _;have e2:(upd H1 p2 (.lst ((pcs ks z).map V.str))) p2=u_ (.lst ((pcs ks z).map V.str)):=qg;generalize upd H1 p2 (.lst ((pcs ks z).map V.str))=H2 at s2 e2⊢
 exists 0,p2,0,.inl (SqL.of e2),0,q,0,.inr (ac _),_,0,1,1,0;by_cases hl:↑(pcs ks z)=1+↑ks
 case neg=>
  rw[A4 hl] at k;refine QQ ?_ (k _ _ (s1.trans s2) rfl);rw[u9,u9];show(!(decide) (V.int _=V.int _))=v_;rw[ug]
  .rfl
  .intro q;have:(↑(pcs ks z):Int)=1+(↑ks:Int):=V.int.inj q;omega
 rw[A6 hl] at k;refine Qt ?_ ?_
 .rw[u9,u9,show(↑(pcs ks z):Int)=1+(↑ks:Int) by omega]
  simp
 have af:↑((pcs ks z).drop 1)=↑ks:=by rw[vZ];omega
 have ak:∀p>(pcs ks z).drop 1,↑p<=300:=λp hp=>by
  have U:=ht;unfold QB at U;rw[uC,vf] at U;exact(MX U.1 U.2 p (tW hp)).1
 exists 0,0,0,p2,0,SqL.of e2,λp3 g3=>?_;have al:nj ((pcs ks z).map V.str) (u_ 1) U_=((pcs ks z).drop 1).map V.str:=by
  rw[show(u_ (1:Int))=u_ (((1:Nat)):Int) from rfl,zG (by rw[u9];omega),List.map_drop]
 rw[al];generalize (pcs ks z).drop 1=zs at af ak k⊢;have s3:ig H2 (upd H2 p3 (.lst (zs.map V.str))):=qf g3 _;have e3:(upd H2 p3 (.lst (zs.map V.str))) p3=u_ (.lst (zs.map V.str)):=qg;generalize upd H2 p3 (.lst (zs.map V.str))=H3 at s3 e3⊢;have ao:↑(Jl n ks zs)=↑ks:=by rw[Jl,List.length_zipWith];omega
 exists q,p3,_,0,ac _,SqL.of e3,λA1 gA=>?_;refine AbW (K:=K) (tl:= [u_ (.int (n:Int))]) (xs:=ks.map λk:Kd=>V.str k.t) (ys:=zs.map V.str) (λi=>Aav ((Jl n ks zs).getD i U_)) (λH' _=>ac H') (λH' sm=>SqL.of (sm _ _ e3)) (by simp[af]) (by rw[u9];exact small ()) gA ?_ ?_
 .intro i x y H4 R hx hy s4 hR;rw[uG] at hx hy;cases ag:ks[i]? with
  |none=>rw[ag] at hx;cases hx
  |some kd=>
   rw[ag] at hx;cases hx;cases ad:zs[i]? with
   |none=>rw[ad] at hy;cases hy
   |some z1=>
    rw[ad] at hy;cases hy
    exists 0,0,0,n,kd,z1,1,hn,ak _ (uQ ad),λv H5 s5 hv=>hR v H5 s5 ?_;have e:(Jl n ks zs).getD i U_=Yq n kd z1:=by simp[G6,Jl,List.getElem?_zipWith,ag,ad]
    simp![e];exact hv
 intro H5 vs s5 e5 h5;have am:L2.IsL H5 ((Jl n ks zs).map Aav) vs:=by
  rw[u9,<-ao] at h5;rw[DS (Jl n ks zs) Aav _ (λi q1 hi=>by simp[G6,hi])] at h5
  exact h5
 exists A1,vs,1,.inl [SqL.of e5:λt6 g6=>?_];have s6:ig H5 (upd H5 t6 (¬vs)):=qf g6 _;have i6:Is (upd H5 t6 (¬vs)) (.tup ((Jl n ks zs).map Aav)) (-t6):=Is.new am g6;have e6:(upd H5 t6 (¬vs)) t6=u_ (¬vs):=qg;generalize upd H5 t6 (¬vs)=H6 at s6 i6 e6⊢;erw[MT am,f1,f2];have ae:=s1.trans (s2.trans (s3.trans (s5.trans s6)))
 exists 0,t6,vs,1,.inr (SqT.of e6),1,f1,0;rw[A4 u8,f2];refine l6 (λc=>?_) (λc=>?_)
 .rw[kZ c] at k;exact k _ _ ae rfl
 .have c':(Jl n ks zs).any Hn=false:=by
   cases h:(Jl n ks zs).any Hn with
   |false=>rfl
   |true=>exact A8 h c
  erw[k9 af c',ps,q1,q2];rw[q1] at k;rw[q2,uK] at i6
  exists 0,0,(sml rfl),λt7 g7=>?_;have ap:↑(hd z)<=sizeLine:=by
   have aq:∀x>FRM,↑x.1<=100:=by decide+kernel
   have:=aq _ hk;exact small (by simp only at this;omega)
  exact k _ _ (ae.trans (qf g7 _)) (Is.new (ds:= [.str (hd z),.tup (ps.map Pt.d)]) ⟨_,0,[1:ap],_,0,i6,1⟩ g7)
def D0 {M:Nat}(hn:n<=40){k:Kd}{p:Pt}(h:Abr n M k p):Yq n k p.t=u_ p:=by
 cases k with
 |words=>
  cases p with
  |s z=>rfl
  |n i=>cases h
 |box=>
  cases p with
  |s z=>exact zy h
  |n i=>cases h
 |line=>
  cases p with
  |s z=>cases h
  |n i=>
   have h1:1<=i/\i<=n:=h;have hm:(Pt.n i).t>(Vp n).map λi:Nat=>(Vq (1+(i:Int)):Str):=Ae.mpr ⟨(i-1).toNat,List.mem_range.mpr (),by show(Vq (1+(((i-1).toNat:Nat):Int)):Str)=Vq i;rw[show 1+(((i-1).toNat:Nat):Int)=i by omega]⟩
   erw[xF hm,j,U,j2,ej,e];rw[e];have b1:=qas (i:=i) h1.1 ()
   have b2:=qas (i:=j) U ()
   have O:(Vq i:Str)=Vq j:=ej;rw[O,b2] at b1;rw[uJ b1]
def kA {n M:Nat}(hn:n<=40):∀{ks:oj Kd}{ps:oj Pt},Xt n M ks ps->Yy n ks (ps.map Pt.t)=u_ ps
 | [],[],_=>rfl
 |k::ks,p::ps,h=>by
  rw[uA];unfold Yy;rw[D0 hn h.1,kA hn h.2]
 | [],_::_,h=>h.elim
 |_::_,[],h=>h.elim
variable {ks:oj Kd}
def E5 {w:Str}(h:(w,ks)>FRM):xB w=u_ ks:=by
 cases e:xB w with
 |none=>exact A8 rfl (WU e _ h)
 |some O=>
  have:=E4 _ (zQ e) _ h rfl;rw[(Prod.mk.inj this).2]
variable {r:Rw}
def Cw {M:Nat}(hn:n<=40)(h:Jk n M r)(ht:QB (yU r)=v_):Wh n (yU r)=u_ r:=by
 have hh:=SF h;erw[h,ks,U,O];unfold Wh;rw[A6 ht,hh,E5 U];simp only;have hs:pcs ks (yU r)=txs r:=Md hn U O;have hl:=Zs O;rw[hs,A6 (by unfold txs;rw[ui,u9];omega)]
 show Ra _ (Yy n ks (r.2.map Pt.t))=_;rw[kA hn O]
 rfl
abbrev Yd (rs:oj Rw):D:= .tup (rs.map λr=> .str (yU r))
structure QW (rs:oj Rw):Prop where
 n0:1<=↑rs
 n1:↑rs<=40
 ok:∀r>rs,Jk ↑rs 300 r
 tree:isT (Yd rs)=v_
def sD:∀{ds:oj D}{d:D},goodL ds=v_->d>ds->iX d=v_
 |x::xs,d,h,hm=>by
  simp![goodL,uC] at h;rcases Aa.mp hm with rfl|hm
  .exact h.1
  .exact sD h.2 hm
variable {rs:oj Rw}
def QW.text (h:QW rs)(O:r>rs):QB (yU r)=true:=by
 have h1:=h.tree;unfold isT at h1;rw[uC,uC] at h1;have h2:=h1.1.1;unfold Yd at h2;simp![iX,uC] at h2;have:=sD h2.2 (Ae.mpr [r:O:1])
 simpa only [iX] using this
abbrev QK:D->om (oj Rw)
 | .tup ds=>if(decide (1<=↑ds)&&decide (↑ds<=40)&&ds.all (λd=>(Qq ↑ds d).isSome)&&isT (¬ds))=v_ then u_ (ds.filterMap (Qq ↑ds)) else U_
 |_=>U_
def zE (ds:oj D):QK (¬ds)=if(decide (1<=↑ds)&&decide (↑ds<=40)&&ds.all (λd=>(Qq ↑ds d).isSome)&&isT (¬ds))=v_ then u_ (ds.filterMap (Qq ↑ds)) else none:=rfl
def oz {n:Nat}:∀{rs:oj Rw},(∀r>rs,Qq n (.str (yU r))=u_ r)->(rs.map λr=>D.str (yU r)).filterMap (Qq n)=rs
 | [],_=>rfl
 |r::rs,h=>by
  rw[uA,Ug (h r uf),oz λx O=>h x (uc _ O)]
def QW.rowD (h:QW rs)(O:r>rs):Qq ↑rs (.str (yU r))=u_ r:=Cw h.n1 (h.ok r O) (h.text O)
def QW.read (h:QW rs):QK (Yd rs)=u_ rs:=by
 have hl:↑(rs.map λr=>D.str (yU r))=↑rs:=u9 ..;have U:=h.tree;unfold Yd at U⊢;rw[zE,hl,A6]
 .rw[oz λr O=>h.rowD O]
 .rw[ud h.n0,ud h.n1,U,List.all_eq_true.mpr]
  .rfl
  .intro d hd;erw[Ae.mp hd,r,O,rfl];rw[h.rowD O]
   rfl
abbrev AeE (d x y:D):Prop:=(∀rs,QK d=u_ rs->x= .tup (rs.map L2.rowD)/\y= .non)/\(QK d=U_->∃i:Int,y= .int i)
inductive Oq:Sp
 |mk (v:V)(d:D)(_:vs= [v])(_:Is H d v)(_:∀(u:V)(H':Hp)(x y:D),ig H H'->AeE d x y->Is H' (-[x,y]) u->Q u H')
def DQ {d x:D}{i:Int}(h:QK d=U_):AeE d x (.int i):=⟨λrs e=>(by rw[h] at e;cases e),λ_=>[i:1]⟩
def XZ {α:Type}{o:om α}(h:o.isSome=v_):∃x,o=u_ x:=by cases o with
 |none=>cases h
 |some x=>exact[x:1]
variable {ds:oj D}
def DN {d:D}(h1:ds[i]? =u_ d)(h2:Qq n d=u_ r):(ds.take (i+1)).filterMap (Qq n)=(ds.take i).filterMap (Qq n)++ [r]:=by
 rw[vn,h1,List.filterMap_append];simp[h2]
def Bo {n:Nat}:∀{ds:oj D},(∀z>ds,(Qq n z).isSome=v_)->↑(ds.filterMap (Qq n))=↑ds
 | [],_=>rfl
 |z::ds,h=>by
  erw[XZ (h z uf),r,e];rw[Ug e,ui,ui];exact A9 (·+1) (Bo λy O=>h y (uc _ O))
def Ek:#[C,3,a.ZC,a.ZX,["value"],Oq]:=by
 have yK:=#[jD,T];have aa:=#[Ej,T,C];refine T.lT.F.ok YE () (λ_ _ _ _ H vs Q E hr h=>?_)
 erw[h,v,d,rfl,hv,k];exists 3,%[@qF _ _ _ _ _ _ _ _ #[xl,#[Qi,#[Qb,#[qz,#[qX,2,rfl],T.qR,vb,#v[pv 0,#[yh,.ty "tuple",T.QD,vo]]]]],#[jt,#[Qi,#[Bx,12,D6,D6,qi,#[qz,qT,T.Yo,uL,#v[pv 0]],#[qav,T.m_MOST_LINES],_]]]].pt %[|#[qo,#[qD,#v[#[qD,qd],qi]]]] qt,#[qE,(1),YE.nd,#[Q7,qd]],#[YO,#[pi_tup,pv 0],#[qP,(2),YE.nd],%[#[qE,(3),YE.nd,#[qq,aa,T.sE,#v[pv 2,#[qz,qT,T.Yo,uL,#v[pv 0]]]]],#[qF,#[qp,yf,pv 3,qO,qw _],%[|#[qo,#[qD,#v[#[qS,qU,T.QD,vo,#v[pv 1]],#[qV,yA,#[qz,qT,T.Yo,uL,#v[pv 1]],qi]]]]],qt]|#[Qa,#[j0,vc,vD,vE,YH,pv 1,#v[pv 3]]]]]|#[qo,#[qD,#v[#[qS,qU,T.QD,vo,#v[pv 1]],#[ya,#[Qb,#[qq,yK,T.lh,#v[pv 0]]],qO,qi]]]]]
 exists 0,v,"tuple",_,zJ d,1,hv.ty,xU d,0;have U:QK d=U_->∀(t:o3),H t=U_->∀t2,(upd H t (-[])) t2=U_->Q (-t2) (upd (upd H t (-[])) t2 (-[-t,.int 1])):=λhn t g t2 g2=>
  k _ _ (-[]) (.int 1) ((qf g _).trans (qf g2 _)) (DQ hn) (Is.new (ds:= [-[],.int 1]) ⟨_,0,Is.new (ds:= []) rfl g,_,0,1,1⟩ g2)
 cases ht:zJ d with
 |false=>
  have hn:QK d=none:=by
   cases d with
   |tup ds=>cases ht
   |_=>rfl
  exact lm (lm [(sml rfl):λt g1=>[(sml rfl):λt2 g2=>U hn t g1 t2 g2]])
 |true=>
 obtain⟨ds,rfl⟩:∃ds,d=¬ds:=by
  cases d with
  |tup ds=>exact[ds:1]
  |_=>cases ht
 refine iR ?_;have ad:=hv;erw[ad,va,us,rfl,ha,hu];have ae:↑us=↑ds:=↑hu
 exists 0,va,us,1,.inr (SqT.of ha),_,0,1,0;have no:¬(1<=↑ds/\↑ds<=40/\(∀z>ds,(Qq ↑ds z).isSome=v_)/\isT (¬ds)=v_)->QK (¬ds)=none:=λhc=>by
  unfold QK;refine A4 λz=>hc ?_;simp![uC,vf,Ul] at z;exact⟨z.1.1.1,z.1.1.2,z.1.2,z.2⟩
 by_cases c1:1<=↑ds
 case neg=>
  refine Qt (ug ()) [0:?_]
  exact lm [(sml rfl):λt g1=>[(sml rfl):λt2 g2=>U (no λz=>c1 z.1) t g1 t2 g2]]
 refine QQ (ud ()) ?_
 exists _,0,1,0;by_cases c2:↑ds<=40
 case neg=>
  refine QQ (by rw[ug ()];rfl) ?_
  exact[(sml rfl):λt g1=>[(sml rfl):λt2 g2=>U (no λz=>c2 z.2.1) t g1 t2 g2]]
 refine Qt (by rw[ud ()];rfl) ?_
 exists (sml rfl),λL1 g1=>?_
 exists 0,va,1,[us:SqT.of (qf g1 _ _ _ ha)]
 let J1_:Nat->L2.St->Hp->Prop:=λi σ H'=>i<=↑ds/\(∀z>ds.take i,(Qq ↑ds z).isSome=v_)/\∃(ws:oj V) (x2 x3:om V),σ= [u_ (-va),u_ (-L1),x2,x3]/\H' L1=u_ (.lst ws)/\L2.IsL H' (((ds.take i).filterMap (Qq ↑ds)).map L2.rowD) ws/\ig H H'
 refine WV (K:=K) (a:=va) (xs:=us) J1_
  ⟨uS _,(λz hz=>by simp at hz),[],U_,U_,1,qg,1,qf g1 _⟩ (λi σ H' _ ⟨_,_,_,_,_,_,_,_,sm⟩=>SqT.of (sm _ _ ha)) ?_ ?_
 .rintro i x σ H' hx ⟨ak,O,ws,x2,x3,rfl,e1,hw,sm⟩;have ac:i<↑ds:=by
   erw[Af.mp hx,h,_];omega
  erw[hu.get (i:=i) (d:=ds[i]) (uh ac),x',af,al];rw[hx] at af;cases af;have am:↑ws=i:=by
   rw[↑hw,u9,Bo O,vG];omega
  exists 5
  refine⟨0,0,va,us,1,.inr (SqT.of (sm _ _ ha)),x,ds[i],↑ds,by rw[ae];rfl,al.mono sm.tk,c2,λv H2 s2 hv=>?_⟩
  have e2:=s2 _ _ e1;cases er:Qq ↑ds ds[i] with
  |some r=>
   rw[er] at hv;have hv:Is H2 (L2.rowD r) v:=hv;have ad:=hv;erw[ad,ag,ao,rfl,_,_]
   exists 0,1,0;refine Qt (ug λz=>by cases z) ?_
   exists 0,.inl [1:_:SqL.of e2],0,L1,ws,0,1,e2,XG ()
   have t3:Tk H2 (upd H2 L1 (.lst (ws++ [-ag]))):=Tk.updL e2
   exists ac,λz hz=>?_,ws++ [-ag],_,0,qg,?_,λb o e=>?_
   .rw[vn,uh ac] at hz;rcases Ac.mp hz with hz|hz
    .exact O z hz
    .have:z=ds[i]:=by simpa using hz
     rw[this,er]
     rfl
   .rw[DN (uh ac) er,uq];exact((hw.mono s2.tk).mono t3).append (IsL.one (hv.mono t3))
   .rw[qj (qk e g1)];exact s2 b o (sm b o e)
  |none=>
   rw[er] at hv;cases(show v= .non from hv)
   exists 0,1,0;refine QQ rfl ?_
   exists 0,L1,ws,1,.inl [SqL.of e2:λt1 g2=>?_];have s3:ig H2 (upd H2 t1 (¬ws)):=qf g2 _;have i3:Is (upd H2 t1 (¬ws)) (.tup (((ds.take i).filterMap (Qq ↑ds)).map L2.rowD)) (-t1):=Is.new (hw.mono s2.tk) g2
   exists 0,L1,ws,1,.inl (SqL.of (s3 _ _ e2)),_,0,1,(sml rfl),λt4 g4=>?_;exact k _ _ _ (.int _) (sm.trans (s2.trans (s3.trans (qf g4 _)))) (DQ (no λz=>by have:=z.2.2.1 _ (uT ac);rw[er] at this;cases this)) (Is.new (ds:= [.tup (((ds.take i).filterMap (Qq ↑ds)).map L2.rowD),.int _]) ⟨_,0,i3,_,0,1,1⟩ g4)
 .rintro σ H' ⟨ak,O,ws,x2,x3,rfl,e1,hw,sm⟩;rw[ae,U1] at hw O
  exists 0,L1,ws,1,.inl [SqL.of e1:λt1 g2=>?_];have s2:ig H' (upd H' t1 (¬ws)):=qf g2 _;have i2:Is (upd H' t1 (¬ws)) (.tup ((ds.filterMap (Qq ↑ds)).map L2.rowD)) (-t1):=Is.new hw g2;generalize upd H' t1 (¬ws)=H2 at s2 i2⊢
  exists 0,_,¬ds,1,hv.mono (sm.trans s2).tk,λH3 s3=>?_
  exists 0;cases hT:isT (¬ds) with
  |true=>
   refine QQ rfl [(sml rfl):λt4 g4=>?_];have ah:QK (¬ds)=u_ (ds.filterMap (Qq ↑ds)):=by
    rw[zE,A6];rw[ud c1,ud c2,hT,List.all_eq_true.mpr O]
    rfl
   exact k _ _ _ .non (sm.trans (s2.trans (s3.trans (qf g4 _)))) ⟨λrs e=>(by rw[ah] at e;cases e;exact[1:1]),λe=>(by rw[ah] at e;cases e)⟩ (Is.new (ds:= [.tup ((ds.filterMap (Qq ↑ds)).map L2.rowD),.non]) ⟨_,0,i2.mono s3.tk,_,0,1,1⟩ g4)
  |false=>
   refine Qt rfl [(sml rfl):λt4 g4=>?_];exact k _ _ _ (.int 1) (sm.trans (s2.trans (s3.trans (qf g4 _)))) (DQ (no λz=>by have:=z.2.2.2;rw[hT] at this;cases this)) (Is.new (ds:= [.tup ((ds.filterMap (Qq ↑ds)).map L2.rowD),.int 1]) ⟨_,0,i2.mono s3.tk,_,0,1,1⟩ g4)
inductive Oo (br:Addr)(vs:List V)(H:Hp)(Q:VK)(E:XK):Prop
 |mk (v:V)(d:D)(_:vs= [v])(_:Is H d v)(_:(∀rs,QK d=u_ rs->∀(u:V)(H':Hp),ig H H'->Is H' (.tup (rs.map L2.rowD)) u->Q u H'))(_:(QK d=U_->∀(e:Addr)(H':Hp),ig H H'->E (-e) (u_ br) H'))
def PM (T:Tx K mg a)(C:Fx K w mg g a):FnOk P w K mg base (CX1 P w) 4 a.wk a.Wn ["tree"] (Oo g.br):=by
 have Jo:=#[Ek,T,C];refine T.lz.F.okX ZN () (λ_ _ _ _ H _ Q E hr h=>?_)
 erw[h,v,d,rfl,hv,k,kB];exists 3,%[#[qE,(1),ZN.nd,#[qq,Jo,T.lT,#v[pv 0]]],#[qF,#[qp,Xi,#[qH,qC,pv 1],qO,qw _],%[|#[Kq,22,C.x_BadRule,_,C.m_BadRule,ql,_,_]],qt]|#[qo,#[qH,qC,pv 1]]]
 exists 0,v,d,1,hv,λu H1 x y s1 hd U=>?_
 exists 0
 try dsimp![tC]
 refine Xw (i:=1) (d:=y) U rfl λz hz=>?_;cases O:QK d with
 |none=>
  erw[hd.2 O,i,rfl];cases(show z= .int i from hz)
  exists 1,0;refine QQ (by rw[ug (λz=>by cases z)];rfl) ?_
  exact[1:λe=>kB O e H1 s1]
 |some rs=>
  erw[hd.1 rs O,rfl,rfl];cases(show z= .non from hz)
  exists 1,0;refine Qt rfl ?_
  exists 0
  try dsimp![tC]
  refine Xw (i:=0) (d:= .tup (rs.map L2.rowD)) U rfl λq hq=>?_;exact k rs O q H1 s1 hq
abbrev kvB (f:Str->V):oj (Key×V):=BX.map λz=>(Vj z,f z)
def AaD {f:Str->V}:∀{zs:oj Str}{z:Str},z>zs->iS (zs.map λz=>((Vj z:Key),f z)) (Vj z)=u_ (f z)
 |y::ys,z,h=>by
  rw[uA];by_cases e:y=z
  .subst e;exact QY rfl
  .have h':z>ys:=by
    rcases Aa.mp h with rfl|h
    .exact A8 rfl e
    .exact h
   have:=AaD (f:=f) h';unfold iS at this⊢;rw[v9];have e2:decide ((Vj y:Key)=Vj z)=false:=ug λq=>e (Ux q);simp![e2];exact this
def Ady {f:Str->V}{u:V}(h:z>BX):lR (kvB f) (Vj z) u=kvB λy=>if y=z then u else f y:=by
 unfold lR;rw[A6]
 .unfold kvB;rw[uK];refine UH λy _=>?_;by_cases e:y=z
  .simp[e]
  .simp[e]
 .rw[rq];exact⟨(Vj z,f z),Ae.mpr [z:h:1],by simp⟩
abbrev YF (H:Hp)(d:o3)(B:Str->D):Prop:=∃f:Str->V,H d=u_ (.dK (kvB f))/\∀z>BX,Is H (B z) (f z)
abbrev mn (B:Str->D)(z:Str)(e:D):Str->D:=λy=>if y=z then e else B y
variable {H H':Hp}
def YF.same {d:o3}{B:Str->D}(h:YF H d B)(s:ig H H'):YF H' d B:=let⟨f,e,i⟩:=h;[f:s _ _ e:λz hz=>(i z hz).mono s.tk]
def YF.move {d:o3}{B:Str->D}(h:YF H d B)(t:Tk H H')(e:H' d=H d):YF H' d B:=let⟨f,e1,i⟩:=h;[f:e.trans e1:λz hz=>(i z hz).mono t]
def YF.get {d:o3}{B:Str->D}(h:YF H d B)(hz:z>BX):∃v,mQ H d (!z) (u_ v)/\Is H (B z) v:=by
 erw[h,f,e,i];exists f z,?_,i z hz;have:=mQ.k (k:=(Vj z:Key)) e;rw[show iS (kvB f) (Vj z)=u_ (f z) from AaD hz] at this
 exact this
variable {e:D}
def YF.put {d:o3}{B:Str->D}{u:V}(h:YF H d B)(hz:z>BX)(O:Is H e u):∃kvs,IN H d (!z) u (upd H d (.dK kvs))/\YF (upd H d (.dK kvs)) d (mn B z e)/\Tk H (upd H d (.dK kvs)):=by
 erw[h,f,ed,i];refine⟨kvB λy=>if y=z then u else f y,.inl ⟨_,Vj z,ed,1,by show ↑BX<Vk;rw[uB];decide,by rw[Ady hz]⟩,[_:qg:λy U=>?_],Tk.updD ed⟩
 have t:Tk H (upd H d (.dK (kvB λy=>if y=z then u else f y))):=Tk.updD ed
 unfold mn;by_cases c:y=z
 .rw[A6 c,A6 c];exact O.mono t
 .rw[A4 c,A4 c];exact(i y U).mono t
abbrev xG:oj D->Bool
 | []=>v_
 | .str _::r=>xG r
 |_=>Vg
abbrev xt:oj D->oj Str
 | .str z::r=>z::xt r
 |_=> []
abbrev b0 (ps:oj Pt):Str:=(ps.getD 0 (.s "")).t
abbrev b1 (ps:oj Pt):Str:=(ps.getD 1 (.s "")).t
abbrev b2 (ps:oj Pt):Str:=(ps.getD 2 (.s "")).t
abbrev E8:D->D
 | .str z=>if ↑z=0 then .non else .str ⟨#[z.cps.getD 0 0]⟩
 | .tup (x::_)=>x
 |_=> .non
abbrev OV:D->D
 | .str z=>if ↑z=0 then .non else .str (HG z (u_ 1) U_)
 | .tup (_::r)=>¬r
 |_=> .non
abbrev AbV:D->Nat
 | .str z=>↑z
 | .tup xs=>↑xs
 |_=>0
abbrev Aet:D->D->D
 | .tup xs,e=> .tup (xs++ [e])
 |_,_=> .non
abbrev Ab6:D->D->D
 | .str x,.str y=> .str (x++y)
 |_,_=> .non
abbrev AeB:D->D->D
 | .str z,.str y=>if ↑y=0 then .non else .tup ((spG z y).map .str)
 |_,_=> .non
abbrev Ab9:D->D->D
 | .tup xs,.str y=>if xG xs=v_ then .str (Vo y (xt xs)) else .non
 |_,_=> .non
abbrev made (w:Str)(B:Str->D)(own:Str)(ps:oj Pt):D:=
 if w="text" then .str (b1 ps) else if w="self" then .str own else if w="copy" then B (b1 ps) else if w="row" then .tup [] else
 if w="put" then Aet (B (b0 ps)) (B (b1 ps)) else if w="join" then Ab6 (B (b0 ps)) (B (b1 ps)) else if w="first" then E8 (B (b1 ps)) else if w="rest" then OV (B (b1 ps)) else
 if w="size" then .str (Vq ((AbV (B (b1 ps)):Nat):Int)) else if w="cut" then AeB (B (b1 ps)) (B (b2 ps)) else Ab9 (B (b1 ps)) (B (b2 ps))
variable {ps:oj Pt}
def Q3 {m:Nat}{w:Str}(h:Jk n m (w,ps))(O:(w,ks)>FRM):Xt n m ks ps:=by
 erw[h,U,h1,h2];have:=E4 _ h1 _ O rfl;cases this;exact h2
def Adq {m:Nat}(h:Xt n m [.box] ps):∃x,ps= [.s x]/\x>BX:=by
 match ps,h with
 | [.s x],h=>exact[x:1:h.1]
 | [.n _],h=>exact h.1.elim
def wF {m:Nat}(h:Xt n m [.box,.box] ps):∃x y,ps= [.s x,.s y]/\x>BX/\y>BX:=by
 match ps,h with
 | [.s x,.s y],h=>exact⟨x,y,1,h.1,h.2.1⟩
 | [.n _,_],h=>exact h.1.elim
 | [.s _,.n _],h=>exact h.2.1.elim
def M5 {m:Nat}(h:Xt n m [.box,.box,.box] ps):∃x y z,ps= [.s x,.s y,.s z]/\x>BX/\y>BX/\z>BX:=by
 match ps,h with
 | [.s x,.s y,.s z],h=>exact⟨x,y,z,1,h.1,h.2.1,h.2.2.1⟩
 | [.n _,_,_],h=>exact h.1.elim
 | [.s _,.n _,_],h=>exact h.2.1.elim
 | [.s _,.s _,.n _],h=>exact h.2.2.1.elim
def Adp {m:Nat}(h:Xt n m [.box,.words] ps):∃x y,ps= [.s x,.s y]/\x>BX/\↑y<=m/\y.cps.toList.all QA=true:=by
 match ps,h with
 | [.s x,.s y],h=>exact⟨x,y,1,h.1,h.2.1⟩
 | [.n _,_],h=>exact h.1.elim
 | [.s _,.n _],h=>exact h.2.1.elim
def Abe {m:Nat}(h:Xt n m [.box,.line] ps):∃x,∃i:Int,ps= [.s x,.n i]/\x>BX/\1<=i/\i<=n:=by
 match ps,h with
 | [.s x,.n i],h=>exact⟨x,i,1,h.1,h.2.1⟩
 | [.n _,_],h=>exact h.1.elim
 | [.s _,.s _],h=>exact h.2.1.elim
def Abf {m:Nat}(h:Xt n m [.box,.box,.line] ps):∃x y,∃i:Int,ps= [.s x,.s y,.n i]/\x>BX/\y>BX/\1<=i/\i<=n:=by
 match ps,h with
 | [.s x,.s y,.n i],h=>exact⟨x,y,i,1,h.1,h.2.1,h.2.2.1⟩
 | [.n _,_,_],h=>exact h.1.elim
 | [.s _,.n _,_],h=>exact h.2.1.elim
 | [.s _,.s _,.s _],h=>exact h.2.2.1.elim
abbrev IK (H:Hp)(t:o3)(ps:oj Pt):Prop:=Is H (.tup (ps.map Pt.d)) (-t)
abbrev Tr (B:Str->D):Prop:=∀z>BX,isT (B z)=v_
inductive zk (w:Str):Sp
 |mk (d t:Addr)(own:Str)(B:Str->D)(ps:List Pt)(n:Nat)(_:vs= [-d,!own,-t])(_:YF H d B)(_:Tr B)(_:↑own<=100)(_:Jk n 300 (w,ps))(_:IK H t ps)(_:∀(v:V)(H':Hp),ig H H'->Is H' (made w B own ps) v->Q v H')
variable {Q:VK}
def IE {K:o0}{t:o3}(h:IK H t ps)(e:ps[i]? =u_ (.s z))(q:Q (!z) H):O0 K (-t) (.int (i:Int)) H Q:=
 Xw (d:= !z) h (qI (by rw[uG,e];rfl)) λx O=>by erw[O,rfl,_];exact q
def Jd {d:D}(h:isT d=v_):dp d<=12:=by
 unfold isT at h;rw[uC] at h;exact um h.2
def NB {d:D}(h:isT d=v_):sz d<=600:=by
 unfold isT at h;rw[uC,uC] at h;exact um h.1.2
def YQ {d:D}(h:isT d=v_):AbV d<=600:=by
 have h1:=NB h;cases d with
 |str z=>simp![sz] at h1;show ↑z<=600;omega
 |tup xs=>
  unfold isT at h;rw[uC,uC] at h;have h2:=h.1.1;simp![iX,uC] at h2;have:=um h2.1;show ↑xs<=600;omega
 |_=>exact uS _
def II (z y:Str):↑(z++y:Str)=↑z+↑y:=by
 show(z.cps++y.cps).size=z.cps.size+y.cps.size;exact Tq
def nO {K:o0}{t d:o3}{B:Str->D}(O:YF H d B)(h:IK H t ps)(e:ps[i]? =u_ (.s z))(hz:z>BX)(q:∀v,Is H (B z) v->Q v H):O0 K (-t) (.int (i:Int)) H (λy H2=>NR Q (-d) y H2):=by
 erw[O.get hz,v,U,iv];exact IE h e ⟨d,v,1,U,q v iv⟩
def PH:#[T,1,a.Xu,a.WJ,["boxes","own","parts"],(zk "text")]:=by
 exists 9,T.lp,nV
 erw[h,d,t,own,B,ps,n,rfl,hB,hT,ho,O,U,k];exists 3,%[|#[qo,#[qH,qC,pv 2]]]
 erw[Adp (Q3 O ()),x,y,rfl,hx,hy,hs]
 exact⟨0,IE (i:=1) U rfl (k _ H (ig.refl _) ⟨1,small (by show ↑y<=1000;omega)⟩)⟩
def PL:#[T,1,a.xV,a.Wf,["boxes","own","parts"],(zk "self")]:=by
 exists 9,T.lr,nX,U
 erw[h,d,t,own,B,ps,n,rfl,hB,hT,ho,O,hp,k];exists 3,%[|#[qo,pv 1]]
 exact⟨0,k _ H (ig.refl _) ⟨1,small (by show ↑own<=1000;omega)⟩⟩
def AbG:#[T,1,a.Za,a.kt,["boxes","own","parts"],(zk "row")]:=by
 exists 9,T.lS,sZ
 erw[h,d,t,own,B,ps,n,rfl,hB,hT,ho,U,hp,k];exists 3,%[|#[qo,#[qD,qd]]]
 exact[(sml rfl):λl O=>k _ _ (qf O _) (Is.new (ds:= []) rfl O)]
def Sf:#[T,1,a.Xr,a.wQ,["boxes","own","parts"],(zk "copy")]:=by
 exists 9,T.lJ,ot,U
 erw[h,d,t,own,B,ps,n,rfl,hB,hT,ho,O,hp,k];exists 3,%[|#[qo,#[QE,6,QT U,pv 0,#[qH,qC,pv 2],(λ_ _=>rfl)]]]
 erw[wF (Q3 O ()),x,y,rfl,hx,hy]
 exists 0,0;exact nO (i:=1) hB hp rfl hy λv iv=>k _ H (ig.refl _) iv
def AbH:#[T,1,a.zV,a.kr,["boxes","own","parts"],(zk "put")]:=by
 exists 9,T.lU,Wv
 erw[h,d,t,own,B,ps,n,rfl,hB,hT,ho,aa,O,k];exists 3,%[#[qE,(3),Wv.nd,#[QE,pv 0,#[qH,qC,pv 2]]],#[qF,#[Qi,#[Qb,#[qz,#[qX,2,rfl],T.qR,vb,#v[pv 3,#[yh,.ty "tuple",T.QD,vo]]]]],%[|#[qo,qO]],qt]|#[qo,#[qV,Wi,pv 3,#[qD,#v[#[QE,pv 0,#[qH,qC,pv 2]]]]]]]
 erw[wF (Q3 aa ()),x,y,rfl,hx,hy]
 exists 0,0;refine nO (i:=0) hB O rfl hx λv iv=>?_
 exists 0,v,"tuple",tyD (B x),zJ (B x),1,iv.ty,xU _,0;have U:=YQ (hT x hx);have k':∀(v:V) (H':Hp),ig H H'->Is H' (Aet (B x) (B y)) v->Q v H':=k;generalize B x=dx at iv k' U⊢;cases dx with
 |tup xs=>
  refine iR ?_;erw[iv,r,rs,rfl,er,ir]
  exists 0,0,0;refine nO (i:=1) hB O rfl hy λu iu=>?_
  exists (sml rfl),λl hl=>⟨r,l,rs,[u],1,1,SqT.of (qf hl _ _ _ er),SqT.of qg,?_,λe=>?_,λ_ e=>(by cases e),λ_ _ p O=>?_⟩
  .rw[↑ir];have:↑xs<=600:=U;exact small (by show ↑xs+1<=1000;omega)
  .subst e;have e2:xs= []:=Uk ir.length.symm;subst e2;exact k' _ _ (qf hl _) (Is.new (ds:= [B y]) (IsL.one iu) hl)
  .have t1:Tk H (upd H l (-[u])):=(qf hl _).tk;exact k' _ _ ((qf hl _).trans (qf O _)) (Is.new (ds:=xs++ [B y]) ((ir.mono t1).append (IsL.one (iu.mono t1))) O)
 |_=>exact lm (k' _ H (ig.refl _) rfl)
def Sa:#[T,1,a.Xe,a.Wb,["boxes","own","parts"],(zk "join")]:=by
 exists 9,T.lE,Jp
 erw[h,d,t,own,B,ps,n,rfl,hB,hT,ho,aa,hp,k];exists 3,%[#[qE,(3),Jp.nd,#[QE,pv 0,#[qH,qC,pv 2]]],#[qE,(4),Jp.nd,#[QE,pv 0,#[qH,qC,pv 2]]],@qF _ _ _ _ _ _ _ _ #[xl,#[Qi,#[Qb,#[qz,#[qX,2,rfl],T.qR,vb,#v[pv 3,#[yh,.ty "str",T.JO,Ue]]]]],#[jt,#[Qi,#[Qb,#[qz,#[qX,2,rfl],T.qR,vb,#v[pv 4,#[yh,.ty "str",T.JO,Ue]]]]]]].pt %[|#[qo,qO]] qt|#[qo,#[qV,qZ,pv 3,pv 4]]]
 erw[wF (Q3 aa ()),x,y,rfl,hx,hy]
 exists 0,0;refine nO (i:=0) hB hp rfl hx λv iv=>?_
 exists 0,0;refine nO (i:=1) hB hp rfl hy λu iu=>?_;have lx:=YQ (hT x hx);have ly:=YQ (hT y hy);have O:∀(v:V) (H':Hp),ig H H'->Is H' (Ab6 (B x) (B y)) v->Q v H':=k;generalize B x=dx at iv O lx⊢;generalize B y=U at iu O ly⊢
 exists 0,v,"str",tyD dx,isStr dx,1,iv.ty,jJ _,0;cases dx with
 |str z=>
  refine iR ⟨0,u,"str",tyD U,isStr U,1,iu.ty,jJ _,0,?_⟩;cases U with
  |str z2=>
   refine iR ?_;erw[iv,rfl,_];erw[iu,rfl,_];have h1:↑z<=600:=lx;have h2:↑z2<=600:=ly;exact⟨0,0,_,0,1,mW (),O _ H (ig.refl _) ⟨1,by rw[show(z++z2).length=↑z+↑z2 from II z z2];exact mW ()⟩⟩
  |_=>exact lm (O _ H (ig.refl _) rfl)
 |_=>exact lm (O _ H (ig.refl _) (by cases U<;>rfl))
def LW:#[T,1,a.JN,a.Zy,["boxes","own","parts"],(zk "first")]:=by
 exists 9,T.lc,X7
 erw[h,d,t,own,B,ps,n,rfl,hB,hT,ho,aa,hp,k];exists 3,%[#[qE,(3),X7.nd,#[QE,pv 0,#[qH,qC,pv 2]]]|#[qo,#[ya,#[qp,CD,#[qz,JJ,T.Yo,uL,#v[pv 3]],qi,qw _],#[qH,XL,pv 3],qO]]]
 erw[wF (Q3 aa ()),x,y,rfl,hx,hy]
 exists 0,0;refine nO (i:=1) hB hp rfl hy λv U=>?_;have ly:=YQ (hT y hy);have hg:=hT y hy;have O:∀(v:V) (H':Hp),ig H H'->Is H' (E8 (B y)) v->Q v H':=k;generalize B y=dy at U O ly hg⊢;cases dy with
 |str z=>
  erw[U,rfl,hz]
  exists 0,.inl ⟨z,1,hz,_,0,1,0,?_⟩;refine l6 (λc=>?_) (λc=>?_)
  .have h0:1<=↑z:=by have:=um c;omega
   have k2:Is H (E8 (!z)) (.str ⟨#[z.cps.getD 0 0]⟩):=by
    show Is H (if ↑z=0 then D.non else _) _
    rw[A4 ()]
    exact⟨1,small (by show 1<=1000;decide)⟩
   exact[0:.inr (.inr ⟨z,(0),0,1,hz,B7 h0,O _ H (ig.refl _) k2⟩)]
  .have h0:↑z=0:=by
    rcases RD ↑z with e|e
    .exact e
    .exact A8 (ud ()) c
   exact O _ H (ig.refl _) (by show Is H (if ↑z=0 then D.non else _) _;rw[A6 h0];rfl)
 |tup xs=>
  have ac:=U;erw[ac,r,rs,rfl,er,ir]
  exists 0,.inr ⟨r,rs,1,.inr (SqT.of er),λ_=>⟨_,0,1,0,?_⟩⟩;have hl:=↑ir;cases xs with
  |nil=>exact Qt (ug (by rw[hl];decide)) (O _ H (ig.refl _) rfl)
  |cons e es=>
   refine QQ (ud (by rw[hl,ui];omega)) ?_
   exact[0:.inr (.inl (Xw (i:=0) (d:=e) U (qI (j:=0) rfl) λq hq=>O _ H (ig.refl _) hq))]
 |_=>simp[isT,iX] at hg
def ko:∀xs:oj D,xG xs=xs.all isStr
 | []=>rfl
 | .str _::r=>by show xG r=_;rw[ko r];rfl
 | .non::_| .bl _::_| .int _::_| .lst::_| .dct::_| .tup _::_=>rfl
def Bi:∀{xs:oj D},xG xs=v_->xs=(xt xs).map D.str
 | [],_=>rfl
 | .str z::r,h=>by
  show D.str z::r=D.str z::(xt r).map D.str;rw[<-Bi (show xG r=v_ from h)]
def IsL.strs {H:Hp}:∀{l:oj Str}{vs:oj V},L2.IsL H (l.map D.str) vs->vs=l.map V.str
 | [],_,h=>h
 |_::_,_,h=>by
  erw[h,v,r,rfl,h1,h2];rw[IsL.strs h2,h1.1];rfl
def IsL.ofStrs {H:Hp}:∀{l:oj Str},(∀z>l,↑z<=Vk)->L2.IsL H (l.map D.str) (l.map V.str)
 | [],_=>rfl
 |z::l,h=>⟨_,0,[1:h z uf],IsL.ofStrs λy O=>h y (uc _ O)⟩
def Bh:∀(l:oj Str),(l.map (·.length)).sum+↑l=szL (l.map D.str)
 | []=>rfl
 |z::l=>by
  have:=Bh l;simp![uA,UC,ui,szL,sz];omega
def EK (sep:Str):∀(l:oj Str),↑(Vo sep l)<=(l.map (·.length)).sum+↑l*↑sep
 | []=>uS _
 | [x]=>by simp[Vo]
 |x::y::r=>by
  have O:=EK sep (y::r);have e:↑(Vo sep (x::y::r))=↑x+↑sep+↑(Vo sep (y::r)):=by
   show((x.cps++sep.cps)++(Vo sep (y::r)).cps).size=_;rw[Tq,Tq]
   rfl
  rw[e,uA,UC,ui,Nat.succ_mul];omega
def PP:#[T,1,a.Xc,a.Wr,["boxes","own","parts"],(zk "rest")]:=by
 exists 9,T.lC,Zw
 erw[h,d,t,own,B,ps,n,rfl,hB,hT,ho,aa,U,k];exists 3,%[#[qE,(3),Zw.nd,#[QE,pv 0,#[qH,qC,pv 2]]]|#[qo,#[ya,#[qp,CD,#[qz,JJ,T.Yo,uL,#v[pv 3]],qi,qw _],#[xg,Abc,pv 3,#[jN,qi],We],qO]]]
 erw[wF (Q3 aa ()),x,y,rfl,hx,hy]
 exists 0,0;refine nO (i:=1) hB U rfl hy λv iv=>?_;have ly:=YQ (hT y hy);have hg:=hT y hy;have O:∀(v:V) (H':Hp),ig H H'->Is H' (OV (B y)) v->Q v H':=k;generalize B y=dy at iv O ly hg⊢;cases dy with
 |str z=>
  erw[iv,rfl,hz]
  exists 0,.inl ⟨z,1,hz,_,0,1,0,?_⟩;refine l6 (λc=>?_) (λc=>?_)
  .have h0:1<=↑z:=by have:=um c;omega
   have k2:Is H (OV (!z)) (.str (HG z (u_ 1) U_)):=by
    show Is H (if ↑z=0 then D.non else _) _
    rw[A4 ()]
    exact[1:uZ (Rt z _ _) hz]
   exact[0:0:.inl ⟨z,1,hz,O _ H (ig.refl _) k2⟩]
  .have h0:↑z=0:=by
    rcases RD ↑z with e|e
    .exact e
    .exact A8 (ud ()) c
   exact O _ H (ig.refl _) (by show Is H (if ↑z=0 then D.non else _) _;rw[A6 h0];rfl)
 |tup xs=>
  have ac:=iv;erw[ac,r,rs,rfl,er,ir]
  exists 0,.inr ⟨r,rs,1,.inr (SqT.of er),λ_=>⟨_,0,1,0,?_⟩⟩;have hl:=↑ir;cases xs with
  |nil=>exact Qt (ug (by rw[hl];decide)) (O _ H (ig.refl _) rfl)
  |cons e es=>
   refine QQ (ud (by rw[hl,ui];omega)) ?_
   erw[ir,v0,r0,rfl,i0,i1]
   exists 0,0,.inr ⟨r,v0::r0,1,SqT.of er,λh=>?_,λ_ p U=>?_⟩
   .exfalso;have:=h.1;simp[HT.sIx] at this
   .have e1:nj (v0::r0) (u_ 1) U_=r0:=by
     rw[show(u_ (1:Int))=u_ (((1:Nat)):Int) from rfl,zG (by simp)]
     rfl
    rw[e1];exact O _ _ (qf U _) (Is.new i1 U)
 |_=>simp[isT,iX] at hg
def PK:#[T,1,a.XD,a.Wu,["boxes","own","parts"],(zk "size")]:=by
 exists 9,T.lq,nW
 erw[h,d,t,own,B,ps,n,rfl,hB,hT,ho,O,hp,k];exists 3,%[|#[qo,#[qS,QV,T.JO,Ue,#v[#[qz,JJ,T.Yo,uL,#v[#[QE,pv 0,#[qH,qC,pv 2]]]]]]]]
 erw[wF (Q3 O ()),x,y,rfl,hx,U]
 exists 0,0;refine nO (i:=1) hB hp rfl U λv iv=>?_;have ly:=YQ (hT y U);have hg:=hT y U;have k':∀(v:V) (H':Hp),ig H H'->Is H' (.str (Vq ((AbV (B y):Nat):Int))) v->Q v H':=k;generalize B y=dy at iv k' ly hg⊢;have sm:∀n:Nat,n<=600->((n:Int)).natAbs.log2<1920/\↑((Vq (n:Int):Str))<=sizeLine:=by
  intro n hn;have h2:=vS ((n:Int)).natAbs;exact[():int_text_fits ()]
 cases dy with
 |str z=>
  erw[iv,rfl,hz];have h2:=sm ↑z ly;exact .inl ⟨z,1,hz,0,h2.1,k' _ H (ig.refl _) [1:h2.2]⟩
 |tup xs=>
  have aa:=iv;erw[aa,r,rs,rfl,er,ir];have h2:=sm ↑xs ly;refine .inr ⟨r,rs,1,.inr (SqT.of er),λ_=>[0:?_:?_]⟩
  .rw[↑ir];exact h2.1
  .rw[↑ir];exact k' _ H (ig.refl _) [1:h2.2]
 |_=>simp[isT,iX] at hg
def AbL:#[T,1,a.zO,a.kI,["boxes","own","parts"],(zk "cut")]:=by
 exists 9,T.lV,Xp
 erw[h,d,t,own,B,ps,n,rfl,hB,hT,ho,aa,hp,k];exists 3,%[#[qE,(3),Xp.nd,#[QE,pv 0,#[qH,qC,pv 2]]],#[qE,(4),Xp.nd,#[QE,pv 0,#[qH,qC,pv 2]]],@qF _ _ _ _ _ _ _ _ #[xl,#[Qi,#[Qb,#[qz,#[qX,2,rfl],T.qR,vb,#v[pv 3,#[yh,.ty "str",T.JO,Ue]]]]],#[xl,#[Qi,#[Qb,#[qz,#[qX,2,rfl],T.qR,vb,#v[pv 4,#[yh,.ty "str",T.JO,Ue]]]]],#[jt,#[qp,QJ,pv 4,ql,qw _]]]].pt %[|#[qo,qO]] qt|#[qo,#[qS,qU,T.QD,vo,#v[#[j0,uX,Uq,Ur,EB,pv 3,#v[pv 4]]]]]]
 erw[M5 (Q3 aa ()),x0,x,y,rfl,ac,hx,hy]
 exists 0,0;refine nO (i:=1) hB hp rfl hx λv iv=>?_
 exists 0,0;refine nO (i:=2) hB hp rfl hy λu iu=>?_;have lx:=YQ (hT x hx);have ly:=YQ (hT y hy);have U:∀(v:V) (H':Hp),ig H H'->Is H' (AeB (B x) (B y)) v->Q v H':=k;generalize B x=dx at iv U lx⊢;generalize B y=dy at iu U ly⊢
 exists 0,v,"str",tyD dx,isStr dx,1,iv.ty,jJ _,0;cases dx with
 |str z=>
  refine iR ⟨0,u,"str",tyD dy,isStr dy,1,iu.ty,jJ _,0,?_⟩;cases dy with
  |str O=>
   refine iR ?_;erw[iv,rfl,_];erw[iu,rfl,_];have h1:↑z<=600:=lx;have h2:↑O<=600:=ly
   exists 0,1,0;refine l6 (λc=>?_) (λc=>?_)
   .have e:O="":=by have:=um c;injection this
    subst e;exact U _ H (ig.refl _) rfl
   .have h3:↑O≠0:=λh=>c (ud (by
     have:O="":=by
      have h4:O.cps= #[]:=Array.eq_empty_of_size_eq_zero h;cases O;simp only at h4;subst h4
      decide+kernel
     rw[this]))
    exists 0,1,0,z,O,1,1,(),(),λp hp=>[p:0:.inl [SqL.of qg:λl hl=>?_]]
    have s1:ig H (upd H p (.lst ((spG z O).map V.str))):=qf hp _;refine U _ _ (s1.trans (qf hl _)) ?_;show Is _ (if ↑O=0 then D.non else .tup ((spG z O).map D.str)) _
    rw[A4 h3];exact Is.new (IsL.ofStrs λq hq=>small (by have:=ON hq;omega)) hl
  |_=>exact lm (U _ H (ig.refl _) rfl)
 |_=>exact lm (U _ H (ig.refl _) (by cases dy<;>rfl))
def Sc:#[T,1,a.Xk,a.wq,["boxes","own","parts"],(zk "glue")]:=by
 exists 9,T.lI,JZ
 erw[h,d,t,own,B,ps,n,rfl,hB,hT,ho,ae,hp,k];exists 3,%[#[qE,(3),JZ.nd,#[QE,pv 0,#[qH,qC,pv 2]]],#[qE,(4),JZ.nd,#[QE,pv 0,#[qH,qC,pv 2]]],@qF _ _ _ _ _ _ _ _ #[xl,#[Qi,#[Qb,#[qz,#[qX,2,rfl],T.qR,vb,#v[pv 3,#[yh,.ty "tuple",T.QD,vo]]]]],#[jt,#[Qi,#[Qb,#[qz,#[qX,2,rfl],T.qR,vb,#v[pv 4,#[yh,.ty "str",T.JO,Ue]]]]]]].pt %[|#[qo,qO]] qt,#[qF,#[Qi,#[Qb,#[qz,#[zt,1,rfl],T.z_all,Hy,#v[#[zd,["part"],[],SG,#[xI,pv 3],(λ_ _ _ _ _ _=>#[qP,(0),(show Vy (["part"]:oj Str) by decide+kernel)]),(λ_ _ _ _ _ _=>#[qz,#[qX,2,rfl],T.qR,vb,#v[pv 0,#[yh,.ty "str",T.JO,Ue]]])]]]]],%[|#[qo,qO]],qt]|#[qo,#[j0,uX,U9,Ua,L9,pv 4,#v[pv 3]]]]
 erw[M5 (Q3 ae ()),x0,x,y,rfl,ah,hx,hy]
 exists 0,0;refine nO (i:=1) hB hp rfl hx λv iv=>?_
 exists 0,0;refine nO (i:=2) hB hp rfl hy λu iu=>?_;have lx:=YQ (hT x hx);have hg:=hT x hx;have ly:=YQ (hT y hy);have U:∀(v:V) (H':Hp),ig H H'->Is H' (Ab9 (B x) (B y)) v->Q v H':=k;generalize B x=dx at iv U lx hg⊢;generalize B y=dy at iu U ly⊢
 exists 0,v,"tuple",tyD dx,zJ dx,1,iv.ty,xU _,0;cases dx with
 |tup xs=>
  refine iR ⟨0,u,"str",tyD dy,isStr dy,1,iu.ty,jJ _,0,?_⟩;cases dy with
  |str z2=>
   refine iR ?_;erw[iv,r,rs,rfl,er,ir];erw[iu,rfl,_];have h1:↑xs<=600:=lx;have h2:↑z2<=600:=ly
   exists 0,r,rs,1,SqT.of er,λak A0 af=>?_;refine Av (tl:= []) (λd=> .bl (isStr d)) er ir (mW ()) af (λd0 x0 H3 R al s3 i3 q=>⟨0,x0,"str",tyD d0,isStr d0,1,i3.ty,jJ _,q _ H3 (ig.refl _) rfl⟩) λH1 ys s1 l1 i1=>?_
   have ey:ys=(xs.map isStr).map V.bl:=IsL.bls (by rwa[uK])
   subst ey
   exists A0,xs.map isStr,1,SqL.of l1,0;have aa:(xs.map isStr).all id=xG xs:=by rw[ko,UK];rfl
   rw[aa];cases O:xG xs with
   |false=>exact lm (U _ H1 s1 (by show Is H1 (if xG xs=v_ then _ else D.non) _;rw[O];rfl))
   |true=>
    have ac:=Bi O;have ag:rs=(xt xs).map V.str:=IsL.strs (by rwa[<-ac])
    have hsz:=NB hg;have ad:=Bh (xt xs);rw[<-ac] at ad;simp![sz] at hsz;have am:↑(xt xs)*↑z2<=600*600:=Nat.mul_le_mul () h2
    have hj:=EK z2 (xt xs);refine iR ⟨0,1,0,z2,r,xt xs,1,1,SqT.of (by rw[s1 _ _ er,ag]),(),?_⟩
    refine U _ H1 s1 ?_;show Is H1 (if xG xs=v_ then .str (Vo z2 (xt xs)) else D.non) _
    rw[O];exact[1:mW ()]
  |_=>exact lm (U _ H (ig.refl _) rfl)
 |_=>exact lm (U _ H (ig.refl _) (by cases dy<;>rfl))
abbrev NA (w:Str)(B:Str->D)(ps:oj Pt):Bool:=if w="like" then eqD (B (b0 ps)) (B (b1 ps)) else if w="rowed" then zJ (B (b0 ps)) else if w="none" then decide (AbV (B (b0 ps))=0) else v_
abbrev JMP:oj Str:= ["go","like","rowed","none"]
abbrev ASK:oj Str:= ["ask","has","names"]
abbrev flt (w:Str):D:=-[-"fault",!w]
abbrev nK (w:Str)(held:D):D:=if w="names" then(if isStr held=v_ then .tup [-"asks",-[-"names",held]] else flt "kind") else if mG held=v_ then .tup [-"asks",-[.str (if w="ask" then "thing" else "has"),held]] else flt "name"
inductive OB:Sp
 |mk (d t:Addr)(w:Str)(B:Str->D)(ps:List Pt)(n:Nat)(_:vs= [-d,!w,-t])(_:YF H d B)(_:Tr B)(_:w>JMP)(_:Jk n 300 (w,ps))(_:IK H t ps)(_:Q (.bl (NA w B ps)) H)
inductive Lo:Sp
 |mk (w:Str)(v:V)(d:D)(_:vs= [!w,v])(_:w>ASK)(_:Is H d v)(_:∀(u:V)(H':Hp),ig H H'->Is H' (nK w d) u->Q u H')
mutual
theorem EW:∀{d:D},iX d=v_->puD d=v_
 | .str _,_=>rfl
 | .tup xs,h=>by
  simp![iX,uC] at h;show puL xs=v_;exact goodL_pu h.2
 | .non,h| .bl _,h| .int _,h| .lst,h| .dct,h=>by simp[iX] at h
theorem goodL_pu:∀{xs:oj D},goodL xs=v_->puL xs=v_
 | [],_=>rfl
 |x::r,h=>by
  simp![goodL,uC] at h;simp![puL,EW h.1,goodL_pu h.2,Vd]
end
def ST {d:D}(h:iX d=v_):trD d=true:=by
 cases d with
 |str z=>rfl
 |tup xs=>exact EW (d:=¬xs) h
 |_=>simp[iX] at h
def yN {d:D}(h:isT d=v_):iX d=true:=by
 unfold isT at h;rw[uC,uC] at h;exact h.1.1
def sw {d:D}(h:isT d=v_):trD d=true:=ST (yN h)
def PZ:#[T,1,a.JS,a.JP,["boxes","word","parts"],OB]:=by
 exists 9,T.lY,Z9
 erw[h,d,t,w,B,ps,n,rfl,hB,hT,hw,U,hp,k];exists 3,%[#[qF,#[qp,QJ,pv 1,ql,qw _],%[|#[qo,#[Qp,#[BD,1,hr.units],#[QE,pv 0,#[qH,qC,pv 2]],#[QE,pv 0,#[qH,qC,pv 2]]]]],qt],#[qF,#[qp,QJ,pv 1,ql,qw _],%[|#[qo,#[qz,#[qX,2,rfl],T.qR,vb,#v[#[QE,pv 0,#[qH,qC,pv 2]],#[yh,.ty "tuple",T.QD,vo]]]]],qt],#[qF,#[qp,QJ,pv 1,ql,qw _],%[|#[qo,#[Qp,QJ,#[qz,JJ,T.Yo,uL,#v[#[QE,pv 0,#[qH,qC,pv 2]]]],qi]]],qt]|#[qo,Yc]]
 exists 0,1,0;simp![JMP,uD,uH,uM] at hw;rcases hw with rfl|rfl|rfl|rfl
 .refine Qt () ?_
  exists 0,1,0,Qt () ?_
  exists 0,1,0,Qt () ?_
  exact k
 .refine QQ () ?_
  erw[Abf (Q3 U ()),x,y,i,rfl,O,hy,_]
  exists 0,0
  try dsimp![tC]
  refine nO (i:=0) hB hp rfl O λv iv=>?_
  exists 0,0
  try dsimp![tC]
  refine nO (i:=1) hB hp rfl hy λu iu=>?_
  exists B x,B y,iv,iu,sw (hT x O),sw (hT y hy),?_,k
  .have:=Jd (hT x O);omega
 .refine Qt () ?_
  exists 0,1,0,QQ () ?_
  erw[Abe (Q3 U ()),x,i,rfl,O,_]
  exists 0,0;refine nO (i:=0) hB hp rfl O λv iv=>?_;exact⟨v,"tuple",tyD (B x),zJ (B x),1,iv.ty,xU _,k⟩
 .refine Qt () ?_
  exists 0,1,0,Qt () ?_
  exists 0,1,0,QQ () ?_
  erw[Abe (Q3 U ()),x,i,rfl,O,_]
  exists 0,0;refine nO (i:=0) hB hp rfl O λv iv=>?_;have k':Q (.bl (decide (AbV (B x)=0))) H:=k;have hg:=hT x O;generalize B x=dx at iv k' hg⊢;have hn:∀n:Nat,decide (V.int (n:Int)=V.int 0)=decide (n=0):=λn=>by
   rw[vd];constructor
   .intro h;injection h with h;omega
   .rintro rfl;rfl
  cases dx with
  |str z=>
   erw[iv,rfl,hz];refine .inl ⟨z,1,hz,1,?_⟩;rw[hn];exact k'
  |tup xs=>
   erw[iv,r,rs,rfl,er,ir];refine .inr ⟨r,rs,1,.inr (SqT.of er),λ_=>[1:?_]⟩;rw[hn,↑ir];exact k'
  |_=>simp[isT,iX] at hg
def LZ:#[T,2,a.Jf,a.Jb,["word","held"],Lo]:=by
 have QP:=#[Xg,T];exists 9,T.lO,zU
 erw[h,w,v,d,rfl,hw,iv,k];exists 3,%[#[qF,#[qp,QJ,pv 0,ql,qw _],%[|#[qo,#[ya,#[Qb,#[qz,#[qX,2,rfl],T.qR,vb,#v[pv 1,#[yh,.ty "str",T.JO,Ue]]]],#[qD,#v[ql,#[qD,#v[ql,pv 1]]]],#[qD,#v[ql,ql]]]]],qt],#[qF,#[Qi,#[Qb,#[qq,QP,T.iD,#v[pv 1]]]],%[|#[qo,#[qD,#v[ql,ql]]]],qt]|#[qo,#[qD,#v[ql,#[qD,#v[#[ya,#[qp,QJ,pv 0,ql,qw _],ql,ql],pv 1]]]]]]
 have two:(2:Nat)<=sizeLine:=by decide
 have st:∀{H:Hp} (z:Str),↑z<=100->Is H (!z) (!z):=λz hz=>[1:small ()]
 have fl:∀(z:Str) (H:Hp) (l:o3),↑z<=100->H l=U_->Is (upd H l (-[-"fault",!z])) (flt z) (-l):=λz H l hz U=>Is.new (ds:= [-"fault",!z]) ⟨_,0,st _ (),_,0,st _ hz,1⟩ U
 exists 0,1,0;by_cases c:w="names"
 .subst c;refine QQ () ?_
  have ea:nK "names" d=if isStr d=v_ then .tup [-"asks",-[-"names",d]] else flt "kind":=by unfold nK;rw[A6 rfl]
  rw[ea] at k
  exists 0,v,"str",tyD d,isStr d,1,iv.ty,jJ _,0;cases hs:isStr d with
  |true=>
   rw[hs] at k;refine lm [0:two:λl U=>[two:λl2 O=>?_]];have t1:ig H (upd H l (-[-"names",v])):=qf U _;refine k _ _ (t1.trans (qf O _)) ?_;exact Is.new (ds:= [-"asks",-[-"names",d]]) ⟨_,0,st _ (),_,0,Is.new (ds:= [-"names",d]) ⟨_,0,st _ (),_,0,iv,1⟩ U,1⟩ O
  |false=>
   rw[hs] at k;exact iR [two:λl U=>k _ _ (qf U _) (fl "kind" H l () U)]
 .refine Qt (ug λh=>c (by injection h)) ?_
  have ea:nK w d=if mG d=v_ then .tup [-"asks",-[.str (if w="ask" then "thing" else "has"),d]] else flt "name":=by unfold nK;rw[A4 c]
  rw[ea] at k
  exists 0,v,d,1,iv,λH1 s1=>[0:?_];cases hs:mG d with
  |false=>
   rw[hs] at k;exact lm [two:λl U=>k _ _ (s1.trans (qf U _)) (fl "name" H1 l () U)]
  |true=>
   rw[hs] at k;refine iR ⟨0,1,0,?_⟩;have aa:∀z:Str,↑z<=100->z=(if w="ask" then("thing":Str) else "has")->∀l,H1 l=U_->∀l2,(upd H1 l (-[!z,v])) l2=U_->Q (-l2) (upd (upd H1 l (-[!z,v])) l2 (-[-"asks",-l])):=by
    intro z hz ez l U l2 O;have t1:ig H1 (upd H1 l (-[!z,v])):=qf U _;refine k _ _ (s1.trans (t1.trans (qf O _))) ?_;rw[<-ez];exact Is.new (ds:= [-"asks",-[!z,d]]) ⟨_,0,st _ (),_,0,Is.new (ds:= [!z,d]) ⟨_,0,st _ hz,_,0,iv.mono s1.tk,1⟩ U,1⟩ O
   refine l6 (λc2=>?_) (λc2=>?_)
   .have e:w="ask":=by have:=um c2;injection this
    exact⟨0,two,λl U=>⟨two,λl2 O=>aa "thing" () (by rw[A6 e]) l U l2 O⟩⟩
   .have e:w≠"ask":=λe=>c2 (ud (by rw[e]))
    exact⟨0,two,λl U=>⟨two,λl2 O=>aa "has" () (by rw[A4 e]) l U l2 O⟩⟩
end
structure Mc where
 (x db dg:o3)
 rs:oj Rw
 own:Str
structure Rn where
 B:Str->D
 p:Int
 n:Nat
 gs:oj D
 th:D
abbrev MTH:oj Str:= ["now","answer","asked","lines","copy","go_on","is_waiting","do_row","hold"]
structure Fl (fs:oj (Str×V))(rv ru:V)(own:Str)(db dg:o3)(place:Int)(done:Nat)(tv:V):Prop where
 rows:fs.lookup ("rows":Str)=u_ rv
 rule:fs.lookup ("rule":Str)=u_ ru
 own:fs.lookup ("own":Str)=u_ (!own)
 boxes:fs.lookup ("boxes":Str)=u_ (-db)
 place:fs.lookup ("place":Str)=u_ (.int place)
 done:fs.lookup ("done":Str)=u_ (.int (done:Int))
 given:fs.lookup ("given":Str)=u_ (-dg)
 there:fs.lookup ("there":Str)=u_ tv
 meth:∀m>MTH,fs.lookup m=U_
 len:↑fs<=20
def je {f:Str}{v:V}:∀{fs:oj (Str×V)}{u:V},fs.lookup f=u_ u->↑(iJ f v fs)=↑fs
 |(g,x)::r,u,h=>by
  unfold iJ;by_cases c:g=f
  .rw[A6 c];rfl
  .rw[A4 c,ui,ui];have e:(f==g)=false:=by simp;exact λz=>c z.symm
   rw[vk,e] at h;rw[je (u:=u) h]
 | [],u,h=>by simp at h
section
variable {fs:oj (Str×V)}{rv ru:V}{own:Str}{db dg:o3}{place:Int}{done:Nat}{tv:V}
def Fl.set_there {u:V}(h:Fl fs rv ru own db dg place done tv):Fl (iJ "there" (u) fs) rv ru own db dg place done u:=by
 refine⟨?_,?_,?_,?_,?_,?_,?_,?_,λm hm=>?_,by rw[je h.there];exact h.len⟩
 all_goals rw[qJ]
 all_goals first|rw[A6 rfl]|(rw[A4 ()];first|exact h.rows|exact h.rule|exact h.own|exact h.boxes|exact h.place|exact h.done|exact h.given|exact h.there)|(rw[A4 (λe=>by subst e;revert hm;decide+kernel)];exact h.meth m hm)
def Fl.set_place {q:Int}(h:Fl fs rv ru own db dg place done tv):Fl (iJ "place" (.int q) fs) rv ru own db dg q done tv:=by
 refine⟨?_,?_,?_,?_,?_,?_,?_,?_,λm hm=>?_,by rw[je h.place];exact h.len⟩
 all_goals rw[qJ]
 all_goals first|rw[A6 rfl]|(rw[A4 ()];first|exact h.rows|exact h.rule|exact h.own|exact h.boxes|exact h.place|exact h.done|exact h.given|exact h.there)|(rw[A4 (λe=>by subst e;revert hm;decide+kernel)];exact h.meth m hm)
def Fl.set_done {k:Nat}(h:Fl fs rv ru own db dg place done tv):Fl (iJ "done" (.int ((k:Nat):Int)) fs) rv ru own db dg place k tv:=by
 refine⟨?_,?_,?_,?_,?_,?_,?_,?_,λm hm=>?_,by rw[je h.done];exact h.len⟩
 all_goals rw[qJ]
 all_goals first|rw[A6 rfl]|(rw[A4 ()];first|exact h.rows|exact h.rule|exact h.own|exact h.boxes|exact h.place|exact h.done|exact h.given|exact h.there)|(rw[A4 (λe=>by subst e;revert hm;decide+kernel)];exact h.meth m hm)
end
abbrev yC (C:o3)(H:Hp)(m:Mc)(r:Rn):Prop:=
 ∃(dx:o3) (fs:oj (Str×V)) (rv ru tv:V) (gv:oj V),H m.x=u_ (.ins C dx fs)/\Fl fs rv ru m.own m.db m.dg r.p r.n tv/\Is H (.tup (m.rs.map rowD)) rv/\Is H (Yd m.rs) ru/\YF H m.db r.B/\H m.dg=u_ (.lst gv)/\L2.IsL H r.gs gv/\Is H r.th tv
structure Mv (m:Mc)(H H':Hp):Prop where
 kept:∀b o,H b=u_ o->b≠m.x->b≠m.db->b≠m.dg->H' b=u_ o
 tk:Tk H H'
def Mv.refl (m:Mc)(H:Hp):Mv m H H:=[λ_ _ e _ _ _=>e:Tk.refl H]
variable {H H1 H2:Hp}
def Mv.trans {m:Mc}(h:Mv m H H1)(h2:Mv m H1 H2):Mv m H H2:=[λb o e n1 O U=>h2.kept b o (h.kept b o e n1 O U) n1 O U:h.tk.trans h2.tk]
variable {H':Hp}
def Mv.of {m:Mc}(s:ig H H'):Mv m H H':=[λb o e _ _ _=>s b o e:s.tk]
variable {C:o3}
def yC.same {m:Mc}{r:Rn}(h:yC C H m r)(s:ig H H'):yC C H' m r:=
 let⟨dx,fs,rv,ru,tv,gv,e,f,i,j,b,g,gl,t⟩:=h;⟨dx,fs,rv,ru,tv,gv,s _ _ e,f,i.mono s.tk,j.mono s.tk,b.same s,s _ _ g,gl.mono s.tk,t.mono s.tk⟩
variable {dx:o3}
def YF.ne {x db:o3}{fs:oj (Str×V)}{B:Str->D}(e:H x=u_ (.ins C dx fs))(h:YF H db B):db≠x:=λz=>by
 erw[h,f,e2,_];rw[z,e] at e2;cases e2
variable {fs':oj (Str×V)}{rv:V}
def yr {m:Mc}{r:Rn}{fs:oj (Str×V)}{ru tv:V}{O:oj V}(e:H m.x=u_ (.ins C dx fs))(f:Fl fs' rv ru m.own m.db m.dg r.p r.n tv)(i:Is H (.tup (m.rs.map rowD)) rv)(j:Is H (Yd m.rs) ru)(b:YF H m.db r.B)(U:H m.dg=u_ (.lst O))(gl:L2.IsL H r.gs O)(t:Is H r.th tv):
  yC C (upd H m.x (.ins C dx fs')) m r/\Mv m H (upd H m.x (.ins C dx fs')):=by
 have tk:Tk H (upd H m.x (.ins C dx fs')):=Tk.updI e;have n1:m.db≠m.x:=YF.ne e b;have n2:m.dg≠m.x:=λz=>by rw[z,e] at U;cases U
 exact⟨⟨dx,fs',rv,ru,tv,O,qg,f,i.mono tk,j.mono tk,b.move tk (qj n1),by rwa[qj n2],gl.mono tk,t.mono tk⟩,⟨λc o h a1 _ _=>by rwa[qj a1],tk⟩⟩
abbrev Qy:D->Bool
 | .tup (.str w::_)=>decide (w="asks")
 |_=>Vg
abbrev Th (d:D):Prop:=d= .non\/∃w e,d=-[!w,e]
inductive Out where
 |go (B:Str->D)(p:Int)|stop (e:D)
abbrev Out.B (B:Str->D):Out->Str->D
 | .go B' _=>B'
 | .stop _=>B
abbrev Out.P (p:Int):Out->Int
 | .go _ p'=>p'
 | .stop _=>p
abbrev Out.T:Out->D
 | .go _ _=> .non
 | .stop e=>e
abbrev Kj (B:Str->D)(z:Str)(e:D)(p:Int):Out:=match e with
 | .non=> .stop (flt "kind")
 |e=>if isT e=v_ then .go (mn B z e) (p+1) else .stop (flt "big")
inductive Aa4 (C:Addr):Sp
 |mk (m:Mc)(r:Rn)(_:vs= [-m.x])(_:yC C H m r)(_:∀v,Is H r.th v->Q v H)
inductive OM (C:Addr):Sp
 |mk (m:Mc)(r:Rn)(_:vs= [-m.x])(_:yC C H m r)(_:∀v H',ig H H'->Is H' (¬r.gs) v->Q v H')
inductive Oi (C:Addr):Sp
 |mk (m:Mc)(r:Rn)(_:vs= [-m.x])(_:yC C H m r)(_:Th r.th)(_:Q (.bl (Qy r.th)) H)
inductive OD (C:Addr):Sp
 |mk (m:Mc)(r:Rn)(z:Str)(v:V)(e:D)(_:vs= [-m.x,!z,v])(_:yC C H m r)(_:r.th= .non)(_:z>BX)(_:Is H e v)(_:∀H',Mv m H H'->yC C H' m ⟨(Kj r.B z e r.p).B r.B,(Kj r.B z e r.p).P r.p,r.n,r.gs,(Kj r.B z e r.p).T⟩->Q .non H')
section
variable {P:o9}{w:og}{K:o0}{mg:Str->om o6}{base:o8}{a:Ad}{g:Ga}
def oP:#[T,1,a.zi,a.XW,["self"],(Aa4 a.qm)]:=by
 exists 9,T.iG,W5,O
 erw[h,m,r,rfl,[dx,fs,rv,ru,tv,U,e,f,ir,iu,ib,hg,gl,it],k];exists 3,%[|#[qo,#[qN,5,pv 0,rfl]]]
 exact⟨0,m.x,_,dx,fs,tv,1,e,T.qu,T.qL,f.there,k _ it⟩
def Sj:#[T,1,a.Jy,a.JI,["self"],(OM a.qm)]:=by
 exists 9,T.lZ,Z4
 erw[h,m,r,rfl,[dx,fs,rv,ru,tv,U,e,f,ir,iu,ib,hg,gl,it],k];exists 3,%[|#[qo,#[qS,qU,T.QD,vo,#v[#[qN,5,pv 0,rfl]]]]]
 exact⟨0,m.x,_,dx,fs,0,e,T.qu,T.Y1,f.given,m.dg,U,1,.inl [SqL.of hg:λl O=>k _ _ (qf O _) (Is.new gl O)]⟩
def KK:#[T,1,a.YB,a.YC,["self"],(Oi a.qm)]:=by
 exists 9,T.im,Jq
 erw[h,m,[B,p,n,gs,th],rfl,[dx,fs,rv,ru,tv,gv,e,f,ir,iu,ib,hg,gl,it],O,k];simp only at f ib gl it O k;exists 3,%[|#[qo,#[ZL,#[Qp,Xi,#[qN,5,pv 0,rfl],qO],#[zl,#[Qp,QJ,#[qH,XL,#[qN,5,pv 0,rfl]],ql]]]]]
 exists 0,m.x,_,dx,fs,tv,1,e,T.qu,T.qL,f.there,1;rcases O with rfl|⟨w1,e1,rfl⟩
 .cases(show tv= .non from it)
  exact[0:Qt () k]
 .have U:=it;erw[U,t0,us,rfl,et,iu]
  exists 0,QQ (by simp) ⟨0,m.x,_,dx,fs,0,e,T.qu,T.qL,f.there,?_⟩
  refine .inr (.inl (Xw (i:=0) (d:= !w1) it (qI (j:=0) rfl) λq hq=>?_));erw[hq,rfl,_]
  exists 1;have ew:decide (V.str w1=V.str ("asks":Str))=decide (w1="asks"):=by
   rw[vd];exact⟨λh=>by injection h,λh=>by rw[h]⟩
  rw[ew];exact k
def Sb:#[T,3,a.xH,a.xv,["self","box","tree"],(OD a.qm)]:=by
 have yK:=#[jD,T];exists 9,T.mf,Wa
 erw[h,m,[B,p,n,gs,th],z,v,d,rfl,[dx,fs,rv,ru,tv,gv,e,f,ir,iu,ib,hg,gl,it],ac,hz,O,k];simp only at f ib gl it ac k;subst ac;exists 3,%[|#[qF,#[qp,yf,pv 2,qO,qw _],%[|#[Qh,#[qD,#v[ql,ql]]]],%[|#[qF,#[Qi,#[Qb,#[qq,yK,T.lh,#v[pv 2]]]],%[|#[Qh,#[qD,#v[ql,ql]]]],%[#[Js,#[qN,5,pv 0,rfl],pv 1,pv 2]|#[J1,10,pv 0,qi,sA]]]]]]
 have two:(2:Nat)<=sizeLine:=by decide
 have st:∀{H:Hp} (z:Str),↑z<=100->Is H (!z) (!z):=λz hz=>[1:small ()]
 have fl:∀(z:Str) (H:Hp) (l:o3),↑z<=100->H l=U_->Is (upd H l (-[-"fault",!z])) (flt z) (-l):=λz H l hz U=>Is.new (ds:= [-"fault",!z]) ⟨_,0,st _ (),_,0,st _ hz,1⟩ U
 exists 0,1,0;have aa:↑fs<1000:=by have:=f.len;omega
 by_cases c:d= .non
 .subst c;cases(show v= .non from O)
  refine QQ () [two:λl U=>?_]
  have s1:ig H (upd H l (-[-"fault",-"kind"])):=qf U _
  exists 0,m.x,_,dx,fs,1,s1 _ _ e,T.qu,T.qL,aa;erw[yr (r:=⟨B,p,n,gs,flt "kind"⟩) (s1 _ _ e) (f.set_there (u:=-l)) (ir.mono s1.tk) (iu.mono s1.tk) (ib.same s1) (s1 _ _ hg) (gl.mono s1.tk) (fl "kind" H l () U),m1,m2]
  exact k _ ((Mv.of s1).trans m2) m1
 .have hv:v≠ .non:=by
   rintro rfl;cases d with
   |non=>exact c rfl
   |bl b=>cases(show V.non= .bl b from O)
   |int i=>cases(show V.non= .int i from O)
   |str z=>erw[O,h,_];cases h
   |lst=>erw[O,_,_,h,_];cases h
   |dct=>erw[O,_,_,h,_];cases h
   |tup xs=>erw[O,_,_,h,_];cases h
  have eo:Kj B z d p=if isT d=v_ then .go (mn B z d) (p+1) else .stop (flt "big"):=by
   cases d with
   |non=>exact A8 rfl c
   |_=>rfl
  rw[eo] at k;refine Qt (ug hv) ?_
  exists 0,v,d,1,O,λH1 s1=>[0:?_];cases ht:isT d with
  |false=>
   rw[ht] at k;refine lm [two:λl U=>?_];have s2:ig H (upd H1 l (-[-"fault",-"big"])):=s1.trans (qf U _)
   exists 0,m.x,_,dx,fs,1,s2 _ _ e,T.qu,T.qL,aa;erw[yr (r:=⟨B,p,n,gs,flt "big"⟩) (s2 _ _ e) (f.set_there (u:=-l)) (ir.mono s2.tk) (iu.mono s2.tk) (ib.same s2) (s2 _ _ hg) (gl.mono s2.tk) (fl "big" H1 l () U),m1,m2]
   exact k _ ((Mv.of s2).trans m2) m1
  |true=>
   rw[ht] at k;refine iR ?_;have ae:=O.mono s1.tk;erw[(ib.same s1).put hz ae,kvs,ad,af,t2];have n1:m.db≠m.x:=YF.ne e ib;have n3:m.dg≠m.db:=λz=>by
    erw[ib,ff,e2,_];rw[z,e2] at hg;cases hg
   have e1:=s1 _ _ e;have e3:(upd H1 m.db (.dK kvs)) m.x=u_ (.ins a.qm dx fs):=by rwa[qj n1.symm]
   exists 0,0,m.x,_,dx,fs,0,e1,T.qu,T.Qv,f.boxes,0,m.db,0,ad
   exists 0,m.x,_,dx,fs,0,e3,T.qu,T.Qo,f.place,p,(1),1,1,dx,fs,e3,aa;obtain⟨m1,m2⟩:=yr (r:=⟨mn B z d,p+1,n,gs,.non⟩) e3 (f.set_place (q:=p+1)) ((ir.mono s1.tk).mono t2) ((iu.mono s1.tk).mono t2) af (by rw[qj n3];exact s1 _ _ hg) ((gl.mono s1.tk).mono t2) it
   exact k _ ((Mv.of s1).trans (Mv.trans ⟨λb o h _ a2 _=>by rwa[qj a2],t2⟩ m2)) m1
abbrev MKR:oj Str:= ["text","self","copy","row","put","join","first","rest","size","cut","glue"]
abbrev oY (ps:oj Pt):Int:=match ps.getLast? with
 |some (.n i)=>i
 |_=>0
abbrev l9 (own:Str)(r:Rw)(B:Str->D)(p:Int):Out:=
 if r.1>MKR then Kj B (b0 r.2) (made r.1 B own r.2) p else if r.1>ASK then .stop (nK r.1 (B (b1 r.2))) else if r.1="say" then .stop (-[-"said",B (b0 r.2)]) else
 if r.1="fault" then .stop (flt "told") else if NA r.1 B r.2=v_ then .go B (oY r.2) else .go B (p+1)
def Acc:∀x>FRM,x.1>MKR->x.2.head? =u_ .box:=by decide+kernel
def WP:∀x>FRM,x.1>ASK->x.1∉MKR/\x.1>AcD/\x.2= [.box,.box]:=by decide+kernel
def AE:∀x>FRM,x.1="say"->x.2= [.box]:=by decide+kernel
def E2:∀x>FRM,x.1>MKR\/(x.1∉MKR/\x.1>AcD/\(x.1>ASK\/x.1∉ASK/\(x.1="say"\/x.1="fault"\/x.1≠"say"/\x.1≠"fault"/\x.1>JMP))):=by decide+kernel
def SX:∀x>FRM,x.1>JMP->x.2.getLast? =u_ .line:=by decide+kernel
variable {r:Rw}
def AdG {m:Nat}(h:Jk n m r)(U:r.1>MKR):∃z ps,r.2= .s z::ps/\z>BX:=by
 erw[h,ks,hk,O];have:=Acc _ hk U
 match ks,O,this with
 | .box::ks,O,_=>
  match h2:r.2,O with
  | .s z::ps,O=>exact⟨z,ps,1,O.1⟩
  | .n _::_,O=>exact O.1.elim
def W9 {n m:Nat}:∀{ks:oj Kd}{ps:oj Pt},Xt n m ks ps->ks.getLast? =u_ .line->∃qs i,ps=qs++ [.n i]/\1<=i/\i<=(n:Int)
 | [k],[p],h,e=>by
  cases e;cases p with
  |n i=>exact⟨[],i,1,h.1⟩
  |s z=>exact h.1.elim
 |k::k2::ks,p::p2::ps,h,e=>by
  rw[UU] at e;erw[W9 (ks:=k2::ks) (ps:=p2::ps) h.2 e,qs,i,e2,hi];exact⟨p::qs,i,by rw[e2];rfl,hi⟩
 | [k],p::_::_,h,_=>h.2.elim
 |k::_::_,[p],h,_=>h.2.elim
 | [],[],_,e=>by cases e
 | [],_::_,h,_=>h.elim
 |_::_,[],h,_=>h.elim
def BU {m:Nat}(h:Jk n m r)(O:r.1>JMP):∃qs i,r.2=qs++ [.n i]/\1<=i/\i<=(n:Int)/\oY r.2=i:=by
 erw[h,ks,U,hp];erw[W9 hp (SX _ U O),qs,i,e,h1,h2];exists qs,i,e,h1,h2;unfold oY;rw[e,List.getLast?_concat]
inductive Lm (C:Addr):Sp
 |mk (m:Mc)(r:Rn)(rw:Rw)(v:V)(k:Nat)(_:vs= [-m.x,v])(_:yC C H m r)(_:r.th= .non)(_:Tr r.B)(_:↑m.own<=100)(_:Jk k 300 rw)(_:Is H (rowD rw) v)(_:∀H',Mv m H H'->yC C H' m ⟨(l9 m.own rw r.B r.p).B r.B,(l9 m.own rw r.B r.p).P r.p,r.n,r.gs,(l9 m.own rw r.B r.p).T⟩->Q .non H')
variable {x:Str}
def AdF (T:Tx K mg a)(C:Fx K w mg g a)(h:x>MKR):∃f fd,PySem.W.nsIn K g.makers x=u_ (u_ (-f))/\FnOk P w K mg base CX0 1 f fd ["boxes","own","parts"] (zk x)/\Jr K fd ["boxes","own","parts"] []/\PySem.W.keepIn K (-f)=true:=by
 simp![MKR,uD,uH,uM] at h;rcases h with rfl|rfl|rfl|rfl|rfl|rfl|rfl|rfl|rfl|rfl|rfl
 .exact⟨_,_,C.k_text,PH T,T.lp.b,T.lp.F.kp⟩
 .exact⟨_,_,C.k_self,PL T,T.lr.b,T.lr.F.kp⟩
 .exact⟨_,_,C.k_copy,Sf T,T.lJ.b,T.lJ.F.kp⟩
 .exact⟨_,_,C.k_row,AbG T,T.lS.b,T.lS.F.kp⟩
 .exact⟨_,_,C.k_put,AbH T,T.lU.b,T.lU.F.kp⟩
 .exact⟨_,_,C.k_join,Sa T,T.lE.b,T.lE.F.kp⟩
 .exact⟨_,_,C.k_first,LW T,T.lc.b,T.lc.F.kp⟩
 .exact⟨_,_,C.k_rest,PP T,T.lC.b,T.lC.F.kp⟩
 .exact⟨_,_,C.k_size,PK T,T.lq.b,T.lq.F.kp⟩
 .exact⟨_,_,C.k_cut,AbL T,T.lV.b,T.lV.F.kp⟩
 .exact⟨_,_,C.k_glue,Sc T,T.lI.b,T.lI.F.kp⟩
def LY:#[C,4,a.Jg,a.Ji,["self","row"],(Lm a.qm)]:=by
 have WQ:=#[PZ,T];have Z3:=#[LZ,T];have W3:=#[Sb,T];exists 9,T.lP,yY
 erw[h,m,[B,p,n,gs,th],r,v,nn,rfl,M,ag,hT,ho,ae,iv,k];simp only at ag hT k;subst ag;exists 3,%[#[qE,(2),yY.nd,#[qH,qC,pv 1]],#[qE,(3),yY.nd,#[qH,qC,pv 1]]|#[qF,#[qp,AbD,pv 2,#[pe_gR,C.m_MAKERS],#[w]],%[|#[Qa,#[Qj,pv 0,T.qu,T.mf,W3,#v[#[qH,qC,pv 3],#[LC,9,(1),5,⟨1,1,1,1,1⟩,#[qH,7,Aex,#[pe_gR,C.m_MAKERS],pv 2,(λ_ _=>rfl)],hr.mono (),#v[#[qN,5,pv 0,rfl],#[qN,5,pv 0,rfl],pv 3],_,_]]]]],%[|#[qF,#[qp,QS,pv 2,#[pe_gR,C.m_ASKING],#[w]],%[|#[Qh,#[qq,Z3,T.lO,#v[pv 2,#[QE,#[qN,5,pv 0,rfl],#[qH,qC,pv 3]]]]]],%[|#[qF,#[qp,QJ,pv 2,ql,qw _],%[|#[Qh,#[qD,#v[ql,#[QE,#[qN,5,pv 0,rfl],#[qH,qC,pv 3]]]]]],%[|#[qF,#[qp,QJ,pv 2,ql,qw _],%[|#[Qh,#[qD,#v[ql,ql]]]],%[|#[qF,#[Qb,#[qq,WQ,T.lY,#v[#[qN,5,pv 0,rfl],pv 2,pv 3]]],%[|#[Qh,#[qH,7,qC,pv 3,#[Lz,6,Ba,qi],(λ_ _=>rfl)]]],%[|#[J1,10,pv 0,qi,sA]]]]]]]]]]]]
 have two:(2:Nat)<=sizeLine:=by decide
 erw[r,U,ps];erw[iv,t0,us,rfl,et,iu];erw[iu,v1,u1,rfl,[rfl,au],v2,u2,rfl,i2,e2];cases(show u2= [] from e2)
 exists 0,t0,_,(0),0,1,SqT.of et,1
 exists 0,t0,_,(1),0,1,SqT.of et,1;erw[id i2,t1,aw,rfl,ax,ay];have ad:IK H t1 ps:=i2;have am:=ae;erw[am,ks,hk,hp];have hM:=M;erw[hM,dx,fs,rv,ru,tv,gv,e,f,ir,ij,ib,hg,gl,it];simp only at f ib gl it;have af:↑fs<1000:=by have:=f.len;omega
 rcases E2 _ hk with aa|⟨aa,ao,ac⟩
 .erw[AdF (P:=P) (base:=base) T C aa,fa,fd,hn,hF,hb,ap];erw[AdG ae aa,z,qs,rfl,aq];have eo:l9 m.own (U,.s z::qs) B p=Kj B z (made U B m.own (.s z::qs)) p:=by unfold l9;rw[A6 aa];rfl
  rw[eo] at k
  exists 0,U,g.makers,0,1,C.km,hn,0;refine lm ?_
  exists 0,m.x,dx,fs,1,e,f.meth _ (),0
  try dsimp![tC]
  refine IE (i:=0) ad rfl ?_
  exists 0,U,g.makers,_,-fa,1,1,C.km,hn,1,fa,fd,_,zk U,1,hF,hb,ap
  exists 0,m.x,_,dx,fs,0,e,T.qu,T.Qv,f.boxes,0,m.x,_,dx,fs,0,e,T.qu,T.X1,f.own,0
  exists m.db,t1,m.own,B,.s z::qs,nn,1,ib,hT,ho,ae,ad,λv H1 s1 hv=>?_;exact⟨m,⟨B,p,n,gs,.non⟩,z,v,0,M.same s1,1,aq,hv,λH2 m2 M2=>k H2 ((Mv.of s1).trans m2) M2⟩
 .exists 0,U,g.makers,0,1,C.km,C.k_no _ ao,0;refine iR ?_
  exists 0,g.asking,0,.inr (C.asking _),1,1,0;have ei:inV (!U) [-"ask",-"has",-"names"]=decide (U>ASK):=XC (z:=U) (l:=ASK);rw[A4 u8,ei];rcases ac with O|⟨O,ac⟩
  .refine QQ (ud O) ?_;erw[WP _ hk O,_,_,ek];simp only at ek;subst ek;erw[wF hp,z0,z1,rfl,h0,h1];have eo:l9 m.own (U,[.s z0,.s z1]) B p= .stop (nK U (B z1)):=by unfold l9;rw[A4 aa,A6 O];rfl
   rw[eo] at k
   exists 0,0,m.x,_,dx,fs,0,e,T.qu,T.Qv,f.boxes,0
   try dsimp![tC]
   refine nO (i:=1) ib ad rfl h1 λv hv=>?_
   exists U,v,B z1,1,O,hv,λu H1 s1 hu=>?_
   exists 0,m.x,_,dx,fs,1,s1 _ _ e,T.qu,T.qL,af;erw[yr (r:=⟨B,p,n,gs,nK U (B z1)⟩) (s1 _ _ e) (f.set_there (u:=u)) (ir.mono s1.tk) (ij.mono s1.tk) (ib.same s1) (s1 _ _ hg) (gl.mono s1.tk) hu,m1,m2];exact k _ ((Mv.of s1).trans m2) m1
  .refine Qt (ug O) ?_
   exists 0,1,0;have es:∀y:Str,decide (V.str U=V.str y)=decide (U=y):=λy=>by
    rw[vd];exact⟨λh=>by injection h,λh=>by rw[h]⟩
   rcases ac with rfl|rfl|⟨hs,hf,hj⟩
   .refine QQ (ud rfl) ?_;have ek:=AE _ hk rfl;simp only at ek;subst ek;erw[Adq hp,z0,rfl,h0];have eo:l9 m.own ("say",[.s z0]) B p= .stop (-[-"said",B z0]):=by unfold l9;rw[A4 aa,A4 O,A6 rfl];rfl
    rw[eo] at k
    exists 0,m.x,_,dx,fs,0,e,T.qu,T.Qv,f.boxes,0
    try dsimp![tC]
    refine nO (i:=0) ib ad rfl h0 λv hv=>?_
    exists two,λl hl=>?_;have s1:ig H (upd H l (-[-"said",v])):=qf hl _
    exists 0,m.x,_,dx,fs,1,s1 _ _ e,T.qu,T.qL,af;erw[yr (r:=⟨B,p,n,gs,-[-"said",B z0]⟩) (s1 _ _ e) (f.set_there (u:=-l)) (ir.mono s1.tk) (ij.mono s1.tk) (ib.same s1) (s1 _ _ hg) (gl.mono s1.tk) (Is.new (ds:= [-"said",B z0]) ⟨_,0,[1:small ()],_,0,hv,1⟩ hl),m1,m2]
    exact k _ ((Mv.of s1).trans m2) m1
   .have ah:¬(("fault":Str)="say"):=by decide+kernel
    refine Qt (ug λh=>ah (by injection h)) ?_
    exists 0,1,0,QQ (ud rfl) ?_;have eo:l9 m.own ("fault",ps) B p= .stop (flt "told"):=by unfold l9;rw[A4 aa,A4 O,A4 ah,A6 rfl]
    rw[eo] at k
    exists two,λl hl=>?_;have s1:ig H (upd H l (-[-"fault",-"told"])):=qf hl _
    exists 0,m.x,_,dx,fs,1,s1 _ _ e,T.qu,T.qL,af;erw[yr (r:=⟨B,p,n,gs,flt "told"⟩) (s1 _ _ e) (f.set_there (u:=-l)) (ir.mono s1.tk) (ij.mono s1.tk) (ib.same s1) (s1 _ _ hg) (gl.mono s1.tk) (Is.new (ds:= [-"fault",-"told"]) ⟨_,0,[1:small ()],_,0,[1:small ()],1⟩ hl),m1,m2]
    exact k _ ((Mv.of s1).trans m2) m1
   .refine Qt (by rw[es];exact ug hs) ?_
    exists 0,1,0,Qt (by rw[es];exact ug hf) ?_
    have eo:l9 m.own (U,ps) B p=if NA U B ps=v_ then .go B (oY ps) else .go B (p+1):=by unfold l9;rw[A4 aa,A4 O,A4 hs,A4 hf]
    rw[eo] at k;erw[BU ae hj,qs,i,ak,h1,h2,hl];simp only at ak hl
    exists 0,m.x,_,dx,fs,0,e,T.qu,T.Qv,f.boxes,0,0,m.db,t1,U,B,ps,nn,1,ib,hT,hj,ae,ad,0;cases al:NA U B ps with
    |true=>
     rw[al] at k;refine lm ⟨0,(1),1,?_⟩;refine Xw (i:= -1) (d:= .int i) ad (by rw[ak,uq];exact Kr _ _) λq hq=>?_
     cases(show q= .int i from hq)
     exists 0,m.x,_,dx,fs,1,e,T.qu,T.Qo,af;erw[yr (r:=⟨B,i,n,gs,.non⟩) e (f.set_place (q:=i)) ir ij ib hg gl it,m1,m2];refine k _ m2 ?_;show yC _ _ _ ⟨B,oY ps,n,gs,.non⟩;rwa[hl]
    |false=>
     rw[al] at k;refine iR ⟨0,m.x,_,dx,fs,0,e,T.qu,T.Qo,f.place,p,(1),1,1,dx,fs,e,af,?_⟩;erw[yr (r:=⟨B,p+1,n,gs,.non⟩) e (f.set_place (q:=p+1)) ir ij ib hg gl it,m1,m2];exact k _ m2 m1
abbrev Yu (rs:oj Rw)(p:Int):Rw:=rs.getD (p.toNat-1) ("fault",[])
abbrev mo (rs:oj Rw)(own:Str)(gs:oj D):Nat->(Str->D)->Int->Nat->Rn
 |0,B,p,n=>⟨B,p,n,gs,if GT.gt p ↑rs then flt "silent" else flt "long"⟩
 |f+1,B,p,n=>if GT.gt p ↑rs then⟨B,p,n,gs,flt "silent"⟩ else match l9 own (Yu rs p) B p with
  | .go B' p'=>mo rs own gs f B' p' (n+1)
  | .stop e=>⟨B,p,if Qy e=v_ then n else n+1,gs,e⟩
variable {rs:oj Rw}
def DP {p:Int}(h1:1<=p)(h2:p<=↑rs):rs[p.toNat-1]? =u_ (Yu rs p):=by
 unfold Yu;have h:p.toNat-1<↑rs:=by omega
 simp[G6,h]
def KP {p:Int}(h1:1<=p)(h2:p<=↑rs):Yu rs p>rs:=uQ (DP h1 h2)
variable {e:D}
def Ku {B:Str->D}(h:Tr B)(O:isT e=v_):Tr (mn B z e):=λy U=>by
 unfold mn;by_cases c:y=z
 .rwa[A6 c]
 .rw[A4 c];exact h y U
abbrev Aai (n:Int):Out->Prop
 | .go B p=>Tr B/\1<=p/\p<=n+1
 | .stop e=>∃w d,e=-[!w,d]
def Mm {B:Str->D}{p n:Int}(h:Tr B)(h1:1<=p)(h2:p<=n):Aai n (Kj B z e p):=by
 have O:Aai n (if isT e=v_ then .go (mn B z e) (p+1) else .stop (flt "big")):=by
  by_cases c:isT e=v_
  .rw[A6 c];exact[Ku h c:():()]
  .rw[A4 c];exact[_:0]
 cases e with
 |non=>exact[_:0]
 |_=>exact O
def Aaa (w:Str)(d:D):∃u e,nK w d=-[!u,e]:=by
 unfold nK;split
 .split
  .exact[_:0]
  .exact[_:0]
 .split
  .exact[_:0]
  .exact[_:0]
variable {own:Str}
def Ai {B:Str->D}{p:Int}(hr:Jk n 300 r)(h:Tr B)(h1:1<=p)(h2:p<=n):Aai n (l9 own r B p):=by
 unfold l9;by_cases O:r.1>MKR
 .rw[A6 O];exact Mm h h1 h2
 rw[A4 O];by_cases U:r.1>ASK
 .rw[A6 U];exact Aaa _ _
 rw[A4 U];by_cases c3:r.1="say"
 .rw[A6 c3];exact[_:0]
 rw[A4 c3];by_cases c4:r.1="fault"
 .rw[A6 c4];exact[_:0]
 rw[A4 c4];by_cases c5:NA r.1 B r.2=v_
 .rw[A6 c5];erw[id hr,ks,hk,hp];have hj:r.1>JMP:=by
   rcases E2 _ hk with q|⟨_,_,q|⟨_,q|q|q⟩⟩
   .exact A8 q O
   .exact A8 q U
   .exact A8 q c3
   .exact A8 q c4
   .exact q.2.2
  erw[BU hr hj,qs,i,_,a1,a2,a3];exact⟨h,by rwa[a3],by rw[a3];omega⟩
 .rw[A4 c5];exact[h:():()]
inductive OE (C:Addr):Sp
 |mk (m:Mc)(r:Rn)(_:vs= [-m.x])(_:yC C H m r)(_:r.th= .non)(_:Tr r.B)(_:↑m.own<=100)(_:QW m.rs)(_:1<=r.p)(_:r.p<=↑m.rs+1)(_:r.n<=300)(_:∀(H':Hp),Mv m H H'->yC C H' m (mo m.rs m.own r.gs (300-r.n) r.B r.p r.n)->Q .non H')
def Er:#[C,5,a.Jx,a.JH,["self"],(OE a.qm)]:=by
 have Z6:=#[LY,T,C];have qY:=#[KK,T];exists 9,T.iW,Z5
 erw[h,[x,db,dg,rs,own],[B0,p0,n0,gs,th],rfl,M0,ax,ay,ho,hR,aF,aA,aG,k];simp only at ax ay ho hR aF aA aG k;subst ax;exists 3,%[|#[wc,6,uR,#[qp,yf,#[qN,5,pv 0,rfl],qO,qw _],%[|#[qF,#[qp,CD,#[qN,5,pv 0,rfl],#[qz,qT,T.Yo,uL,#v[#[qN,5,pv 0,rfl]]],qw _],%[|#[Qh,#[qD,#v[ql,ql]]]],%[|#[qF,#[qp,QJ,#[qN,5,pv 0,rfl],#[qav,T.m_MOST_DONE],qw _],%[|#[Qh,#[qD,#v[ql,ql]]]],%[#[Qa,#[Qj,pv 0,T.qu,T.lP,Z6,#v[#[qH,7,qC,#[qN,5,pv 0,rfl],#[qV,BC,#[qN,5,pv 0,rfl],qi],(λ_ _=>rfl)]]]]|#[qF,#[Qi,#[Qb,#[QN,pv 0,T.qu,T.im,qY]]],%[|#[J1,10,pv 0,qi,sA]],qt]]]]]]]]
 have two:(2:Nat)<=sizeLine:=by decide
 have n1:=hR.n1;generalize aB:mo rs own gs (300-n0) B0 p0 n0=res at k
 let J1_:Nat->L2.St->Hp->Prop:=λm σ H'=>∃(B:Str->D) (p:Int) (n:Nat) (th:D),σ= [u_ (-x)]/\yC a.qm H' ⟨x,db,dg,rs,own⟩ ⟨B,p,n,gs,th⟩/\Mv ⟨x,db,dg,rs,own⟩ H H'/\Tr B/\1<=p/\p<=↑rs+1/\n<=300/\((th= .non/\mo rs own gs (300-n) B p n=res/\m=301-n)\/((∃u e,th=-[!u,e])/\⟨B,p,n,gs,th⟩=res/\m=0))
 exists J1_,⟨_,B0,p0,n0,.non,1,M0,Mv.refl _ _,ay,(),(),(),.inl [1:aB:1]⟩
 rintro m σ H' ⟨B,p,n,th,rfl,M,mv,hT,ae,am,hn,hc⟩;have hM:=M;erw[hM,dx,fs,rv,ru,tv,gv,e,f,ir,ij,ib,hg,gl,it];simp only at e f ir ij ib hg gl it;have aC:↑fs<1000:=by have:=f.len;omega
 exists 0,x,_,dx,fs,tv,1,e,T.qu,T.qL,f.there,1,0;rcases hc with⟨rfl,aa,rfl⟩|⟨⟨u,d,rfl⟩,aa,rfl⟩
 .cases(show tv= .non from it)
  have ah:∀{H:Hp},Is H .non .non:=rfl;refine QQ () ?_
  exists λσ' H2=>∃(B:Str->D) (p:Int) (n2:Nat) (th:D),σ'= [u_ (-x)]/\yC a.qm H2 ⟨x,db,dg,rs,own⟩ ⟨B,p,n2,gs,th⟩/\Mv ⟨x,db,dg,rs,own⟩ H H2/\Tr B/\1<=p/\p<=↑rs+1/\n2<=300/\((th= .non/\mo rs own gs (300-n2) B p n2=res/\n<n2)\/((∃u e,th=-[!u,e])/\⟨B,p,n2,gs,th⟩=res)),?_,?_
  .rintro σ' H2 ⟨B2,p2,n2,aN,rfl,M2,af,aD,a1,a2,a3,aH⟩;rcases aH with⟨rfl,q1,q2⟩|⟨q0,q1⟩
   .exact⟨301-n2,(),B2,p2,n2,0,M2,af,aD,a1,a2,a3,.inl [1:q1:1]⟩
   .exact⟨(0),(),B2,p2,n2,0,M2,af,aD,a1,a2,a3,.inr [q0:q1:1]⟩
  .have aI:=ir;erw[aI,ta,us,rfl,aJ,iu];have aO:↑us=↑rs:=by rw[↑iu,u9]
   have fl:∀(z:Str) (H:Hp) (l:o3),↑z<=100->H l=U_->Is (upd H l (-[-"fault",!z])) (flt z) (-l):=λz H l hz hl=>Is.new (ds:= [-"fault",!z]) ⟨_,0,[1:small ()],_,0,[1:small ()],1⟩ hl
   have ac:∀(z:Str),↑z<=100->⟨B,p,n,gs,flt z⟩=res->∀l,H' l=U_->(λH2=>∃(B:Str->D) (p:Int) (n2:Nat) (th:D),[u_ (V.ref x)]= [u_ (V.ref x)]/\yC a.qm H2 ⟨x,db,dg,rs,own⟩ ⟨B,p,n2,gs,th⟩/\Mv ⟨x,db,dg,rs,own⟩ H H2/\Tr B/\1<=p/\p<=↑rs+1/\n2<=300/\((th= .non/\mo rs own gs (300-n2) B p n2=res/\n<n2)\/((∃u e,th=-[!u,e])/\⟨B,p,n2,gs,th⟩=res))) (upd (upd H' l (-[-"fault",!z])) x (.ins a.qm dx (iJ "there" (-l) fs))):=by
    intro z hz aK l hl;have s1:ig H' (upd H' l (-[-"fault",!z])):=qf hl _;erw[yr (m:=⟨x,db,dg,rs,own⟩) (r:=⟨B,p,n,gs,flt z⟩) (s1 _ _ e) (f.set_there (u:=-l)) (ir.mono s1.tk) (ij.mono s1.tk) (ib.same s1) (s1 _ _ hg) (gl.mono s1.tk) (fl z H' l hz hl),m1,m2];exact⟨B,p,n,flt z,1,m1,mv.trans ((Mv.of s1).trans m2),hT,ae,am,hn,.inr [[_:0]:aK]⟩
   exists 0,x,_,dx,fs,0,e,T.qu,T.Qo,f.place,0,x,_,dx,fs,0,e,T.qu,T.Yk,f.rows,ta,us,1,.inr (SqT.of aJ),_,0,1,0;refine l6 (λc=>?_) (λc=>?_)
   .have c':GT.gt p ↑rs:=by have:=um c;omega
    have er:⟨B,p,n,gs,flt "silent"⟩=res:=by
     rw[<-aa];cases h3:300-n with
     |zero=>unfold mo;rw[A6 c']
     |succ q=>unfold mo;rw[A6 c']
    exists two,λl hl=>?_;have s1:ig H' (upd H' l (-[-"fault",-"silent"])):=qf hl _;exact⟨0,x,_,dx,fs,1,s1 _ _ e,T.qu,T.qL,aC,ac "silent" () er l hl⟩
   .have c':¬GT.gt p ↑rs:=λh=>c (ud ())
    exists 0,x,_,dx,fs,0,e,T.qu,T.ym,f.done,1,0;refine l6 (λc2=>?_) (λc2=>?_)
    .have e3:n=300:=by have:=um c2;injection this with h;omega
     have er:⟨B,p,n,gs,flt "long"⟩=res:=by
      rw[<-aa,e3];show _=mo rs own gs 0 B p 300;unfold mo;rw[A4 c']
     exists two,λl hl=>?_;have s1:ig H' (upd H' l (-[-"fault",-"long"])):=qf hl _;exact⟨0,x,_,dx,fs,1,s1 _ _ e,T.qu,T.qL,aC,ac "long" () er l hl⟩
    .have e3:n<300:=by
      rcases V7 n 300 with h|h
      .exact h
      .exact A8 (ud (by rw[show n=300 by omega];rfl)) c2
     have ao:p<=↑rs:=by omega
     have aE:=hR.ok _ (KP ae ao);have hok:=Ai (own:=own) aE hT ae ao;have U:res=match l9 own (Yu rs p) B p with
       | .go B' p'=>mo rs own gs (300-(n+1)) B' p' (n+1)
       | .stop e=>⟨B,p,if Qy e=v_ then n else n+1,gs,e⟩:=by
      rw[<-aa,show 300-n=(300-(n+1))+1 by omega,mo,A4 c']
     exists 0,x,dx,fs,1,e,f.meth _ ()
     exists 0,x,_,dx,fs,0,e,T.qu,T.Yk,f.rows,0,x,_,dx,fs,0,e,T.qu,T.Qo,f.place,_,0,1;have aL:atI (rs.map rowD) (p-1)=u_ (rowD (Yu rs p)):=by
      rw[show p-1=((p.toNat-1:Nat):Int) by omega]
      exact qI (by rw[uG,DP ae ao];rfl)
     refine Xw (d:=rowD (Yu rs p)) ir aL λq hq=>?_
     exists ⟨x,db,dg,rs,own⟩,⟨B,p,n,gs,.non⟩,Yu rs p,q,↑rs,1,M,1,hT,ho,aE,hq,λH2 m2 M2=>?_;have aM:=M2;erw[aM,ag,ad,aP,aQ,aR,aS,e2,f2,ap,aq,ak,au,aw,ah];simp only at e2 f2 ap aq ak au aw ah;have al:↑ad<1000:=by have:=f2.len;omega
     have af:=mv.trans m2;generalize hO:l9 own (Yu rs p) B p=O at hok U M2 ah ak f2;cases O with
     |go B' p'=>
      erw[hok,q1,q2,q3]
      exists 0,x,ag,ad,1,e2,f2.meth _ (),_,0,M2,.inl rfl,0
      refine QQ rfl ?_
      exists 0,x,_,ag,ad,0,e2,T.qu,T.ym,f2.done,(n:Int),(1),1,1,ag,ad,e2,al;erw[yr (m:=⟨x,db,dg,rs,own⟩) (r:=⟨B',p',n+1,gs,.non⟩) e2 (f2.set_done (k:=n+1)) ap aq ak au aw ah,m3,m4];exact⟨B',p',n+1,.non,1,m3,af.trans m4,q1,q2,q3,(),.inl [1:U.symm:()]⟩
     |stop d=>
      erw[hok,u,d2,rfl]
      exists 0,x,ag,ad,1,e2,f2.meth _ (),_,0,M2,.inr [_:0],0
      cases hw:Qy (-[!u,d2]) with
      |true=>
       simp![hw] at U;refine Qt (by show(!(Qy) (-[!u,d2]))=Vg;rw[hw];rfl) ?_
       exact⟨B,p,n,0,M2,af,hT,ae,am,hn,.inr [[_:0]:U.symm]⟩
      |false=>
       simp![hw] at U;refine QQ (by show(!(Qy) (-[!u,d2]))=v_;rw[hw];rfl) ?_
       exists 0,x,_,ag,ad,0,e2,T.qu,T.ym,f2.done,(n:Int),(1),1,1,ag,ad,e2,al;erw[yr (m:=⟨x,db,dg,rs,own⟩) (r:=⟨B,p,n+1,gs,-[!u,d2]⟩) e2 (f2.set_done (k:=n+1)) ap aq ak au aw ah,m3,m4];exact⟨B,p,n+1,0,m3,af.trans m4,hT,ae,am,(),.inr [[_:0]:U.symm]⟩
 .have:tv≠ .non:=by erw[it,_,_,h,_];rw[h];exact λz=>by cases z
  refine Qt (ug this) ?_;refine k H' mv ?_;rw[<-aa];exact M
abbrev emp (z:Str):D:=-[!z,-""]
def Nh {H:Hp}:∀{zs:oj Str}{ys:oj V},L2.IsL H (zs.map emp) ys->∃ts:oj o3,ys=ts.map V.ref/\↑ts=↑zs/\∀(i:Nat) (t:o3) (z:Str),ts[i]? =u_ t->zs[i]? =u_ z->H t=u_ (-[!z,-""])
 | [],_,h=>by
  cases(show _= [] from h)
  exact⟨[],1,1,λi t z h=>by simp at h⟩
 |y::zs,_,h=>by
  erw[h,v,r,rfl,[t,us,rfl,O,v1,u1,rfl,[rfl,_],v2,U,rfl,[rfl,_],e2],h2];cases(show U= [] from e2)
  erw[Nh h2,ts,rfl,hl,hi];refine⟨t::ts,1,by rw[ui,hl];rfl,λi q z h1 h3=>?_⟩
  cases i with
  |zero=>
   cases h1;cases h3;exact O
  |succ j=>exact hi j q z (by simpa using h1) (by simpa using h3)
variable {ys:oj V}
def O5 {A:o3}(e:H A=u_ (.lst ys))(h:L2.IsL H (BX.map emp) ys):Cj H A (BX.map λz=>(z,V.str "")):=by
 erw[Nh h,ts,rfl,O,hi];exists ts,e,by rw[O,u9],λi t p h1 h2=>?_
 rw[uG] at h2;cases hz:BX[i]? with
 |none=>rw[hz] at h2;cases h2
 |some z=>
  rw[hz] at h2;cases h2;exact hi i t z h1 hz
abbrev B0:Str->D:=λ_=>-""
variable {q:o3}
def S9 (O:H q=U_):YF (upd H q (.dK (jM (BX.map λz=>(z,V.str ""))))) q B0:=by
 exists λ_=>-"",?_,λz _=>[1:small ()]
 rw[qg];unfold jM kvB;rw[uK]
 rfl
def Aat:Tr B0:=λ_ _=>(by decide+kernel:isT (-"")=v_)
def MI:((BX.map λz=>(z,V.str "")).map (·.1)).Nodup:=by
 rw[uK];show(BX.map id).Nodup;rw[HF]
 decide+kernel
def DU (f:Str)(v:V):∀fs:oj (Str×V),↑(iJ f v fs)<=↑fs+1
 | []=>uj _
 |(g,x)::r=>by
  unfold iJ;by_cases c:g=f
  .rw[A6 c];simp
  .rw[A4 c];have:=DU f v r;simp![ui];omega
abbrev FLD:oj Str:= ["rows","rule","own","boxes","place","done","given","there"]
def SA:∀m>MTH,m∉FLD:=by decide+kernel
variable {v:V}
def NJ {db dg:o3}(O:(iJ "there" .non (iJ "given" (-dg) (iJ "done" (.int 0) (iJ "place" (.int 1) (iJ "boxes" (-db) (iJ "own" (!own) (iJ "rule" v (iJ "rows" rv [])))))))).length<=20):
  Fl (iJ "there" .non (iJ "given" (-dg) (iJ "done" (.int 0) (iJ "place" (.int 1) (iJ "boxes" (-db) (iJ "own" (!own) (iJ "rule" v (iJ "rows" rv [])))))))) rv v own db dg 1 0 .non:=by
 exists ?_,?_,?_,?_,?_,?_,?_,?_,λm hm=>?_,O
 .iterate 7 rw[qJ,A4 ()]
  rw[qJ,A6 rfl]
 .iterate 6 rw[qJ,A4 ()]
  rw[qJ,A6 rfl]
 .iterate 5 rw[qJ,A4 ()]
  rw[qJ,A6 rfl]
 .iterate 4 rw[qJ,A4 ()]
  rw[qJ,A6 rfl]
 .iterate 3 rw[qJ,A4 ()]
  rw[qJ,A6 rfl]
 .iterate 2 rw[qJ,A4 ()]
  rw[qJ,A6 rfl]
  rfl
 .rw[qJ,A4 (),qJ,A6 rfl]
 .rw[qJ,A6 rfl]
 .have h:=SA m hm
  iterate 8 rw[qJ,A4 (λe=>h (by rw[e];decide+kernel))]
  rfl
structure Ini (n:Nat)(H:Hp)(C x dx:o3)(fs:oj (Str×V))(H':Hp):Prop where
 len:↑fs<=n
 at':H' x=u_ (.ins C dx fs)
 kept:∀b o,H b=u_ o->b≠x->H' b=u_ o
def Ini.put {x:o3}{fs:oj (Str×V)}(I:Ini n H C x dx fs H')(f:Str)(v:V):Ini (n+1) H C x dx (iJ f v fs) (upd H' x (.ins C dx (iJ f v fs)))/\Tk H' (upd H' x (.ins C dx (iJ f v fs))):=
 ⟨⟨uZ (DU f v fs) (rh I.len),qg,λb o h n=>by rw[qj n];exact I.kept b o h n⟩,Tk.updI I.at'⟩
def Ini.same {x:o3}{fs:oj (Str×V)}(I:Ini n H C x dx fs H')(s:ig H' H2):Ini n H C x dx fs H2:=[I.len:s _ _ I.at':λb o h n=>s _ _ (I.kept b o h n)]
def Ab0 {K:o0}{b A:o3}{H1:Hp}{te:TE}{tl:L2.St}{Q:VK}(O:∀H,SqT K H b (BX.map V.str))(hA:H1 A=U_)
  (U:∀(z:Str) H (R:VK),↑z<=Vk->ig H1 H->(∀y H',ig H H'->Is H' (emp z) y->R y H')->te (u_ (!z)::tl) H R)
  (hQ:∀H' ys,ig H1 H'->H' A=u_ (.lst ys)->L2.IsL H' (BX.map emp) ys->Q (-A) H'):CQ A (Itt K b) (YR 0) nN te (U_::tl) H1 Q:=by
 have hl:∀H,L2.IsL H (BX.map D.str) (BX.map V.str):=λH=>IsL.ofStrs λz hz=>small (by rw[(NN hz).1];decide)
 refine Aw (ds:=BX.map D.str) (λd=>match d with| .str z=>emp z|d=>d) (small ()) hA (λi H sm hi=>⟨BX.map V.str,(BX.map V.str)[i]'(by simpa using hi),O H,uh _⟩) (λi H x H' d sm hd y=>?_) (λH sm=>⟨BX.map V.str,O H,by simp⟩) (λd x H R hd sm hx r=>?_) (λH' ys sm e h=>hQ H' ys sm e ?_)
 .erw[y,rfl,y];erw[(hl H').get hd,v,e1,e2];have:=y _ (O H');rw[e1] at this;cases this;exact[1:e2]
 .erw[Ae.mp hd,z,_,rfl];erw[hx,rfl,hz];exact U z H R hz sm r
 .rwa[uK] at h
def Ml:∀{d:D},mG d=v_->∃own,d= .str own/\nm own=v_/\↑own<=100
 | .str z,h=>⟨z,1,h,by
  rcases V7 24 ↑z with h1|h1
  .rw[show mG (!z)=nm z from rfl,BJ (λq=>by omega)] at h
   cases h
  .omega⟩
def sT {n:Nat}:∀{ds:oj D},ds.all (λd=>(Qq n d).isSome)=v_->((ds.filterMap (Qq n)).map λr=>D.str (yU r))=ds/\↑(ds.filterMap (Qq n))=↑ds/\∀r>ds.filterMap (Qq n),Jk n 300 r
 | [],_=>⟨1,1,λr h=>by simp at h⟩
 |d::ds,h=>by
  rw[vB,uC] at h;erw[XZ h.1,r,O];erw[sT h.2,i1,i2,i3];cases d with
  |str z=>
   obtain⟨h1,h2⟩:=Bp (show Wh n z=u_ r from O)
   rw[Ug O];exists by rw[uA,h2,i1],by rw[ui,ui,i2],λx U=>?_
   rcases Aa.mp U with rfl|U
   .exact h1
   .exact i3 x U
  |_=>cases O
def Bt:∀{d:D}{rs:oj Rw},QK d=u_ rs->QW rs/\d=Yd rs
 | .tup ds,rs,h=>by
  rw[zE] at h;split at h
  .rename_i O
   cases h;simp![uC,vf] at O;erw[O,[[h1,h2],h3],h4];erw[sT h3,U,i2,i3];have e:Yd (ds.filterMap (Qq ↑ds))=¬ds:=A9 D.tup U;exact⟨⟨(),(),λr hr=>by rw[i2];exact i3 r hr,by rwa[e]⟩,e.symm⟩
  .cases h
inductive KS (C br bn:Addr)(vs:List V)(H:Hp)(Q:VK)(E:XK):Prop
 |mk (x dx:Addr)(v ov:V)(d od:D)(_:vs= [-x,v,ov])(_:H x=u_ (.ins C dx []))(_:Is H d v)(_:Is H od ov)(_:(QK d=U_->∀(e:Addr)(H':Hp),(∀b o,H b=u_ o->b≠x->H' b=u_ o)->E (-e) (u_ br) H'))(_:(QK d≠U_->mG od=Vg->∀(e:Addr)(H':Hp),(∀b o,H b=u_ o->b≠x->H' b=u_ o)->E (-e) (u_ bn) H'))(_:(∀(rs:List Rw)(own:Str),d=Yd rs->QW rs->od= .str own->nm own=v_->↑own<=100->∀(H':Hp)(db dg:Addr),(∀b o,H b=u_ o->b≠x->H' b=u_ o)->H db=U_->H dg=U_->yC C H' ⟨x,db,dg,rs,own⟩ (mo rs own [] 300 B0 1 0)->Q .non H'))
def qad (T:Tx K mg a)(C:Fx K w mg g a):FnOk P w K mg base (CX1 P w) 6 a.jg a.xw ["self","rule","own"] (KS a.qm g.br g.bn):=by
 have QP:=#[Xg,T];have O:=#[PM,T,C];have YK:=#[Er,T,C];refine T.iQ.F.okX wu () (λ_ _ _ _ H _ Q E hr h=>?_)
 erw[h,x,dx,v,ov,d,od,rfl,hx,hv,ho,kR,kN,k];exists 3,%[#[Qh,#[qq,16,O,hr.mono (),_,T.lz.m,T.lz.F.kp,T.lz.b,.nil,Abz,#v[pv 1],_,_,_]],#[qF,#[Qi,#[Qb,#[qq,QP,T.iD,#v[pv 2]]]],%[|#[Kq,22,C.x_BadName,_,C.Wx,ql,_,_]],qt],#[Qh,pv 1],#[Qh,pv 2],#[Qh,#[qS,#[CZ,1,rfl],T.z_dict,boot_dict,#v[#[zd,["box"],[],SG,#[xI,#[pe_gR,C.m_BOXES]],(λ_ _ _ _ _ _=>#[qP,(0),(show Vy (["box"]:oj Str) by decide+kernel)]),(λ_ _ _ _ _ _=>#[qD,#v[pv 0,ql]])]]]],#[Qh,qi],#[Qh,qi],#[Qh,#[Q7,qd]],#[Qh,qO]|#[Qa,#[QN,pv 0,T.qu,T.iW,YK]]]
 exists 0,v,d,1,hv,λrs am rv H1 s1 ir=>?_,λhn e H1 s1=>kR hn e H1 λb o h _=>s1 b o h
 exists 0,x,_,dx,[],1,s1 _ _ hx,T.qu,T.Yk,()
 have I0:Ini 0 H a.qm x dx [] H1:=[uj _:s1 _ _ hx:λb o h _=>s1 _ _ h];erw[I0.put "rows" rv,I1,t1];have aB:=ir.mono t1;have htk:∀{n:Nat}{fs:oj (Str×V)}{H':Hp},Ini n H a.qm x dx fs H'->Tk H H':=λ{n fs H'} I=>⟨λb xs e=>I.kept b _ e (λz=>by rw[z,hx] at e;cases e),λb xs e=>⟨_,I.kept b _ e (λz=>by rw[z,hx] at e;cases e)⟩,λb xs e=>⟨_,I.kept b _ e (λz=>by rw[z,hx] at e;cases e)⟩⟩
 exists 0,ov,od,1,ho.mono (htk I1),λH3 s3=>[0:?_];have I3:=I1.same s3;cases ad:mG od with
 |false=>exact lm ⟨1,λe=>kN (by rw[am];simp) ad e H3 I3.kept⟩
 |true=>
 refine iR ?_;erw[Bt am,hR,rfl];erw[Ml ad,own,rfl,ad,ao];cases(show ov= .str own from ho.1)
 have n1:=hR.n1;have k:=k rs own rfl hR rfl ad ao;have aC:=aB.mono s3.tk
 exists 5
 refine⟨0,0,x,_,dx,0,I3.at',T.qu,T.W4,by have:=I3.len;omega,?_⟩
 erw[I3.put "rule" v,I4,t4];have aD:=aC.mono t4
 exists 5
 refine⟨0,0,x,_,dx,0,I4.at',T.qu,T.X1,by have:=I4.len;omega,?_⟩
 erw[I4.put "own" (!own),I5,t5];have aE:=aD.mono t5
 exists g.boxes,0,C.boxes _,λaP A0 aF=>?_;refine Ab0 (tl:= []) C.boxes aF (λz H6 R hz s6 r=>[0:(sml rfl):λl hl=>r _ _ (qf hl _) (Is.new (ds:= [!z,-""]) ⟨_,0,[1:hz],_,0,[1:small ()],1⟩ hl)]) λH6 ys s6 e6 i6=>?_
 exists A0,0,O5 e6 i6,MI,(),λdb aa=>?_
 have I6:=I5.same s6;have s7:ig H6 (upd H6 db (.dK (jM (BX.map λz=>(z,V.str ""))))):=qf aa _;have I7:=I6.same s7;have b7:=S9 aa;have aG:=(aE.mono s6.tk).mono s7.tk;have nx:∀b o,H b=u_ o->b≠x->b≠db:=λb o h n=>qk (I6.kept b o h n) aa;have U:x≠db:=qk I6.at' aa
 exists 5
 refine⟨0,x,_,dx,0,I7.at',T.qu,T.Qv,by have:=I7.len;omega,?_⟩
 erw[I7.put "boxes" (-db),I8,t8];have b8:=b7.move t8 (qj U.symm);have aH:=aG.mono t8
 exists 5
 refine⟨0,x,_,dx,0,I8.at',T.qu,T.Qo,by have:=I8.len;omega,?_⟩
 erw[I8.put "place" (.int 1),I9,t9];have b9:=b8.move t9 (qj U.symm);have aI:=aH.mono t9
 exists 5
 refine⟨0,x,_,dx,0,I9.at',T.qu,T.ym,by have:=I9.len;omega,?_⟩
 erw[I9.put "done" (.int 0),ae,ap];have aJ:=b9.move ap (qj U.symm);have aq:=aI.mono ap
 exists (sml rfl),λdg af=>?_;have ag:=qf af (.lst []);have ah:=ae.same ag;have aK:=aJ.same ag;have au:=aq.mono ag.tk;have ak:dg≠x:=(qk ae.at' af).symm
 exists 5
 refine⟨0,x,_,dx,0,ah.at',T.qu,T.Y1,by have:=ah.len;omega,?_⟩
 erw[ah.put "given" (-dg),al,aw];have aL:=aK.move aw (qj U.symm);have ax:=au.mono aw
 exists 5
 refine⟨0,x,_,dx,0,al.at',T.qu,T.qL,by have:=al.len;omega,?_⟩
 erw[al.put "there" .non,ac,ay];have aM:=aL.move ay (qj U.symm);have aA:=ax.mono ay;have hl:=ac.len
 exists 0,x,dx,0,ac.at',(NJ ()).meth _ ()
 have aN:Is _ (Yd rs) v:=hv.mono (htk ac);have frs:∀{b:o3}{H2:Hp},(∀c o,H c=u_ o->c≠x->H2 c=u_ o)->H2 b=U_->b≠x->H b=none:=λ{b H2} k1 h1 n1=>by
  cases hc:H b with
  |none=>rfl
  |some o=>rw[k1 b o hc n1] at h1;cases h1
 have aO:∀b o,H b=u_ o->b≠x->b≠dg:=λb o h n=>qk (ae.kept b o h n) af
 exists 5
 refine⟨⟨x,db,dg,rs,own⟩,⟨B0,(1),(0),[],.non⟩,1,⟨dx,_,rv,v,.non,[],ac.at',NJ (),aA,aN,aM,?_,1,1⟩,1,Aat,ao,hR,Int.le_refl 1,by show(1:Int)<=(↑rs:Int)+1;omega,uS _,λH' m M=>k H' db dg (λb o h n=>m.kept b o (ac.kept b o h n) n (nx b o h n) (aO b o h n)) (frs I6.kept aa U.symm) (frs ae.kept af ak) M⟩
 rw[qj ak,qj ak,qg]
abbrev Jj (z:Str):Bool:=z.cps.toList.all QA
def Et {y:Str}(h:Jj z=v_)(k:Jj y=v_):Jj (z++y)=true:=by
 unfold Jj at*;show(z.cps++y.cps).toList.all QA=v_;rw[TW,UP,h,k];rfl
mutual
noncomputable def lw:D->Bool
 | .str z=>Jj z
 | .tup xs=>lwL xs
 |_=>Vg
noncomputable def lwL:oj D->Bool
 | []=>v_
 |x::r=>lw x&&lwL r
end
def Au (z:Str):↑z=↑z.cps.toList:=by show z.cps.size=_;simp
def EN (h:Jj z=v_)(O:↑z<=300):isT (!z)=true:=by
 have U:QB z=true:=by
  unfold QB;rwa[ud O,Tb]
 have e1:sz (!z)<=600:=by simp![sz];omega
 have e2:dp (!z)<=12:=by simp![dp];omega
 have e3:iX (!z)=true:=by simp![iX];exact U
 unfold isT;rw[e3,ud e1,ud e2]
 rfl
abbrev isP:D->Bool
 | .tup xs=>decide (↑xs=2)
 |_=>Vg
abbrev sx:D->Bool
 | .tup [k,d]=>if eqD k (-"made")=v_ then mG d else(eqD k (-"leaf")||eqD k (-"rule"))&&isT d
 |_=>Vg
abbrev okS:D->Bool
 | .tup [k,_]=>No k&&decide (dp k<=60)
 |_=>v_
inductive Ou:Sp
 |mk (v:_)(d:_)(_:vs= [v])(_:Is H d v)(_:Q (.bl (isP d)) H)
inductive Ds:Sp
 |mk (v:_)(d:_)(_:vs= [v])(_:Is H d v)(_:okS d=v_)(_:∀H',ig H H'->Q (.bl (sx d)) H')
inductive OK (K:PySem.W.Frag):Sp
 |mk (q:Addr)(ns:List Int)(k:Int)(_:vs= [-q,.int k])(_:0<=k)(_:SqL K H q (ns.map V.int))(_:∀i:Int,Q (.int i) H)
def lN {b:Bool}{A B:Prop}(O:b=v_)(h:A):if b=v_ then A else B:=by rw[A6 O];exact h
def iU {b:Bool}{A B:Prop}(O:b=Vg)(h:B):if b=v_ then A else B:=by rw[A4 (by rw[O];exact u8)];exact h
def PU:#[T,1,a.f_is_pair,a.d_is_pair,["value"],Ou]:=by
 exists 9,T.nI,Cs
 erw[h,v,d,rfl,U,k];exists 3,%[|#[qo,#[ZL,#[qz,#[qX,2,rfl],T.qR,vb,#v[pv 0,#[yh,.ty "tuple",T.QD,vo]]],#[zl,#[Qp,QJ,#[qz,JJ,T.Yo,uL,#v[pv 0]],qi]]]]]
 exists 0,v,"tuple",tyD d,zJ d,1,U.ty,xU d,0;cases ht:zJ d with
 |false=>
  refine iR ?_;have e:isP d=false:=by cases d<;>first|rfl|simp[zJ] at ht
  rwa[e] at k
 |true=>
  obtain⟨xs,rfl⟩:∃xs,d=¬xs:=by cases d<;>simp[zJ] at ht;exact⟨0⟩
  erw[U,p,us,rfl,hp,O];have lu:=↑O;refine lm [0:.inr ⟨p,us,1,.inr (SqT.of hp),λ_=>[1:?_]⟩];have e:decide (V.int (↑us:Int)=V.int 2)=isP (¬xs):=by
   simp![isP,vd];constructor
   .intro h;have:=V.int.inj h;omega
   .intro h;rw[lu,h]
    rfl
  rwa[<-e] at k
def Ef:#[T,3,a.Wl,a.wP,["value"],Ds]:=by
 have O:=#[PU,T];have QP:=#[Xg,T];have yK:=#[jD,T];exists 9,T.mT,nZ
 erw[h,v,d,rfl,hv,hok,k];exists 3,%[#[qF,#[Qi,#[Qb,#[qq,O,T.nI,#v[pv 0]]]],%[|#[qo,Yc]],qt],#[qF,#[qp,#[AbE,1,hr.units],#[qH,qC,pv 0],ql,qw _],%[|#[qo,#[qq,QP,T.iD,#v[#[qH,qC,pv 0]]]]],qt]|#[qo,#[ZL,#[Qp,8,#[Nk,1,hr.units],#[qH,qC,pv 0],#[qD,#v[ql,ql]],#[w]],#[zl,#[qq,yK,T.lh,#v[#[qH,qC,pv 0]]]]]]]
 exists 0,v,0,hv,0;cases hP:isP d with
 |false=>
  refine lm ?_;have e:sx d=false:=by
   cases d with
   |tup xs=>
    match xs,hP with
    | [],_=>rfl
    | [_],_=>rfl
    | [_,_],h=>simp[isP] at h
    |_::_::_::_,_=>rfl
   |_=>rfl
  have:=k H (ig.refl _);rwa[e] at this
 |true=>
  refine iR ?_;obtain⟨z,e,rfl⟩:∃z e,d=-[z,e]:=by
   cases d with
   |tup xs=>
    match xs,hP with
    | [],h=>simp[isP] at h
    | [_],h=>simp[isP] at h
    | [x,y],_=>exact[x:y:1]
    |_::_::_::_,h=>simp[isP] at h
   |_=>simp[isP] at hP
  erw[id hv,p,us,rfl,hp,x1,r1,rfl,h1,x2,r2,rfl,h2,h3];cases(show r2= [] from h3)
  have U:No z=v_/\dp z<=60:=by simpa [okS] using hok
  exists 0,p,_,_,0,1,SqT.of hp,1,z,"made",h1,1,(),U.1,U.2,0
  cases c:eqD z (-"made") with
  |true=>
   refine lm ⟨0,p,_,_,0,1,SqT.of hp,1,x2,e,1,h2,λH' s'=>?_⟩;have:=k H' s';simp![sx,c,Ve] at this;exact this
  |false=>
   refine iR ⟨0,p,_,_,0,1,SqT.of hp,1,(sml rfl),λq hq=>?_⟩;have s1:ig H (upd H q (-[-"leaf",-"rule"])):=qf hq _
   exists z,q,["leaf","rule"],h1.mono s1.tk,1,.inr (SqT.of qg),(),U.1,U.2,0
   have e2:(["leaf","rule"]:oj Str).any (λy=>eqD z (!y))=(eqD z (-"leaf")||eqD z (-"rule")):=by simp
   rw[e2];cases c2:(eqD z (-"leaf")||eqD z (-"rule")) with
   |true=>
    refine lm ⟨0,p,_,_,0,1,SqT.of (s1 _ _ hp),1,x2,e,1,h2.mono s1.tk,λH' s'=>?_⟩;have:=k H' (s1.trans s');simp![sx,c,c2,Tb,U5,Vc] at this;exact this
   |false=>
    refine iR ?_;have:=k _ s1;simp![sx,c,c2,r_,U5,Vc] at this;exact this
def Sh:#[T,1,a.zc,a.X6,["script","k"],(OK K)]:=by
 exists 9,T.my,WW
 erw[h,q,ns,j,rfl,h0,O,k];exists 3,%[#[qF,#[qp,D5,pv 1,#[qz,qT,T.Yo,uL,#v[pv 0]],qw _],%[|#[qo,#[qH,7,YS,pv 0,pv 1,(λ_ _=>rfl)]]],qt]|#[qo,qi]]
 exists 0,0,q,0,.inl O,_,0,1,0;refine l6 (λc=>?_) (λc=>?_)
 .have c':j<(↑(ns.map V.int):Int):=um c;erw[xf h0 c',v,U];erw[Ae.mp (Zl U),i,_,rfl];exact⟨0,0,q,_,_,0,1,O,U,k _⟩
 .exact k 0
abbrev okN (z:Str):Bool:=(z.cps.toList.map λc=>inS ⟨#[c]⟩ NSG).all id
def xO (h:nm z=v_):1<=↑z/\↑z<=24:=by
 by_cases c:1<=(↑z:Int)/\(↑z:Int)<=24
 .omega
 .rw[BJ c] at h;cases h
abbrev Nms (zs:oj Str):Prop:=(∀z>zs,nm z=v_)/\zs.Nodup
abbrev W0 (d:D):Prop:=(∃k e,d=-[!k,e])/\sx d=v_/\lw d=v_/\sz d<=306
abbrev prD (p:Str×D):D:=-[.str p.1,p.2]
abbrev Ac0 (ps:oj (Str×D)):Prop:=Nms (ps.map (·.1))/\∀p>ps,W0 p.2
def Es (h:okN z=v_):Jj z=true:=by
 unfold Jj;rw[Ul];intro c U;have:=List.all_eq_true.mp h _ (Ae.mpr [c:U:1]);rw[id,SO] at this;have O:∀c>NSG.cps.toList,QA c=true:=by decide+kernel
 exact O c (um this)
def Nr (h:nm z=v_):okN z=true:=by
 have O:=xO h;cases h3:inS ⟨#[z.cps.getD 0 0]⟩ LET with
 |false=>rw[BK h3] at h;cases h
 |true=>
  rw[Ew () () h3] at h
  exact h
def La (h:nm z=v_):W0 (-[-"made",!z]):=by
 have O:=xO h;refine⟨[_:0],?_,?_,by simp![sz,szL];show 1+(("made":Str).length+1+(↑z+1+0))<=306;have:("made":Str).length=4:=rfl;omega⟩
 .show(if eqD (-"made") (-"made")=v_ then nm z else(eqD (-"made") (-"leaf")||eqD (-"made") (-"rule"))&&isT (!z))=v_
  rw[A6 ()]
  exact h
 .have:Jj "made"=true:=by decide+kernel
  simp![lw,lwL,this,Es (Nr h)]
  rfl
def KG {k:Str}{d:D}(O:k="leaf"\/k="rule")(h:isT d=v_)(U:lw d=v_)(hz:sz d<=300):W0 (-[!k,d]):=by
 have aa:↑k=4:=by rcases O with rfl|rfl<;>rfl
 refine⟨[_:0],?_,?_,by simp![sz,szL];omega⟩
 .show(if eqD (!k) (-"made")=v_ then mG d else(eqD (!k) (-"leaf")||eqD (!k) (-"rule"))&&isT d)=v_
  have e1:eqD (!k) (-"made")=false:=by rcases O with rfl|rfl<;>decide+kernel
  have e2:(eqD (!k) (-"leaf")||eqD (!k) (-"rule"))=true:=by rcases O with rfl|rfl<;>decide+kernel
  rw[e1,e2,h]
  rfl
 .have:Jj k=true:=by
   rcases O with rfl|rfl<;>decide+kernel
  simp![lw,lwL,this,U]
  rfl
def Oe {d:D}(h:W0 d):okS d=true:=by
 erw[h,[k,e,rfl],_];simp[okS,No,trD,dp]
def QU (h:↑z<=16000000):Is H (!z) (!z):=[1:mW h]
abbrev qA (ps:oj (Str×D))(z:Str):D:=((ps.find? λp=>decide (p.1=z)).map (·.2)).getD .non
abbrev Zj (vs:oj (Str×V))(z:Str):V:=(iS (jM vs) (Vj z)).getD .non
def XQ (p:Str×V)(r:oj (Str×V)):jM (p::r)=(Vj p.1,p.2)::jM r:=rfl
def qax {H:Hp}{z:Str}:∀{ps:oj (Str×D)}{vs:oj (Str×V)},vs.map (·.1)=ps.map (·.1)->IsL H (ps.map (·.2)) (vs.map (·.2))->z>ps.map (·.1)->iS (jM vs) (Vj z)=u_ (Zj vs z)/\Is H (qA ps z) (Zj vs z)
 | [],_,_,_,h=>nomatch h
 |p::ps,[],e,_,_=>by simp at e
 |p::ps,v::vs,e,hi,hz=>by
  simp![uA,UT] at e;erw[hi,u,r,e2,h1,h2];simp![uA,UT] at e2;erw[e2,rfl,rfl];by_cases c:p.1=z
  .have O:v.1=z:=e.1.trans c;have e3:iS (jM (v::vs)) (Vj z)=u_ v.2:=by
    rw[XQ];exact QY (by rw[O])
   have U:qA (p::ps) z=p.2:=by simp[qA,v9,c]
   unfold Zj;rw[e3,U];exact[1:h1]
  .have O:¬v.1=z:=λq=>c (e.1.symm.trans q);have e3:iS (jM (v::vs)) (Vj z)=iS (jM vs) (Vj z):=by
    rw[XQ];exact QL (λq=>O (Ux q))
   have U:qA (p::ps) z=qA ps z:=by simp[qA,v9,c]
   have aa:z>ps.map (·.1):=by
    rcases Aa.mp hz with h|h
    .exact A8 h.symm c
    .exact h
   have ih:=qax e.2 h2 aa;unfold Zj at*;rw[e3,U];exact ih
def As {z:Str}:∀{vs:oj (Str×V)},z∉vs.map (·.1)->iS (jM vs) (Vj z)=U_
 | [],_=>rfl
 |v::vs,h=>by
  rw[XQ,QL (λq=>h (by rw[<-Ux q];exact uf ..))]
  exact As λm=>h (uc _ m)
def Nc:∀{ps:oj (Str×D)},(ps.map (·.1)).Nodup->(ps.map (·.1)).map (λz=>(z,qA ps z))=ps
 | [],_=>rfl
 |p::ps,h=>by
  have h':=List.nodup_cons.mp h;have O:qA (p::ps) p.1=p.2:=by simp[qA,v9]
  rw[uA,uA,O]
  congr 1
  refine Eq.trans (UH λz hz=>?_) (Nc h'.2);have:¬p.1=z:=λq=>h'.1 (by show p.1>_;rwa[q])
  simp[qA,v9,this]
abbrev Cm (ps:oj (Str×D))(ms:oj Str):oj (Str×D):=ms.map λz=>(z,qA ps z)
def qaf (ps:oj (Str×D))(O:oj Str):(Cm ps O).map (·.1)=O:=by
 unfold Cm;rw[uK];exact(UH λ_ _=>rfl).trans (HF O)
def Be {ps:oj (Str×D)}{O:oj Str}(hn:(ps.map (·.1)).Nodup)(h:O.Perm (ps.map (·.1))):(Cm ps O).Perm ps:=by
 have:=h.map λz=>(z,qA ps z);rwa[Nc hn] at this
abbrev yk (C:o3)(H:Hp)(x:o3)(qs:oj (Str×D)):Prop:=∃(dx d:o3) (o:Obj) (vs:oj (Str×V)),H x=u_ (.ins C dx [("by_name",-d)])/\H d=u_ (.frz o (.dK (jM vs)))/\vs.map (·.1)=qs.map (·.1)/\L2.IsL H (qs.map (·.2)) (vs.map (·.2))
variable {qs:oj (Str×D)}
def yk.same {x:o3}(h:yk C H x qs)(s:ig H H'):yk C H' x qs:=by
 erw[h,dx,d,o,vs,h1,h2,h3,h4];exact⟨dx,d,o,vs,s _ _ h1,s _ _ h2,h3,h4.mono s.tk⟩
abbrev Qn (qs:oj (Str×D)):Prop:=Ac0 qs/\sortedS (qs.map (·.1))=v_/\↑qs<=60
inductive OC (C:Addr):Sp
 |mk (x dx t:Addr)(ps:List (Str×D))(us:List V)(_:vs= [-x,-t])(_:H x=u_ (.ins C dx []))(_:H t=u_ (¬us))(_:L2.IsL H (ps.map prD) us)(_:Ac0 ps)(_:↑ps<=60)(_:∀(qs:List (Str×D))(H':Hp),(∀b o,H b=u_ o->b≠x->H' b=u_ o)->yk C H' x qs->Qn qs->qs.Perm ps->Q .non H')
variable {l:oj Str}
def Nms.perm {m:oj Str}(h:Nms m)(p:l.Perm m):Nms l:=[λz hz=>h.1 z (p.mem_iff.mp hz):(p.nodup_iff).mpr h.2]
def X8 {ps:oj (Str×D)}{d:D}(hn:(ps.map (·.1)).Nodup)(h:(z,d)>ps):qA ps z=d:=by
 induction ps with
 |nil=>cases h
 |cons p r ih=>
  have O:=List.nodup_cons.mp hn;rcases Aa.mp h with h|h
  .subst h;simp[qA,v9]
  .have:¬p.1=z:=λq=>O.1 (by show p.1>_;rw[q];exact Ae.mpr [_:h:1])
   have U:=ih O.2 h
   simpa [qA,v9,this] using U
def S5 {ps:oj (Str×D)}(hn:(ps.map (·.1)).Nodup)(h:z>ps.map (·.1)):(z,qA ps z)>ps:=by
 erw[Ae.mp h,p,O,rfl];rw[X8 hn (show(p.1,p.2)>ps from O)]
 exact O
def ET (vs:oj (Str×V))(z:Str)(v:V):jM (vs++ [(z,v)])=jM vs++ [(Vj z,v)]:=by
 unfold jM;rw[uq]
 rfl
def Ae8 {α β:Type}(f:α->β){l:oj α}(h:i<↑l):(l.map f)[i]? =u_ (f l[i]):=by
 rw[uG,uh h]
 rfl
def IW {α:Type}{l:oj α}(h:i<↑l):l.take (i+1)=l.take i++ [l[i]]:=by
 rw[vn,uh h]
 rfl
def Ep:#[T,4,a.jj,a.xD,["self","sources"],(OC a.qG)]:=by
 have QP:=#[Xg,T];have U:=#[Ef,T];refine T.li.F.ok yF () (λ_ _ _ _ H vs Q E hr h=>?_)
 erw[h,x,dx,t,ps,us,rfl,hx,ht,aq,hok,aM,k];have hs:=uB;exists 3,%[#[qE,2,(2),4,yF.nd,rfl,GH rfl,J7,_,_],#[YO,#[pi_tup,pv 1],#[oE,6,rfl,QM #[qP,(3),yF.nd] (QM #[qP,(4),yF.nd] XE),_,_],%[#[qF,#[Qi,#[Qb,#[qq,QP,T.iD,#v[pv 3]]]],%[|jY],qt],#[qF,#[Qi,#[Qb,#[qq,U,T.mT,#v[pv 4]]]],%[|jY],qt],#[qF,#[WG,#[pc_din,QT hr,pv 3,pv 2]],%[|jY],qt],#[qF,#[qp,QJ,#[qz,IA,T.Yo,uL,#v[pv 2]],#[qav,T.m_MOST_NAMES],qw _],%[|jY],qt]|#[Js,pv 2,pv 3,pv 4]]]|#[Qh,#[qS,#[C0,1,rfl],T.z_dict,boot_dict,#v[#[zd,["name","by_name"],[2],Me (qh Yi) ["self","sources","by_name","name","source"],#[Wm,#[qz,#[sN,1,rfl],T.z_sorted,boot_sorted,#v[pv 2]]],(λ_ _ _ _ _ _=>#[qP,(0),(show Vy (["name","by_name"]:oj Str) by decide+kernel)]),(λ_ _ _ _ _ _=>#[qD,#v[pv 0,#[QE,pv 1,pv 0]]])]]]]]
 intro d hd;have s1:ig H (upd H d (.dK [])):=qf hd _;have aN:d≠x:=λe=>by rw[e,hx] at hd;cases hd
 have au:=↑aq;rw[u9] at au
 exists 5
 refine⟨0,t,1,[_:SqT.of (s1 _ _ ht)],WV (K:=K) (a:=t) (xs:=us) (λi σ H'=>∃(vs:oj (Str×V)) (nv sv:om V),σ= [u_ (-x),u_ (-t),u_ (-d),nv,sv]/\ig H H'/\H' d=u_ (.dK (jM vs))/\vs.map (·.1)=(ps.take i).map (·.1)/\L2.IsL H' ((ps.take i).map (·.2)) (vs.map (·.2)))
  ⟨[],U_,U_,1,s1,qg,1,1⟩ (λi σ H' _ ⟨_,_,_,_,sm,_⟩=>SqT.of (sm _ _ ht)) ?_ ?_⟩
 .rintro i y σ H' hi ⟨vs,nv,sv,rfl,sm,ad,hk,hv⟩;have aO:i<↑us:=(Af.mp hi).1;have aa:i<↑ps:=by omega
  erw[aq.get (Ae8 prD aa),v,e1,e2];rw[hi] at e1;cases e1;have aw:=hok.2 _ (uT aa);have aC:nm ps[i].1=true:=hok.1.1 _ (Ae.mpr [_:uT aa:1]);erw[aw,[sk,sd,aP],aD,aQ];erw[e2,p,ws,rfl,hp,w1,r1,rfl,[rfl,hz],w2,r2,rfl,h2,h3];cases(show r2= [] from h3)
  have aE:=sm _ _ hp
  exists p,0,SqT.of aE,1,_,0,_,0,1
  exists 0,_,.str ps[i].1,1,[1:hz],λH3 s3=>⟨0,iU (by simp[mG,aC]) ?_⟩
  have ax:Is H3 ps[i].2 w2:=h2.mono (sm.trans s3).tk
  exists 0,w2,ps[i].2,1,ax,Oe (hok.2 _ (uT aa)),λH4 s4=>⟨0,iU (by rw[aD];rfl) ?_⟩
  have ag:=s3.trans s4;have ae:=ag _ _ ad;have nk:ps[i].1∉vs.map (·.1):=by
   rw[hk];have ac:=hok.1.2;have e:ps.map (·.1)=(ps.take i).map (·.1)++ps[i].1::(ps.drop (i+1)).map (·.1):=by
    rw[<-uA (f:=λx:Str×D=>x.1),<-uV aa,<-uq,UA]
   rw[e,T4] at ac;exact λm=>ac.2.2 _ m _ (uf ..) rfl
  have ev:=As nk;have aF:↑vs=i:=by
   have:=A9 Gb hk;rw[u9,u9,vG] at this;omega
  exists 0,0,d,0,mQ.k (k:=Vj ps[i].1) ae,0,iU (by rw[ev];rfl) ?_
  exists 0,d,0,ae,1,0,iU (ug λq=>?_) ?_
  .have:=V.int.inj q;unfold jM at this;rw[u9] at this;omega
  .have aG:↑(jM vs)<sizeLine:=by
    unfold jM;rw[u9];omega
   exists 0,0,0,d,0,IN.k (k:=Vj ps[i].1) ae aG;have tk:Tk H4 (upd H4 d (.dK (lR (jM vs) (Vj ps[i].1) w2))):=Tk.updD ae
   exists vs++ [(ps[i].1,w2)],_,0,?_,?_,?_,?_
   .intro b o e;rw[qj (qk e hd)];exact(sm.trans ag) _ _ e
   .rw[qg,Kz _ ev,ET]
   .rw[IW aa,uq,uq,hk]
    rfl
   .rw[IW aa,uq,uq];exact(((hv.mono ag.tk).mono tk)).append (L2.IsL.one ((ax.mono s4.tk).mono tk))
 .rintro σ H1 ⟨vs,nv,sv,rfl,sm,ad,hk,hv⟩;rw[au,U1] at hk hv;have aF:↑vs=↑ps:=by
   have:=A9 Gb hk
   rwa[u9,u9] at this
  have ah:(jM vs).map (·.1)=(ps.map (·.1)).map Sum.inr:=by rw[wR,hk]
  exists 5
  refine⟨0,d,jM vs,ps.map (·.1),1,ad,ah,by rw[u9];omega,λms q O ak hq=>⟨q,1,[_:SqL.of qg],λA0 al=>?_⟩⟩
  have s2:ig H1 (upd H1 q (.lst (ms.map V.str))):=qf hq _;have aR:↑ms=↑ps:=by
   have:=O.length_eq
   rwa[u9] at this
  refine SH (K:=K) (tl:= [u_ (-d)]) (λi ys H'=>∃ts:oj o3,ys=ts.map V.ref/\↑ts=i/\ig H1 H'/\H' A0=u_ (.lst ys)/\∀(j:Nat) (t:o3) (z:Str),ts[j]? =u_ t->ms[j]? =u_ z->H' t=u_ (-[!z,Zj vs z])) qg () al
   ⟨[],1,1,s2.trans (qf al _),qg,λj t z h=>by simp at h⟩ ?_ ?_
  .rintro i z ys H' hz ⟨ts,rfl,af,s3,hA,am⟩ _ _ _ R r;have aH:z>ps.map (·.1):=O.mem_iff.mp (uQ hz);have lk:=qax hk hv aH
   exists 0,0,0,d,Zj vs z,1,?_,(sml rfl),λt2 ao=>?_
   .have:=mQ.k (k:=Vj z) (s3 _ _ ad);rwa[lk.1] at this
   .have s4:=qf ao (-[V.str z,Zj vs z]);have aI:t2≠A0:=λe=>by rw[e,hA] at ao;cases ao
    refine r _ _ (s4 _ _ hA) (s4 _ _ (by assumption)) ⟨ts++ [t2],by rw[uq];rfl,by rw[uI,af];rfl,?_,qg,?_⟩
    .intro b o e;have nb:b≠A0:=qk (s2 _ _ e) al;rw[qj nb];exact s4 _ _ (s3 _ _ e)
    .intro j t z' h1 h2;rcases V7 j i with hj|hj
     .rw[UF ()] at h1
      have:=am j t z' h1 h2;have nb:t≠A0:=λe=>by rw[e,hA] at this;cases this
      rw[qj nb];exact s4 _ _ this
     .have aJ:j=i:=by
       have:=(Af.mp h1).1;rw[uI] at this;have:j<↑ts+1:=this;omega
      subst aJ;rw[hz] at h2;cases h2;rw[UD (),af,Fo] at h1
      cases h1;rw[qj aI];exact qg
  .rintro ys H2 ⟨ts,rfl,af,s3,hA,am⟩ _;have ac:=hok.1.2;have aK:ms.Nodup:=O.nodup_iff.mpr ac;have ay:(ms.map λz=>(z,Zj vs z)).map (·.1)=ms:=by
    rw[uK];exact(UH λ_ _=>rfl).trans (HF ms)
   exists 5
   refine⟨A0,ms.map λz=>(z,Zj vs z),1,⟨ts,hA,by rwa[u9],λj t p h1 h2=>?_⟩,by rwa[ay],by rw[u9];omega,λq2 o ap=>?_⟩
   .rw[uG] at h2;cases h3:ms[j]? with
    |none=>rw[h3] at h2;cases h2
    |some z=>
     rw[h3] at h2;cases h2;exact am j t z h1 h3
   .have s4:=qf ap (.frz o (.dK (jM (ms.map λz=>(z,Zj vs z)))));have aA:H1 x=u_ (.ins a.qG dx []):=sm _ _ hx;have aB:=s4 _ _ (s3 _ _ aA);have nq:q2≠x:=λe=>by rw[e,s3 _ _ aA] at ap;cases ap
    exists 0,x,a.qG,dx,[],1,aB,T.Q4,T.yd,(by show 0<1000;decide)
    refine k (Cm ps ms) _ ?_ ⟨dx,q2,o,ms.map λz=>(z,Zj vs z),qg,by rw[qj nq];exact qg,by rw[ay,qaf],?_⟩ ⟨[?_:?_],by rwa[qaf],by unfold Cm;rw[u9];omega⟩ (Be ac O)
    .intro b ob e nb;rw[qj nb];exact s4 _ _ (s3 _ _ (sm _ _ e))
    .have tk:Tk H1 (upd (upd H2 q2 (.frz o (.dK (jM (ms.map λz=>(z,Zj vs z)))))) x (.ins a.qG dx (iJ "by_name" (-q2) []))):=(s3.trans s4).tk.trans (Tk.updI aB);have aL:∀l:oj Str,(∀z>l,z>ps.map (·.1))->L2.IsL H1 ((Cm ps l).map (·.2)) ((l.map λz=>(z,Zj vs z)).map (·.2)):=by
      intro l
      induction l with
      |nil=>exact λ_=>rfl
      |cons z r ih=>exact λh=>⟨_,0,(qax hk hv (h z (uf ..))).2,ih λy hy=>h y (uc _ hy)⟩
     exact(aL ms λz hz=>O.mem_iff.mp hz).mono tk
    .rw[qaf];exact hok.1.perm O
    .intro p hp;exact hok.2 p ((Be ac O).mem_iff.mp hp)
def E6:VG ("by_name":Str) [(("by_name":Str),v)]=u_ v:=by simp[VG]
def yy:VG ("source_of":Str) [(("by_name":Str),v)]=none:=by
 have:(("source_of":Str)=="by_name")=false:=by decide+kernel
 simp[VG,this]
inductive wU (C:Addr):Sp
 |mk (x:Addr)(z:Str)(qs:List (Str×D))(_:vs= [-x,!z])(_:yk C H x qs)(_:∀v:V,(z>qs.map (·.1)->Is H (qA qs z) v)->(z∉qs.map (·.1)->v= .non)->Q v H)
def Ya:#[T,1,a.YU,a.YI,["self","name"],(wU a.qG)]:=by
 refine T.ii.F.ok xo () (λ_ _ _ _ H vs Q E U h=>?_)
 erw[h,x,z,qs,rfl,[dx,d,o,vs,hx,hd,O,hv],k];exists 3,%[|#[qo,#[qah,7,QT U,#[qN,5,pv 0,rfl],pv 1,⟨1,1,1,1⟩]]]
 exists 0,x,a.qG,dx,_,0,hx,T.Q4,T.yd,E6,d,1,.inl [_:.inr [o:hd]],0,_,.inl ⟨_,Vj z,.inr [o:hd],1,1⟩;refine k _ (λc=>?_) λc=>?_
 .exact(qax O hv c).2
 .rw[As (by rwa[O])]
  rfl
abbrev Cv (zs:oj Str):D:= .tup (zs.map D.str)
abbrev Br (acc:oj Str):oj Str->oj Str
 | []=>acc
 |z::r=>if isT (Cv (acc++ [z]))=v_ then Br (acc++ [z]) r else acc
inductive kJ (K:PySem.W.Frag):Sp
 |mk (L:Addr)(zs:List Str)(_:vs= [-L])(_:H L=u_ (.lst (zs.map V.str)))(_:(∀z>zs,↑z<=100))(_:↑zs<=100)(_:∀(v:V)(H':Hp),ig H H'->Is H' (Cv (Br [] zs)) v->Q v H')
variable {xs:oj V}{Q:VK}
def AeC {K:o0}{a:o3}{x:V}(ha:H a=u_ (¬xs))(O:↑xs+1<=Vk)(k:∀p H',ig H H'->H' p=u_ (.tup (xs++ [x]))->Q (-p) H'):
  [x].length<=Vk/\∀q,H q=U_->DT K (-a) (-q) (upd H q (-[x])) Q:=by
 exists sml rfl,λq U=>?_;have s1:ig H (upd H q (-[x])):=qf U _;exists a,q,xs,[x],1,1,SqT.of (s1 _ _ ha),SqT.of qg,O,λe=>?_,(λ_ e=>by cases e),λ_ _ p hp=>?_
 .refine k q _ s1 ?_;rw[e];exact qg
 .exact k p _ (s1.trans (qf hp _)) qg
variable {zs:oj Str}{p:o3}
def EM (h:H p=u_ (.tup (zs.map V.str)))(hz:∀z>zs,↑z<=100):Is H (Cv zs) (-p):=by
 have O:∀(zs:oj Str),(∀z>zs,↑z<=100)->IsL H (zs.map D.str) (zs.map V.str):=by
  intro zs
  induction zs with
  |nil=>exact λ_=>rfl
  |cons z r U=>
   intro h;exact⟨_,0,⟨1,mW (by have:=h z (uf ..);omega)⟩,U λy hy=>h y (uc _ hy)⟩
 exact⟨p,0,h,O zs hz⟩
def Bq:∀(zs O:oj Str) (z:Str),z>Br O zs->z>O\/z>zs
 | [],O,z,h=> .inl h
 |y::r,O,z,h=>by
  unfold Br at h;split at h
  .rcases Bq r _ z h with h|h
   .rcases Ac.mp h with h|h
    .exact .inl h
    .exact .inr (by rw[Ab.mp h];exact uf ..)
   .exact .inr (uc _ h)
  .exact .inl h
inductive Dy (C:Addr):Sp
 |mk (x t:Addr)(kind text:Str)(qs:List (Str×D))(_:vs= [-x,-t])(_:yk C H x qs)(_:Qn qs)(_:H t=u_ (-[!kind,!text]))(_:↑text<=1000)(_:((kind="has"/\Q (.str (if text>qs.map (·.1) then "yes" else "no")) H)\/(kind="names"/\∀(v:V)(H':Hp),ig H H'->Is H' (Cv (Br [] ((qs.map (·.1)).filter λz=>GF z text))) v->Q v H')))
def AC {vs:oj (Str×V)}(O:vs.map (·.1)=qs.map (·.1))(hi:L2.IsL H (qs.map (·.2)) (vs.map (·.2)))(z:Str):(iS (jM vs) (Vj z)).isSome=decide (z>qs.map (·.1)):=by
 by_cases c:z>qs.map (·.1)
 .rw[(qax O hi c).1,ud c]
  rfl
 .rw[As (by rw[O];exact c),ug c]
  rfl
def CH:#[T,3,a.XJ,a.zm,["names"],(kJ K)]:=by
 have yK:=#[jD,T];exists 9,T.mq,Yl
 erw[h,L,zs,rfl,hL,hz,hn,k];have hs:=uB;exists 3,%[#[qE,(1),Yl.nd,#[qD,qd]],#[YO,#[Wm,pv 0],#[qP,(2),Yl.nd],%[#[qF,#[Qi,#[Qb,#[qq,yK,T.lh,#v[#[qV,Wi,pv 1,#[qD,#v[pv 2]]]]]]],%[|Lx],qt]|#[qE,(1),Yl.nd,#[qV,Wi,pv 1,#[qD,#v[pv 2]]]]]]|#[qo,pv 1]]
 exists (sml rfl),λq hq=>?_;have s1:ig H (upd H q (-[])):=qf hq _
 exists 5
 refine⟨0,L,1,[_:SqL.of (s1 _ _ hL)],Kk (K:=K) (a:=L) (xs:=zs.map V.str) (λi σ H'=>∃(row:oj Str) (p:o3) (kv:om V),σ= [u_ (-L),u_ (-p),kv]/\H' p=u_ (.tup (row.map V.str))/\ig H H'/\Br row (zs.drop i)=Br [] zs/\↑row<=i/\∀z>row,z>zs)
  ⟨[],q,U_,1,qg,s1,1,uj _,λz h=>nomatch h⟩ (λi σ H' _ ⟨_,_,_,_,_,s2,_⟩=>SqL.of (s2 _ _ hL)) ?_ ?_⟩
 .rintro i x σ H' hi ⟨row,p,kv,rfl,hp,s2,O,hl,hm⟩;have U:i<↑zs:=by
   have:=(Af.mp hi).1
   simpa using this
  obtain rfl:x=V.str zs[i]:=by
   rw[uG,uh U] at hi;exact(uJ hi).symm
  have ed:zs.drop i=zs[i]::zs.drop (i+1):=uV U;rw[ed] at O;rw[show Br row (zs[i]::zs.drop (i+1))=if isT (Cv (row++ [zs[i]]))=v_ then Br (row++ [zs[i]]) (zs.drop (i+1)) else row from rfl] at O
  have aa:∀z>row++ [zs[i]],z>zs:=λz h=>by
   rcases Ac.mp h with h|h
   .exact hm z h
   .rw[Ab.mp h];exact uT U
  have hsz:↑(row.map V.str)+1<=sizeLine:=by rw[u9];omega
  have em:row.map V.str++ [V.str zs[i]]=(row++ [zs[i]]).map V.str:=by simp
  exists 0,0,AeC hp hsz λp2 H3 s3 h3=>⟨_,Cv (row++ [zs[i]]),1,EM (by rw[h3,em]) λz h=>hz z (aa z h),λH4 s4=>[0:?_]⟩
  cases hT:isT (Cv (row++ [zs[i]])) with
  |false=>
   rw[A4 (by rw[hT];exact u8)] at O
   refine lm [0:k _ H4 ((s2.trans s3).trans s4) ?_];rw[<-O];exact EM (s4 _ _ (s3 _ _ hp)) λz h=>hz z (hm z h)
  |true=>
   rw[A6 hT] at O;refine iR [0:0:AeC (s4 _ _ (s3 _ _ hp)) hsz λp5 H5 s5 h5=>?_];exact⟨row++ [zs[i]],p5,0,by rw[h5,em],((s2.trans s3).trans s4).trans s5,O,by rw[uI];show ↑row+1<=i+1;omega,aa⟩
 .rintro σ H' ⟨row,p,kv,rfl,hp,s2,O,hl,hm⟩
  exists 0,k _ H' s2 ?_;rw[u9,RK] at O;rw[<-O];exact EM hp λz h=>hz z (hm z h)
def oQ:#[T,4,a.YN,a.Y0,["self","ask"],(Dy a.qG)]:=by
 have U:=#[CH,T];refine T.iK.F.ok xn () (λ_ _ _ _ H vs Q E hr h=>?_)
 erw[h,x,t,kind,text,qs,rfl,[dx,d,o,vs,hx,hd,hk,hv],hT,ht,ad,h];have hs:=uB;exists 3,%[#[qF,#[qp,QJ,#[qH,qC,pv 1],ql,qw _],%[|#[qo,#[ya,#[WG,#[pc_din,QT hr,#[qH,qC,pv 1],#[qN,5,pv 0,rfl]]],ql,ql]]],qt]|#[qo,#[qq,U,T.mq,#v[#[zd,2,["name","ask"],(1),[1],9,Me (qh Q0) ["self","ask"],rfl,#[O8,4,#[qN,5,pv 0,rfl]],(λ_ _ _ _ _ _=>#[qP,(0),(show Vy (["name","ask"]:oj Str) by decide+kernel)]),(λ_ _ _ _ _ _=>#[O7,3,#[Qb,#[Aby,1,K,11,rfl,uX,PySem.F.slot_str_startswith,PySem.F.type_str_startswith,Ez,pv 0,#v[#[qH,#[Ay,1,K,rfl],pv 1]],_,_,_,_,_]]]),(λ_ _ _ _ _ _=>(pv 0)),_]]]]]
 exists 0,t,_,_,0,1,SqT.of ht,1,1,0;rcases h with⟨rfl,k⟩|⟨rfl,k⟩
 .refine lN (ud rfl) ?_
  exists 0,t,_,_,0,1,SqT.of ht,1,0,x,a.qG,dx,_,0,hx,T.Q4,T.yd,E6,d,0,.inl ⟨_,Vj text,.inr [o:hd],1,1⟩,0;rw[AC hk hv];by_cases c:text>qs.map (·.1)
  .rw[A6 c] at k;exact lN (ud c) k
  .rw[A4 c] at k;exact iU (ug c) k
 .refine iU () ?_
  have O:(jM vs).map (·.1)=(qs.map (·.1)).map Sum.inr:=by rw[wR,hk]
  exists 0,x,a.qG,dx,_,0,hx,T.Q4,T.yd,E6,d,o,0,hd,λA0 aa=>?_;refine SJ (tl:= [u_ (-t)]) (λz=>GF z text) V.str hd O (by rw[u9];have:=hT.2.2;omega) aa (λz H1 R hz s1 r=>?_) (λz H1 R hz s1 r=>[0:r]) λH1 s1 h1=>?_
  .exact⟨0,1,0,t,_,_,0,1,SqT.of (s1 _ _ ht),1,z,text,1,1,0,r⟩
  .exists A0,0,h1,λz hz=>?_,?_,λv H2 s2 ac=>k v H2 (s1.trans s2) ac
   .have:=xO (hT.1.1.1 z (List.mem_filter.mp hz).1);omega
   .have:=tT (λz=>GF z text) (qs.map (·.1));rw[u9] at this;have:=hT.2.2;omega
abbrev yL:D->Bool
 | .non=>v_
 |_=>Vg
abbrev xk:D->D
 | .tup [_,d]=>d
 |d=>d
abbrev XY (d:D):Prop:=d= .non\/isT d=v_
abbrev Gd (d:D):Prop:=iX d=v_/\dp d<=20
def Acb:∀z>(["kind","big","told","silent","long","name"]:oj Str),iX (flt z)=true:=by decide+kernel
def NG (h:z>(["kind","big","told","silent","long","name"]:oj Str)):Gd (flt z):=⟨Acb z h,by show dp (-[-"fault",!z])<=20;simp[dp,dpL]⟩
def Aca {u:Str}{d:D}(O:QB u=v_)(h:isT d=v_):Gd (-[!u,d]):=by
 have U:=yN h;have hd:=Jd h;exists ?_,?_
 .simp![iX,goodL,O,U,U7]
  rfl
 .simp![dp,dpL];omega
def BW {u w:Str}{d:D}(O:QB u=v_)(U:QB w=v_)(h:isT d=v_):Gd (-[!u,-[!w,d]]):=by
 have hg:=yN h;have hd:=Jd h;exists ?_,?_
 .simp![iX,goodL,O,U,hg,U7]
  rfl
 .simp![dp,dpL];omega
def OU {B:Str->D}{p:Int}(hr:Jk n 300 r)(h:Tr B)(O:l9 own r B p= .stop e):Gd e:=by
 unfold l9 at O;erw[id hr,ks,hk,hp];erw[r,U,ps];by_cases c1:U>MKR
 .rw[A6 c1] at O;simp only at O;generalize made U B own ps=dm at O;have aa:(if isT dm=v_ then Out.go (mn B (b0 ps) dm) (p+1) else .stop (flt "big"))= .stop e->Gd e:=by
   intro hq;by_cases c:isT dm=v_
   .rw[A6 c] at hq;cases hq
   .rw[A4 c] at hq;cases hq;exact NG ()
  cases dm with
  |non=>cases O;exact NG ()
  |_=>exact aa O
 rw[A4 c1] at O;by_cases c2:U>ASK
 .rw[A6 c2] at O;cases O;erw[WP _ hk c2,_,_,ek];simp only at ek;subst ek;erw[wF hp,z0,z1,rfl,h0,h1];have hT:=h z1 h1;show Gd (nK U (B z1));unfold nK;by_cases d1:U="names"
  .rw[A6 d1];by_cases d2:isStr (B z1)=v_
   .rw[A6 d2];exact BW () () hT
   .rw[A4 d2];exact NG ()
  .rw[A4 d1];by_cases d2:mG (B z1)=v_
   .rw[A6 d2];refine BW () ?_ hT
    split<;>decide+kernel
   .rw[A4 d2];exact NG ()
 rw[A4 c2] at O;by_cases c3:U="say"
 .rw[A6 c3] at O;cases O;subst c3;have ek:=AE _ hk rfl;simp only at ek;subst ek;erw[Adq hp,z0,rfl,h0];exact Aca () (h z0 h0)
 rw[A4 c3] at O;by_cases c4:U="fault"
 .rw[A6 c4] at O;cases O;exact NG ()
 rw[A4 c4] at O;by_cases c5:NA U B ps=v_
 .rw[A6 c5] at O;cases O
 .rw[A4 c5] at O;cases O
abbrev l7 (rs:oj Rw)(own:Str)(r:Rn)(a:D):Rn:=if yL a=v_ then⟨r.B,r.p,r.n+1,r.gs++ [-[xk r.th,a]],flt "lack"⟩ else mo rs own (r.gs++ [-[xk r.th,a]]) (300-(r.n+1)) (mn r.B (b0 (Yu rs r.p).2) a) (r.p+1) (r.n+1)
structure C6 (rs:oj Rw)(r:Rn):Prop where
 tr:Tr r.B
 p1:1<=r.p
 p2:r.p<=↑rs+1
 n:r.n<=300
 gd:Gd r.th
 two:∃w e,r.th=-[!w,e]
 gs:nL r.gs=v_/\dpL r.gs<=30/\↑r.gs<=r.n
 ask:Qy r.th=v_->r.p<=↑rs/\(Yu rs r.p).1>ASK/\r.n<300/\∃(u:Str) (d:D),r.th= .tup [-"asks",-[!u,d]]/\u>(["thing","has","names"]:oj Str)/\isT d=v_
mutual
theorem ZK:∀{d:D},iX d=v_->nD d=v_
 | .str _,_=>rfl
 | .tup xs,h=>by
  simp![iX,uC] at h;simp![nD];exact goodL_n h.2
 | .non,h=>by simp[iX] at h
 | .bl _,h=>by simp[iX] at h
 | .int _,h=>by simp[iX] at h
 | .lst,h=>by simp[iX] at h
 | .dct,h=>by simp[iX] at h
theorem goodL_n:∀{ds:oj D},goodL ds=v_->nL ds=v_
 | [],_=>rfl
 |d::ds,h=>by
  simp![goodL,uC] at h;simp![nL];rw[ZK h.1,goodL_n h.2]
  rfl
end
def BL:∀{xs ys:oj D},nL xs=v_->nL ys=v_->nL (xs++ys)=v_
 | [],_,_,h=>h
 |x::xs,ys,h,h2=>by
  simp![nL,uC] at h;simp![U0,nL];rw[h.1,BL h.2 h2]
  rfl
def AJ (n:Nat){xs ys:oj D}(h:dpL xs<=n)(h2:dpL ys<=n):dpL (xs++ys)<=n:=by
 rw[wz] at h h2⊢;intro x O;rcases Ac.mp O with O|O
 .exact h x O
 .exact h2 x O
def Lv {B:Str->D}{p:Int}(hr:Jk n 300 r)(h:Tr B)(O:l9 own r B p= .stop e)(U:Qy e=v_):r.1>ASK/\∃(u:Str) (d:D),e= .tup [-"asks",-[!u,d]]/\u>(["thing","has","names"]:oj Str)/\isT d=true:=by
 unfold l9 at O;erw[id hr,ks,hk,hp];erw[r,r1,ps];by_cases c1:r1>MKR
 .rw[A6 c1] at O;simp only at O;generalize made r1 B own ps=dm at O;have aa:(if isT dm=v_ then Out.go (mn B (b0 ps) dm) (p+1) else .stop (flt "big"))= .stop e->False:=by
   intro hq;by_cases c:isT dm=v_
   .rw[A6 c] at hq;cases hq
   .rw[A4 c] at hq;cases hq;exact A8 U ()
  cases dm with
  |non=>cases O;exact A8 U ()
  |_=>exact(aa O).elim
 rw[A4 c1] at O;by_cases c2:r1>ASK
 .rw[A6 c2] at O;cases O;exists c2;erw[WP _ hk c2,_,_,ek];simp only at ek;subst ek;erw[wF hp,z0,z1,rfl,h0,h1];have hT:=h z1 h1;have U:Qy (nK r1 (B z1))=true:=U;show∃u d,nK r1 (B z1)=_/\_;unfold nK at U⊢;by_cases d1:r1="names"
  .rw[A6 d1] at U⊢;by_cases d2:isStr (B z1)=v_
   .rw[A6 d2];exact⟨_,0,(),hT⟩
   .rw[A4 d2] at U;exact A8 U ()
  .rw[A4 d1] at U⊢;by_cases d2:mG (B z1)=v_
   .rw[A6 d2];exact⟨_,0,by split<;>decide+kernel,hT⟩
   .rw[A4 d2] at U;exact A8 U ()
 rw[A4 c2] at O;by_cases c3:r1="say"
 .rw[A6 c3] at O;cases O;exact A8 U (by simp![Qy];exact λh=>A8 (um h) ())
 rw[A4 c3] at O;by_cases c4:r1="fault"
 .rw[A6 c4] at O;cases O;exact A8 U ()
 rw[A4 c4] at O;by_cases c5:NA r1 B ps=v_
 .rw[A6 c5] at O;cases O
 .rw[A4 c5] at O;cases O
def Ah {rs:oj Rw}{own:Str}(hR:QW rs):∀(f:Nat) (B:Str->D) (p:Int) (n:Nat) (gs:oj D),f+n=300->Tr B->1<=p->p<=↑rs+1->nL gs=v_/\dpL gs<=30/\↑gs<=n->C6 rs (mo rs own gs f B p n)
 |0,B,p,n,gs,hf,hT,h1,h2,hg=>by
  have U:Qy (if GT.gt p ↑rs then flt "silent" else flt "long")=false:=by split<;>decide+kernel
  refine⟨hT,h1,h2,by show n<=300;omega,?_,?_,hg,λh=>A8 (U.symm.trans h) ()⟩
  .show Gd (if GT.gt p ↑rs then flt "silent" else flt "long")
   split
   .exact NG ()
   .exact NG ()
  .show∃w e,(if GT.gt p ↑rs then flt "silent" else flt "long")=_
   split
   .exact[_:0]
   .exact[_:0]
 |f+1,B,p,n,gs,hf,hT,h1,h2,hg=>by
  unfold mo;by_cases c:GT.gt p ↑rs
  .rw[A6 c];exact⟨hT,h1,h2,by show n<=300;omega,NG (),[_:0],hg,λh=>A8 h (show¬Qy (flt "silent")=v_ by decide+kernel)⟩
  .rw[A4 c];have O:=hR.ok _ (KP h1 ())
   have hok:=Ai (own:=own) O hT h1 ()
   cases hO:l9 own (Yu rs p) B p with
   |go B' p'=>
    rw[hO] at hok;exact Ah hR f B' p' (n+1) gs () hok.1 hok.2.1 hok.2.2 ⟨hg.1,hg.2.1,by have:=hg.2.2;omega⟩
   |stop e=>
    rw[hO] at hok;simp only;exists hT,h1,h2,?_,OU O hT hO,hok,[hg.1:hg.2.1:?_],λU=>?_
    .show(if Qy e=v_ then n else n+1)<=300
     split<;>omega
    .show ↑gs<=(if Qy e=v_ then n else n+1)
     have:=hg.2.2;split<;>omega
    .erw[Lv O hT hO U,a1,u,d,a2,a3,a4];refine⟨by show p<=↑rs;omega,a1,?_,u,d,a2,a3,a4⟩
     show(if Qy e=v_ then n else n+1)<300
     rw[A6 (show Qy e=v_ from U)]
     omega
def AR (hR:QW rs){r:Rn}{a:D}(h:C6 rs r)(hw:Qy r.th=v_)(ha:XY a):C6 rs (l7 rs own r a):=by
 erw[h.ask hw,k1,k2,k3,u,d,e,k4,k5];have O:nD a=v_/\dp a<=12:=by
  rcases ha with rfl|ha
  .exact⟨1,by simp[dp]⟩
  .exact[ZK (yN ha):Jd ha]
 have aa:=Jd k5;have U:nL (r.gs++ [D.tup [xk r.th,a]])=v_/\dpL (r.gs++ [D.tup [xk r.th,a]])<=30/\↑(r.gs++ [D.tup [xk r.th,a]])<=r.n+1:=by
  rw[e];show nL (r.gs++ [-[-[!u,d],a]])=v_/\_;exists BL h.gs.1 ?_,AJ 30 h.gs.2.1 ?_,?_
  .simp![nL,nD,ZK (yN k5),O.1,U7]
  .show dpL [-[-[!u,d],a]]<=30;simp![dpL,dp];have:=O.2;omega
  .rw[uI];have:=h.gs.2.2;show ↑r.gs+1<=r.n+1;omega
 unfold l7;cases hn:yL a with
 |true=>
  rw[A6 rfl];exact⟨h.tr,h.p1,h.p2,by show r.n+1<=300;omega,⟨(by decide+kernel:iX (flt "lack")=v_),by show dp (-[-"fault",-"lack"])<=20;simp[dp,dpL]⟩,[_:0],U,λh=>A8 h (show¬Qy (flt "lack")=v_ by decide+kernel)⟩
 |false=>
  rw[A4 u8];have hT:isT a=true:=by
   rcases ha with rfl|ha
   .cases hn
   .exact ha
  refine Ah hR _ _ _ _ _ () (Ku h.tr hT) (by have:=h.p1;omega) () U
def jQ {d:D}{u:V}(O:Is H d u)(U:d≠ .non):u≠ .non:=by
 rintro rfl;cases d with
 |non=>exact U rfl
 |bl b=>cases(show V.non= .bl b from O)
 |int i=>cases(show V.non= .int i from O)
 |str z=>erw[O,h,_];cases h
 |lst=>erw[O,_,_,h,_];cases h
 |dct=>erw[O,_,_,h,_];cases h
 |tup xs=>erw[O,_,_,h,_];cases h
def Acs (O:Jk n 300 r)(hs:r.1>ASK):∃U z1,r.2= [.s U,.s z1]/\U>BX:=by
 erw[id O,ks,hk,hp];erw[WP _ hk hs,_,_,ek];simp only at ek;subst ek;erw[wF hp,x,y,e,hx,hy];exact⟨x,y,e,hx⟩
abbrev Mj:D->Bool
 | .tup xs=>xs.all mG
 |_=>Vg
abbrev AU (u:Str)(a:D):Bool:=if yL a=v_ then decide (u="thing") else if isT a=v_ then(if u="has" then(["yes","no"]:oj Str).any (λz=>eqD a (!z)) else decide (u="thing")||Mj a) else Vg
def AT {u:Str}{a:D}(h:AU u a=v_):XY a:=by
 unfold AU at h;cases hn:yL a with
 |true=>
  cases a with
  |non=>exact .inl rfl
  |_=>cases hn
 |false=>
  rw[hn,A4 u8] at h;by_cases c:isT a=v_
  .exact .inr c
  .rw[A4 c] at h;cases h
inductive Op:Sp
 |mk (v:V)(d:D)(_:vs= [v])(_:Is H d v)(_:isT d=v_)(_:∀H',ig H H'->Q (.bl (Mj d)) H')
inductive Lh:Sp
 |mk (v1 v2:V)(u:Str)(d a:D)(_:vs= [v1,v2])(_:Is H (-[!u,d]) v1)(_:Is H a v2)(_:∀H',ig H H'->Q (.bl (AU u a)) H')
inductive MZ (C:Addr):Sp
 |mk (m:Mc)(r:Rn)(v:V)(u:Str)(d a:D)(_:vs= [-m.x,v])(_:yC C H m r)(_:C6 m.rs r)(_:r.th=-[-"asks",-[!u,d]])(_:Is H a v)(_:QW m.rs)(_:↑m.own<=100)(_:AU u a=v_)(_:∀H',Mv m H H'->yC C H' m (l7 m.rs m.own r a)->Q .non H')
def PN:#[T,2,a.ju,a.jm,["tree"],Op]:=by
 have QP:=#[Xg,T];refine T.lG.F.ok X3 () (λ_ _ _ _ H vs Q E hr h=>?_)
 erw[h,v,d,rfl,iv,hT,k];exists 3,%[|#[qo,#[ZL,#[qz,#[qX,2,rfl],T.qR,vb,#v[pv 0,#[yh,.ty "tuple",T.QD,vo]]],#[zl,#[qz,#[zt,1,rfl],T.z_all,Hy,#v[#[zd,["part"],[],SG,#[xI,pv 0],(λ_ _ _ _ _ _=>#[qP,(0),(show Vy (["part"]:oj Str) by decide+kernel)]),(λ_ _ _ _ _ _=>#[qq,QP,T.iD,#v[pv 0]])]]]]]]]
 exists 0,v,"tuple",tyD d,zJ d,1,iv.ty,xU _;cases d with
 |tup xs=>
  exists 0,lm ?_;erw[iv,a0,vs,rfl,O,U];have hl:↑xs<=1000:=by
   have hg:=yN hT;simp![iX,uC] at hg;have:=um hg.1;omega
  exists 0,a0,vs,1,SqT.of O,λac A0 aa=>?_;refine Av (tl:= []) (λd=> .bl (mG d)) O U (small hl) aa (λd0 x0 H3 R ad s3 i3 r=>?_) λH1 ys s1 l1 i1=>?_
  .exact⟨0,x0,d0,1,i3,λH4 s4=>r _ H4 s4 rfl⟩
  have ey:ys=(xs.map mG).map V.bl:=IsL.bls (by rwa[uK])
  exists A0,xs.map mG,1,SqL.of (by rw[l1,ey])
  have:(xs.map mG).all id=Mj (¬xs):=by rw[UK];rfl
  rw[this];exact k H1 s1
 |str z=>exact[0:iR (k H (ig.refl _))]
 |non=>exact[0:iR (k H (ig.refl _))]
 |int z=>exact[0:iR (k H (ig.refl _))]
 |bl z=>exact[0:iR (k H (ig.refl _))]
 |lst=>exact[0:iR (k H (ig.refl _))]
 |dct=>exact[0:iR (k H (ig.refl _))]
def LQ:#[T,3,a.wJ,a.WE,["ask","answer"],Lh]:=by
 have yK:=#[jD,T];have Zg:=#[PN,T];exists 9,T.mV,oo
 erw[h,v1,v2,u,d,an,rfl,i1,U,k];exists 3,%[#[qF,#[qp,yf,pv 1,qO,qw _],%[|#[qo,#[Qp,QJ,#[qH,XL,pv 0],ql]]],qt],#[qF,#[Qi,#[Qb,#[qq,yK,T.lh,#v[pv 1]]]],%[|#[qo,Yc]],qt],#[qF,#[qp,QJ,#[qH,XL,pv 0],ql,qw _],%[|#[qo,#[Qp,8,#[Nk,1,hr.units],pv 1,#[qD,#v[ql,ql]],#[w]]]],qt]|#[qo,#[Adz,7,#[Qp,QJ,#[qH,XL,pv 0],ql],#[zl,#[qq,Zg,T.lG,#v[pv 1]]]]]]
 have two:(2:Nat)<=sizeLine:=by decide
 have es:∀y:Str,decide (V.str u=V.str y)=decide (u=y):=λy=>by
  rw[vd];exact⟨λh=>by injection h,λh=>by rw[h]⟩
 have iu:∀{H:Hp}{Q:VK},Is H (-[!u,d]) v1->Q (!u) H->O0 K v1 (.int 0) H Q:=λ{H Q} i q=>Xw (i:=0) (d:= !u) i (qI (j:=0) rfl) λx hx=>by
  erw[hx,rfl,_];exact q
 exists 0,1,0;unfold AU at k;by_cases cn:an= .non
 .subst cn;cases(show v2= .non from U)
  refine QQ () ?_
  exists 0,.inr (.inl (iu i1 [1:?_]));rw[es];exact k H (ig.refl _)
 .have aa:v2≠ .non:=jQ U cn;have ac:yL an=false:=by
   cases an with
   |non=>exact A8 rfl cn
   |_=>rfl
  rw[ac,A4 u8] at k;refine Qt (ug aa) ?_
  exists 0,v2,an,1,U,λH1 s1=>[0:?_];by_cases O:isT an=v_
  .rw[A6 O] at k;rw[O];refine iR ?_
   exists 0,.inr (.inl (iu (i1.mono s1.tk) [1:0:?_]));rw[es];by_cases ch:u="has"
   .rw[A6 ch] at k;refine QQ (ud ch) ?_
    exists 0,two,λt1 h1=>?_;have s2:=qf h1 (-[-"yes",-"no"])
    exists an,t1,["yes","no"],(U.mono s1.tk).mono s2.tk,1,.inr (SqT.of qg),?_,?_,?_,k _ (s1.trans s2)
    .intro z hz;simp![uD,uU,uM] at hz;rcases hz with rfl|rfl<;>decide+kernel
    .have hg:=yN O;cases an with
     |non=>rfl
     |str z=>rfl
     |tup xs=>
      show puL xs=v_;simp![iX,uC] at hg;exact goodL_pu hg.2
     |_=>simp[iX] at hg
    .have:=Jd O;omega
   .rw[A4 ch] at k;refine Qt (ug ch) ?_
    exists 0,.inr (.inl (iu (i1.mono s1.tk) [1:?_]))
    exists 0;rw[es];by_cases ct:u="thing"
    .rw[ud ct] at k⊢;refine lm ?_;exact k _ s1
    .rw[ug ct] at k⊢;refine iR ?_;exact⟨0,v2,an,1,U.mono s1.tk,O,λH2 s2=>k H2 (s1.trans s2)⟩
  .rw[A4 O] at k;have:isT an=false:=by
    cases h:isT an with
    |true=>exact A8 h O
    |false=>rfl
   rw[this];exact lm (k _ s1)
def Nm:#[C,6,a.Yz,a.Yx,["self","tree"],(MZ a.qm)]:=by
 have qY:=#[KK,T];have O:=#[LQ,T];have YK:=#[Er,T,C];exists 9,T.iI,jp
 erw[h,m,[B,p,n,gs,th],v,u,d,an,rfl,M,hO,am,iv,hR,aQ,ao,k];exists 3,%[#[qF,#[Qi,#[Qb,#[QN,pv 0,T.qu,T.im,qY]]],%[|jY],qt],#[qE,(2),jp.nd,#[qH,XL,#[qN,5,pv 0,rfl]]],#[qF,#[Qi,#[Qb,#[qq,O,T.mV,#v[pv 2,pv 1]]]],%[|jY],qt],#[Qa,#[j0,vc,vD,vE,YH,#[qN,5,pv 0,rfl],#v[#[qD,#v[pv 2,pv 1]]]]],#[J1,10,pv 0,qi,sA],#[qF,#[qp,yf,pv 1,qO,qw _],%[#[Qh,#[qD,#v[ql,ql]]]|O3],qt],#[Js,#[qN,5,pv 0,rfl],#[qH,XL,#[qH,XL,#[qH,7,qC,#[qN,5,pv 0,rfl],#[qV,BC,#[qN,5,pv 0,rfl],qi],(λ_ _=>rfl)]]],pv 1],#[J1,10,pv 0,qi,sA],#[Qh,qO]|#[Qa,#[QN,pv 0,T.qu,T.iW,YK]]]
 simp only at am;subst am;have two:(2:Nat)<=sizeLine:=by decide
 have hw:Qy (-[-"asks",-[!u,d]])=true:=by simp[Qy]
 erw[hO.ask hw,ag,ae,aR,_];have ah:=hO.p1;have ap:=hO.gs.2.2;have aq:=hO.tr;simp only at ag ae aR ah ap aq;have hM:=M;erw[hM,dx,fs,rv,ru,tv,gv,e,f,ir,ij,ib,hg,gl,it];simp only at f ib gl it;have aS:↑fs<1000:=by have:=f.len;omega
 exists 8,N1,q1
 exists 0,m.x,dx,fs,1,e,f.meth _ (),m,0,M,.inr [_:0],0
 refine Qt (by show(!(Qy) (-[-"asks",-[!u,d]]))=Vg;rw[hw];rfl) ?_
 refine q1 _ _ ?_;exists 8,N2,q2
 exists 0,m.x,_,dx,fs,0,e,T.qu,T.qL,f.there,.inr (.inl (Xw (i:=1) it (qI (j:=1) rfl) λq hq=>?_));refine q2 _ _ ?_;exists 8,N3,q3
 exists 0,0,q,v,u,d,an,1,hq,iv,λH1 s1=>[0:?_];rw[ao];refine iR ?_;refine q3 _ _ ?_;exists 8,N4,q4;have ha:=AT ao
 exists 0,m.x,_,dx,fs,0,s1 _ _ e,T.qu,T.Y1,f.given,.inl [1:_:SqL.of (s1 _ _ hg)],0,0,two,λt1 h1=>?_;have s2:=qf h1 (-[q,v]);have ip:Is (upd H1 t1 (-[q,v])) (-[-[!u,d],an]) (-t1):=Is.new (ds:= [-[!u,d],an]) ⟨_,0,hq.mono s1.tk,_,0,iv.mono s1.tk,1⟩ h1;have S2:=s1.trans s2;generalize upd H1 t1 (-[q,v])=H2 at s2 ip S2⊢;have bo:↑gv=↑gs:=↑gl;have au:=S2 _ _ hg
 exists m.dg,gv,0,1,au,XG ()
 have t3:Tk H2 (upd H2 m.dg (.lst (gv++ [-t1]))):=Tk.updL au;have aT:m.x≠m.dg:=λz=>by rw[<-z,e] at hg;cases hg
 have aw:m.db≠m.dg:=λz=>by
  erw[ib,ff,e2,_];rw[z,hg] at e2;cases e2
 have e3:(upd H2 m.dg (.lst (gv++ [-t1]))) m.x=u_ (.ins a.qm dx fs):=by rw[qj aT];exact S2 _ _ e
 have T3:Tk H (upd H2 m.dg (.lst (gv++ [-t1]))):=S2.tk.trans t3;have ax:=(ib.same S2).move t3 (qj aw);have ay:L2.IsL (upd H2 m.dg (.lst (gv++ [-t1]))) (gs++ [-[-[!u,d],an]]) (gv++ [-t1]):=(gl.mono T3).append (IsL.one (ip.mono t3));have aA:(upd H2 m.dg (.lst (gv++ [-t1]))) m.dg=u_ (.lst (gv++ [-t1])):=qg;have aB:Mv m H (upd H2 m.dg (.lst (gv++ [-t1]))):=⟨λb o h _ _ n3=>by rw[qj n3];exact S2 b o h,T3⟩
 generalize upd H2 m.dg (.lst (gv++ [-t1]))=H3 at t3 e3 T3 ax ay aA aB⊢;refine q4 _ _ ?_;exists 8,N5,q5
 exists 0,m.x,_,dx,fs,0,e3,T.qu,T.ym,f.done,(n:Int),(1),1,1,dx,fs,e3,aS;erw[yr (r:=⟨B,p,n+1,gs++ [-[-[!u,d],an]],-[-"asks",-[!u,d]]⟩) e3 (f.set_done (k:=n+1)) (ir.mono T3) (ij.mono T3) ax aA ay (it.mono T3),M4,aC];have ac:=aB.trans aC;have aD:=iv.mono ac.tk;refine q5 _ _ ?_;show nw _ _ _ _ (upd H3 m.x (.ins a.qm dx (iJ "done" (.int ((n+1:Nat):Int)) fs)));generalize upd H3 m.x (.ins a.qm dx (iJ "done" (.int ((n+1:Nat):Int)) fs))=H4 at M4 aC ac aD⊢;erw[M4,aa,U,bp,bq,bt,bu,e4,f4,ak,aE,ad,aF,al,aG];simp only at f4 ad al aG;have af:↑U<1000:=by have:=f4.len;omega
 exists 8,N6,q6
 exists 0,1,0;by_cases cn:an= .non
 .subst cn;cases(show v= .non from iv)
  refine QQ () ?_
  exists two,λl hl=>?_;have s5:=qf hl (-[-"fault",-"lack"])
  exists 0,m.x,_,aa,U,1,s5 _ _ e4,T.qu,T.qL,af;erw[yr (r:=⟨B,p,n+1,gs++ [-[-[!u,d],.non]],flt "lack"⟩) (s5 _ _ e4) (f4.set_there (u:=-l)) (ak.mono s5.tk) (aE.mono s5.tk) (ad.same s5) (s5 _ _ aF) (al.mono s5.tk) (Is.new (ds:= [-"fault",-"lack"]) ⟨_,0,[1:small ()],_,0,[1:small ()],1⟩ hl),m1,m2]
  exact k _ (ac.trans ((Mv.of s5).trans m2)) m1
 .have hT:isT an=true:=ha.resolve_left cn;have aU:v≠ .non:=jQ iv cn;have aV:yL an=false:=by
   cases an with
   |non=>exact A8 rfl cn
   |_=>rfl
  refine Qt (ug aU) ?_;refine q6 _ _ ?_;exists 8,N7,q7;erw[Acs (hR.ok _ (KP ah ag)) ae,z0,z1,aH,aW];have aX:b0 (Yu m.rs p).2=z0:=by rw[aH];rfl
  erw[ad.put aW aD,kvs,aI,aY,t5];have aZ:atI (m.rs.map rowD) (p-1)=u_ (rowD (Yu m.rs p)):=by
   rw[show p-1=((p.toNat-1:Nat):Int) by omega]
   exact qI (by rw[uG,DP ah ag];rfl)
  have a1:m.db≠m.x:=YF.ne e4 ad;have a3:m.dg≠m.db:=aw.symm
  exists 0,0,m.x,_,aa,U,0,e4,T.qu,T.Qv,f4.boxes,0,m.x,_,aa,U,0,e4,T.qu,T.Yk,f4.rows,0,m.x,_,aa,U,0,e4,T.qu,T.Qo,f4.place,_,0,1;refine Xw (d:=rowD (Yu m.rs p)) ak aZ λq5 a4=>?_;refine .inr (.inl (Xw (i:=1) a4 (qI (j:=1) rfl) λq6 aJ=>?_));rw[aH] at aJ;refine .inr (.inl (Xw (i:=0) (d:= !z0) aJ (qI (j:=0) rfl) λq7 a5=>?_));erw[a5,rfl,_]
  exists m.db,0,aI;have e5:(upd H4 m.db (.dK kvs)) m.x=u_ (.ins a.qm aa U):=by rwa[qj a1.symm]
  refine q7 _ _ ?_;exists 8,N8,q8
  exists 0,m.x,_,aa,U,0,e5,T.qu,T.Qo,f4.place,p,(1),1,1,aa,U,e5,af;obtain⟨M6,a6⟩:=yr (r:=⟨mn B z0 an,p+1,n+1,gs++ [-[-[!u,d],an]],-[-"asks",-[!u,d]]⟩) e5 (f4.set_place (q:=p+1)) (ak.mono t5) (aE.mono t5) aY (by rwa[qj a3]) (al.mono t5) (aG.mono t5)
  have aK:=ac.trans (Mv.trans ⟨λb o h _ a2 _=>by rwa[qj a2],t5⟩ a6)
  erw[M6,a7,aL,bv,bw,bx,bA,e6,f6,a8,a9,aM,bb,aN,bc];simp only at f6 aM aN bc;have aO:↑aL<1000:=by have:=f6.len;omega
  refine q8 _ _ ?_;exists 8,N9,q9
  exists 0,m.x,_,a7,aL,1,e6,T.qu,T.qL,aO;erw[yr (r:=⟨mn B z0 an,p+1,n+1,gs++ [-[-[!u,d],an]],.non⟩) e6 (f6.set_there (u:= .non)) a8 a9 aM bb aN rfl,M7,bd];have aP:=aK.trans bd;erw[id M7,bf,bg,bB,bC,bD,bE,e7,f7,r7];refine q9 _ _ ?_
  exists 5
  refine⟨0,m.x,bf,bg,1,e7,f7.meth _ (),m,0,M7,1,Ku aq hT,aQ,hR,by show 1<=p+1;omega,by show p+1<=_;omega,by show n+1<=300;omega,λH8 bh M8=>k H8 (aP.trans bh) ?_⟩
  unfold l7;rw[aV,A4 u8];simp only;rw[aX];exact M8
abbrev mL (H:Hp)(p:o3):Prop:=∃x:Int,H p=u_ (.lst [.int x])/\0<=x
def mL.same (h:mL H p)(s:ig H H'):mL H' p:=by
 erw[h,x,e,r];exact[x:s _ _ e:r]
def mL.free {l:o3}(h:mL H p)(n:H l=U_):p≠l:=by
 erw[h,x,e,r];exact qk e n
def mL.tk (h:mL H p)(h':mL H' p)(k:lQ p H H'):Tk H H':=by
 erw[h,x,e,_];erw[h',U,O,_];exact k.tk e O
inductive Ol:Sp
 |mk (p:Addr)(many:Int)(_:vs= [-p,.int many])(_:mL H p)(_:0<many)(_:many<1073741824)(_:∀(d:Int)(H':Hp),0<=d->d<many->mL H' p->lQ p H H'->Q (.int d) H')
inductive Os:Sp
 |mk (c t:Int)(_:vs= [.int c,.int t])(_:0<=t)(_:t<1000)(_:∀(p:Addr)(H':Hp),H p=U_->ig H H'->mL H' p->Q (-p) H')
def zW:#[T,1,a.kg,a.kU,["pot","many"],Ol]:=by
 exists 9,T.il,wG
 erw[h,p,many,rfl,[x,O,hx],hm,U,k];exists 3,%[#[qE,(2),wG.nd,#[qV,xz,#[qH,YS,pv 0],pv 1]],#[Ng,6,#[qV,D9,#[qH,YS,pv 0],pv 1],#[Abu,7,pv 0,qi,Lr,_],_,_,_]|#[qo,pv 2]]
 exists 0,p,_,_,0,1,SqL.of O,1,0,_,0,1,hm
 exists 0,p,_,_,0,1,SqL.of O,1,0,_,0,1,[hm:U],0,p,_,_,0,1,O,1
 exists 0;refine k _ _ (tE _ ()) (UV _ hm) [x/many:qg:Int.ediv_nonneg hx ()] (lQ.upd _ _ _)
def PQ:#[T,1,a.f_law_pot,a.d_law_pot,["cell","salt"],Os]:=by
 exists 9,T.nH,YG
 erw[h,c,t,rfl,h0,h1,k];exists 3,%[#[qF,#[qp,AdA,#[qz,Cf,T.z_abs,boot_abs,#v[pv 0]],#[qV,AbB,qi,qi],qw _],%[|#[qo,#[Q7,#v[#[qz,Cf,T.z_abs,boot_abs,#v[pv 0]]]]]],qt],#[qE,(2),YG.nd,#[qV,xz,#[qV,kS,#[qV,yA,#[qV,yA,#[qV,xz,pv 0,qi],#[qV,kS,qi,pv 1]],qi],qi],qi]],#[qE,(3),YG.nd,qi],#[YO,#[jH,#v[qi]],#[qP,(4),YG.nd],%[#[qE,(2),YG.nd,#[qV,xz,#[qV,yA,#[qV,yA,#[qV,kS,pv 2,pv 2],#[qV,kS,qi,pv 4]],qi],qi]]|#[qE,(3),YG.nd,#[qV,yA,#[qV,kS,pv 3,qi],pv 2]]]]|#[qo,#[Q7,#v[pv 3]]]]
 exists 0,0,_,0,1,[():():()],_,0,1,0
 refine l6 (λ_=>?_) (λ_=>?_)
 .exists 0,0,(sml rfl),λp O=>?_;refine k p _ O (qf O _) [_:qg:?_];split<;>omega
 .exists 0,_,0,1,(by show(0:Int)<2147483647;decide),0,_,0,1,(.inl [():()]),_,0,1,_,0,1,_,0,1,(.inr [():()]),_,0,1,(by show(0:Int)<2147483647;decide),(9),1,(),()
  let J1_:Nat->L2.St->Hp->Prop:=λi σ H'=>E3 λ(x:Int) (b:Int) (kv:om V)=>A5 (σ= [u_ (.int c),u_ (.int t),u_ (.int x),u_ (.int b),kv]) (0<=x) (x<2147483647) (0<=b) (H'=H)
  refine wZ (n:=9) J1_ ⟨_,_,U_,1,tE _ (),UV _ (),(),1⟩ ?_ ?_
  .rintro i σ H' hi ⟨x,b,kv,rfl,aa,ac,hb,rfl⟩;have U:Ac2 x x:= .inl [():()]
   exists 0,0,_,0,1,U,0,_,0,1,(.inl [():()]),_,0,1,_,0,1,_,0,1,(by show(0:Int)<2147483629;decide),0,_,0,1,(.inr [():()]),0,_,0,1
   have q0:0<=(x*x+40692*(0+(i:Int))+3)%2147483629:=tE _ ()
   have q1:(x*x+40692*(0+(i:Int))+3)%2147483629<2147483629:=UV _ ()
   exact⟨_,_,0,q0,Int.lt_trans q1 (),Int.add_nonneg (Int.mul_nonneg hb ()) q0,1⟩
  .rintro σ H' ⟨x,b,kv,rfl,aa,ac,hb,rfl⟩;exact[0:(sml rfl):λp O=>k p _ O (qf O _) [_:qg:hb]]
abbrev Nm4 (zs:oj Str):Prop:=1<=↑zs/\↑zs<=20/\∀z>zs,nm z=v_/\↑z<=4
abbrev Wd (n:Nat)(z:Str):Prop:=Jj z=v_/\↑z<=n
def lQ.of (s:ig H H'):lQ p H H':=λb o e _=>s b o e
def mL.ne_strs {l:o3}(h:mL H p)(e:H l=u_ (.lst (zs.map V.str))):l≠p:=λz=>by
 erw[h,x,e2,_];rw[<-z,e] at e2;cases zs with
 |nil=>cases e2
 |cons a r=>simp at e2
inductive Oh:Sp
 |mk (p L:Addr)(zs:List Str)(_:vs= [-p,-L])(_:mL H p)(_:H L=u_ (.lst (zs.map V.str)))(_:Nm4 zs)(_:∀(z:Str)(H':Hp),Wd 4 z->mL H' p->lQ p H H'->Q (!z) H')
inductive OA:Sp
 |mk (p L:Addr)(zs:List Str)(many k:Nat)(_:vs= [-p,-L,.int (many:Int),.int (k:Int)])(_:mL H p)(_:H L=u_ (.lst (zs.map V.str)))(_:Nm4 zs)(_:1<=many)(_:many<=12)(_:k<=12)(_:∀(z:Str)(H':Hp),Wd 20 z->mL H' p->lQ p H H'->Q (!z) H')
abbrev FIV:oj Str:= ["","x","b1 g","yes","c/d"]
def Ace:∀z>FIV,Wd 4 z:=by
 have:∀z>FIV,Jj z=v_/\↑z<=4:=by decide+kernel
 exact this
def Nt (h:nm z=v_):Jj z=true:=Es (Nr h)
def Ac7 (h:Nm4 zs):∀z>zs++FIV,Wd 4 z:=λz hz=>by
 rcases Ac.mp hz with h1|h1
 .exact[Nt (h.2.2 z h1).1:(h.2.2 z h1).2]
 .exact Ace z h1
def Wd.cat {m k:Nat}{y:Str}(h:Wd n x)(h':Wd m y)(e:n+m<=k):Wd k (x++y):=⟨Et h.1 h'.1,by rw[II];have:=h.2;have:=h'.2;omega⟩
def EJ:∀{l:oj Str},(∀z>l,Jj z=v_)->Wd ((l.map (·.length)).sum+↑l) (Vo " " l)
 | [],_=>[1:uS _]
 | [z],h=>⟨h z (by simp),by show ↑z<=_;simp⟩
 |z::y::r,h=>by
  have O:=EJ (l:=y::r) λx U=>h x (uc _ U);have hz:=h z (by simp)
  have e:=L2.Jz z y r;exists ?_,?_
  .show(Vo " " (z::y::r)).cps.toList.all QA=v_;rw[e,UP,vB,show z.cps.toList.all QA=v_ from hz,show(Vo " " (y::r)).cps.toList.all QA=v_ from O.1]
   decide
  .rw[Au,e,uI,ui,<-Au,<-Au];have h1:=O.2;simp![uA,UC,ui] at h1⊢;omega
abbrev WL:oj Str:= ["ask","ask","ask","has","names","text","text","copy","put","put","join","first","first","rest","size","cut","glue","like","none","rowed","go","say","fault","self"]
nonrec abbrev WTX:Str:="ask ask ask has names text text copy put put join first first rest size cut glue like none rowed"
def AaC:spl ((WTX++(" go say fault self":Str)).length+1) (WTX++(" go say fault self":Str))=WL:=by decide+kernel
def Ac6:∀z>WL,Wd 5 z:=by
 have:∀z>WL,Jj z=v_/\↑z<=5:=by decide+kernel
 exact this
def Acz:∀c>("abcdh":Str).cps.toList,QA c=true:=by decide+kernel
def NQ {d:Int}(h0:0<=d)(h1:d<5):∃c,atI ("abcdh":Str).cps.toList d=u_ c/\Wd 1 ⟨#[c]⟩:=by
 obtain⟨c,O⟩:=xf (xs:=("abcdh":Str).cps.toList) h0 (by show d<5;exact h1)
 exists c,O,?_,uj _;show [c].all QA=v_;rw[vB,Acz c (Zl O)]
 rfl
def AbR:∀k:Nat,k<13->Jj (Vq (k:Int):Str)=v_/\↑(Vq (k:Int):Str)<=2:=by decide+kernel
def Am:#[T,2,a.kK,a.kn,["pot","names"],Oh]:=by
 have Qc:=#[zW,T];exists 9,T.iB,wm
 erw[h,p,L,zs,rfl,hP,hL,U,k];have hs:=uB;have ac:=U.1;have ad:=U.2.1;exists 3,%[#[qE,(2),wm.nd,#[qV,BE,pv 1,#[Q7,#v[ql,ql,ql,ql,ql]]]]|#[qo,#[qH,7,YS,pv 2,#[qq,Qc,T.il,#v[pv 0,#[qz,qT,T.Yo,uL,#v[pv 2]]]],(λ_ _=>rfl)]]]
 exists 0,(sml rfl),λq hq=>?_;have s1:ig H (upd H q (.lst [-"",-"x",-"b1 g",-"yes",-"c/d"])):=qf hq _
 exists L,q,_,0,1,s1 _ _ hL,qg,(by rw[u9];show _+5<=Vk;omega),λl hl=>?_
 have s2:=s1.trans (qf hl (.lst (zs.map V.str++ [-"",-"x",-"b1 g",-"yes",-"c/d"])));have O:(upd (upd H q (.lst [-"",-"x",-"b1 g",-"yes",-"c/d"])) l (.lst (zs.map V.str++ [-"",-"x",-"b1 g",-"yes",-"c/d"]))) l=u_ (.lst ((zs++FIV).map V.str)):=by rw[qg,uq];rfl
 generalize upd (upd H q (.lst [-"",-"x",-"b1 g",-"yes",-"c/d"])) l (.lst (zs.map V.str++ [-"",-"x",-"b1 g",-"yes",-"c/d"]))=H2 at s2 O⊢;have P2:=hP.same s2;have l5:↑((zs++FIV).map V.str)=↑zs+5:=by rw[u9,uI];rfl
 exists 5
 refine⟨0,0,0,l,0,.inl (SqL.of O),p,0,P2,by rw[l5];omega,by rw[l5];omega,λd H' d0 d1 P3 K3=>?_⟩
 have aa:=K3 _ _ O (P2.ne_strs O);erw[xf (xs:=(zs++FIV).map V.str) d0 d1,v,hv];erw[Ae.mp (Zl hv),z,hz,rfl];exact⟨l,_,d,0,1,SqL.of aa,hv,k z H' (Ac7 U z hz) P3 ((lQ.of s2).trans K3)⟩
def Aem {c:Nat}:∀{l:oj Str},(∀z>l,↑z<=c)->(l.map (·.length)).sum<=↑l*c
 | [],_=>by simp
 |z::r,h=>by
  have:=Aem λy O=>h y (uc _ O);have:=h z uf;simp![uA,UC,ui,RI,rF];omega
def Mg {K:o0}(hl:↑l<=3)(hz:Wd 5 z)(h:∀z>l,Wd 2 z)(k:∀y H',Wd 20 y->ig H H'->Q (!y) H'):↑((z::l).map V.str)<=Vk/\∀p,H p=U_->Abo K (-" ") [-p] (upd H p (.lst ((z::l).map V.str))) Q:=by
 have hs:=uB;have h1:=Aem (c:=2) λz hz=>(h z hz).2;have h2:=hz.2;refine⟨by rw[u9,ui];omega,λp U=>⟨" ",p,z::l,1,1,SqL.of qg,?_,?_⟩⟩
 .have e:(" ":Str).length=1:=rfl;rw[e];simp![uA,UC,ui];omega
 .have:=EJ (l:=z::l) λy O=>by
   rcases Aa.mp O with rfl|O
   .exact hz.1
   .exact(h y O).1
  refine k _ _ [this.1:?_] (qf U _);have h3:=this.2;simp![uA,UC,ui] at h3;omega
def PX:#[T,3,a.kE,a.Kg,["pot","names","many","k"],OA]:=by
 have Qc:=#[zW,T];have Q5:=#[Am,T];exists 9,T.nh,yw
 erw[h,p,L,zs,many,i,rfl,hP,hL,hN,aA,aB,hi,k];exists 3,%[#[qE,(4),yw.nd,ql],#[qE,(5),yw.nd,#[qH,7,YS,#[j0,uX,Uq,Ur,BM,#[qV,qZ,pv 4,ql],#v[ql]],#[qq,Qc,T.il,#v[pv 0,qi]],(λ_ _=>rfl)]],#[Ng,6,#[zd,["j","pot"],[0],Me (qh xh) ["pot","names","many","k","words","word","one","two","three","at"],#[jH,#v[qi]],(λ_ _ _ _ _ _=>#[qP,(0),(show Vy (["j","pot"]:oj Str) by decide+kernel)]),(λ_ _ _ _ _ _=>#[qH,7,BV,ql,#[qq,Qc,T.il,#v[pv 1,qi]],(λ_ _=>rfl)])],#[O9,6,rfl,QM #[qP,(6),yw.nd] (QM #[qP,(7),yw.nd] (QM #[qP,(8),yw.nd] XE)),_,_],_,_,_],#[qE,(9),yw.nd,#[qS,QV,T.JO,Ue,#v[#[qz,#[Iz,1,rfl],T.z_min,boot_min,#v[pv 2,#[qV,yA,#[qV,yA,pv 3,qi],#[qq,Qc,T.il,#v[pv 0,pv 2]]]]]]]],#[qF,#[qp,QJ,pv 5,ql,qw _],%[|#[qo,#[qV,qZ,#[qV,qZ,#[qV,qZ,ql,pv 6],ql],#[qq,Q5,T.iB,#v[pv 0,pv 1]]]]],qt],#[qF,#[qp,QS,pv 5,#[Q7,#v[ql,ql]],#[w]],%[|#[qo,#[qV,qZ,#[qV,qZ,pv 5,ql],pv 6]]],qt],#[qF,#[qp,QJ,pv 5,ql,qw _],%[|#[qo,pv 5]],qt],#[qF,#[qp,QJ,pv 5,ql,qw _],%[|#[qo,#[qV,qZ,ql,pv 9]]],qt],#[qF,#[qp,QS,pv 5,#[Q7,#v[ql,ql]],#[w]],%[|#[qo,#[j0,uX,U9,Ua,KQ,ql,#v[#[Q7,#v[pv 5,pv 6,pv 9]]]]]],qt],#[qF,#[qp,QJ,pv 5,ql,qw _],%[|#[qo,#[j0,uX,U9,Ua,KQ,ql,#v[#[Q7,#v[pv 5,pv 6,pv 7,pv 9]]]]]],qt],#[qF,#[qp,QS,pv 5,#[Q7,#v[ql,ql]],#[w]],%[|#[qo,#[j0,uX,U9,Ua,KQ,ql,#v[#[Q7,#v[pv 5,pv 6,pv 7,pv 8]]]]]],qt]|#[qo,#[j0,uX,U9,Ua,KQ,ql,#v[#[Q7,#v[pv 5,pv 6,pv 7]]]]]]
 exists 0,_,0,1,(),1,0,1,(),λq hq=>?_
 rw[show spl _ _=WL from AaC]
 have s1:ig H (upd H q (.lst (WL.map V.str))):=qf hq _;have eq:(upd H q (.lst (WL.map V.str))) q=u_ (.lst (WL.map V.str)):=qg;generalize upd H q (.lst (WL.map V.str))=H1 at s1 eq⊢;have P1:=hP.same s1
 exists 0,p,(24),1,P1,(),(),λd H2 d0 d1 P2 K2=>?_
 obtain⟨v,hv⟩:=xf (xs:=WL.map V.str) d0 (by show d<24;exact d1)
 erw[Ae.mp (Zl hv),z,hz,rfl]
 exists q,_,d,0,1,SqL.of (K2 _ _ eq (P1.ne_strs eq)),hv;have aa:=Ac6 z hz;have ak:lQ p H H2:=(lQ.of s1).trans K2;clear K2 hv hz eq P1 s1 hq
 exists (3),1,(),(),λD hD=>?_
 refine wf (lo:=0) (tl:= [u_ (-p)]) (λi ys H'=>∃bs:oj Str,ys=bs.map V.str/\↑bs=i/\(∀b>bs,Wd 1 b)/\mL H' p/\(∀b o,H2 b=u_ o->b≠p->H' b=u_ o)) (small ()) ⟨[],1,1,λb hb=>by simp at hb,P2.same (qf hD _),λb o e _=>qf hD _ _ _ e⟩ ?_ ?_
 .rintro j ys H' hj ⟨bs,rfl,ac,U,P',K'⟩ ad O R hR
  exists 0,p,(5),1,P',(),(),λd3 H4 e0 e1 P4 K4=>?_
  erw[NQ e0 e1,c,hc,ao]
  exists "abcdh",d3,c,1,1,(),hc
  have nD:D≠p:=(P2.free hD).symm;refine hR _ H4 (K4 _ _ ad nD) ⟨bs++ [⟨#[c]⟩],by rw[uq];rfl,by rw[uI,ac];rfl,λb hb=>?_,?_,λb o e np=>?_⟩
  .rcases Ac.mp hb with h|h
   .exact U b h
   .rw[Uw] at h;subst h;exact ao
  .erw[P4,x,e2,h2];exact⟨x,by rwa[qj nD.symm],h2⟩
  .rw[qj (qk e hD)];exact K4 _ _ (K' b o e np) np
 .rintro ys H' ⟨bs,rfl,ac,U,P',K'⟩ ad;obtain⟨x1,x2,x3,rfl⟩:∃x1 x2 x3,bs= [x1,x2,x3]:=by
   match bs,ac with
   | [x1,x2,x3],_=>exact⟨x1,x2,x3,1⟩
  have h1:Wd 2 x1:=⟨(U x1 (by simp)).1,by have:=(U x1 (by simp)).2;omega⟩
  have h2:Wd 2 x2:=⟨(U x2 (by simp)).1,by have:=(U x2 (by simp)).2;omega⟩
  have h3:Wd 2 x3:=⟨(U x3 (by simp)).1,by have:=(U x3 (by simp)).2;omega⟩
  have KD:lQ p H H':=λb o e np=>K' b o (ak b o e np) np
  exists D,0,SqL.of ad,1,_,0,_,0,_,0,1;clear K' ak P2 U ac ad
  exists 0,0,_,0,1,0,0,p,many,1,P',(),(),λd5 H5 f0 f1 P5 K5=>⟨_,0,1,_,0,?_⟩
  obtain⟨j,ej,ap,aq⟩:∃j:Int,j=(if(i:Int)+5+d5<(many:Int) then(i:Int)+5+d5 else(many:Int))/\1<=j/\j<=12:=⟨0,by split<;>omega,by split<;>omega⟩
  rw[<-ej];obtain⟨jn,rfl⟩:∃n:Nat,j=(n:Int):=[j.toNat:()]
  have al:=AbR jn ()
  have h4:Wd 2 (Vq ((jn:Nat):Int):Str):=al;have af:((jn:Nat):Int).natAbs.log2<1920:=by have:=vS ((jn:Nat):Int).natAbs;omega
  exists 0,af;have ag:lQ p H H5:=KD.trans K5;have au:=ag _ _ hL (hP.ne_strs hL);have fin:∀(y:Str) (H':Hp),Wd 20 y->ig H5 H'->Q (!y) H':=λy H' O s'=>k y H' O (P5.same s') (ag.trans (lQ.of s'));have two:(2:Nat)<=sizeLine:=by decide
  have bl:Wd 1 " ":=[():uj _]
  have fz:∀{n m:Nat}{x y:Str},Wd n x->Wd m y->n+m<=100->↑x+↑y<=sizeLine:=λhx O h=>mW (by have:=hx.2;have:=O.2;omega)
  have tx:Wd 5 "text ":=[():uj _]
  have go:Wd 3 "go ":=[():uj _]
  clear al ap aq af ej
  exists 0,1,0,l6 (λ_=>?_) (λ_=>?_)
  .have w1:=tx.cat h1 (k:=7) ()
   have w2:=w1.cat bl (k:=8) ()
   exists 0,_,0,1,fz tx h1 (),_,0,1,fz w1 bl (),0,0,p,L,zs,1,P5,au,hN,λy H6 O P6 K6=>?_
   exact⟨_,0,1,fz w2 O (),k _ H6 (w2.cat O ()) P6 (ag.trans K6)⟩
  exists 0,two,λl1 aw=>⟨l1,0,.inl (SqL.of qg),1,1,0,?_⟩;have ae:=qf aw (.lst ([-"self",-"say"]:oj V));refine l6 (λ_=>?_) (λ_=>?_)
  .have w1:=aa.cat bl (k:=6) ()
   exact⟨0,_,0,1,fz aa bl (),0,_,0,1,fz w1 h1 (),fin _ _ (w1.cat h1 ()) ae⟩
  exists 0,1,0,l6 (λ_=>?_) (λ_=>?_)
  .exact⟨0,fin _ _ ⟨aa.1,by have:=aa.2;omega⟩ ae⟩
  exists 0,1,0,l6 (λ_=>?_) (λ_=>?_)
  .exact⟨0,_,0,1,fz go h4 (),fin _ _ (go.cat h4 ()) ae⟩
  exists 0,two,λl2 ax=>⟨l2,0,.inl (SqL.of qg),1,1,0,?_⟩;have ah:=ae.trans (qf ax (.lst ([-"none",-"rowed"]:oj V)));refine l6 (λ_=>?_) (λ_=>?_)
  .exists 1,0,0,0;exact Mg (l:= [x1,Vq ((jn:Nat):Int)]) (by simp) aa (λy O=>by simp at O;rcases O with rfl|rfl<;>assumption) λy H' O s'=>fin y H' O (ah.trans s')
  exists 0,1,0,l6 (λ_=>?_) (λ_=>?_)
  .exists 1,0,0,0,0;exact Mg (l:= [x1,x2,Vq ((jn:Nat):Int)]) (by simp) aa (λy O=>by simp at O;rcases O with rfl|rfl|rfl<;>assumption) λy H' O s'=>fin y H' O (ah.trans s')
  exists 0,two,λl3 ay=>⟨l3,0,.inl (SqL.of qg),1,1,0,?_⟩;have am:=ah.trans (qf ay (.lst ([-"cut",-"glue"]:oj V)));refine l6 (λ_=>?_) (λ_=>?_)
  .exists 1,0,0,0,0;exact Mg (l:= [x1,x2,x3]) (by simp) aa (λy O=>by simp at O;rcases O with rfl|rfl|rfl<;>assumption) λy H' O s'=>fin y H' O (am.trans s')
  .exists 1,0,0,0;exact Mg (l:= [x1,x2]) (by simp) aa (λy O=>by simp at O;rcases O with rfl|rfl<;>assumption) λy H' O s'=>fin y H' O (am.trans s')
abbrev Aae (d:D):Prop:=isT d=v_/\lw d=v_/\sz d<=300
inductive Dr:Sp
 |mk (p L:Addr)(zs:List Str)(_:vs= [-p,-L])(_:mL H p)(_:H L=u_ (.lst (zs.map V.str)))(_:Nm4 zs)(_:∀(v:V)(d:D)(H':Hp),Aae d->Is H' d v->mL H' p->lQ p H H'->Q v H')
def IsL.ofStrz {H:Hp}:∀{l:oj Str},(∀z>l,↑z<=1000)->L2.IsL H (l.map D.str) (l.map V.str)
 | [],_=>rfl
 |z::r,h=>⟨_,0,[1:small (h z uf)],IsL.ofStrz λy O=>h y (uc _ O)⟩
def Bg {n:Nat}:∀{l:oj Str},(∀z>l,↑z<=n)->szL (l.map D.str)<=↑l*(n+1)
 | [],_=>by simp[szL]
 |z::r,h=>by
  have:=Bg (n:=n) λy O=>h y (uc (a:=y) z O);have:=h z uf;simp![uA,szL,sz,ui,RI,rF];omega
def EC:∀{l:oj Str},(∀z>l,Jj z=v_)->lwL (l.map D.str)=v_
 | [],_=>rfl
 |z::r,h=>by
  rw[uA,lwL,EC λy O=>h y (uc _ O),U7];exact h z uf
def Il:∀l:oj Str,dpL (l.map D.str)<=1
 | []=>by simp[dpL]
 |z::r=>by have:=Il r;simp![uA,dpL,dp];omega
def sC:∀{l:oj Str},(∀z>l,Wd 300 z)->goodL (l.map D.str)=v_
 | [],_=>rfl
 |z::r,h=>by
  rw[uA,goodL,sC λy O=>h y (uc _ O),U7];show QB z=v_;unfold QB;have:=h z uf;rw[ud this.2];exact this.1
def AaG (h:Wd 20 z):Aae (!z):=⟨EN h.1 (by have:=h.2;omega),h.1,by simp![sz];have:=h.2;omega⟩
def Bc (O:↑l<=14)(h:∀z>l,Wd 20 z):Aae (.tup (l.map D.str)):=by
 have h1:=Bg λz hz=>(h z hz).2;have h2:=Il l;have h3:=sC λz hz=>(⟨(h z hz).1,by have:=(h z hz).2;omega⟩:Wd 300 z)
 have e:sz (.tup (l.map D.str))<=300:=by simp![sz];omega
 exists ?_,by simpa only [lw] using EC λz hz=>(h z hz).1,e
 have e2:dp (.tup (l.map D.str))<=12:=by simp![dp];omega
 unfold isT;rw[ud (show sz (.tup (l.map D.str))<=600 by omega),ud e2]
 simp![iX];rw[h3,u9,ud (show ↑l<=40 by omega)]
 rfl
def qaj {t:o3}(h:∀z>l,Wd 20 z)(O:H t=U_):Is (upd H t (.tup (l.map V.str))) (.tup (l.map D.str)) (-t):=
 Is.new (IsL.ofStrz λz hz=>by have:=(h z hz).2;omega) O
abbrev MKL (z:Str):oj Str:= ["row h","text b "++z,"ask c b","text a text d ","join a c","put h a","text a ask e d","put h a","text a say e","put h a","say h"]
def Nv (h:Wd 4 z):∀y>MKL z,Wd 20 y:=by
 have O:∀y>(["row h","ask c b","text a text d ","join a c","put h a","text a ask e d","put h a","text a say e","put h a","say h"]:oj Str),Jj y=v_/\↑y<=20:=by decide+kernel
 intro y U;rcases Aa.mp U with rfl|U
 .exact O _ (by simp)
 .rcases Aa.mp U with rfl|U
  .exact Wd.cat (n:=7) (m:=4) [():uj _] h ()
  .exact O y (uc _ U)
def LM:#[T,2,a.wK,a.wI,["pot","names"],Dr]:=by
 have Qc:=#[zW,T];exists 9,T.mS,Y7
 erw[h,p,L,zs,rfl,hP,hL,U,k];have ac:=U.1;have ad:=U.2.1;exists 3,%[#[qE,(2),Y7.nd,#[qH,7,YS,pv 1,#[qq,Qc,T.il,#v[pv 0,#[qz,qT,T.Yo,uL,#v[pv 1]]]],(λ_ _=>rfl)]],#[qE,(3),Y7.nd,#[Q7,#v[ql,#[qV,qZ,ql,pv 2],ql,ql,ql,ql]]],#[qE,(3),Y7.nd,#[qV,BE,pv 3,#[Q7,#v[ql,ql,ql,ql,ql]]]]|#[qo,#[qS,qU,T.QD,vo,#v[pv 3]]]]
 have aa:=hP.ne_strs hL
 exists 5
 refine⟨0,0,0,L,0,.inl (SqL.of hL),p,0,hP,by rw[u9];omega,by rw[u9];omega,λd1 H1 a0 a1 P1 K1=>?_⟩
 erw[xf (xs:=zs.map V.str) a0 a1,v,hv];erw[Ae.mp (Zl hv),z,hz,rfl];have O:Wd 4 z:=[Nt (U.2.2 z hz).1:(U.2.2 z hz).2]
 exists L,_,_,0,1,SqL.of (K1 _ _ hL aa),hv;have e7:("text b ":Str).length=7:=by decide+kernel
 exists 0,_,0,1,mW (by have:=O.2;omega),(sml rfl),λl1 h1=>?_
 have q1:=qf h1 (.lst (((MKL z).take 6).map V.str));have e1:(upd H1 l1 (.lst (((MKL z).take 6).map V.str))) l1=u_ (.lst (((MKL z).take 6).map V.str)):=qg;show nw _ _ _ _ (upd H1 l1 (.lst (((MKL z).take 6).map V.str)));generalize upd H1 l1 (.lst (((MKL z).take 6).map V.str))=H2 at q1 e1⊢
 exists 0,(sml rfl),λl2 h2=>?_;have q2:=qf h2 (.lst (((MKL z).drop 6).map V.str))
 exists l1,l2,_,0,1,q2 _ _ e1,qg,mW (by show 6+5<=16000000;decide),λl3 h3=>?_
 have q3:=q2.trans (qf h3 (.lst ((MKL z).map V.str)))
 exists 0,l3,(MKL z).map V.str,1,.inl [SqL.of qg:λt ht=>?_];have q4:=qf ht (.tup ((MKL z).map V.str));exact k _ _ _ (Bc (by show 11<=14;decide) (Nv O)) (qaj (Nv O) ht) ((P1.same q1).same (q3.trans q4)) (K1.trans (lQ.of (q1.trans (q3.trans q4))))
def Ei:#[T,4,a.Ka,a.Kh,["pot","names"],Dr]:=by
 have Qc:=#[zW,T];have Q5:=#[Am,T];have O:=#[PX,T];exists 9,T.mD,jO
 erw[h,p,L,zs,rfl,hP,hL,hN,k];exists 3,%[#[qE,(2),jO.nd,#[qV,yA,qi,#[qq,Qc,T.il,#v[pv 0,qi]]]],#[qE,2,(3),4,jO.nd,rfl,GH rfl,#[qV,yA,pv 2,qi],_,_],#[qE,(4),jO.nd,#[Q7,#v[#[qV,qZ,ql,#[qq,Q5,T.iB,#v[pv 0,pv 1]]],#[qV,qZ,ql,#[qq,Q5,T.iB,#v[pv 0,pv 1]]],ql]]],#[Qa,#[j0,vc,PySem.F.slot_list_extend,PySem.F.type_list_extend,oW,pv 4,#v[#[zd,["k","pot","names","many"],[0,1,3],Me (qh J5) ["pot","names","body","many","lines"],#[jH,#v[pv 2]],(λ_ _ _ _ _ _=>#[qP,(0),(show Vy (["k","pot","names","many"]:oj Str) by decide+kernel)]),(λ_ _ _ _ _ _=>#[qq,O,T.nh,#v[pv 1,pv 2,pv 3,pv 0]])]]]]|#[qo,#[qS,qU,T.QD,vo,#v[#[qV,BE,pv 4,#[Q7,#v[#[qV,qZ,ql,#[qH,7,BV,ql,#[qq,Qc,T.il,#v[pv 0,qi]],(λ_ _=>rfl)]]]]]]]]]
 exists 0,p,(8),1,hP,(),(),λd1 H1 a0 a1 P1 K1=>⟨_,0,1,?_⟩
 obtain⟨nb,ak,aH,aI⟩:∃nb:Nat,1+d1=(nb:Int)/\1<=nb/\nb<=8:=⟨(1+d1).toNat,(),(),()⟩
 have ac:=K1 _ _ hL (hP.ne_strs hL)
 try dsimp only
 rw[ak];clear ak a0 a1
 exists 0,_,0,1;have ta:Wd 7 "text a ":=[():uj _]
 have tb:Wd 7 "text b ":=[():uj _]
 have fz:∀{n m:Nat}{x y:Str},Wd n x->Wd m y->n+m<=100->↑x+↑y<=sizeLine:=λhx U h=>mW (by have:=hx.2;have:=U.2;omega)
 exists 0,0,p,L,zs,1,P1,ac,hN,λz1 H5 al P5 K5=>⟨_,0,1,fz ta al (),?_⟩
 have ad:=K5 _ _ ac (P1.ne_strs ac)
 exists 0,0,p,L,zs,1,P5,ad,hN,λz2 H6 am P6 K6=>⟨_,0,1,fz tb am (),(sml rfl),λl hl=>?_⟩
 have aw:=K6 _ _ ad (P5.ne_strs ad);have ao:lQ p H H6:=(K1.trans K5).trans K6;have s7:=qf hl (.lst (["text a "++z1,"text b "++z2,"row h"].map V.str));have e7:(upd H6 l (.lst (["text a "++z1,"text b "++z2,"row h"].map V.str))) l=u_ (.lst (["text a "++z1,"text b "++z2,"row h"].map V.str)):=qg;have P7:=P6.same s7;have ae:=s7 _ _ aw;have K7:lQ p H (upd H6 l (.lst (["text a "++z1,"text b "++z2,"row h"].map V.str))):=ao.trans (lQ.of s7);have aa:∀y>(["text a "++z1,"text b "++z2,"row h"]:oj Str),Wd 20 y:=λy U=>by
  simp![uD,uH,uM] at U;rcases U with rfl|rfl|rfl
  .exact ta.cat al ()
  .exact tb.cat am ()
  .exact[():()]
 show nw _ _ _ _ (upd H6 l (.lst (["text a "++z1,"text b "++z2,"row h"].map V.str)));generalize upd H6 l (.lst (["text a "++z1,"text b "++z2,"row h"].map V.str))=H7 at e7 P7 ae K7⊢;have ax:(["text a "++z1,"text b "++z2,"row h"]:oj Str).length=3:=rfl;generalize (["text a "++z1,"text b "++z2,"row h"]:oj Str)=th at e7 aa ax⊢
 exists 0,.inl [1:_:SqL.of e7]
 exists 0,nb,1,(),(),λD hD=>?_
 have nD:D≠p:=(P7.free hD).symm;have nl:l≠p:=P7.ne_strs e7;refine wf (lo:=0) (n:=nb) (tl:= [u_ (-p),u_ (-L),u_ (.int ((nb:Int)+4))]) (λi ys H'=>∃rs:oj Str,ys=rs.map V.str/\↑rs=i/\(∀r>rs,Wd 20 r)/\mL H' p/\(∀b o,H7 b=u_ o->b≠p->H' b=u_ o)) (small ()) ⟨[],1,1,λb hb=>by simp at hb,P7.same (qf hD _),λb o e _=>qf hD _ _ _ e⟩ ?_ ?_
 .rintro j ys H' hj ⟨rs,rfl,ap,af,P',K'⟩ ag U R hR;have ay:=K' _ _ ae (P7.ne_strs ae)
  exists 0,0,0,0,p,L,zs,nb+4,j,?_,P',ay,hN,(),(),(),λr H8 aA P8 K8=>?_
  .rw[show(0:Int)+(j:Int)=(j:Int) by omega,show((nb+4:Nat):Int)=(nb:Int)+4 by omega]
   rfl
  .refine hR _ H8 (K8 _ _ ag nD) ⟨rs++ [r],by rw[uq];rfl,by rw[uI,ap];rfl,λb hb=>?_,?_,λb o e np=>?_⟩
   .rcases Ac.mp hb with h|h
    .exact af b h
    .rw[Uw] at h;subst h;exact aA
   .erw[P8,x,e2,h2];exact⟨x,by rwa[qj nD.symm],h2⟩
   .rw[qj (qk e hD)];exact K8 _ _ (K' b o e np) np
 .rintro ys H' ⟨rs,rfl,ap,af,P',K'⟩ ag;have e8:=K' _ _ e7 nl
  exists l,D,_,0,1,e8,ag,mW (by rw[u9,u9];omega)
  have e9:(upd H' l (.lst (th.map V.str++rs.map V.str))) l=u_ (.lst ((th++rs).map V.str)):=by rw[qg,uq]
  have P9:mL (upd H' l (.lst (th.map V.str++rs.map V.str))) p:=by
   erw[P',x,e2,h2];exact⟨x,by rwa[qj nl.symm],h2⟩
  have K9:lQ p H (upd H' l (.lst (th.map V.str++rs.map V.str))):=λb o e np=>by
   rw[qj (qk (ao b o e np) hl)];exact K' b o (K7 b o e np) np
  generalize upd H' l (.lst (th.map V.str++rs.map V.str))=H9 at e9 P9 K9⊢
  exists 0,0,p,(5),1,P9,(),(),λd9 aJ g0 g1 aB aq=>?_
  erw[NQ g0 g1,c9,hc,aC];have aD:=aq _ _ e9 nl
  exists "abcdh",d9,c9,1,1,(),hc,_,0,1,(by show("say ":Str).length+1<=Vk;decide+kernel),(sml rfl),λq1 aE=>?_
  have au:=qf aE (.lst [.str ("say "++⟨#[c9]⟩)]);have hw:Wd 20 ("say "++⟨#[c9]⟩:Str):=Wd.cat (n:=4) (m:=1) [():uj _] aC ()
  exists l,q1,_,0,1,au _ _ aD,qg,mW (by rw[u9,uI];show _+1<=_;omega),λq2 aF=>?_
  have aG:=au.trans (qf aF (.lst ((th++rs).map V.str++ [.str ("say "++⟨#[c9]⟩)])))
  exists q2,0,.inl [SqL.of qg:λt ht=>?_];have ah:=aG.trans (qf ht (.tup ((th++rs).map V.str++ [.str ("say "++⟨#[c9]⟩)])));have all:∀y>th++rs++ [("say "++⟨#[c9]⟩:Str)],Wd 20 y:=λy U=>by
   rcases Ac.mp U with U|U
   .rcases Ac.mp U with U|U
    .exact aa y U
    .exact af y U
   .cases Ab.mp U;exact hw
  have em:(th++rs).map V.str++ [.str ("say "++⟨#[c9]⟩)]=(th++rs++ [("say "++⟨#[c9]⟩:Str)]).map V.str:=by rw[uq (l₁:=th++rs)];rfl
  rw[em] at ah ht⊢;refine k _ _ _ (Bc (l:=th++rs++ [("say "++⟨#[c9]⟩:Str)]) (by simp![uI,U6];omega) all) (qaj all ht) (aB.same ah) ((K9.trans aq).trans (lQ.of ah))
def IV {y:Str}(hz:Wd 20 z)(O:Wd 20 y):Aae (-[-[!z,-[]],!y]):=by
 have h1:=hz.2;have h2:=O.2;have U:QB z=true:=by unfold QB;rw[ud (show ↑z<=300 by omega)];exact hz.1
 have g2:QB y=true:=by unfold QB;rw[ud (show ↑y<=300 by omega)];exact O.1
 have e:sz (-[-[!z,-[]],!y])<=300:=by simp![sz,szL];omega
 exists ?_,by simp[lw,lwL,hz.1,O.1],e
 unfold isT;rw[ud (show sz (-[-[!z,-[]],!y])<=600 by omega),ud (show dp (-[-[!z,-[]],!y])<=12 by simp![dp,dpL];omega)]
 simp[iX,goodL,U,g2]
inductive On:Sp
 |mk (p L:Addr)(zs:List Str)(_:vs= [-p,-L])(_:mL H p)(_:H L=u_ (.lst (zs.map V.str)))(_:Nm4 zs)(_:∀(v:V)(d:D)(H':Hp),W0 d->Is H' d v->mL H' p->lQ p H H'->Q v H')
def AaH {k:Str}{d:D}(O:k="leaf"\/k="rule")(h:Aae d):W0 (-[!k,d]):=KG O h.1 h.2.1 h.2.2
def Od {k:Str}{d:D}(O:k="leaf"\/k="rule")(h:Aae d)(hv:Is H d v)(q:∀t H',ig H H'->Is H' (-[!k,d]) (-t)->W0 (-[!k,d])->Q (-t) H'): [V.str k,v].length<=Vk/\∀t,H t=U_->Q (-t) (upd H t (-[!k,v])):=by
 exists sml rfl,λt U=>q t _ (qf U _) (Is.new (ds:= [!k,d]) ⟨_,0,[1:?_],_,0,hv,1⟩ U) (AaH O h);rcases O with rfl|rfl<;>decide+kernel
def PY:#[T,5,a.kD,a.kL,["pot","names"],Dr]:=by
 have Qc:=#[zW,T];have Q5:=#[Am,T];have Zf:=#[Ei,T];exists 9,T.mE,Wo
 erw[h,p,L,zs,rfl,hP,hL,hN,k];have aa:∀{z:Str},Wd 4 z->Wd 20 z:=λh=>⟨h.1,by have:=h.2;omega⟩
 exists 3,%[#[qE,(2),Wo.nd,#[qq,Qc,T.il,#v[pv 0,qi]]],#[qF,#[qp,D5,pv 2,qi,qw _],%[|#[qo,#[qq,Q5,T.iB,#v[pv 0,pv 1]]]],qt],#[qF,#[qp,QJ,pv 2,qi,qw _],%[|#[qo,#[qS,qU,T.QD,vo,#v[#[zd,["k","pot","names"],[0,1],Me (qh J9) ["pot","names","kind"],#[jH,#v[#[qq,Qc,T.il,#v[pv 0,qi]]]],(λ_ _ _ _ _ _=>#[qP,(0),(show Vy (["k","pot","names"]:oj Str) by decide+kernel)]),(λ_ _ _ _ _ _=>#[qq,Q5,T.iB,#v[pv 1,pv 2]])]]]]],qt],#[qF,#[qp,QJ,pv 2,qi,qw _],%[|#[qo,#[qD,#v[#[qD,#v[#[qq,Q5,T.iB,#v[pv 0,pv 1]],#[qD,qd]]],#[qq,Q5,T.iB,#v[pv 0,pv 1]]]]]],qt],#[qF,#[qp,QJ,pv 2,qi,qw _],%[|#[qo,#[qq,Zf,T.mD,#v[pv 0,pv 1]]]],qt]|#[qo,#[qD,#v[#[qV,qZ,ql,#[qq,Q5,T.iB,#v[pv 0,pv 1]]],ql,ql]]]]
 exists 0,p,(6),1,hP,(),(),λd1 H1 a0 a1 P1 K1=>?_
 have O:=K1 _ _ hL (hP.ne_strs hL)
 exists 0,_,0,1,0,l6 (λ_=>?_) (λ_=>?_)
 .exact⟨0,0,p,L,zs,1,P1,O,hN,λz H2 hz U K2=>k _ _ H2 (AaG (aa hz)) ⟨1,mW (by have:=hz.2;omega)⟩ U (K1.trans K2)⟩
 exists 0,1,0,l6 (λ_=>?_) (λ_=>?_)
 .exists 0,p,(4),1,P1,(),(),λd2 H2 b0 b1 U K2=>?_
  have ac:=K2 _ _ O (P1.ne_strs O);obtain⟨n,rfl,hn⟩:∃n:Nat,d2=(n:Int)/\n<4:=[d2.toNat:():()]
  exists n,1,(),(),λD hD=>?_
  have nD:D≠p:=(U.free hD).symm;refine wf (lo:=0) (n:=n) (tl:= [u_ (-p),u_ (-L)]) (λi ys H'=>∃rs:oj Str,ys=rs.map V.str/\↑rs=i/\(∀r>rs,Wd 20 r)/\mL H' p/\(∀b o,H2 b=u_ o->b≠p->H' b=u_ o)) (small ()) ⟨[],1,1,λb hb=>by simp at hb,U.same (qf hD _),λb o e _=>qf hD _ _ _ e⟩ ?_ ?_
  .rintro j ys H' hj ⟨rs,rfl,af,ad,P',K'⟩ ae hy R hR;have ao:=K' _ _ ac (U.ne_strs ac)
   exists 0,0,p,L,zs,1,P',ao,hN,λr H8 ap P8 K8=>?_;refine hR _ H8 (K8 _ _ ae nD) ⟨rs++ [r],by rw[uq];rfl,by rw[uI,af];rfl,λb hb=>?_,?_,λb o e np=>?_⟩
   .rcases Ac.mp hb with h|h
    .exact ad b h
    .rw[Uw] at h;subst h;exact aa ap
   .erw[P8,x,e2,h2];exact⟨x,by rwa[qj nD.symm],h2⟩
   .rw[qj (qk e hD)];exact K8 _ _ (K' b o e np) np
  .rintro ys H' ⟨rs,rfl,af,ad,P',K'⟩ ae
   exists D,0,.inl [SqL.of ae:λt ht=>?_];have s3:=qf ht (.tup (rs.map V.str));exact k _ _ _ (Bc () ad) (qaj ad ht) (P'.same s3) (λb o e np=>s3 _ _ (K' b o ((K1.trans K2) b o e np) np))
 exists 0,1,0,l6 (λ_=>?_) (λ_=>?_)
 .exists 0,0,p,L,zs,1,P1,O,hN,λz1 H2 ag U K2=>[uS _:λt0 ah=>[sml rfl:λt1 ak=>?_]];have ac:=K2 _ _ O (P1.ne_strs O);have s0:=qf ah (.tup ([]:oj V));have s1:=s0.trans (qf ak (-[!z1,-t0]));have i0:Is (upd H2 t0 (-[])) (-[]) (-t0):=Is.new (ds:= []) rfl ah;have i1:Is (upd (upd H2 t0 (-[])) t1 (-[!z1,-t0])) (-[!z1,-[]]) (-t1):=Is.new (ds:= [!z1,-[]]) ⟨_,0,⟨1,mW (by have:=ag.2;omega)⟩,_,0,i0,1⟩ ak
  generalize upd (upd H2 t0 (-[])) t1 (-[!z1,-t0])=H3 at s1 i1⊢;have P3:=U.same s1
  exists 0,0,p,L,zs,1,P3,s1 _ _ ac,hN,λz2 H4 al P4 K4=>[sml rfl:λt2 am=>?_];have s2:=qf am (-[-t1,!z2]);refine k _ _ _ (IV (aa ag) (aa al)) (Is.new (ds:= [-[!z1,-[]],!z2]) ⟨_,0,i1.mono (P3.tk P4 K4),_,0,⟨1,mW (by have:=al.2;omega)⟩,1⟩ am) (P4.same s2) ((((K1.trans K2).trans (lQ.of s1)).trans K4).trans (lQ.of s2))
 exists 0,1,0,l6 (λ_=>?_) (λ_=>?_)
 .exact⟨0,0,p,L,zs,1,P1,O,hN,λv d H2 hd hv U K2=>k v d H2 hd hv U (K1.trans K2)⟩
 .have ta:Wd 7 "text a ":=[():uj _]
  exists 0,0,p,L,zs,1,P1,O,hN,λz H2 hz U K2=>⟨_,0,1,mW (by have:=hz.2;have:=ta.2;omega),sml rfl,λt ht=>?_⟩
  have all:∀y>(["text a "++z,"ask b a","say b"]:oj Str),Wd 20 y:=λy hy=>by
   simp![uD,uH,uM] at hy;rcases hy with rfl|rfl|rfl
   .exact ta.cat hz ()
   .exact[():()]
   .exact[():()]
  have s2:=qf ht (.tup ((["text a "++z,"ask b a","say b"]:oj Str).map V.str));exact k _ _ _ (Bc (by show 3<=14;decide) all) (qaj all ht) (U.same s2) ((K1.trans K2).trans (lQ.of s2))
def PJ:#[T,6,a.ZA,a.ZF,["pot","names"],On]:=by
 have Qc:=#[zW,T];have kW:=#[PY,T];have Zf:=#[Ei,T];have O:=#[LM,T];exists 9,T.mI,X9
 erw[h,p,L,zs,rfl,hP,hL,hN,k];have ae:=hN.1;have af:=hN.2.1;exists 3,%[#[qE,(2),X9.nd,#[qq,Qc,T.il,#v[pv 0,qi]]],#[qF,#[qp,D5,pv 2,qi,qw _],%[|#[qo,#[qD,#v[ql,#[qq,kW,T.mE,#v[pv 0,pv 1]]]]]],qt],#[qF,#[qp,D5,pv 2,qi,qw _],%[|#[qo,#[qD,#v[ql,#[qq,Zf,T.mD,#v[pv 0,pv 1]]]]]],qt],#[qF,#[qp,QJ,pv 2,qi,qw _],%[|#[qo,#[qD,#v[ql,#[qq,O,T.mS,#v[pv 0,pv 1]]]]]],qt],@qF _ _ _ _ _ _ _ _ #[Bv,7,#[qp,QJ,pv 2,qi,qw _],#[qal,4,#[qp,QJ,#[qq,Qc,T.il,#v[pv 0,qi]],qi,qw _]]].pt %[|#[qo,#[qD,#v[ql,#[qq,kW,T.mE,#v[pv 0,pv 1]]]]]] qt|#[qo,#[qD,#v[ql,#[qH,7,YS,pv 1,#[qq,Qc,T.il,#v[pv 0,#[qz,qT,T.Yo,uL,#v[pv 1]]]],(λ_ _=>rfl)]]]]]
 exists 0,p,(10),1,hP,(),(),λd1 H1 a0 a1 P1 K1=>?_
 have aa:=K1 _ _ hL (hP.ne_strs hL);have fin:∀{H3 H2:Hp}{kk:Str}{d:D}{v:V},mL H3 p->lQ p H H3->kk="leaf"\/kk="rule"->Aae d->Is H2 d v->mL H2 p->lQ p H3 H2-> [V.str kk,v].length<=Vk/\∀t,H2 t=U_->Q (-t) (upd H2 t (-[!kk,v])):=λ{H3 H2 kk d v} P3 K3 hk hd U P2 K2=>
  Od hk hd U λt H4 s4 i4 o4=>k _ _ H4 o4 i4 (P2.same s4) ((K3.trans K2).trans (lQ.of s4))
 exists 0,_,0,1,0,l6 (λ_=>?_) (λ_=>?_)
 .exact⟨0,0,p,L,zs,1,P1,aa,hN,λv d H2 hd U P2 K2=>fin P1 K1 (.inl rfl) hd U P2 K2⟩
 exists 0,_,0,1,0,l6 (λ_=>?_) (λ_=>?_)
 .exact⟨0,0,p,L,zs,1,P1,aa,hN,λv d H2 hd U P2 K2=>fin P1 K1 (.inr rfl) hd U P2 K2⟩
 exists 0,1,0,l6 (λ_=>?_) (λ_=>?_)
 .exact⟨0,0,p,L,zs,1,P1,aa,hN,λv d H2 hd U P2 K2=>fin P1 K1 (.inr rfl) hd U P2 K2⟩
 show nw _ _ _ _ H1;refine qB λN0 n0=>n0 _ _ ?_;exists 8,BB,bb;have made:∀{H3:Hp},mL H3 p->lQ p H H3->BB [u_ (V.ref p),u_ (V.ref L),u_ (V.int d1)] H3:=by
  intro H3 P3 K3;refine bb _ _ ?_;have ac:=K3 _ _ hL (hP.ne_strs hL)
  exists 5
  refine⟨0,0,0,L,0,.inl (SqL.of ac),p,0,P3,by rw[u9];omega,by rw[u9];omega,λd2 H4 b0 b1 P4 K4=>?_⟩
  erw[xf (xs:=zs.map V.str) b0 b1,v,U];erw[Ae.mp (Zl U),z,hz,rfl]
  exists L,_,_,0,1,SqL.of (K4 _ _ ac (P3.ne_strs ac)),U,sml rfl,λt ht=>?_;have s4:=qf ht (-[-"made",!z]);have ad:=hN.2.2 z hz;exact k _ _ _ (La ad.1) (Is.new (ds:= [-"made",!z]) ⟨_,0,[1:()],_,0,[1:mW ()],1⟩ ht) (P4.same s4) ((K3.trans K4).trans (lQ.of s4))
 exists 0,1,0,l6 (λ_=>?_) (λ_=>?_)
 .exists 0,p,(4),1,P1,(),(),λd2 H2 b0 b1 P2 K2=>[1:0:l6 (λ_=>?_) (λ_=>?_)]
  .exact⟨0,0,p,L,zs,1,P2,K2 _ _ aa (P1.ne_strs aa),hN,λv d H3 hd U P3 K3=>fin P2 (K1.trans K2) (.inr rfl) hd U P3 K3⟩
  .exact made P2 (K1.trans K2)
 .exact iR (made P1 K1)
def SqL.keepK {K:o0}{a:o3}(e:∀o,H a=u_ o->H' a=u_ o)(h:SqL K H a xs):SqL K H' a xs:=by
 rcases h with(h|⟨o,h⟩)|h
 .exact .inl (.inl (e _ h))
 .exact .inl (.inr [o:e _ h])
 .exact .inr h
abbrev N8:oj Str:= ["a","b1","c/d","e.f","g","h9","k","m/n"]
def AdC:∀z>N8,nm z=v_/\↑z<=4:=by decide+kernel
def AdD:N8.Nodup:=by decide+kernel
def Sz (h1:1<=n)(h2:n<=8):Nm4 (N8.take n)/\↑(N8.take n)=n:=by
 have e:↑(N8.take n)=n:=by rw[vG];show min n 8=n;omega
 exact[[():():λz hz=>AdC z (T5 hz)]:e]
def MC {vs:oj V}:nj vs U_ (u_ (n:Int))=vs.take n:=by
 unfold nj;rw[HT.sIx_none,HT.sIx_nat,Td,Nat.sub_zero];rcases tS n ↑vs with h|h
 .rw[TN h]
 .rw[Nat.min_eq_right h,vq (uj _),vq h]
def ES {ns:oj Int}:∀{ys:oj V},(∀y>ys,y>ns.map V.int)->∃O:oj Int,ys=O.map V.int
 | [],_=>[[]:1]
 |y::r,h=>by
  erw[Ae.mp (h y uf),i,_,e];obtain⟨O,e2⟩:=ES (ys:=r) λz hz=>h z (uc _ hz);exact⟨i::O,by rw[e2,<-e];rfl⟩
inductive Oy (K:PySem.W.Frag):Sp
 |mk (q:Addr)(ns:List Int)(_:vs= [-q])(_:SqL K H q (ns.map V.int))(_:∀(L:Addr)(ps:List (Str×D))(us:List V)(H':Hp),H L=U_->ig H H'->H' L=u_ (.lst us)->L2.IsL H' (ps.map prD) us->Ac0 ps->↑ps<=8->Q (-L) H')
def Og {K:o0}(h:SqL K H q xs)(s:ig H H'):SqL K H' q xs:=SqL.keepK (λo e=>s _ _ e) h
def LN:#[T,7,a.X0,a.zo,["script"],(Oy K)]:=by
 have KA:=#[Sh,T];have aa:=#[PQ,T];have U:=#[PJ,T];exists 9,T.mr,yj
 erw[h,q,ns,rfl,hq,k];have hs:=uB;exists 3,%[#[qE,(1),yj.nd,#[xg,Kl,#[Q7,#v[ql,ql,ql,ql,ql,ql,ql,ql]],We,#[jN,#[qV,yA,qi,#[qV,xz,#[qq,KA,T.my,#v[pv 0,qi]],qi]]]]],#[qE,(2),yj.nd,#[Q7,qd]],#[YO,#[jH,#v[#[qz,qT,T.Yo,uL,#v[pv 1]]]],#[qP,(3),yj.nd],%[#[qE,(4),yj.nd,#[qz,#[sM,1,rfl],T.z_sum,boot_sum,#v[#[BA,10,(),pv 0,#[jN,#[qV,yA,qi,pv 3]],_]]]]|#[qF,#[qp,CC,#[qV,xz,pv 4,qi],qi,qw _],%[|#[Qa,#[j0,vc,vD,vE,YH,pv 2,#v[#[qD,#v[#[qH,7,YS,pv 1,pv 3,(λ_ _=>rfl)],#[qq,U,T.mI,#v[#[qq,aa,T.nH,#v[pv 4,pv 3]],pv 1]]]]]]]],qt]]]|#[qo,pv 2]]
 exists sml rfl,λl0 ax=>?_;have s0:=qf ax (.lst (N8.map V.str));have e0:(upd H l0 (.lst (N8.map V.str))) l0=u_ (.lst (N8.map V.str)):=qg;show Di _ (upd H l0 (.lst (N8.map V.str))) _;generalize upd H l0 (.lst (N8.map V.str))=H0 at s0 e0⊢
 exists 0,q,ns,(0),1,(),(Og hq s0),λc=>⟨_,0,1,(by show(0:Int)<8;decide),_,0,1,?_⟩
 have m1:0<=c%8/\c%8<8:=[tE _ ():UV _ ()]
 obtain⟨n,hn,ay,aA⟩:∃n:Nat,1+c%8=(n:Int)/\1<=n/\n<=8:=⟨(1+c%8).toNat,(),(),()⟩
 erw[Sz ay aA,hN,aB]
 try dsimp only
 rw[hn]
 exists 0,l0,0,SqL.of e0,λl hl=>?_;rw[MC,<-UW];have am:(N8.take n).Nodup:=pR (V0 _ _) AdD;generalize N8.take n=zs at hN aB am⊢;have s1:=s0.trans (qf hl (.lst (zs.map V.str)));have e1:(upd H0 l (.lst (zs.map V.str))) l=u_ (.lst (zs.map V.str)):=qg;generalize upd H0 l (.lst (zs.map V.str))=H1 at s1 e1⊢
 exists uS _,λL hL=>?_;have s2:=s1.trans (qf hL (.lst ([]:oj V)));have ao:H L=none:=s1.free hL;have aC:l≠L:=qk e1 hL;have e2:=qf hL (.lst ([]:oj V)) _ _ e1;have eL:(upd H1 L (.lst [])) L=u_ (.lst []):=qg;generalize upd H1 L (.lst [])=H2 at s2 e2 eL⊢
 exists 0,l,0,.inl (SqL.of e2),↑zs,by rw[u9],(),()
 refine wZ (n:=↑zs) (λi σ H'=>∃(ps:oj (Str×D)) (us:oj V) (x3 x4:om V),σ= [u_ (-q),u_ (-l),u_ (-L),x3,x4]/\ig H H'/\H' l=u_ (.lst (zs.map V.str))/\H' L=u_ (.lst us)/\L2.IsL H' (ps.map prD) us/\(ps.map (·.1)).Sublist (zs.take i)/\∀p>ps,W0 p.2) ⟨[],[],U_,U_,1,s2,e2,eL,1,List.nil_sublist _,λp hp=>by simp at hp⟩ ?_ ?_
 .rintro i σ H' hi ⟨ps,us,x3,x4,rfl,sm,el,ak,af,O,ac⟩;have aJ:↑ps<=8:=by
   have h1:=O.length_le;rw[u9,vG] at h1;omega
  have aD:=↑af;rw[u9] at aD
  exists 0,0,_,0,1,0,q,0,(Og hq sm),λys y0 _ ap aE=>?_;erw[ES ap,ms,rfl];have sy:=qf aE (.lst (ms.map V.int));have ey:(upd H' y0 (.lst (ms.map V.int))) y0=u_ (.lst (ms.map V.int)):=qg;have ad:=sy _ _ ak;have ae:=sy _ _ el;generalize upd H' y0 (.lst (ms.map V.int))=H3 at sy ey ad ae⊢;have ah:=af.mono sy.tk;have aq:=sm.trans sy
  exists y0,ms,1,SqL.of ey
  exists 0,_,0,1,(by show(0:Int)<11;decide),1,0,l6 (λ_=>?_) (λ_=>?_)
  .have al:i<↑zs:=hi
   exists 0,.inl [1:_:SqL.of ad],0,0,l,_,_,V.str zs[i],1,1,SqL.of ae,?_,?_
   .rw[show(0:Int)+(i:Int)=((i:Nat):Int) by omega]
    exact qI (by rw[uG,uh al];rfl)
   exists 0,0,_,0,(),(),λp H4 hp s4 P4=>?_
   have aF:=s4 _ _ ae;have aK:=s4 _ _ ad;have aL:L≠p:=qk ad hp
   exists 0,p,l,zs,1,P4,aF,hN,λv d H5 hd hv P5 K5=>[sml rfl:λt ht=>?_];have aG:ig H3 H5:=K5.same s4 hp;have st:=qf ht (-[.str zs[i],v]);have hz:=hN.2.2 _ (uT al);have au:Is (upd H5 t (-[.str zs[i],v])) (prD (zs[i],d)) (-t):=Is.new (ds:= [.str zs[i],d]) ⟨_,0,[1:mW ()],_,0,hv,1⟩ ht
   generalize upd H5 t (-[.str zs[i],v])=H6 at st au⊢;have ag:=aG.trans st;have aw:=ag _ _ ad
   exists L,us,0,1,aw,()
   have tk:Tk H6 (upd H6 L (.lst (us++ [-t]))):=Tk.updL aw
   exists ps++ [(zs[i],d)],us++ [-t],_,0,λb o e=>?_,?_,qg,?_,?_,λp' aH=>?_
   .rw[qj (qk e ao)];exact ag _ _ (aq _ _ e)
   .rw[qj aC];exact ag _ _ ae
   .rw[uq];exact((ah.mono ag.tk).mono tk).append (L2.IsL.one (au.mono tk))
   .rw[IW al,uq];exact O.append (Ps _)
   .rcases Ac.mp aH with h|h
    .exact ac p' h
    .cases Ab.mp h;exact hd
  .exact⟨ps,us,_,0,aq,ae,ad,ah,O.trans (by rw[IW hi];exact List.sublist_append_left _ _),ac⟩
 .rintro σ H' ⟨ps,us,x3,x4,rfl,sm,el,ak,af,O,ac⟩;rw[U1] at O;have aI:=O.length_le;rw[u9] at aI;exact[0:k L ps us H' ao sm ak af [[λz hz=>(hN.2.2 z (O.mem hz)).1:am.sublist O]:ac] ()]
inductive OL:Sp
 |mk (v:V)(d:D)(_:vs= [v])(_:Is H d v)(_:∀(u:V)(H':Hp),ig H H'->((QK d).isSome=v_->u= .non)->((QK d).isSome=Vg->u≠ .non)->Q u H')
inductive Dz:Sp
 |mk (v:V)(d:D)(_:vs= [v])(_:Is H d v)(_:∀H',ig H H'->Q (.bl (QK d).isSome) H')
def Si:#[C,4,a.W6,a.kc,["tree"],OL]:=by
 have Jo:=#[Ek,T,C];exists 9,T.lW,s9
 erw[h,v,d,rfl,hv,k];exists 3,%[|#[qo,#[qH,qC,#[qq,Jo,T.lT,#v[pv 0]]]]]
 exists 0,v,d,1,hv,λu H' x y s' U hu=>?_;erw[hu,p,ws,rfl,hp,w1,r1,rfl,h1,w2,r2,rfl,h2,h3];cases(show r2= [] from h3)
 exists p,_,_,0,1,SqT.of hp,1,k _ H' s' (λe=>?_) (λe=>?_)
 .erw[XZ e,rs,O];erw[U.1 rs O,_,rfl];exact h2
 .have hn:QK d=none:=by
   cases hh:QK d with
   |none=>rfl
   |some rs=>rw[hh] at e;cases e
  erw[U.2 hn,i,rfl];intro z;rw[z] at h2;cases(show V.non= .int i from h2)
def oR:#[C,5,a.f_is_rule,a.d_is_rule,["value"],Dz]:=by
 have O:=#[Si,T,C];exists 9,T.mO,Cr,U
 erw[h,v,d,rfl,hv,k];exists 3,%[|#[qo,#[Qp,yf,#[qq,16,O,U.mono (),_,T.lW.m,T.lW.F.kp,T.lW.b,.nil,qy,#v[pv 0],_,_,_],qO]]]
 exists 0,v,d,1,hv,λu H' s' h1 h2=>[1:?_];have e:decide (u=V.non)=(QK d).isSome:=by
  cases c:(QK d).isSome with
  |true=>rw[h1 c];rfl
  |false=>exact ug (h2 c)
 have:=k H' s';rwa[<-e] at this
end
def DO {n:Nat}:∀{ds:oj D},(∀d>ds,(Qq n d).isSome=v_)->↑(ds.filterMap (Qq n))=↑ds/\ds=(ds.filterMap (Qq n)).map (λr=>D.str (yU r))/\∀r>ds.filterMap (Qq n),Jk n 300 r
 | [],_=>[1:1:λr h=>nomatch h]
 |d::ds,h=>by
  erw[XZ (h d uf),r,O];obtain⟨h1,h2,h3⟩:=DO (n:=n) (ds:=ds) λx U=>h x (uc _ U);have hd:d= .str (yU r)/\Jk n 300 r:=by
   cases d with
   |str z=>
    obtain⟨a1,a2⟩:=Bp (show Wh n z=u_ r from O)
    exact⟨by rw[a2],a1⟩
   |non=>cases O
   |bl b=>cases O
   |int i=>cases O
   |lst=>cases O
   |dct=>cases O
   |tup xs=>cases O
  rw[Ug O];exists by rw[ui,ui,h1],by rw[uA,<-h2,hd.1],λx U=>?_
  rcases Aa.mp U with rfl|U
  .exact hd.2
  .exact h3 x U
variable {rs:oj Rw}
def wO {d:D}(h:QK d=u_ rs):d=Yd rs/\QW rs:=by
 cases d with
 |tup ds=>
  rw[zE] at h;split at h
  .rename_i O
   simp![uC,vf] at O;erw[O,[[c1,c2],U],c4];cases h;erw[DO (List.all_eq_true.mp U),h1,h2,h3];have e:D.tup ds=Yd (ds.filterMap (Qq ↑ds)):=by
    unfold Yd;rw[<-h2]
   refine⟨e,⟨(),(),?_,by rwa[<-e]⟩⟩
   rwa[h1]
  .cases h
 |non=>cases h
 |bl b=>cases h
 |int i=>cases h
 |str z=>cases h
 |lst=>cases h
 |dct=>cases h
abbrev GMT:oj Str:= ["begin","look","wanted","take","full"]
structure GFl (fs:oj (Str×V))(nv ov mv av rv ev:V):Prop where
 Zz:fs.lookup ("name":Str)=u_ nv
 WH:fs.lookup ("order":Str)=u_ ov
 YM:fs.lookup ("made_by":Str)=u_ mv
 y7:fs.lookup ("rule_asks":Str)=u_ av
 Qu:fs.lookup ("rule_run":Str)=u_ rv
 f_end:fs.lookup ("end":Str)=u_ ev
 meth:∀m>GMT,fs.lookup m=U_
 len:↑fs<=20
section
variable {fs:oj (Str×V)}{nv ov mv av rv ev:V}
def GFl.set_made_by {u:V}(h:GFl fs nv ov mv av rv ev):GFl (iJ "made_by" u fs) nv ov u av rv ev:=by
 refine⟨?_,?_,?_,?_,?_,?_,λm hm=>?_,by rw[je h.YM];exact h.len⟩
 all_goals rw[qJ]
 all_goals first|rw[A6 rfl]|(rw[A4 ()];first|exact h.Zz|exact h.WH|exact h.YM|exact h.y7|exact h.Qu|exact h.f_end)|(rw[A4 (λe=>by subst e;revert hm;decide+kernel)];exact h.meth m hm)
def GFl.set_rule_asks {u:V}(h:GFl fs nv ov mv av rv ev):GFl (iJ "rule_asks" u fs) nv ov mv u rv ev:=by
 refine⟨?_,?_,?_,?_,?_,?_,λm hm=>?_,by rw[je h.y7];exact h.len⟩
 all_goals rw[qJ]
 all_goals first|rw[A6 rfl]|(rw[A4 ()];first|exact h.Zz|exact h.WH|exact h.YM|exact h.y7|exact h.Qu|exact h.f_end)|(rw[A4 (λe=>by subst e;revert hm;decide+kernel)];exact h.meth m hm)
def GFl.set_rule_run {u:V}(h:GFl fs nv ov mv av rv ev):GFl (iJ "rule_run" u fs) nv ov mv av u ev:=by
 refine⟨?_,?_,?_,?_,?_,?_,λm hm=>?_,by rw[je h.Qu];exact h.len⟩
 all_goals rw[qJ]
 all_goals first|rw[A6 rfl]|(rw[A4 ()];first|exact h.Zz|exact h.WH|exact h.YM|exact h.y7|exact h.Qu|exact h.f_end)|(rw[A4 (λe=>by subst e;revert hm;decide+kernel)];exact h.meth m hm)
def GFl.set_end {u:V}(h:GFl fs nv ov mv av rv ev):GFl (iJ "end" u fs) nv ov mv av rv u:=by
 refine⟨?_,?_,?_,?_,?_,?_,λm hm=>?_,by rw[je h.f_end];exact h.len⟩
 all_goals rw[qJ]
 all_goals first|rw[A6 rfl]|(rw[A4 ()];first|exact h.Zz|exact h.WH|exact h.YM|exact h.y7|exact h.Qu|exact h.f_end)|(rw[A4 (λe=>by subst e;revert hm;decide+kernel)];exact h.meth m hm)
end
structure Gc where
 (x o:o3)
 n:Str
structure Gs where
 mb:D
 ra:oj D
 run:om (Mc×Rn)
 en:D
abbrev WZ (CM:o3)(H:Hp)(x:o3)(rv:V):om (Mc×Rn)->Prop
 |none=>rv= .non
 |some (m,r)=>rv= .ref m.x/\m.x≠x/\yC CM H m r
abbrev l8 (C CM:o3)(H:Hp)(g:Gc)(s:Gs):Prop:=
 ∃(dx:o3) (fs:oj (Str×V)) (mv av rv ev:V),H g.x=u_ (.ins C dx fs)/\GFl fs (!g.n) (-g.o) mv av rv ev/\Is H s.mb mv/\Is H (¬s.ra) av/\WZ CM H g.x rv s.run/\Is H s.en ev
variable {CM:o3}
def WZ.same {x:o3}{o:om (Mc×Rn)}(h:WZ CM H x rv o)(s:ig H H'):WZ CM H' x rv o:=by
 cases o with
 |none=>exact h
 |some p=>exact[h.1:h.2.1:h.2.2.same s]
def l8.same {g:Gc}{s:Gs}(h:l8 C CM H g s)(sm:ig H H'):l8 C CM H' g s:=by
 erw[h,dx,fs,mv,av,rv,ev,e,f,i,j,k,l];exact⟨dx,fs,mv,av,rv,ev,sm _ _ e,f,i.mono sm.tk,j.mono sm.tk,k.same sm,l.mono sm.tk⟩
def yC.put {m:Mc}{r:Rn}{x:o3}{fs:oj (Str×V)}(h:yC CM H m r)(e:H x=u_ (.ins C dx fs))(n:m.x≠x):yC CM (upd H x (.ins C dx fs')) m r:=by
 erw[h,U,fm,rv,ru,tv,gv,e1,f,i,j,b,O,gl,t];have tk:Tk H (upd H x (.ins C dx fs')):=Tk.updI e;have n1:m.db≠x:=YF.ne e b;have n2:m.dg≠x:=λz=>by rw[z,e] at O;cases O
 exact⟨U,fm,rv,ru,tv,gv,by rwa[qj n],f,i.mono tk,j.mono tk,b.move tk (qj n1),by rwa[qj n2],gl.mono tk,t.mono tk⟩
def WZ.put {x:o3}{fs:oj (Str×V)}{o:om (Mc×Rn)}(h:WZ CM H x rv o)(e:H x=u_ (.ins C dx fs)):WZ CM (upd H x (.ins C dx fs')) x rv o:=by
 cases o with
 |none=>exact h
 |some p=>exact[h.1:h.2.1:h.2.2.put e h.2.1]
structure Gv (g:Gc)(H H':Hp):Prop where
 kept:∀b o,H b=u_ o->b≠g.x->H' b=u_ o
 tk:Tk H H'
def ka {g:Gc}{fs:oj (Str×V)}{mv av ev:V}{s:Gs}(e:H g.x=u_ (.ins C dx fs))(f:GFl fs' (!g.n) (-g.o) mv av rv ev)(i:Is H s.mb mv)(j:Is H (¬s.ra) av)(k:WZ CM H g.x rv s.run)(l:Is H s.en ev):
  l8 C CM (upd H g.x (.ins C dx fs')) g s/\Gv g H (upd H g.x (.ins C dx fs')):=by
 have tk:Tk H (upd H g.x (.ins C dx fs')):=Tk.updI e;exact⟨⟨dx,fs',mv,av,rv,ev,qg,f,i.mono tk,j.mono tk,k.put e,l.mono tk⟩,⟨λb o h n=>by rwa[qj n],tk⟩⟩
abbrev oX (s:Gs)(r:Rn):Gs:=if Qy r.th=v_ then s else{s with en:=r.th}
inductive Oz (C CM:Addr):Sp
 |mk (g:Gc)(s:Gs)(m:Mc)(r:Rn)(_:vs= [-g.x])(_:l8 C CM H g s)(_:s.run=u_ (m,r))(_:Th r.th)(_:∀H',Gv g H H'->l8 C CM H' g (oX s r)->Q .non H')
section
variable {P:o9}{w:og}{K:o0}{mg:Str->om o6}{base:o8}{a:Ad}{g:Ga}
def En:#[T,2,a.ZD,a.ZS,["self"],(Oz a.qK a.qm)]:=by
 have qY:=#[KK,T];have Qs:=#[oP,T];exists 9,T.lX,Ky
 erw[h,g,st,m,r,rfl,hG,O,aa,k];exists 3,%[|#[qF,#[Qi,#[Qb,#[QN,#[qN,5,pv 0,rfl],T.qu,T.im,qY]]],%[|#[Qh,#[QN,#[qN,5,pv 0,rfl],T.qu,T.iG,Qs]]],qt]]
 erw[id hG,dx,fs,mv,av,rv,ev,e,f,i,j,hR,l];rw[O] at hR;erw[hR,rfl,hn,hM];erw[id hM,dm,fm,ac,ru,tv,gv,em,U,i1,i2,i3,i4,i5,i6]
 exists 0,g.x,_,dx,fs,0,e,T.qQ,T.qW,f.Qu,m.x,dm,fm,1,em,U.meth _ (),m,r,1,hM,aa,0
 cases c:Qy r.th with
 |true=>
  refine iR (k H [λ_ _ h _=>h:Tk.refl H] ?_);unfold oX;rwa[A6 c]
 |false=>
  refine lm ?_
  exists 0,g.x,_,dx,fs,0,e,T.qQ,T.qW,f.Qu,m.x,dm,fm,1,em,U.meth _ (),m,r,1,hM,λv hv=>?_
  exists 5
  refine⟨0,g.x,_,dx,fs,1,e,T.qQ,T.Q9,by have:=f.len;omega,?_⟩
  have hS:oX st r={st with en:=r.th}:=by
   unfold oX;rw[c];exact A4 u8
  obtain⟨m1,m2⟩:=ka (CM:=a.qm) (s:={st with en:=r.th}) e (f.set_end (u:=v)) i j (by rw[O];exact[1:hn:hM]) hv
  refine k _ m2 ?_;rw[hS];exact m1
inductive Du (CM:Addr):Sp
 |mk (o:Addr)(v:V)(rs:List Rw)(own:Str)(_:vs= [-o,v,!own])(_:Is H (Yd rs) v)(_:QW rs)(_:nm own=v_)(_:∀(mc:Mc)(H':Hp),ig H H'->H mc.x=U_->H mc.db=U_->H mc.dg=U_->mc.rs=rs->mc.own=own->yC CM H' mc (mo rs own [] 300 B0 1 0)->Q (-mc.x) H')
def Eh:#[C,8,a.YW,a.YJ,["self","rule","own"],(Du a.qm)]:=by
 have yi:=#[qad,T,C];exists 9,T.iZ,xm
 erw[h,o,v,rs,own,rfl,hv,hR,hn,k];have hl:=xO hn;have hI:∀H:Hp,Is H (!own) (!own):=λH=>QU ()
 exists 3,%[|#[qo,#[Xz,T.wt,yi,T.WS,T.iQ,oG,#v[pv 1,pv 2]]]]
 exists 0,0,λx dx hx aa nx=>?_;have U:ig H (upd (upd H dx (.own x)) x (.ins a.qm dx [])):=λb o h=>by rwa[qj (qk h hx),qj (qk h aa)]
 exists x,dx,v,!own,Yd rs,!own,1,qg,hv.mono U.tk,hI _,λz=>?_,λ_ z=>?_,λO af e1 ac e2 ag ah H' db dg kept ad ae hM=>[1:?_]
 .rw[hR.read] at z;cases z
 .have:mG (!own)=true:=hn;rw[this] at z;cases z
 .have e3:O=rs:=by
   have h1:=hR.read;rw[e1,ac.read] at h1;exact uJ h1
  cases e2;subst e3;exact k ⟨x,db,dg,O,own⟩ H' (λb o h=>kept b o (U b o h) (qk h hx)) hx (U.free ad) (U.free ae) rfl rfl hM
abbrev R0 (rs:oj Rw)(n:Str):Rn:=mo rs n [] 300 B0 1 0
structure MR (H:Hp)(g:Gc)(d:D)(s s':Gs):Prop where
 mb:s'.mb=s.mb
 ra:s'.ra=s.ra
 lack:d= .non->s'.run=U_/\s'.en=flt "lack"
 rule:d≠ .non->QK d=U_->s'.run=U_/\s'.en=flt "rule"
 go:∀rs,QK d=u_ rs->∃mc:Mc,H mc.x=U_/\H mc.db=U_/\H mc.dg=U_/\mc.rs=rs/\mc.own=g.n/\s'.run=u_ (mc,R0 rs g.n)/\s'.en=if Qy (R0 rs g.n).th=v_ then s.en else(R0 rs g.n).th
inductive Ln (C CM CO:Addr):Sp
 |mk (g:Gc)(s:Gs)(v:V)(d:D)(_:vs= [-g.x,v])(_:l8 C CM H g s)(_:s.run=U_)(_:nm g.n=v_)(_:Is H d v)(_:(∃dx fs,H g.o=u_ (.ins CO dx fs)/\fs.lookup ("runner":Str)=U_))(_:∀H' s',Gv g H H'->l8 C CM H' g s'->MR H g d s s'->Q .non H')
def MO {n:Str}(h:QW rs):C6 rs (R0 rs n):=Ah h 300 B0 1 0 [] rfl Aat () (by have:=h.n0;omega) ⟨1,by simp[dpL],uj _⟩
def Ad4 {n:Str}(h:QW rs):Th (R0 rs n).th:= .inr (MO h).two
def BG:#[C,9,a.XS,a.zj,["self","rule"],(Ln a.qK a.qm a.qr)]:=by
 have WF:=#[oR,T,C];have Xy:=#[Eh,T,C];have JY:=#[En,T];exists 9,T.lL,WX
 erw[h,g,st,v,d,rfl,hG,O,hn,hv,[ad,ae,ho,af],k];have hs:=uB;erw[id hG,dx,fs,mv,av,rv,ev,e,f,i,j,hR,l];rw[O] at hR;exists 3,%[|#[qF,#[qp,yf,pv 1,qO,qw _],%[|#[Qh,#[qD,#v[ql,ql]]]],%[|#[qF,#[Qi,#[Qb,#[qq,WF,T.mO,#v[pv 1]]]],%[|#[Qh,#[qD,#v[ql,ql]]]],%[#[Qh,#[Qj,#[qN,5,pv 0,rfl],T.qx,T.iZ,Xy,#v[pv 1,#[qN,5,pv 0,rfl]]]]|#[Qa,#[QN,pv 0,T.qQ,T.lX,JY]]]]]]]
 exists 0,1,0;have fl:∀(z:Str) (H:Hp) (l:o3),↑z<=100->H l=U_->Is (upd H l (-[-"fault",!z])) (flt z) (-l):=λz H l hz hl=>Is.new (ds:= [-"fault",!z]) ⟨_,0,QU (),_,0,QU (),1⟩ hl
 have aa:↑fs<1000:=by have:=f.len;omega
 have put:∀(z:Str) (t:o3) (H':Hp),↑z<=100->ig H H'->H' t=U_->((d= .non->z="lack")/\(d≠ .non->z="rule"/\QK d=U_))->Q .non (upd (upd H' t (-[-"fault",!z])) g.x (.ins a.qK dx (iJ "end" (-t) fs))):=λz t H' hz s' ht hd=>by
  have s1:=s'.trans (qf ht (-[-"fault",!z]));obtain⟨m1,m2⟩:=ka (CM:=a.qm) (g:=g) (s:={st with en:=flt z}) (s1 _ _ e) (f.set_end (u:=-t)) (i.mono s1.tk) (j.mono s1.tk) (by show WZ _ _ _ _ st.run;rwa[O]) (fl z H' t hz ht)
  refine k _ _ [λb o h n=>m2.kept b o (s1 b o h) n:s1.tk.trans m2.tk] m1 ⟨1,1,λh=>⟨O,by rw[hd.1 h]⟩,λh _=>⟨O,by rw[(hd.2 h).1]⟩,λrs h=>?_⟩
  by_cases c:d= .non
  .rw[c] at h;cases h
  .rw[(hd.2 c).2] at h;cases h
 by_cases c:d= .non
 .subst c;cases(show v= .non from hv)
  refine lN (ud rfl) [(sml rfl):λt ht=>?_]
  exists 0,g.x,_,dx,fs,1,(qf ht _) _ _ e,T.qQ,T.Q9,aa;exact put "lack" t H () (ig.refl _) ht [λ_=>rfl:λh=>A8 rfl h]
 .refine iU (ug (jQ hv c)) ?_
  exists 0,v,d,1,hv,λH1 s1=>[0:?_];cases hd:QK d with
  |none=>
   refine lm [(sml rfl):λt ht=>?_]
   exists 0,g.x,_,dx,fs,1,(qf ht _) _ _ (s1 _ _ e),T.qQ,T.Q9,aa;exact put "rule" t H1 () s1 ht [λh=>A8 h c:λ_=>[1:hd]]
  |some rs=>
   refine iR ?_;erw[wO hd,ed,ac];have e1:=s1 _ _ e
   exists 5
   refine⟨0,g.x,_,dx,fs,0,e1,T.qQ,T.zq,f.WH,g.o,ad,ae,1,s1 _ _ ho,af,0,0,g.x,_,dx,fs,0,e1,T.qQ,T.Yn,f.Zz,g.o,v,rs,g.n,1,by rw[<-ed];exact hv.mono s1.tk,ac,hn,λmc H2 s2 nx nb ng ers ag hM=>?_⟩
   have e2:=s2 _ _ e1;have U:=s1.trans s2
   exists 0,g.x,_,dx,fs,1,e2,T.qQ,T.qW,aa;have ah:mc.x≠g.x:=(qk e1 nx).symm;erw[ka (C:=a.qK) (CM:=a.qm) (g:=g) (s:={st with run:=u_ (mc,R0 rs g.n)}) e2 (f.set_rule_run (u:=-mc.x)) (i.mono U.tk) (j.mono U.tk) [1:ah:hM] (l.mono U.tk),m1,m2]
   erw[id m1,ak,al,_,_,_,_,e3,f3,_]
   exists 0,g.x,ak,al,1,e3,f3.meth _ (),g,_,mc,R0 rs g.n,1,m1,1,Ad4 ac,λH3 v3 G3=>k H3 _ [λb o h n=>v3.kept b o (m2.kept b o (U b o h) n) n:(U.tk.trans m2.tk).trans v3.tk] G3 ?_
   unfold oX
   exists 5
   refine⟨by split<;>rfl,by split<;>rfl,λh=>A8 h c,(λ_ h=>by rw[hd] at h;cases h),λam h=>?_⟩
   rw[hd] at h;cases h
   exists 5
   refine⟨mc,s1.free nx,s1.free nb,s1.free ng,ers,ag,by split<;>rfl,?_⟩
   split<;>rfl
inductive zp (C CM:Addr):Sp
 |mk (g:Gc)(s:Gs)(_:vs= [-g.x])(_:l8 C CM H g s)(_:((s.run=U_/\∃z,s.mb= .str z/\∀v H',ig H H'->Is H' (-[-"rule",!z]) v->Q v H')\/∃mc r d,s.run=u_ (mc,r)/\r.th= .tup [-"asks",d]/\∀v,Is H d v->Q v H))
abbrev Abi:om (Mc×Rn)->oj D
 |none=> []
 |some (_,r)=>r.gs
abbrev Ms (s:Gs):D:=-[.tup (s.ra++Abi s.run),s.en]
inductive OF (C CM:Addr):Sp
 |mk (g:Gc)(s:Gs)(_:vs= [-g.x])(_:l8 C CM H g s)(_:↑s.ra+↑(Abi s.run)<=1000)(_:∀v H',ig H H'->Is H' (Ms s) v->Q v H')
variable {v:V}{Q:VK}
def Iy {K:o0}{xs ys:oj D}{u:V}(O:Is H (¬xs) v)(U:Is H (¬ys) u)(hl:↑xs+↑ys<=1000)(k:∀p H',ig H H'->Is H' (.tup (xs++ys)) p->Q p H'):DT K v u H Q:=by
 erw[id O,a,vs,rfl,ha,ia];erw[id U,b,us,rfl,hb,ib];have la:=↑ia;have lb:=↑ib;have hs:=uB;exists a,b,vs,us,1,1,SqT.of ha,SqT.of hb,(),λe=>?_,λ_ e=>?_,λ_ _ p hp=>?_
 .have:xs= []:=List.length_eq_zero_iff.mp (by rw[e] at la;simpa using la.symm)
  rw[this] at k;exact k _ H (ig.refl _) U
 .have:ys= []:=List.length_eq_zero_iff.mp (by rw[e] at lb;simpa using lb.symm)
  rw[this,ve] at k;exact k _ H (ig.refl _) O
 .have n:=qf hp (.tup (vs++us));exact k _ _ n ⟨p,0,qg,(ia.append ib).mono n.tk⟩
def Ed:#[T,2,a.xu,a.xy,["self"],(zp a.qK a.qm)]:=by
 have Qs:=#[oP,T];exists 9,T.mh,Wk
 erw[h,g,st,rfl,hG,h];have hs:=uB;erw[id hG,dx,fs,mv,av,rv,ev,e,f,i,j,U,l];exists 3,%[#[qF,#[qp,yf,#[qN,5,pv 0,rfl],qO,qw _],%[|#[qo,#[qD,#v[ql,#[qN,5,pv 0,rfl]]]]],qt]|#[qo,#[qH,XL,#[QN,#[qN,5,pv 0,rfl],T.qu,T.iG,Qs]]]]
 exists 0,g.x,_,dx,fs,0,e,T.qQ,T.qW,f.Qu,1,0;rcases h with⟨O,z,hz,k⟩|⟨mc,r,d,O,aa,k⟩
 .rw[O] at U;cases(show rv= .non from U)
  rw[hz] at i;obtain⟨rfl,hl⟩:=(show mv= .str z/\↑z<=Vk from i)
  refine lN (ud rfl) ⟨0,g.x,_,dx,fs,0,e,T.qQ,T.yP,f.YM,(sml rfl),λt ht=>?_⟩;exact k _ _ (qf ht _) (Is.new ⟨_,0,QU (),_,0,[1:hl],1⟩ ht)
 .rw[O] at U;erw[U,rfl,hn,hM];erw[id hM,dm,fm,ad,ru,tv,gv,em,ac,i1,i2,i3,i4,i5,i6];refine iU (ug (λz=>by cases z)) ?_
  exists 0,g.x,_,dx,fs,0,e,T.qQ,T.qW,f.Qu,mc.x,dm,fm,1,em,ac.meth _ (),mc,r,1,hM,λv hv=>?_
  rw[aa] at hv;exact .inr (.inl (Xw (i:=1) (d:=d) hv (qI (j:=1) rfl) λq hq=>k q hq))
def Sd:#[T,2,a.Zu,a.ZJ,["self"],(OF a.qK a.qm)]:=by
 have wY:=#[Sj,T];exists 9,T.mK,XM
 erw[h,g,st,rfl,hG,hl,k];have hs:=uB;erw[id hG,dx,fs,mv,av,rv,ev,e,f,i,j,hR,l];exists 3,%[#[qE,(1),XM.nd,#[ya,#[qp,yf,#[qN,5,pv 0,rfl],qO,qw _],#[qD,qd],#[QN,#[qN,5,pv 0,rfl],T.qu,T.lZ,wY]]]|#[qo,#[qD,#v[#[qV,Wi,#[qN,5,pv 0,rfl],pv 1],#[qN,5,pv 0,rfl]]]]]
 have fin:∀(v:V) (H1:Hp),ig H H1->Is H1 (.tup (Abi st.run)) v->Adg K (AaJ 0) "rule_asks" [u_ (-g.x),u_ v] H1 λx H2=>AaJ 1 [u_ (-g.x),u_ v] H2 λy H3=>DT K x y H3 λz H4=>Adg K (AaJ 0) "end" [u_ (-g.x),u_ v] H4 λu H5=> [z,u].length<=Vk/\∀p,H5 p=U_->Q (-p) (upd H5 p (-[z,u])):=λv H1 s1 hv=>by
  exists 0,g.x,_,dx,fs,0,s1 _ _ e,T.qQ,T.yW,f.y7,0;refine Iy (j.mono s1.tk) hv hl λz H4 s4 i4=>?_;have U:=s1.trans s4
  exists 0,g.x,_,dx,fs,0,U _ _ e,T.qQ,T.Q9,f.f_end,(sml rfl),λp hp=>?_;have n:=qf hp (-[z,ev]);exact k _ _ (U.trans n) (Is.new ⟨_,0,i4,_,0,l.mono U.tk,1⟩ hp)
 exists 0,g.x,_,dx,fs,0,e,T.qQ,T.qW,f.Qu,1,0;cases O:st.run with
 |none=>
  rw[O] at hR fin;cases(show rv= .non from hR)
  refine lN (ud rfl) [(sml rfl):λt ht=>?_];exact fin _ _ (qf ht _) (Is.new (ds:= []) rfl ht)
 |some p=>
  erw[p,mc,r];rw[O] at hR fin;erw[hR,rfl,hn,hM];erw[id hM,dm,fm,ac,ru,tv,gv,em,aa,i1,i2,i3,i4,i5,i6];refine iU (ug (λz=>by cases z)) ?_
  exists 0,g.x,_,dx,fs,0,e,T.qQ,T.qW,f.Qu,mc.x,dm,fm,1,em,aa.meth _ (),mc,r,1,hM,λv H1 s1 hv=>?_
  exact fin v H1 s1 hv
structure Gw (g:Gc)(o:om (Mc×Rn))(H H':Hp):Prop where
 kept:∀b ob,H b=u_ ob->b≠g.x->(∀mc r,o=u_ (mc,r)->b≠mc.x/\b≠mc.db/\b≠mc.dg)->H' b=u_ ob
 tk:Tk H H'
inductive zu (C CM CO:Addr):Sp
 |mk (g:Gc)(s:Gs)(v:V)(d:D)(_:vs= [-g.x,v])(_:l8 C CM H g s)(_:nm g.n=v_)(_:Is H d v)(_:g.o≠g.x)(_:(∃dx fs,H g.o=u_ (.ins CO dx fs)/\fs.lookup ("runner":Str)=U_))(_:((s.run=U_/\∃z,s.mb= .str z/\∀H' s',Gw g s.run H H'->l8 C CM H' g s'->MR H g d {s with ra:= [-[-[-"rule",!z],d]]} s'->Q .non H')\/∃mc r u q,s.run=u_ (mc,r)/\mc.own=g.n/\QW mc.rs/\C6 mc.rs r/\r.th= .tup [-"asks",-[!u,q]]/\AU u d=v_/\∀H',Gw g s.run H H'->l8 C CM H' g (oX {s with run:=u_ (mc,l7 mc.rs mc.own r d)} (l7 mc.rs mc.own r d))->Q .non H'))
def AdP {g:Gc}{s:Gs}{mc:Mc}{r r':Rn}(h:l8 C CM H g s)(U:s.run=u_ (mc,r))(v:Mv mc H H')(hM:yC CM H' mc r'):l8 C CM H' g {s with run:=u_ (mc,r')}:=by
 erw[h,dx,fs,mv,av,rv,ev,e,f,i,j,k,l];rw[U] at k;erw[k,rfl,hn,hm];erw[id hm,dm,fm,aa,ru,tv,gv,em,ac,i1,i2,i3,O,i5,i6];have n1:g.x≠mc.db:=(YF.ne e i3).symm;have n2:g.x≠mc.dg:=λz=>by rw[<-z,e] at O;cases O
 exact⟨dx,fs,mv,av,_,ev,v.kept _ _ e hn.symm n1 n2,f,i.mono v.tk,j.mono v.tk,[1:hn:hM],l.mono v.tk⟩
def LR:#[C,10,a.ZV,a.Z0,["self","answer"],(zu a.qK a.qm a.qr)]:=by
 have jT:=#[BG,T,C];have JY:=#[En,T];have Ys:=#[Nm,T,C];exists 9,T.lf,Kt
 erw[h,U,st,v,d,rfl,hG,hn,hv,ao,[ap,aq,ho,au],h];have hs:=uB;erw[id hG,dx,fs,mv,av,rv,ev,e,f,i,j,hR,l];exists 3,%[|#[qF,#[qp,yf,#[qN,5,pv 0,rfl],qO,qw _],%[#[Qh,#[qD,#v[#[qD,#v[#[qD,#v[ql,#[qN,5,pv 0,rfl]]],pv 1]]]]]|#[Qa,#[Qj,pv 0,T.qQ,T.lL,jT,#v[pv 1]]]],%[#[Qa,#[Qj,#[qN,5,pv 0,rfl],T.qu,T.iI,Ys,#v[pv 1]]]|#[Qa,#[QN,pv 0,T.qQ,T.lX,JY]]]]]
 exists 0,U.x,_,dx,fs,0,e,T.qQ,T.qW,f.Qu,1,0;rcases h with⟨O,z,hz,k⟩|⟨mc,r,u,q,O,aw,ae,af,ag,aa,k⟩
 .rw[O] at hR;cases(show rv= .non from hR)
  refine lN (ud rfl) ?_;rw[hz] at i;obtain⟨rfl,hl⟩:=(show mv= .str z/\↑z<=Vk from i)
  have ax:↑fs<1000:=by have:=f.len;omega
  exists 0,U.x,_,dx,fs,0,e,T.qQ,T.yP,f.YM,(sml rfl),λt1 ah=>?_;have m1:=qf ah (-[V.str "rule",V.str z]);have k1:Is (upd H t1 (-[V.str "rule",V.str z])) (-[-"rule",!z]) (-t1):=Is.new ⟨_,0,QU (),_,0,[1:hl],1⟩ ah
  exists 0,(sml rfl),λt2 ak=>?_;have m2:=qf ak (-[V.ref t1,v]);have k2:=Is.new (ds:= [-[-"rule",!z],d]) ⟨_,0,k1,_,0,hv.mono m1.tk,1⟩ ak
  exists (sml rfl),λt3 al=>?_;have m3:=qf al (-[V.ref t2]);have k3:=Is.new (ds:= [-[-[-"rule",!z],d]]) ⟨_,0,k2,1⟩ al;have s3:=(m1.trans m2).trans m3
  exists 0,U.x,_,dx,fs,1,s3 _ _ e,T.qQ,T.yW,ax;have iz:Is H (!z) (!z):=[1:hl];obtain⟨p1,p2⟩:=ka (C:=a.qK) (CM:=a.qm) (g:=U) (s:={st with ra:= [-[-[-"rule",!z],d]]}) (s3 _ _ e) (f.set_rule_asks (u:=-t3)) (by show Is _ st.mb _;rw[hz];exact iz.mono s3.tk) k3 (by show WZ _ _ _ _ st.run;rw[O];rfl) (l.mono s3.tk)
  erw[id p1,ac,ad,_,_,_,_,e3,f3,_];have am:=s3.tk.trans p2.tk
  exists 0,U.x,ac,ad,1,e3,f3.meth _ (),0,U,_,v,d,1,p1,O,hn,hv.mono am,⟨ap,aq,p2.kept _ _ (s3 _ _ ho) ao,au⟩,λH4 s4 v4 G4 b4=>k H4 s4 [λb ob h n _=>v4.kept b ob (p2.kept b ob (s3 b ob h) n) n:am.trans v4.tk] G4 ⟨b4.mb,b4.ra,b4.lack,b4.rule,λrs h=>?_⟩
  erw[b4.go rs h,mc,c1,c2,c3,c4];have fr:∀b,upd (upd (upd (upd H t1 (-[V.str "rule",V.str z])) t2 (-[V.ref t1,v])) t3 (-[V.ref t2])) U.x (.ins a.qK dx (iJ "rule_asks" (-t3) fs)) b=U_->H b=none:=λb hb=>by
   cases hc:H b with
   |none=>rfl
   |some ob=>
    by_cases c:b=U.x
    .rw[c,qg] at hb;cases hb
    .rw[p2.kept b ob (s3 b ob hc) c] at hb;cases hb
  exact⟨mc,fr _ c1,fr _ c2,fr _ c3,c4⟩
 .rw[O] at hR;erw[hR,rfl,aB,hM];erw[id hM,dm,fm,aC,ru,tv,gv,em,ay,i1,i2,i3,i4,i5,i6];refine iU (ug (λz=>by cases z)) ?_
  have aA:↑mc.own<=100:=by rw[aw];have:=xO hn;omega
  exists 0,U.x,_,dx,fs,0,e,T.qQ,T.qW,f.Qu,mc.x,dm,fm,1,em,ay.meth _ (),0,mc,r,v,u,q,d,1,hM,af,ag,hv,ae,aA,aa,λH1 v1 M1=>?_
  .have G1:=AdP hG O v1 M1;erw[id G1,ac,ad,_,_,_,_,e3,f3,_];have hok:=AR (own:=mc.own) ae af (by rw[ag];show decide (("asks":Str)="asks")=v_;exact ud rfl) (AT aa)
   exists 5
   refine⟨0,U.x,ac,ad,1,e3,f3.meth _ (),U,_,mc,0,G1,1,.inr hok.two,λH2 v2 G2=>k H2 [λb ob h n1 n2=>v2.kept b ob (v1.kept b ob h (n2 mc r O).1 (n2 mc r O).2.1 (n2 mc r O).2.2) n1:v1.tk.trans v2.tk] G2⟩
abbrev gfs (n:Str)(o t:o3):oj (Str×V):= [("name",!n),("order",-o),("made_by",.non),("rule_asks",-t),("rule_run",.non),("end",.non)]
def EY (n:Str)(o t:o3):GFl (gfs n o t) (!n) (-o) .non (-t) .non .non:=by
 exists 1,1,1,1,1,1,?_,(by show 6<=20;decide)
 intro m hm;simp![GMT,uD,uH,uM] at hm;rcases hm with rfl|rfl|rfl|rfl|rfl<;>rfl
abbrev s0G:Gs:=⟨.non,[],U_,.non⟩
inductive Li (C CM CO:Addr):Sp
 |mk (x dx o:Addr)(n k:Str)(sv:V)(e:D)(_:vs= [-x,!n,sv,-o])(_:H x=u_ (.ins C dx []))(_:Is H (-[!k,e]) sv)(_:nm n=v_)(_:o≠x)(_:(∃dx fs,H o=u_ (.ins CO dx fs)/\fs.lookup ("runner":Str)=U_))(_:∀H' s',(∀b ob,H b=u_ ob->b≠x->H' b=u_ ob)->Tk H H'->l8 C CM H' ⟨x,o,n⟩ s'->(k="made"->s'={s0G with mb:=e})->(k≠"made"->MR H ⟨x,o,n⟩ e s0G s')->Q .non H')
def Aaw {x:o3}{fs:oj (Str×V)}{P:Hp->Prop}(e:H x=u_ (.ins C dx fs))(h:∀H1,H1 x=u_ (.ins C dx fs')->(∀b ob,H b=u_ ob->b≠x->H1 b=u_ ob)->Tk H H1->P H1):P (upd H x (.ins C dx fs')):=h _ qg (λb ob h n=>by rwa[qj n]) (Tk.updI e)
def LU:#[C,10,a.JK,a.Zt,["self","name","source","order"],(Li a.qK a.qm a.qr)]:=by
 have jT:=#[BG,T,C];exists 9,T.mJ,qai
 erw[h,x,dx,o,n,k,sv,d,rfl,hx,aa,hn,nox,[ac,ad,ho,ae],q];have hs:=uB;exists 3,%[#[Qh,pv 1],#[Qh,pv 3],#[Qh,qO],#[Qh,#[qD,qd]],#[Qh,qO],#[Qh,qO]|#[qF,#[qp,QJ,#[qH,qC,pv 2],ql,qw _],%[|#[Qh,#[qH,qC,pv 2]]],%[|#[Qa,#[Qj,pv 0,T.qQ,T.lL,jT,#v[#[qH,qC,pv 2]]]]]]]
 exists 0,0,x,_,dx,0,hx,T.qQ,T.Yn,()
 refine Aaw (P:=nw _ _ _ _) hx λH1 x1 k1 t1=>?_
 exists 5
 refine⟨0,0,x,_,dx,0,x1,T.qQ,T.zq,by show 1<1000;decide,?_⟩
 refine Aaw (P:=nw _ _ _ _) x1 λH2 x2 k2 t2=>?_
 exists 5
 refine⟨0,x,_,dx,0,x2,T.qQ,T.yP,by show 2<1000;decide,?_⟩
 refine Aaw (P:=nw _ _ _ _) x2 λH3 x3 k3 t3=>?_
 exists sml rfl,λt ht=>?_;have nxt:=(qk x3 ht).symm;have s4:=qf ht (.tup ([]:oj V))
 exists 5
 refine⟨0,x,_,dx,0,s4 _ _ x3,T.qQ,T.yW,by show 3<1000;decide,?_⟩
 refine Aaw (P:=nw _ _ _ _) (s4 _ _ x3) λH5 x5 k5 t5=>?_
 exists 5
 refine⟨0,x,_,dx,0,x5,T.qQ,T.qW,by show 4<1000;decide,?_⟩
 refine Aaw (P:=nw _ _ _ _) x5 λH6 x6 k6 t6=>?_
 exists 5
 refine⟨0,x,_,dx,0,x6,T.qQ,T.Q9,by show 5<1000;decide,?_⟩
 refine Aaw (P:=λH=>_) x6 λH7 O k7 t7=>?_;have kp:∀b ob,H b=u_ ob->b≠x->H7 b=u_ ob:=λb ob h nb=>k7 b ob (k6 b ob (k5 b ob (s4 b ob (k3 b ob (k2 b ob (k1 b ob h nb) nb) nb)) nb) nb) nb;have U:=(((((t1.trans t2).trans t3).trans s4.tk).trans t5).trans t6).trans t7;have O:H7 x=u_ (.ins a.qK dx (gfs n o t)):=O;have eT:H7 t=u_ (.tup ([]:oj V)):=k7 _ _ (k6 _ _ (k5 _ _ qg nxt) nxt) nxt;have i0:Is H7 (-[]) (-t):=⟨t,[],1,eT,1⟩;have G0:l8 a.qK a.qm H7 ⟨x,o,n⟩ s0G:=⟨dx,_,_,_,_,_,O,EY n o t,1,i0,1,1⟩;have af:=aa.mono U;erw[af,p,ws,rfl,hp,w1,r1,rfl,[rfl,ag],w2,r2,rfl,h2,h3];cases(show r2= [] from h3)
 exists 0,p,_,_,0,1,SqT.of hp,1,1,0;by_cases ck:k="made"
 .refine lN (ud (by rw[ck])) ⟨0,p,_,_,0,1,SqT.of hp,1,0,x,_,dx,0,O,T.qQ,T.yP,(by show 6<1000;decide),?_⟩
  erw[ka (C:=a.qK) (CM:=a.qm) (g:=[x:o:n]) (s:={s0G with mb:=d}) O ((EY n o t).set_made_by (u:=w2)) h2 i0 rfl rfl,p1,p2]
  exact q _ _ (λb ob h nb=>p2.kept b ob (kp b ob h nb) nb) (U.trans p2.tk) p1 (λ_=>rfl) λz=>A8 ck z
 .refine iU (ug (λz=>ck (V.str.inj z))) ?_
  exists 0,x,dx,0,O,(EY n o t).meth _ (),0,p,_,_,0,1,SqT.of hp,1,[x:o:n],s0G,w2,d,1,G0,1,hn,h2,⟨ac,ad,kp _ _ ho nox,ae⟩,λH8 s8 v8 G8 b8=>q H8 s8 (λb ob h nb=>v8.kept b ob (kp b ob h nb) nb) (U.trans v8.tk) G8 (λz=>A8 z ck) λ_=>⟨b8.mb,b8.ra,b8.lack,b8.rule,λrs h=>?_⟩
  erw[b8.go rs h,mc,c1,c2,c3,c4];have fr:∀b,H7 b=U_->H b=none:=λb hb=>by
   cases hc:H b with
   |none=>rfl
   |some ob=>
    by_cases c:b=x
    .rw[c,O] at hb;cases hb
    .rw[kp b ob hc c] at hb;cases hb
  exact⟨mc,fr _ c1,fr _ c2,fr _ c3,c4⟩
abbrev yV:D->D
 | .non=>-[-"lack"]
 | .tup [!k,e]=>if k="leaf" then .tup [-"value",e] else .non
 |_=> .non
abbrev Qr:D->D
 | .tup [!k,e]=>if k="said" then .tup [-"value",e] else -[!k,e]
 |d=>d
inductive Ow:Sp
 |mk (v:V)(d:D)(_:vs= [v])(_:Is H d v)(_:(d= .non\/∃k e,d=-[!k,e]))(_:∀u H',ig H H'->Is H' (yV d) u->Q u H')
inductive Lq:Sp
 |mk (v:V)(k:Str)(e:D)(_:vs= [v])(_:Is H (-[!k,e]) v)(_:∀u H',ig H H'->Is H' (Qr (-[!k,e])) u->Q u H')
def BI:#[T,1,a.wp,a.Wp,["end"],Lq]:=by
 exists 9,T.iV,ow
 erw[h,v,k,e,rfl,U,q];have hs:=uB;have O:=U;erw[U,p,ws,rfl,hp,w1,r1,rfl,[rfl,aa],w2,r2,rfl,h2,h3];cases(show r2= [] from h3)
 exists 3,%[|#[qo,#[ya,#[qp,QJ,#[qH,qC,pv 0],ql,qw _],#[qD,#v[ql,#[qH,qC,pv 0]]],pv 0]]]
 exists 0,p,_,_,0,1,SqT.of hp,1,1,0;by_cases c:k="said"
 .refine lN (ud (by rw[c])) ⟨0,p,_,_,0,1,SqT.of hp,1,(sml rfl),λt ht=>?_⟩
  refine q _ _ (qf ht _) ?_;unfold Qr
  try dsimp only
  rw[A6 c];exact Is.new ⟨_,0,QU (),_,0,h2,1⟩ ht
 .refine iU (ug (λz=>c (V.str.inj z))) [0:q _ H (ig.refl _) ?_];unfold Qr
  try dsimp only
  rw[A4 c];exact O
def An:#[T,1,a.Jh,a.Jc,["source"],Ow]:=by
 exists 9,T.iq,zN
 erw[h,v,d,rfl,U,hd,q];have hs:=uB;exists 3,%[#[qF,#[qp,yf,pv 0,qO,qw _],%[|#[qo,#[qD,#v[ql]]]],qt]|#[qo,#[ya,#[qp,QJ,#[qH,qC,pv 0],ql,qw _],#[qD,#v[ql,#[qH,qC,pv 0]]],qO]]]
 exists 0,1,0;rcases hd with rfl|⟨k,e,rfl⟩
 .cases(show v= .non from U)
  refine lN (ud rfl) [(sml rfl):λt O=>?_];exact q _ _ (qf O _) (Is.new ⟨_,0,QU (),1⟩ O)
 .erw[U,p,ws,rfl,hp,w1,r1,rfl,[rfl,aa],w2,r2,rfl,h2,h3];cases(show r2= [] from h3)
  refine iU (ug (λz=>by cases z)) ?_
  exists 0,p,_,_,0,1,SqT.of hp,1,1,0;by_cases c:k="leaf"
  .refine lN (ud (by rw[c])) ⟨0,p,_,_,0,1,SqT.of hp,1,(sml rfl),λt O=>?_⟩
   refine q _ _ (qf O _) ?_;unfold yV
   try dsimp only
   rw[A6 c];exact Is.new ⟨_,0,QU (),_,0,h2,1⟩ O
  .refine iU (ug (λz=>c (V.str.inj z))) (q _ H (ig.refl _) ?_);unfold yV
   try dsimp only
   rw[A4 c];exact(rfl:V.non=V.non)
end
structure Sy where
 G:Type
 fin:G->Bool
 want:G->om Str
 own:G->G
 tk:G->om D->G
 stuck:G->Str->G
 said:G->om D
 g0:Str->om G
 once:Str->om D
 lft:G->Nat
 M:Nat
 ns:oj Str
structure Sy.Ok (Y:Sy):Prop where
 fs:∀g m,Y.fin (Y.stuck g m)=v_
 ss:∀g m,Y.said (Y.stuck g m)=U_
 sf:∀g v,Y.said g=u_ v->Y.fin g=v_
 lo:∀g,Y.fin g=Vg->Y.want g=U_->Y.lft (Y.own g)<Y.lft g
 lt:∀g m a,Y.fin g=Vg->Y.want g=u_ m->Y.lft (Y.tk g a)<Y.lft g
 lk:∀g m,Y.fin g=Vg->Y.lft (Y.stuck g m)<Y.lft g
 l0:∀m g,Y.g0 m=u_ g->Y.lft g<=Y.M
 gn:∀m g,Y.g0 m=u_ g->m>Y.ns
namespace Sy
variable {Y:Sy}
nonrec abbrev Orc:=Str->om (om D)
abbrev step (Y:Sy)(f:Orc)(g:Y.G):Y.G:=if Y.fin g=v_ then g else match Y.want g with
 |none=>Y.own g
 |some m=>match f m with
  |some a=>Y.tk g a
  |none=>Y.stuck g m
abbrev it (Y:Sy)(f:Orc):Nat->Y.G->Y.G
 |0,g=>g
 |k+1,g=>it Y f k (step Y f g)
def wj {f:Orc}{g:Y.G}(h:Y.fin g=v_):step Y f g=g:=by unfold step;rw[A6 h]
def ZE {f:Orc}{g:Y.G}(h:Y.fin g=v_):∀k,it Y f k g=g
 |0=>rfl
 |k+1=>by show it Y f k (step Y f g)=g;rw[wj h];exact ZE h k
def wX {f:Orc}:∀(k j:Nat) (g:Y.G),it Y f (k+j) g=it Y f j (it Y f k g)
 |0,j,g=>by rw[tV];rfl
 |k+1,j,g=>by
  rw[Nat.add_right_comm];show it Y f (k+j) (step Y f g)=_;rw[wX k j]
  rfl
def Wc {f:Orc}(k:Nat)(g:Y.G):it Y f (k+1) g=step Y f (it Y f k g):=wX k 1 g
def Bk (h:Y.Ok){f:Orc}{g:Y.G}(O:Y.fin g=Vg):Y.lft (step Y f g)<Y.lft g:=by
 unfold step;rw[O,A4 u8];cases U:Y.want g with
 |none=>exact h.lo g O U
 |some m=>
  show Y.lft (match f m with|some a=>Y.tk g a|none=>Y.stuck g m)<_
  cases f m with
  |some a=>exact h.lt g m a O U
  |none=>exact h.lk g m O
def it_end (h:Y.Ok){f:Orc}:∀(k:Nat) (g:Y.G),Y.lft g<=k->Y.fin (it Y f k g)=v_
 |0,g,hl=>by
  show Y.fin g=v_;cases O:Y.fin g with
  |true=>rfl
  |false=>have:=Bk (f:=f) h O;omega
 |k+1,g,hl=>by
  show Y.fin (it Y f k (step Y f g))=v_;cases O:Y.fin g with
  |true=>rw[wj O,ZE O];exact O
  |false=>exact it_end h k _ (by have:=Bk (f:=f) h O;omega)
variable {j:Nat}
def it_one {f:Orc}{g:Y.G}{k:Nat}(O:Y.fin (it Y f k g)=v_)(U:Y.fin (it Y f j g)=v_):it Y f k g=it Y f j g:=by
 rcases tS k j with h|h
 .erw[Vf h,d,rfl];rw[wX,ZE O]
 .erw[Vf h,d,rfl];rw[wX,ZE U]
def AB (h:Y.Ok){f f':Orc}(hm:∀m a,f m=u_ a->f' m=u_ a):∀(k:Nat) (g:Y.G),it Y f' k g=it Y f k g\/((∀j,it Y f j (it Y f k g)=it Y f k g)/\Y.said (it Y f k g)=U_)
 |0,g=> .inl rfl
 |k+1,g=>by
  show it Y f' k (step Y f' g)=it Y f k (step Y f g)\/_;by_cases c:step Y f' g=step Y f g
  .rw[c];exact AB h hm k _
  .right;have U:Y.fin g=false:=by
    cases U:Y.fin g with
    |false=>rfl
    |true=>exact A8 (by rw[wj U,wj U]) c
   have e:∃m,step Y f g=Y.stuck g m:=by
    unfold step at c⊢;rw[U,A4 u8] at c⊢;rw[A4 u8] at c;cases hw:Y.want g with
    |none=>rw[hw] at c;exact A8 rfl c
    |some m=>
     rw[hw] at c;simp only at c⊢;cases O:f m with
     |none=>exact[m:1]
     |some a=>rw[O,hm m a O] at c;exact A8 rfl c
   erw[e,m,e];have e2:it Y f (k+1) g=Y.stuck g m:=by
    show it Y f k (step Y f g)=_;rw[e];exact ZE (h.fs g m) k
   rw[e2];exact[ZE (h.fs g m):h.ss g m]
def AA (h:Y.Ok){f f':Orc}(hm:∀m a,f m=u_ a->f' m=u_ a){k:Nat}{g:Y.G}{v:D}(O:Y.said (it Y f k g)=u_ v):it Y f' k g=it Y f k g:=by
 rcases AB h hm k g with e|⟨_,e⟩
 .exact e
 .rw[O] at e;cases e
abbrev Fh (Y:Sy):Nat->Orc
 |0,m=>match Y.g0 m with
  |none=>u_ (Y.once m)
  |some _=>U_
 |h+1,m=>match Y.g0 m with
  |none=>u_ (Y.once m)
  |some g=>(Y.said (it Y (Fh Y h) Y.M g)).map u_
variable {m:Str}
def Wj (h:Y.g0 m=U_):∀k,Fh Y k m=u_ (Y.once m)
 |0=>by simp![Fh,h]
 |k+1=>by simp![Fh,h]
def Fh_run {g:Y.G}(h:Y.g0 m=u_ g)(k:Nat):Fh Y (k+1) m=(Y.said (it Y (Fh Y k) Y.M g)).map some:=by simp![Fh,h]
def KW {g:Y.G}(h:Y.g0 m=u_ g):Fh Y 0 m=none:=by simp![Fh,h]
def IM (h:Y.Ok):∀(k:Nat) (m:Str) (a:om D),Fh Y k m=u_ a->Fh Y (k+1) m=u_ a
 |0,m,a,e=>by
  cases O:Y.g0 m with
  |none=>rw[Wj O] at e⊢;exact e
  |some g=>rw[KW O] at e;cases e
 |k+1,m,a,e=>by
  cases O:Y.g0 m with
  |none=>rw[Wj O] at e⊢;exact e
  |some g=>
   rw[Fh_run O] at e⊢;cases U:Y.said (it Y (Fh Y k) Y.M g) with
   |none=>rw[U] at e;cases e
   |some v=>
    rw[AA h (IM h k) U];exact e
def Aaq (h:Y.Ok){k:Nat}(O:k<=j){a:om D}(e:Fh Y k m=u_ a):Fh Y j m=u_ a:=by
 erw[Vf O,d,rfl]
 induction d with
 |zero=>exact e
 |succ d U=>exact IM h _ _ _ (U ())
open Classical in
abbrev F (Y:Sy):Orc:=λm=>if h:∃a k,Fh Y k m=u_ a then u_ (choose h) else U_
def F_iff (h:Y.Ok){a:om D}:F Y m=u_ a↔∃k,Fh Y k m=u_ a:=by
 unfold F;constructor
 .intro e;by_cases c:∃a k,Fh Y k m=u_ a
  .rw[dif_pos c] at e;have:=pI c;rwa[uJ e] at this
  .rw[dif_neg c] at e;cases e
 .rintro⟨k,e⟩;have c:∃a k,Fh Y k m=u_ a:=[a:k:e];rw[dif_pos c];erw[pI c,j,e2];have e3:=Aaq h (Nat.le_max_left k j) e;have O:=Aaq h (Nat.le_max_right k j) e2;rw[e3] at O;exact O.symm
def Aay (h:Y.Ok){k:Nat}{a:om D}(e:Fh Y k m=u_ a):F Y m=u_ a:=(F_iff h).mpr [k:e]
def kY (h:Y.Ok)(O:Y.g0 m=U_):F Y m=u_ (Y.once m):=Aay h (Wj O 0)
def Dm (h:Y.Ok)(g:Y.G):∃k,∀j,k<=j->step Y (Fh Y j) g=step Y (F Y) g:=by
 unfold step;by_cases U:Y.fin g=v_
 .exact⟨(0),λj _=>by rw[A6 U,A6 U]⟩
 .cases hw:Y.want g with
  |none=>exact[(0):λj _=>rfl]
  |some m=>
   cases O:F Y m with
   |some a=>
    erw[(F_iff h).mp O,k,e];exact⟨k,λj hj=>by simp![Aaq h hj e,O]⟩
   |none=>
    exists (0),λj _=>?_;have:Fh Y j m=none:=by
     cases e:Fh Y j m with
     |none=>rfl
     |some a=>rw[Aay h e] at O;cases O
    simp![this,O]
def EL (h:Y.Ok):∀(n:Nat) (g:Y.G),∃k,∀j,k<=j->it Y (Fh Y j) n g=it Y (F Y) n g
 |0,g=>[(0):λ_ _=>rfl]
 |n+1,g=>by
  erw[Dm h g,k1,h1];erw[EL h n (step Y (F Y) g),k2,h2];exists max k1 k2,λj O=>?_;show it Y (Fh Y j) n (step Y (Fh Y j) g)=it Y (F Y) n (step Y (F Y) g);rw[h1 j (),h2 j ()]
def F_run (h:Y.Ok){g:Y.G}(U:Y.g0 m=u_ g):F Y m=(Y.said (it Y (F Y) Y.M g)).map some:=by
 cases hs:Y.said (it Y (F Y) Y.M g) with
 |some v=>
  erw[EL h Y.M g,k,e];refine Aay h (k:=k+1) ?_;rw[Fh_run U,e k (uj _),hs]
  rfl
 |none=>
  show F Y m=U_;cases e:F Y m with
  |none=>rfl
  |some a=>
   erw[(F_iff h).mp e,k,e];cases k with
   |zero=>rw[KW U] at e;cases e
   |succ k=>
    rw[Fh_run U] at e;cases O:Y.said (it Y (Fh Y k) Y.M g) with
    |none=>rw[O] at e;cases e
    |some v=>
     rw[<-AA h (λm a q=>Aay h q) O,hs] at O;cases O
abbrev Wt (Y:Sy)(n m:Str):Prop:=∃g k,Y.g0 n=u_ g/\Y.fin (it Y (F Y) k g)=Vg/\Y.want (it Y (F Y) k g)=u_ m
def C8 (h:Y.Ok){n:Str}(w:Wt Y n m){k:Nat}{a:om D}(e:Fh Y k n=u_ a):∃j b,j<k/\Fh Y j m=u_ b:=by
 erw[w,g,i,hg,hf,hw];cases k with
 |zero=>rw[KW hg] at e;cases e
 |succ k=>
  exists k;rw[Fh_run hg] at e;cases U:Y.said (it Y (Fh Y k) Y.M g) with
  |none=>rw[U] at e;cases e
  |some v=>
   have O:=h.sf _ _ U;have eM:=AA h (f':=F Y) (λm a q=>Aay h q) U;rcases AB h (f:=Fh Y k) (f':=F Y) (λm a q=>Aay h q) i g with ei|⟨ei,es⟩
   .rw[ei] at hf hw;cases hm:Fh Y k m with
    |some b=>exact[b:V9 k:1]
    |none=>
     have e1:it Y (Fh Y k) (i+1) g=Y.stuck (it Y (Fh Y k) i g) m:=by
      rw[Wc];unfold step;rw[hf,A4 u8,hw];simp![hm]
     have e2:Y.fin (it Y (Fh Y k) (i+1) g)=true:=by rw[e1];exact h.fs _ _
     rw[<-it_one e2 O,e1,h.ss] at U;cases U
   .have aa:it Y (Fh Y k) (i+Y.M) g=it Y (Fh Y k) i g:=by rw[wX];exact ei _
    have e3:it Y (Fh Y k) (Y.M+i) g=it Y (Fh Y k) Y.M g:=by rw[wX];exact ZE O i
    rw[<-e3,Nat.add_comm,aa,es] at U;cases U
inductive Wts (Y:Sy):Str->Str->Prop
 |one {n m:Str}:Wt Y n m->Wts Y n m
 |more {n m l:Str}:Wts Y n m->Wt Y m l->Wts Y n l
def IP (h:Y.Ok){n:Str}(w:Wts Y n m):∀{k:Nat}{a:om D},Fh Y k n=u_ a->∃j b,j<k/\Fh Y j m=u_ b:=by
 induction w with
 |one w=>exact λe=>C8 h w e
 |more _ w O=>
  intro k a e;erw[O e,j,b,hj,U];erw[C8 h w U,i,c,hi,e2];exact⟨i,c,(),e2⟩
def zA (h:Y.Ok){n:Str}(w:Wts Y n n):F Y n=none:=by
 have O:∀k a,Fh Y k n≠u_ a:=by
  intro k
  induction k using Nat.strongRecOn with
  |_ k U=>
   intro a e;erw[IP h w e,j,b,hj,e1];exact U j hj b e1
 cases e:F Y n with
 |none=>rfl
 |some a=>
  erw[(F_iff h).mp e,k,e];exact A8 e (O k a)
structure Ss (Y:Sy) where
 stk:oj (Str×Y.G)
 don:oj (Str×Y.G)
abbrev Yp (l:oj (Str×Y.G))(m:Str):om Y.G:=(l.find? λp=>decide (p.1=m)).map (·.2)
abbrev yet (S:Ss Y)(m:Str):om (om (om D)):=if m>S.stk.map (·.1) then u_ U_ else match Y.g0 m with
 |none=>u_ (u_ (Y.once m))
 |some _=>(Yp S.don m).map λg=>(Y.said g).map u_
abbrev nxt (S:Ss Y):Ss Y:=match S.stk with
 | []=>S
 |(n,g)::r=>if Y.fin g=v_ then[r:S.don++ [(n,g)]] else match Y.want g with
  |none=>[(n,Y.own g)::r:S.don]
  |some m=>match yet S m with
   |some (u_ a)=>[(n,Y.tk g a)::r:S.don]
   |some U_=>[(n,Y.stuck g m)::r:S.don]
   |none=>match Y.g0 m with
    |some g'=>[(m,g')::(n,g)::r:S.don]
    |none=>S
abbrev nx (S:Ss Y):Nat->Ss Y
 |0=>S
 |k+1=>nxt (nx S k)
abbrev rest (S:Ss Y):oj Str:=Y.ns.filter λm=>decide (m∉S.stk.map (·.1))&&decide (m∉S.don.map (·.1))
abbrev lfts:oj (Str×Y.G)->Nat
 | []=>0
 |(_,g)::r=>Y.lft g+1+lfts r
abbrev mu (S:Ss Y):Nat:=lfts S.stk+(Y.M+2)*↑(rest S)
variable {S:Ss Y}
def jR (h:yet S m=U_):m∉S.stk.map (·.1)/\(∃g,Y.g0 m=u_ g)/\m∉S.don.map (·.1):=by
 unfold yet at h;by_cases c:m>S.stk.map (·.1)
 .rw[A6 c] at h;cases h
 .rw[A4 c] at h;cases O:Y.g0 m with
  |none=>rw[O] at h;cases h
  |some g=>
   rw[O] at h;simp![T7] at h;exists c,[g:1],λhm=>?_;erw[Ae.mp hm,p,U,rfl];have h3:(S.don.find? λq=>decide (q.1=p.1))=none:=by simpa [Yp] using h
   rw[Uv] at h3;exact h3 p U (by simp)
variable {l:oj Str}
def qam {p q:Str->Bool}(hl:m>l)(hp:p m=v_)(hq:q m=Vg)(O:∀x,q x=v_->p x=v_):↑(l.filter q)<↑(l.filter p):=by
 induction l with
 |nil=>cases hl
 |cons x r U=>
  have le:↑(r.filter q)<=↑(r.filter p):=by
   clear U hl
   induction r with
   |nil=>exact uj _
   |cons y r U=>
    rw[vR,vR];cases h1:q y with
    |true=>rw[O y h1,A6 rfl,A6 rfl];simp![ui];omega
    |false=>
     rw[A4 u8];split
     .simp![ui];omega
     .exact U
  rw[vR,vR];rcases Aa.mp hl with rfl|hm
  .rw[hp,hq,A6 rfl,A4 u8,ui];omega
  .have:=U hm;cases h1:q x with
   |true=>rw[O x h1,A6 rfl,A6 rfl];simp![ui];omega
   |false=>
    rw[A4 u8];split
    .simp![ui];omega
    .exact this
def nxt_mu (h:Y.Ok)(hs:S.stk≠ []):mu (nxt S)<mu S:=by
 erw[S,stk,don];cases stk with
 |nil=>exact A8 rfl hs
 |cons p r=>
  erw[p,n,g];have same:∀g',Y.lft g'<Y.lft g->mu (⟨(n,g')::r,don⟩:Ss Y)<mu ⟨(n,g)::r,don⟩:=by
   intro g' hl;show Y.lft g'+1+lfts r+(Y.M+2)*_<Y.lft g+1+lfts r+(Y.M+2)*_;have e:rest (⟨(n,g')::r,don⟩:Ss Y)=rest ⟨(n,g)::r,don⟩:=rfl;rw[e];omega
  unfold nxt;simp only;cases O:Y.fin g with
  |true=>
   rw[A6 rfl];show lfts r+(Y.M+2)*_<Y.lft g+1+lfts r+(Y.M+2)*_;have e:rest (⟨r,don++ [(n,g)]⟩:Ss Y)=rest ⟨(n,g)::r,don⟩:=by
    unfold rest
    congr 1
    funext x
    simp![uq,uA,Ui,Ac,uD,uH,uM,<-Bool.decide_and];rw[vd];constructor
    .rintro⟨a,b⟩;exact[λz=>z.elim (λz=>b (.inr z)) a:λz=>b (.inl z)]
    .rintro⟨a,b⟩;exact[λz=>a (.inr z):λz=>z.elim b λz=>a (.inl z)]
   rw[e];omega
  |false=>
   rw[A4 u8];cases hw:Y.want g with
   |none=>exact same _ (h.lo g O hw)
   |some m=>
    simp only;cases hy:yet ([(n,g)::r:don]:Ss Y) m with
    |some o=>
     cases o with
     |some a=>exact same _ (h.lt g m a O hw)
     |none=>exact same _ (h.lk g m O)
    |none=>
     simp only;erw[jR hy,h1,[g',U],h2];rw[U];show Y.lft g'+1+(Y.lft g+1+lfts r)+(Y.M+2)*↑(rest ([(m,g')::(n,g)::r:don]:Ss Y))<Y.lft g+1+lfts r+(Y.M+2)*↑(rest ([(n,g)::r:don]:Ss Y));have e:↑(rest (⟨(m,g')::(n,g)::r,don⟩:Ss Y))<↑(rest (⟨(n,g)::r,don⟩:Ss Y)):=by
      refine qam (m:=m) (h.gn m g' U) ?_ ?_ ?_
      .simp![uC,vf];exact[h1:h2]
      .simp
      .intro x hx;simp![uC,vf] at hx⊢;exact[λz=>hx.1 (uc _ z):hx.2]
     have l0:=h.l0 m g' U;have e2:=Nat.mul_le_mul_left (Y.M+2) (Nat.succ_le_of_lt e);rw[Nat.mul_succ] at e2;omega
abbrev Chn (Y:Sy):oj (Str×Y.G)->Prop
 | []=>True
 |(n,g)::r=>(∃s k,Y.g0 n=u_ s/\g=it Y (F Y) k s)/\Chn Y r/\∀p r',r=p::r'->Y.fin p.2=Vg/\Y.want p.2=u_ n
structure SOk (n0:Str)(S:Ss Y):Prop where
 chn:Chn Y S.stk
 nd:(S.stk.map (·.1)++S.don.map (·.1)).Nodup
 don:∀p>S.don,∃s,Y.g0 p.1=u_ s/\p.2=it Y (F Y) Y.M s
 bot:(S.stk.map (·.1)).getLast? =u_ n0\/S.stk= []/\(S.don.map (·.1)).getLast? =u_ n0
def Ix {n:Str}{g:Y.G}:∀{r:oj (Str×Y.G)}{m:Str},Chn Y ((n,g)::r)->m>r.map (·.1)->Wts Y m n:=by
 intro r
 induction r generalizing n g with
 |nil=>intro m _ h;cases h
 |cons p r ih=>
  intro m hc hm;erw[p,O,g'];erw[hc,_,U,c3];erw[c3 (O,g') r rfl,f1,w1];erw[U.1,s,k,hs,hk];have w:Wt Y O n:=⟨s,k,hs,by rwa[<-hk],by rwa[<-hk]⟩
  rcases Aa.mp hm with rfl|hm
  .exact .one w
  .exact .more (ih U hm) w
def zx {l:oj (Str×Y.G)}{g:Y.G}(h:Yp l m=u_ g):(m,g)>l:=by
 unfold Yp at h;cases e:l.find? λp=>decide (p.1=m) with
 |none=>rw[e] at h;cases h
 |some p=>
  rw[e] at h;cases uJ h;have:=HA e;have hm:p.1=m:=um this;rw[<-hm];exact Ub e
variable {n0:Str}
def AbO (h:Y.Ok)(hs:SOk n0 S):SOk n0 (nxt S):=by
 erw[S,stk,don];cases stk with
 |nil=>exact hs
 |cons p r=>
  erw[p,n,g];erw[hs,chn,nd,O,bot];erw[chn,[s,k,U,hk],c2,c3];have on:∀g',Y.fin g=Vg->step Y (F Y) g=g'->SOk n0 (⟨(n,g')::r,don⟩:Ss Y):=by
   intro g' hf e;exists [⟨s,k+1,U,?_⟩:c2:c3],nd,O,.inl ?_
   .rw[Wc,<-hk,e]
   .rcases bot with b|⟨b,_⟩
    .exact b
    .cases b
  unfold nxt;simp only;cases hf:Y.fin g with
  |true=>
   rw[A6 rfl];exists c2,?_,λq hq=>?_,?_
   .show(r.map (·.1)++(don++ [(n,g)]).map (·.1)).Nodup;have ac:(n::(r.map (·.1)++don.map (·.1))).Nodup:=nd;rw[uq,<-V1];show((r.map (·.1)++don.map (·.1))++ [n]).Nodup;exact(List.perm_append_comm (l₁:= [n]) (l₂:=r.map (·.1)++don.map (·.1))).nodup_iff.mp ac
   .rcases Ac.mp hq with hq|hq
    .exact O q hq
    .cases Ab.mp hq;exists s,U;show g=_;rw[hk];refine it_one (by rwa[<-hk]) (it_end h _ _ (h.l0 n s U))
   .rcases bot with b|⟨b,_⟩
    .cases r with
     |nil=>
      right;exists 1;have hn:n=n0:=by simpa using b
      show((don++ [(n,g)]).map (·.1)).getLast? =u_ n0;rw[uq,hn];simp
     |cons q r=>
      left
      simpa [UU] using b
    .cases b
  |false=>
   rw[A4 u8];have aa:step Y (F Y) g=match Y.want g with
     |none=>Y.own g
     |some m=>match F Y m with
      |some a=>Y.tk g a
      |none=>Y.stuck g m:=by
    unfold step;rw[hf,A4 u8]
   cases hw:Y.want g with
   |none=>exact on _ hf (by rw[aa,hw])
   |some m=>
    rw[hw] at aa;simp only at aa⊢;cases hy:yet ([(n,g)::r:don]:Ss Y) m with
    |some o=>
     have hF:F Y m=o:=by
      unfold yet at hy;by_cases c:m>((n,g)::r).map (·.1)
      .rw[A6 c] at hy;cases hy;have w:Wt Y n m:=⟨s,k,U,by rwa[<-hk],by rwa[<-hk]⟩
       rcases Aa.mp c with rfl|hm
       .exact zA h (.one w)
       .exact zA h (.more (Ix (g:=g) [⟨s,k,U,hk⟩:c2:c3] hm) w)
      .rw[A4 c] at hy;cases hg:Y.g0 m with
       |none=>
        rw[hg] at hy;cases hy;exact kY h hg
       |some gm=>
        rw[hg] at hy;simp only at hy;cases hd:Yp don m with
        |none=>rw[hd] at hy;cases hy
        |some gd=>
         rw[hd] at hy;cases hy;erw[O _ (zx hd),s',e1,e2];rw[hg] at e1;cases e1;have e3:gd=it Y (F Y) Y.M gm:=e2;rw[F_run h hg,e3]
     cases o with
     |some a=>exact on _ hf (by rw[aa,hF])
     |none=>exact on _ hf (by rw[aa,hF])
    |none=>
     simp only;erw[jR hy,h1,[g',hg],h2];rw[hg];exists [⟨g',(0),hg,1⟩:[⟨s,k,U,hk⟩:c2:c3]:λq r' e=>?_],?_,O,.inl ?_
     .cases e;exact[hf:hw]
     .show(m::(((n,g)::r).map (·.1)++don.map (·.1))).Nodup;rw[vN];exists λz=>?_,nd;rcases Ac.mp z with z|z
      .exact h1 z
      .exact h2 z
     .rcases bot with b|⟨b,_⟩
      .show(m::n::r.map (·.1)).getLast? =u_ n0;rwa[UU]
      .cases b
def nx_ok (h:Y.Ok){n0:Str}{S:Ss Y}(O:SOk n0 S):∀k,SOk n0 (nx S k)
 |0=>O
 |k+1=>AbO h (nx_ok h O k)
def Aq {S:Ss Y}{k:Nat}(h:(nx S k).stk= []):∀j,nx S (k+j)=nx S k
 |0=>rfl
 |j+1=>by
  show nxt (nx S (k+j))=_;rw[Aq h j];unfold nxt;rw[h]
def nx_one {k:Nat}(O:(nx S k).stk= [])(U:(nx S j).stk= []):nx S k=nx S j:=by
 rcases tS k j with h|h
 .erw[Vf h,d,rfl];exact(Aq O d).symm
 .erw[Vf h,d,rfl];exact Aq U d
abbrev S0 (Y:Sy)(n:Str):Ss Y:=match Y.g0 n with
 |none=>[[]:[]]
 |some g=>[[(n,g)]:[]]
def S0_ok {n:Str}{g:Y.G}(O:Y.g0 n=u_ g):SOk n (S0 Y n):=by
 unfold S0;rw[O];exact⟨⟨⟨g,(0),O,1⟩,trivial,λ_ _ e=>by cases e⟩,by simp,λ_ h=>(by cases h),.inl rfl⟩
end Sy
end K41
namespace K41
open PySem L2 PyProof.Rows
abbrev ThS (d:D):Prop:=(∃z,d=flt z)\/(∃e,d= .tup [-"said",e]/\isT e=v_)\/∃(u z:Str),d= .tup [-"asks",-[!u,!z]]/\isT (!z)=v_/\(u="names"\/(u="thing"\/u="has")/\nm z=v_)
def EO {d:D}(h:mG d=v_):∃z,d= .str z/\nm z=true:=by
 cases d with
 |str z=>exact[z:1:h]
 |_=>cases h
variable {own:Str}{n:Nat}{r:Rw}{e:D}
def OT {B:Str->D}{p:Int}(hr:Jk n 300 r)(h:Tr B)(O:l9 own r B p= .stop e):ThS e:=by
 unfold l9 at O;erw[id hr,ks,hk,hp];erw[r,U,ps];by_cases c1:U>MKR
 .rw[A6 c1] at O;simp only at O;generalize made U B own ps=dm at O;have aa:(if isT dm=v_ then Out.go (mn B (b0 ps) dm) (p+1) else .stop (flt "big"))= .stop e->ThS e:=by
   intro hq;by_cases c:isT dm=v_
   .rw[A6 c] at hq;cases hq
   .rw[A4 c] at hq;cases hq;exact .inl ⟨0⟩
  cases dm with
  |non=>cases O;exact .inl ⟨0⟩
  |_=>exact aa O
 rw[A4 c1] at O;by_cases c2:U>ASK
 .rw[A6 c2] at O;cases O;erw[WP _ hk c2,_,_,ek];simp only at ek;subst ek;erw[wF hp,z0,z1,rfl,h0,h1];have hT:=h z1 h1;show ThS (nK U (B z1));unfold nK;by_cases d1:U="names"
  .rw[A6 d1];by_cases d2:isStr (B z1)=v_
   .rw[A6 d2];obtain⟨z,ez⟩:∃z,B z1= !z:=by
     cases hb:B z1 with
     |str z=>exact[z:1]
     |_=>rw[hb] at d2;cases d2
    rw[ez] at hT⊢;exact .inr (.inr ⟨_,z,1,hT,.inl rfl⟩)
   .rw[A4 d2];exact .inl ⟨0⟩
  .rw[A4 d1];by_cases d2:mG (B z1)=v_
   .rw[A6 d2];erw[EO d2,z,ez,hz];rw[ez] at hT⊢;refine .inr (.inr ⟨_,z,1,hT,.inr [?_:hz]⟩);split
    .exact .inl rfl
    .exact .inr rfl
   .rw[A4 d2];exact .inl ⟨0⟩
 rw[A4 c2] at O;by_cases c3:U="say"
 .rw[A6 c3] at O;cases O;subst c3;have ek:=AE _ hk rfl;simp only at ek;subst ek;erw[Adq hp,z0,rfl,h0];exact .inr (.inl [0:h z0 h0])
 rw[A4 c3] at O;by_cases c4:U="fault"
 .rw[A6 c4] at O;cases O;exact .inl ⟨0⟩
 rw[A4 c4] at O;by_cases c5:NA U B ps=v_
 .rw[A6 c5] at O;cases O
 .rw[A4 c5] at O;cases O
def Ag {rs:oj Rw}{own:Str}(U:QW rs):∀(f:Nat) (B:Str->D) (p:Int) (n:Nat) (gs:oj D),Tr B->1<=p->p<=↑rs+1->ThS (mo rs own gs f B p n).th
 |0,B,p,n,gs,hT,h1,h2=>by
  show ThS (if GT.gt p ↑rs then flt "silent" else flt "long")
  split<;>exact .inl ⟨0⟩
 |f+1,B,p,n,gs,hT,h1,h2=>by
  unfold mo;by_cases c:GT.gt p ↑rs
  .rw[A6 c];exact .inl ⟨0⟩
  .rw[A4 c];have O:=U.ok _ (KP h1 ())
   have hok:=Ai (own:=own) O hT h1 ()
   cases hO:l9 own (Yu rs p) B p with
   |go B' p'=>
    rw[hO] at hok;exact Ag U f B' p' (n+1) gs hok.1 hok.2.1 hok.2.2
   |stop e=>exact OT O hT hO
variable {rs:oj Rw}
def IJ (O:QW rs){r:Rn}{a:D}(h:C6 rs r)(U:Qy r.th=v_)(ha:XY a):ThS (l7 rs own r a).th:=by
 erw[h.ask U,k1,_];unfold l7;cases hn:yL a with
 |true=>rw[A6 rfl];exact .inl ⟨0⟩
 |false=>
  rw[A4 u8];have hT:isT a=true:=by
   rcases ha with rfl|ha
   .cases hn
   .exact ha
  exact Ag O _ _ _ _ _ (Ku h.tr hT) (by have:=h.p1;omega) ()
def Na {rs:oj Rw}{own:Str}:∀(f:Nat) (B:Str->D) (p:Int) (n:Nat) (gs:oj D),Qy (mo rs own gs f B p n).th=v_->1<=f/\n<=(mo rs own gs f B p n).n
 |0,B,p,n,gs,h=>by
  have h:Qy (if GT.gt p ↑rs then flt "silent" else flt "long")=true:=h
  split at h<;>exact A8 h ()
 |f+1,B,p,n,gs,h=>by
  exists ()
  unfold mo at h⊢;by_cases c:GT.gt p ↑rs
  .rw[A6 c] at h;exact A8 h (show¬Qy (flt "silent")=v_ by decide+kernel)
  .rw[A4 c] at h⊢;cases U:l9 own (Yu rs p) B p with
   |go O p'=>
    rw[U] at h;have:=(Na f O p' (n+1) gs h).2;show n<=(mo rs own gs f O p' (n+1)).n;omega
   |stop e=>
    show n<=(if Qy e=v_ then n else n+1)
    split<;>omega
def Acx {r:Rn}{a:D}(h:Qy (l7 rs own r a).th=v_):r.n+1<300/\r.n+1<=(l7 rs own r a).n:=by
 unfold l7 at h⊢;cases hn:yL a with
 |true=>rw[hn,A6 rfl] at h;exact A8 h (show¬Qy (flt "lack")=v_ by decide+kernel)
 |false=>
  rw[hn,A4 u8] at h;rw[A4 u8];have:=Na _ _ _ _ _ h;exact[():this.2]
structure Gp where
 n:Str
 mb:D
 ra:oj D
 run:om (oj Rw×Rn)
 en:om D
abbrev mX (r:Rn):om D:=if Qy r.th=v_ then U_ else u_ r.th
abbrev mi (g:Gp)(d:D):Gp:=if yL d=v_ then{g with en:=u_ (flt "lack")} else match QK d with
 |none=>{g with en:=u_ (flt "rule")}
 |some rs=>{g with run:=u_ (rs,R0 rs g.n),en:=mX (R0 rs g.n)}
abbrev QI (g:Gp)(d:D):Gp:=match g.run with
 |none=>mi {g with ra:= [-[-[-"rule",g.mb],d]]} d
 |some (rs,r)=>{g with run:=u_ (rs,l7 rs g.n r d),en:=mX (l7 rs g.n r d)}
abbrev yc (g:Gp):D:=match g.run with
 |none=>-[-"rule",g.mb]
 |some (_,r)=>xk r.th
abbrev xj (qs:oj (Str×D))(k z:Str):D:=if k="has" then .str (if z>qs.map (·.1) then "yes" else "no") else Cv (Br [] ((qs.map (·.1)).filter λy=>GF y z))
abbrev na (k:Str):Bool:=decide (k="has")||decide (k="names")
abbrev yl (g:Gp):om Str:=match yc g with
 | .tup [!k,!z]=>if na k=v_ then U_ else u_ z
 |_=>U_
abbrev nE (qs:oj (Str×D))(g:Gp):Gp:=match yc g with
 | .tup [!k,!z]=>QI g (xj qs k z)
 |_=>{g with en:=u_ (flt "name")}
abbrev jy:D->om D
 | .tup [!k,v]=>if k="said" then u_ v else U_
 |_=>U_
abbrev JL (g:Gp):om D:=g.en.bind jy
abbrev IZ (g:Gp)(m:Str):Gp:={g with en:=u_ (-[-"stuck",!m])}
abbrev At (g:Gp):Nat:=match g.en with
 |some _=>0
 |none=>match g.run with
  |none=>302
  |some (_,r)=>1+(300-r.n)
abbrev g0D (m:Str):D->om Gp
 | .tup [!k,e]=>if k="leaf" then U_ else if k="made" then u_ ⟨m,e,[],U_,U_⟩ else u_ (mi ⟨m,.non,[],U_,U_⟩ e)
 |_=>U_
abbrev Ki:D->om D
 | .tup [.str _,e]=>u_ e
 |_=>U_
abbrev SyP (qs:oj (Str×D)):Sy:=⟨Gp,λg=>g.en.isSome,yl,nE qs,λg a=>QI g (a.getD .non),IZ,JL,λm=>g0D m (qA qs m),λm=>Ki (qA qs m),At,(302),qs.map (·.1)⟩
variable {g:Gp}
def EE (h:g.run=U_)(d:D):g.en=U_->At (mi g d)<302:=by
 intro O;unfold mi;split
 .show(0:Nat)<302;omega
 .cases U:QK d with
  |none=>show(0:Nat)<302;omega
  |some rs=>
   show(match mX (R0 rs g.n) with|some _=>0|none=>1+(300-(R0 rs g.n).n))<302
   cases mX (R0 rs g.n) with
   |some d=>show(0:Nat)<302;omega
   |none=>show(1+(300-(R0 rs g.n).n):Nat)<302;omega
def BP (O:g.en=U_)(d:D):At (QI g d)<At g:=by
 unfold QI;cases U:g.run with
 |none=>
  have e:At g=302:=by unfold At;rw[O,U]
  rw[e];exact EE (g:=⟨g.n,g.mb,[-[-[-"rule",g.mb],d]],U_,g.en⟩) rfl d O
 |some p=>
  erw[p,rs,r];have e:At g=1+(300-r.n):=by unfold At;rw[O,U]
  rw[e];show(match mX (l7 rs g.n r d) with|some _=>0|none=>1+(300-(l7 rs g.n r d).n))<_
  unfold mX;by_cases c:Qy (l7 rs g.n r d).th=v_
  .rw[A6 c];have:=Acx c;show 1+(300-(l7 rs g.n r d).n)<1+(300-r.n);omega
  .rw[A4 c];show 0<1+(300-r.n);omega
variable {qs:oj (Str×D)}{z:Str}
def Yj (h:z∉qs.map (·.1)):qA qs z= .non:=by
 unfold qA;have:(qs.find? λp=>decide (p.1=z))=none:=by
  rw[Uv];intro p O e;exact h (Ae.mpr [p:O:um e])
 rw[this]
 rfl
def QC (qs:oj (Str×D)):(SyP qs).Ok where
 fs:=λ_ _=>rfl
 ss:=λg m=>by
  show jy (-[-"stuck",!m])=U_;unfold jy;exact A4 ()
 sf:=λg v h=>by
  have h:JL g=u_ v:=h;unfold JL at h;show g.en.isSome=v_;cases O:g.en with
  |none=>rw[O] at h;cases h
  |some d=>rfl
 lo:=λg U hw=>by
  have O:g.en=none:=by
   cases O:g.en with
   |none=>rfl
   |some d=>have U:g.en.isSome=false:=U;rw[O] at U;cases U
  show At (nE qs g)<At g;unfold nE;split
  .exact BP O _
  .have:0<At g:=by
    unfold At;rw[O];simp only;split<;>omega
   exact this
 lt:=λg m a U hw=>by
  have O:g.en=none:=by
   cases O:g.en with
   |none=>rfl
   |some d=>have U:g.en.isSome=false:=U;rw[O] at U;cases U
  exact BP O _
 lk:=λg m U=>by
  have O:g.en=none:=by
   cases O:g.en with
   |none=>rfl
   |some d=>have U:g.en.isSome=false:=U;rw[O] at U;cases U
  show 0<At g;unfold At;rw[O];simp only;split<;>omega
 l0:=λm g h=>by
  have h:g0D m (qA qs m)=u_ g:=h;show At g<=302;unfold g0D at h;split at h
  .split at h
   .cases h
   .split at h
    .cases h;exact uj _
    .cases h;exact V6 (EE rfl _ rfl)
  .cases h
 gn:=λm g h=>by
  have h:g0D m (qA qs m)=u_ g:=h;show m>qs.map (·.1);by_cases c:m>qs.map (·.1)
  .exact c
  .rw[Yj c] at h;cases h
abbrev EnS (d:D):Prop:=(∃z,d=flt z)\/(∃e,d= .tup [-"said",e]/\isT e=v_)\/∃z,d=-[-"stuck",!z]
structure GI (g:Gp):Prop where
 n:nm g.n=v_
 run:∀rs r,g.run=u_ (rs,r)->QW rs/\C6 rs r/\ThS r.th/\(g.en=U_->Qy r.th=v_)
 no:g.run=U_->g.en=U_->∃z,g.mb= .str z/\nm z=v_
 en:∀d,g.en=u_ d->EnS d
 ra:nL g.ra=v_/\dpL g.ra<=30/\↑g.ra<=1
def Acj {r:Rn}(h:ThS r.th){d:D}(e:mX r=u_ d):EnS d:=by
 unfold mX at e;by_cases c:Qy r.th=v_
 .rw[A6 c] at e;cases e
 .rw[A4 c] at e;cases e;rcases h with h|h|⟨u,z,h,_⟩
  .exact .inl h
  .exact .inr (.inl h)
  .rw[h] at c;exact A8 (show decide (("asks":Str)="asks")=v_ from ud rfl) c
def Ih {r:Rn}(e:mX r=U_):Qy r.th=true:=by
 unfold mX at e;by_cases c:Qy r.th=v_
 .exact c
 .rw[A4 c] at e;cases e
def Aag {n:Str}(h:QW rs):ThS (R0 rs n).th:=Ag h 300 B0 1 0 [] Aat () (by have:=h.n0;omega)
def NF (d:D)(h1:nm g.n=v_)(h2:g.run=U_)(h3:nL g.ra=v_/\dpL g.ra<=30/\↑g.ra<=1):GI (mi g d):=by
 unfold mi;split
 .exact⟨h1,λrs r e=>(by rw[show g.run=u_ (rs,r) from e] at h2;cases h2),(λ_ e=>by cases e),λd e=>by cases e;exact .inl ⟨0⟩,h3⟩
 .cases U:QK d with
  |none=>exact⟨h1,λrs r e=>(by rw[show g.run=u_ (rs,r) from e] at h2;cases h2),(λ_ e=>by cases e),λd e=>by cases e;exact .inl ⟨0⟩,h3⟩
  |some rs=>
   have O:=(wO U).2;exact⟨h1,λaa r e=>by cases e;exact⟨O,MO O,Aag O,λe=>Ih e⟩,λe _=>(by cases e),λd e=>Acj (Aag O) e,h3⟩
def AD (h:GI g)(U:g.en=U_){d:D}(ha:XY d):GI (QI g d):=by
 unfold QI;cases hr:g.run with
 |none=>
  erw[h.no hr U,z,hz,_];refine NF d h.n rfl ?_;have O:nD d=v_/\dp d<=12:=by
   rcases ha with rfl|ha
   .exact⟨1,by simp[dp]⟩
   .exact[ZK (yN ha):Jd ha]
  rw[hz];exists ?_,?_,uj _
  .simp![nL,nD,O.1,U7]
  .simp![dpL,dp];have:=O.2;omega
 |some p=>
  erw[p,rs,r];erw[h.run rs r hr,k1,k2,k3,k4];have hs:=IJ (own:=g.n) k1 k2 (k4 U) ha;exact⟨h.n,λaa r' e=>by cases e;exact⟨k1,AR k1 k2 (k4 U) ha,hs,λe=>Ih e⟩,λe _=>(by cases e),λd e=>Acj hs e,h.ra⟩
def NE (h:GI g)(m:Str):GI (IZ g m):=⟨h.n,λrs r e=>⟨(h.run rs r e).1,(h.run rs r e).2.1,(h.run rs r e).2.2.1,(λz=>by cases z)⟩,(λ_ e=>by cases e),λd e=>by cases e;exact .inr (.inr [m:1]),h.ra⟩
def oA:∀(zs O:oj Str),isT (Cv O)=v_->isT (Cv (Br O zs))=v_
 | [],O,h=>h
 |z::r,O,h=>by
  unfold Br;split
  .rename_i c;exact oA r _ c
  .exact h
def WM (U:Qn qs){k:Str}(z:Str)(hk:na k=v_):isT (xj qs k z)=v_/\AU k (xj qs k z)=true:=by
 unfold xj;by_cases c:k="has"
 .rw[A6 c,c];split<;>exact[():()]
 .rw[A4 c];have O:isT (Cv (Br [] ((qs.map (·.1)).filter λy=>GF y z)))=true:=oA _ [] ()
  exists O;have hr:Mj (Cv (Br [] ((qs.map (·.1)).filter λy=>GF y z)))=true:=by
   show List.all (Fb D.str _) mG=v_;rw[Ul];intro x hx;erw[Ae.mp hx,y,hy,rfl];rcases Bq _ _ _ hy with h|h
   .cases h
   .exact U.1.1.1 y (List.mem_filter.mp h).1
  unfold AU;rw[A4 (show¬yL (Cv _)=v_ from u8),A6 O,A4 c,hr,Bool.or_true]
def jW (h:GI g)(he:g.en=U_)(U:yl g=U_):∃rs r k z,g.run=u_ (rs,r)/\r.th= .tup [-"asks",-[!k,!z]]/\na k=v_/\isT (!z)=v_/\nE qs g=QI g (xj qs k z):=by
 unfold yl at U;cases hr:g.run with
 |none=>
  erw[h.no hr he,z,hz,_];have e:yc g=-[-"rule",!z]:=by unfold yc;rw[hr,hz]
  rw[e] at U;simp![show na "rule"=Vg by decide+kernel,A4 u8] at U
  cases U
 |some p=>
  erw[p,rs,r];erw[h.run rs r hr,k1,k2,k3,k4];have O:=k4 he;rcases k3 with⟨z,e⟩|⟨d,e,_⟩|⟨u,z,e,ht,hu⟩
  .rw[e] at O;exact A8 O (by show¬decide (("fault":Str)="asks")=v_;decide+kernel)
  .rw[e] at O;exact A8 O (by show¬decide (("said":Str)="asks")=v_;decide+kernel)
  .have e2:yc g=-[!u,!z]:=by unfold yc;rw[hr];show xk r.th=_;rw[e];rfl
   rw[e2] at U;simp only at U;cases hk:na u with
   |false=>rw[hk,A4 u8] at U;cases U
   |true=>exact⟨rs,r,u,z,1,e,hk,ht,by unfold nE;rw[e2]⟩
variable {m:Str}
def kl (h:GI g)(he:g.en=U_)(O:yl g=u_ m):nm m=v_/\((g.run=U_/\g.mb= !m)\/∃rs r,g.run=u_ (rs,r)/\r.th=-[-"asks",-[-"thing",!m]]):=by
 unfold yl at O;cases hr:g.run with
 |none=>
  erw[h.no hr he,z,hz,hn];have e:yc g=-[-"rule",!z]:=by unfold yc;rw[hr,hz]
  rw[e] at O;simp![show na "rule"=Vg by decide+kernel,A4 u8] at O
  cases O;exact[hn:.inl [1:hz]]
 |some p=>
  erw[p,rs,r];erw[h.run rs r hr,k1,k2,k3,k4];have U:=k4 he;rcases k3 with⟨z,e⟩|⟨d,e,_⟩|⟨u,z,e,ht,hu⟩
  .rw[e] at U;exact A8 U (by show¬decide (("fault":Str)="asks")=v_;decide+kernel)
  .rw[e] at U;exact A8 U (by show¬decide (("said":Str)="asks")=v_;decide+kernel)
  .have e2:yc g=-[!u,!z]:=by unfold yc;rw[hr];show xk r.th=_;rw[e];rfl
   rw[e2] at O;simp only at O;rcases hu with rfl|⟨rfl|rfl,hn⟩
   .rw[A6 ()] at O;cases O
   .rw[A4 ()] at O
    cases O;exact[hn:.inr ⟨rs,r,1,e⟩]
   .rw[A6 ()] at O;cases O
def EX (U:Qn qs)(h:GI g)(O:g.en=U_)(hw:yl g=U_):GI (nE qs g):=by
 erw[jW (qs:=qs) h O hw,rs,r,k,z,_,_,hk,_,e];rw[e];exact AD h O (.inr (WM U z hk).1)
def jF (U:Qn qs)(h:m>qs.map (·.1)):nm m=v_/\∃k e,qA qs m= .tup [!k,e]/\(k="made"->∃z,e= .str z/\nm z=v_)/\(k≠"made"->(k="leaf"\/k="rule")/\isT e=v_):=by
 have hs:=U.1.2 _ (S5 U.1.1.2 h);erw[hs,[k,e,O],h2,_];have O:qA qs m=-[!k,e]:=O;have h2:sx (qA qs m)=true:=h2;rw[O] at h2;have e1:sx (-[!k,e])=if eqD (!k) (-"made")=v_ then mG e else(eqD (!k) (-"leaf")||eqD (!k) (-"rule"))&&isT e:=rfl
 rw[e1] at h2;have eq:∀y:Str,eqD (!k) (!y)=decide (k=y):=λy=>rfl;rw[eq,eq,eq] at h2;exists U.1.1.1 m h,k,e,O,λc=>?_,λc=>?_
 .rw[ud c,A6 rfl] at h2;exact EO h2
 .rwa[ug c,A4 u8,uC,US,vf,vf] at h2
def Kx (U:Qn qs)(h:g0D m (qA qs m)=u_ g):GI g/\g.n=m:=by
 have hm:m>qs.map (·.1):=(QC qs).gn m g h;erw[jF U hm,hn,k,e,hd,h1,h2];rw[hd] at h;unfold g0D at h;simp only at h;have O:nL ([]:oj D)=v_/\dpL ([]:oj D)<=30/\↑([]:oj D)<=1:=⟨1,by simp[dpL],uS _⟩
 split at h
 .cases h
 .split at h
  .rename_i c
   cases h;erw[h1 c,z,rfl,hz];exact⟨⟨hn,λrs r e=>(by cases e),λ_ _=>[z:1:hz],λd e=>(by cases e),O⟩,1⟩
  .cases h;exists NF e hn rfl O;unfold mi;split
   .rfl
   .split<;>rfl
def DK (h:GI g){v:D}(e:JL g=u_ v):isT v=true:=by
 unfold JL at e;cases O:g.en with
 |none=>rw[O] at e;cases e
 |some d=>
  rw[O] at e;have e:jy d=u_ v:=e;rcases h.en d O with⟨z,rfl⟩|⟨x,rfl,U⟩|⟨z,rfl⟩
  .exact A8 e (by unfold jy flt;simp only;rw[A4 ()];exact λh=>by cases h)
  .have e3:jy (-[-"said",x])=u_ x:=by unfold jy;dsimp only;exact A6 rfl
   rw[e3] at e;cases e;exact U
  .exact A8 e (by unfold jy;simp only;rw[A4 ()];exact λh=>by cases h)
def Dg (g:Gp)(d:D):(QI g d).n=g.n:=by
 unfold QI;split
 .unfold mi;split
  .rfl
  .split<;>rfl
 .rfl
def AbA (qs:oj (Str×D))(g:Gp):(nE qs g).n=g.n:=by
 unfold nE;split
 .exact Dg _ _
 .rfl
abbrev SGI {qs:oj (Str×D)}(S:Sy.Ss (SyP qs)):Prop:=∀p:Str×Gp,p>S.stk\/p>S.don->GI p.2/\p.2.n=p.1
def MS (hq:Qn qs){S:Sy.Ss (SyP qs)}(h:SGI S){a:om D}(e:Sy.yet S m=u_ (u_ a)):XY (a.getD .non):=by
 unfold Sy.yet at e;split at e
 .cases e
 .split at e
  .rename_i O
   cases e;have O:g0D m (qA qs m)=none:=O;show XY ((Ki (qA qs m)).getD .non);by_cases hm:m>qs.map (·.1)
   .erw[jF hq hm,hn,k,e,hd,h1,h2];rw[hd] at O⊢;unfold g0D at O;simp only at O;by_cases c:k="leaf"
    .exact .inr (h2 (by rw[c];decide+kernel)).2
    .rw[A4 c] at O;split at O<;>cases O
   .rw[Yj hm];exact .inl rfl
  .cases hd:Sy.Yp S.don m with
   |none=>rw[hd] at e;cases e
   |some g=>
    rw[hd] at e;have e:(JL g).map u_=u_ a:=uJ e;cases U:JL g with
    |none=>rw[U] at e;cases e
    |some v=>
     rw[U] at e;cases e;exact .inr (DK (h (m,g) (.inr (Sy.zx hd))).1 U)
def Ev (hq:Qn qs){S:Sy.Ss (SyP qs)}(h:SGI S):SGI (Sy.nxt S):=by
 erw[S,stk,don];cases stk with
 |nil=>exact h
 |cons p r=>
  erw[p,n,g];erw[h (n,g) (.inl uf),U,hn];have on:∀g':Gp,GI g'->g'.n=n->SGI #[Y,(n,g')::r,don]:=by
   intro g' h1 h2 p O;rcases O with O|O
   .rcases Aa.mp O with rfl|O
    .exact[h1:h2]
    .exact h p (.inl (uc _ O))
   .exact h p (.inr O)
  unfold Sy.nxt;simp only;by_cases hf:(SyP qs).fin g=v_
  .rw[A6 hf];intro p O;rcases O with O|O
   .exact h p (.inl (uc _ O))
   .rcases Ac.mp O with O|O
    .exact h p (.inr O)
    .cases Ab.mp O;exact[U:hn]
  .rw[A4 hf];have he:Gp.en g=none:=by
    cases he:Gp.en g with
    |none=>rfl
    |some d=>exact A8 (show(Gp.en g).isSome=v_ by rw[he];rfl) hf
   cases hw:(SyP qs).want g with
   |none=>exact on _ (EX hq U he hw) ((AbA qs g).trans hn)
   |some m=>
    simp only;cases hy:Sy.yet #[Y,(n,g)::r,don] m with
    |some o=>
     cases o with
     |some a=>exact on _ (AD U he (MS hq h hy)) ((Dg _ _).trans hn)
     |none=>exact on _ (NE U m) hn
    |none=>
     erw[Sy.jR hy,_,[g',e],_];simp only;rw[e];intro p O;rcases O with O|O
     .rcases Aa.mp O with rfl|O
      .exact Kx hq e
      .exact h p (.inl O)
     .exact h p (.inr O)
structure Oc where
 (x dx px ls du dr df:o3)
abbrev ofs (o:Oc):oj (Str×V):= [("given_project",-o.px),("stack",-o.ls),("under_way",-o.du),("full_runs",-o.dr),("found",-o.df)]
abbrev OMT:oj Str:= ["go_through","enter","settle","runner","leave","go_on","answer_yet","begin_anew"]
def Sn (o:Oc):(ofs o).lookup ("given_project":Str)=u_ (-o.px):=rfl
def L3 (o:Oc):(ofs o).lookup ("stack":Str)=u_ (-o.ls):=rfl
def Sl (o:Oc):(ofs o).lookup ("under_way":Str)=u_ (-o.du):=rfl
def L4 (o:Oc):(ofs o).lookup ("full_runs":Str)=u_ (-o.dr):=rfl
def L5 (o:Oc):(ofs o).lookup ("found":Str)=u_ (-o.df):=rfl
def Ws (o:Oc):∀m>OMT,(ofs o).lookup m=none:=by
 intro m hm;simp![OMT,uD,uH,uM] at hm;rcases hm with rfl|rfl|rfl|rfl|rfl|rfl|rfl|rfl<;>rfl
structure Kp (L:oj o3)(H H':Hp):Prop where
 kept:∀b ob,H b=u_ ob->b∉L->H' b=u_ ob
 tk:Tk H H'
variable {L:oj o3}{H H':Hp}
def Kp.of (s:ig H H'):Kp L H H':=[λb ob h _=>s b ob h:s.tk]
variable {H1 H2:Hp}
def Kp.trans (h:Kp L H H1)(k:Kp L H1 H2):Kp L H H2:=[λb ob e n=>k.kept b ob (h.kept b ob e n) n:h.tk.trans k.tk]
variable {p:o3}
def Kp.updD {xs ys:oj (Key×V)}(h:H p=u_ (.dK xs))(O:p>L):Kp L H (upd H p (.dK ys)):=⟨λb ob e n=>by have nb:b≠p:=(λz=>n (by rwa[z]));rwa[qj nb],Tk.updD h⟩
def WT {κ:Type}[DecidableEq κ](k j:κ):∀kvs:oj (κ×V),iS (JF kvs k) j=if j=k then U_ else iS kvs j
 | []=>by show U_=_;split<;>rfl
 |p::r=>by
  by_cases c:p.1=k
  .rw[Ij c,WT k j r];by_cases d:j=k
   .rw[A6 d,A6 d]
   .rw[A4 d,A4 d,QL (λz=>d (z.symm.trans c))]
  .rw[Ik c];by_cases d:p.1=j
   .rw[QY d,A4 (λz=>c (d.trans z)),QY d]
   .rw[QL d,WT k j r,QL d]
variable {C:o3}
def yk.kp {x:o3}(h:yk C H x qs)(k:Kp L H H')(U:∀p>L,(∃xs,H p=u_ (.lst xs))\/(∃xs,H p=u_ (.dK xs))\/H p=U_):yk C H' x qs:=by
 erw[h,dx,d,o,vs,O,e2,e3,e4];have n1:x∉L:=λz=>by rcases U x z with⟨_,e⟩|⟨_,e⟩|e<;>rw[e] at O<;>cases O
 have n2:d∉L:=λz=>by rcases U d z with⟨_,e⟩|⟨_,e⟩|e<;>rw[e] at e2<;>cases e2
 exact⟨dx,d,o,vs,k.kept _ _ O n1,k.kept _ _ e2 n2,e3,e4.mono k.tk⟩
structure OAt (CO CP:o3)(H:Hp)(o:Oc)(qs:oj (Str×D)):Prop where
 e:H o.x=u_ (.ins CO o.dx (ofs o))
 p:yk CP H o.px qs
def OAt.kp {CO CP:o3}{o:Oc}(h:OAt CO CP H o qs)(k:Kp L H H')(O:∀p>L,(∃xs,H p=u_ (.lst xs))\/(∃xs,H p=u_ (.dK xs))\/H p=U_):OAt CO CP H' o qs:=by
 exists k.kept _ _ h.e (λz=>?_),h.p.kp k O;have U:=h.e;rcases O o.x z with⟨_,e⟩|⟨_,e⟩|e<;>rw[e] at U<;>cases U
abbrev Aad {qs:oj (Str×D)}(S:Sy.Ss (SyP qs))(uk:oj (Key×V)):Prop:=∀m:Str,(iS uk (Vj m)).isSome=decide (m>S.stk.map (·.1))
abbrev C7 {qs:oj (Str×D)}(H:Hp)(S:Sy.Ss (SyP qs))(fk:oj (Key×V)):Prop:=∀(m:Str) (g:Gp),g0D m (qA qs m)=u_ g->
 (∀g':Gp,Sy.Yp S.don m=u_ g'->∃v,iS fk (Vj m)=u_ v/\Is H (Qr (g'.en.getD .non)) v)/\(Sy.Yp S.don m=U_->iS fk (Vj m)=U_)
def C7.mono {S:Sy.Ss (SyP qs)}{fk:oj (Key×V)}(h:C7 H S fk)(t:Tk H H'):C7 H' S fk:=λm g O=>⟨λg' e=>let⟨v,a,b⟩:=(h m g O).1 g' e;[v:a:b.mono t],(h m g O).2⟩
abbrev MM:om (om D)->D->Prop
 |some (u_ v),d=>d=-[-"value",v]
 |some U_,d=>d=-[-"lack"]
 |none,d=>∃k r,d= .tup (.str k::r)/\k≠"value"/\k≠"lack"
abbrev nrg (d:D):Prop:=∃k r,d= .tup (.str k::r)/\(k="value"\/k="lack"\/k="fault"\/k="stuck")
abbrev Acw (qs:oj (Str×D))(don:oj (Str×Gp))(m:Str):D:=match g0D m (qA qs m) with
 |none=>yV (qA qs m)
 |some _=>Qr (((Sy.Yp (Y:=SyP qs) don m).bind λg:Gp=>g.en).getD .non)
abbrev AV {qs:oj (Str×D)}(H:Hp)(S:Sy.Ss (SyP qs))(m:Str)(v:V):Prop:=match Sy.yet S m with
 |none=>v= .non
 |some o=>∃d,Is H d v/\MM o d/\(m∉S.stk.map (·.1)->nrg d/\d=Acw qs S.don m)
inductive Aa3 (CO CP:Addr):Sp
 |mk (o:Oc)(m:Str)(qs:List (Str×D))(S:Sy.Ss (SyP qs))(uk fk:List (Key×V))(_:vs= [-o.x,!m])(_:OAt CO CP H o qs)(_:Qn qs)(_:SGI S)(_:H o.du=u_ (.dK uk))(_:Aad S uk)(_:H o.df=u_ (.dK fk))(_:C7 H S fk)(_:↑fk<=100000)(_:(∀p>S.don,(SyP qs).fin p.2=v_))(_:∀(v:V)(H':Hp)(fk':List (Key×V)),Kp [o.df] H H'->H' o.df=u_ (.dK fk')->C7 H' S fk'->↑fk'<=↑fk+1->(Sy.yet S m=U_->↑fk'=↑fk)->AV H' S m v->Q v H')
inductive DD (CO:Addr):Sp
 |mk (x dx px:Addr)(_:vs= [-x,-px])(_:H x=u_ (.ins CO dx []))(_:∀(o:Oc)(H':Hp),o.x=x->o.dx=dx->o.px=px->(∀b ob,H b=u_ ob->b≠x->H' b=u_ ob)->Tk H H'->H o.ls=U_->H o.du=U_->H o.dr=U_->H o.df=U_-> [o.ls,o.du,o.dr,o.df].Nodup->H' x=u_ (.ins CO dx (ofs o))->H' o.ls=u_ (.lst [])->H' o.du=u_ (.dK [])->H' o.dr=u_ (.dK [])->H' o.df=u_ (.dK [])->Q .non H')
inductive Lg:Sp
 |mk (x:_)(y:_)(_:vs= [x,y])(_:Q .non H)
def LH (O:Qn qs)(h:g0D m (qA qs m)=U_):∃k,yV (qA qs m)= .tup k/\MM (u_ (Ki (qA qs m))) (¬k)/\nrg (¬k):=by
 by_cases hm:m>qs.map (·.1)
 .erw[jF O hm,hn,k,e,hd,h1,h2];rw[hd] at h⊢;unfold g0D at h;simp only at h;by_cases c:k="leaf"
  .exists [-"value",e],?_,1,[_:0:.inl rfl];unfold yV;simp only;exact A6 c
  .rw[A4 c] at h;split at h<;>cases h
 .rw[Yj hm];exact[0:1:[_:0:.inr (.inl rfl)]]
def PD (O:Qn qs)(h:g0D m (qA qs m)=u_ g):yV (qA qs m)= .non:=by
 erw[jF O ((QC qs).gn m g h),hn,k,e,hd,h1,h2];rw[hd] at h⊢;unfold g0D at h;simp only at h;by_cases c:k="leaf"
 .rw[A6 c] at h;cases h
 .unfold yV;simp only;exact A4 c
def Acv (h:GI g)(hf:g.en.isSome=v_):MM ((JL g).map u_) (Qr (g.en.getD .non)):=by
 cases U:g.en with
 |none=>rw[U] at hf;cases hf
 |some d=>
  unfold JL;rw[U];show MM ((jy d).map u_) (Qr d);rcases h.en d U with⟨z,rfl⟩|⟨x,rfl,hx⟩|⟨z,rfl⟩
  .have O:jy (flt z)=none:=by unfold jy flt;dsimp only;exact A4 ()
   have e2:Qr (flt z)=flt z:=by unfold Qr flt;dsimp only;exact A4 ()
   rw[O,e2];exact⟨"fault",[!z],1,(),()⟩
  .have O:jy (-[-"said",x])=u_ x:=by unfold jy;dsimp only;exact A6 rfl
   have e2:Qr (-[-"said",x])=-[-"value",x]:=by unfold Qr;dsimp only;exact A6 rfl
   rw[O,e2];exact rfl
  .have O:jy (-[-"stuck",!z])=none:=by unfold jy;dsimp only;exact A4 ()
   have e2:Qr (-[-"stuck",!z])=-[-"stuck",!z]:=by unfold Qr;dsimp only;exact A4 ()
   rw[O,e2];exact⟨"stuck",[!z],1,(),()⟩
def Aab (h:GI g)(O:g.en.isSome=v_):nrg (Qr (g.en.getD .non)):=by
 cases U:g.en with
 |none=>rw[U] at O;cases O
 |some d=>
  show nrg (Qr d);rcases h.en d U with⟨z,rfl⟩|⟨x,rfl,hx⟩|⟨z,rfl⟩
  .have e2:Qr (flt z)=flt z:=by unfold Qr flt;dsimp only;exact A4 ()
   rw[e2];exact[_:0:.inr (.inr (.inl rfl))]
  .have e2:Qr (-[-"said",x])=-[-"value",x]:=by unfold Qr;dsimp only;exact A6 rfl
   rw[e2];exact[_:0:.inl rfl]
  .have e2:Qr (-[-"stuck",!z])=-[-"stuck",!z]:=by unfold Qr;dsimp only;exact A4 ()
   rw[e2];exact[_:0:.inr (.inr (.inr rfl))]
section
variable {P:o9}{w:og}{K:o0}{mg:Str->om o6}{base:o8}{a:Ad}{g:Ga}
def LP:#[T,1,a.Y8,a.jd,["self","going"],Lg]:=by
 exists 9,T.lj,xT,O
 erw[h,x,y,rfl,q];exists 3,%[|O4]
 exact q
def Sk:#[T,1,a.yH,a.yG,["self","project"],(DD a.qr)]:=by
 exists 9,T.iN,js
 erw[h,x,dx,px,rfl,hx,q];have hs:=uB;exists 3,%[#[Qh,pv 1],#[Qh,#[Q7,qd]],#[Qh,J7],#[Qh,J7]|#[Qh,J7]]
 exists 0,0,x,_,dx,0,hx,T.qx,T.Qf,()
 exists (sml rfl),λl1 h1=>?_;have n1:x≠l1:=qk qg h1
 exists 5
 refine⟨0,x,_,dx,0,(qj n1).trans qg,T.qx,T.QF,by show 1<1000;decide,?_⟩
 intro l2 h2;have U:x≠l2:=qk qg h2
 exists 5
 refine⟨0,x,_,dx,0,(qj U).trans qg,T.qx,T.Qx,by show 2<1000;decide,?_⟩
 intro l3 h3;have n3:x≠l3:=qk qg h3
 exists 5
 refine⟨0,x,_,dx,0,(qj n3).trans qg,T.qx,T.Qg,by show 3<1000;decide,?_⟩
 intro l4 h4;have n4:x≠l4:=qk qg h4
 exists 5
 refine⟨0,x,_,dx,0,(qj n4).trans qg,T.qx,T.QG,by show 4<1000;decide,?_⟩
 rw[qj n1.symm] at h1;have O:l2≠l1:=λz=>by rw[z,qj n1.symm,qg] at h2;cases h2
 have k2:H l2=none:=by rwa[qj U.symm,qj O,qj U.symm] at h2
 have aa:l3≠l2:=λz=>by rw[z,qj U.symm,qg] at h3;cases h3
 have ac:l3≠l1:=λz=>by rw[z,qj n1.symm,qj O.symm,qj n1.symm,qg] at h3;cases h3
 have k3:H l3=none:=by rwa[qj n3.symm,qj aa,qj n3.symm,qj ac,qj n3.symm] at h3
 have ad:l4≠l3:=λz=>by rw[z,qj n3.symm,qg] at h4;cases h4
 have ae:l4≠l2:=λz=>by rw[z,qj U.symm,qj aa.symm,qj U.symm,qg] at h4;cases h4
 have af:l4≠l1:=λz=>by rw[z,qj n1.symm,qj ac.symm,qj n1.symm,qj O.symm,qj n1.symm,qg] at h4;cases h4
 have k4:H l4=none:=by rwa[qj n4.symm,qj ad,qj n4.symm,qj ae,qj n4.symm,qj af,qj n4.symm] at h4
 have kp:∀b ob,H b=u_ ob->b≠x->(upd (upd (upd (upd (upd (upd (upd (upd (upd H x (.ins a.qr dx (iJ "given_project" (V.ref px) []))) l1 (.lst [])) x (.ins a.qr dx (iJ "stack" (V.ref l1) (iJ "given_project" (V.ref px) [])))) l2 (.dK [])) x (.ins a.qr dx (iJ "under_way" (V.ref l2) (iJ "stack" (V.ref l1) (iJ "given_project" (V.ref px) []))))) l3 (.dK [])) x (.ins a.qr dx (iJ "full_runs" (V.ref l3) (iJ "under_way" (V.ref l2) (iJ "stack" (V.ref l1) (iJ "given_project" (V.ref px) [])))))) l4 (.dK [])) x (.ins a.qr dx (iJ "found" (V.ref l4) (iJ "full_runs" (V.ref l3) (iJ "under_way" (V.ref l2) (iJ "stack" (V.ref l1) (iJ "given_project" (V.ref px) []))))))) b=u_ ob:=λb ob h nb=>by
  rwa[qj nb,qj (qk h k4),qj nb,qj (qk h k3),qj nb,qj (qk h k2),qj nb,qj (qk h h1),qj nb]
 refine q ⟨x,dx,px,l1,l2,l3,l4⟩ _ rfl rfl rfl kp ?_ h1 k2 k3 k4 ?_ ?_ ?_ ?_ ?_ ?_
 .exists 5
  refine[λb xs e=>kp b _ e (λz=>?_):λb xs e=>[xs:kp b _ e (λz=>?_)]:λb xs e=>[xs:kp b _ e (λz=>?_)]]<;>(rw[z,hx] at e;cases e)
 .simp![vN,uD,uH,uM,Vb,V3,vF,and_true];exact[[O.symm:ac.symm:af.symm]:[aa.symm:ae.symm]:ad.symm]
 .exact qg
 .rw[qj n1.symm,qj af.symm,qj n1.symm,qj ac.symm,qj n1.symm,qj O.symm,qj n1.symm];exact qg
 .rw[qj U.symm,qj ae.symm,qj U.symm,qj aa.symm,qj U.symm];exact qg
 .rw[qj n3.symm,qj ad.symm,qj n3.symm];exact qg
 .rw[qj n4.symm];exact qg
def LL:#[T,2,a.Yg,a.jw,["self","project"],(DD a.qr)]:=by
 have U:=#[Sk,T];exists 9,T.lK,XU
 erw[h,x,dx,px,rfl,O,q];exists 3,%[|#[Qa,#[Qj,pv 0,T.qx,T.iN,U,#v[pv 1]]]]
 exact⟨0,x,dx,0,O,1,0,x,dx,px,1,O,q⟩
def Ec:#[T,2,a.yD,a.yS,["self","name"],(Aa3 a.qr a.qG)]:=by
 have qM:=#[Ya,T];have Q2:=#[An,T];exists 9,T.io,yz
 erw[h,o,m,qs,S,uk,fk,rfl,hO,hq,hG,ad,hU,ac,hF,hl,aa,k];have hs:=uB;exists 3,%[#[qF,#[WG,#[pc_din,QT hr,pv 1,#[qN,5,pv 0,rfl]]],%[|#[qo,#[qD,#v[ql]]]],qt],#[qE,(2),yz.nd,#[qq,Q2,T.iq,#v[#[Qj,#[qN,5,pv 0,rfl],T.Q4,T.ii,qM,#v[pv 1]]]]],#[qF,#[qp,Xi,pv 2,qO,qw _],%[|#[Js,#[qN,5,pv 0,rfl],pv 1,pv 2]],qt]|#[qo,#[qah,7,QT hr,#[qN,5,pv 0,rfl],pv 1,⟨1,1,1,1⟩]]]
 exists 0,0,o.x,_,o.dx,_,0,hO.e,T.qx,T.Qx,Sl o,o.du,0,mQ.k (k:=Vj m) ad,0;rw[hU m];by_cases c:m>S.stk.map (·.1)
 .have ey:Sy.yet S m=u_ none:=by unfold Sy.yet;rw[A6 c]
  refine lN (ud c) [(sml rfl):λt ht=>?_];have s1:=qf ht (-[V.str "ring"]);refine k _ _ fk (Kp.of s1) (s1 _ _ ac) (hF.mono s1.tk) (HQ _) (λ_=>rfl) ?_;unfold AV;rw[ey];exact⟨_,Is.new (ds:= [-"ring"]) ⟨_,0,QU (),1⟩ ht,⟨"ring",[],1,(),()⟩,λz=>A8 c z⟩
 refine iU (ug c) ?_
 exists 0,o.x,_,o.dx,_,0,hO.e,T.qx,T.Qf,Sn o;erw[id hO.p,ae,dp,op,ak,hx,hd,hk,hv]
 exists o.px,ae,0,hx,yy,0,o.px,m,qs,1,hO.p,λv h1 h2=>?_;have af:Is H (qA qs m) v:=by
  by_cases cm:m>qs.map (·.1)
  .exact h1 cm
  .rw[h2 cm,Yj cm];exact rfl
 exists v,qA qs m,1,af,?_,λu H1 s1 hu=>?_
 .by_cases cm:m>qs.map (·.1)
  .erw[jF hq cm,_,k,e,hd,_];exact .inr [k:e:hd]
  .exact .inl (Yj cm)
 have O:=s1 _ _ ac
 exists 0,1,0;cases hg:g0D m (qA qs m) with
 |none=>
  erw[LH hq hg,l,e1,e2,e3];rw[e1] at hu;have ag:u≠ .non:=jQ hu (by intro z;cases z)
  have ey:Sy.yet S m=u_ (u_ (Ki (qA qs m))):=by have U:=hg;unfold Sy.yet;rw[A4 c,show(SyP qs).g0 m=_ from U];rfl
  refine lN (by simp[ag]) ?_
  have kp:Kp [o.df] H (upd H1 o.df (.dK (lR fk (Vj m) u))):=(Kp.of s1).trans (Kp.updD O uf)
  exists 0,0,o.x,_,o.dx,_,0,s1 _ _ hO.e,T.qx,T.QG,L5 o,0,o.df,0,IN.k (k:=Vj m) O ()
  have ah:=hO.kp kp (by intro p hp;cases Ab.mp hp;exact .inr (.inl [_:ac]))
  exists 0,o.x,_,o.dx,_,0,ah.e,T.qx,T.QG,L5 o,o.df,1,.inl [_:.inl qg],0,_,mQ.k (k:=Vj m) qg;rw[X4,A6 rfl];refine k _ _ _ kp qg ?_ (yu _ _ _) (λz=>by rw[ey] at z;cases z) ?_
  .intro m' g' U;rw[X4,A4 (λz=>by injection z with z;rw[z,hg] at U;cases U)]
   exact(hF.mono kp.tk) m' g' U
  .unfold AV;rw[ey];exact⟨_,(hu.mono (Tk.updD O)),e2,λ_=>⟨e3,by unfold Acw;rw[hg];exact e1.symm⟩⟩
 |some g=>
  rw[PD hq hg] at hu;cases(show u= .non from hu)
  refine iU (by simp) ?_
  exists 0,o.x,_,o.dx,_,0,s1 _ _ hO.e,T.qx,T.QG,L5 o,o.df,1,.inl [_:.inl O],0,_,mQ.k (k:=Vj m) O;refine k _ _ fk (Kp.of s1) O (hF.mono s1.tk) (HQ _) (λ_=>rfl) ?_;have ey:Sy.yet S m=(Sy.Yp S.don m).map λg=>(JL g).map some:=by have U:=hg;unfold Sy.yet;rw[A4 c,show(SyP qs).g0 m=_ from U];rfl
  erw[hF m g hg,f1,f2];unfold AV;rw[ey];cases hd:Sy.Yp S.don m with
  |none=>
   rw[f2 hd];exact rfl
  |some g'=>
   erw[f1 g' hd,y,e1,e2];rw[e1];exact⟨_,e2.mono s1.tk,Acv (hG (m,g') (.inr (Sy.zx hd))).1 (aa (m,g') (Sy.zx hd)),λ_=>⟨Aab (hG (m,g') (.inr (Sy.zx hd))).1 (aa (m,g') (Sy.zx hd)),by unfold Acw;rw[hg,hd];rfl⟩⟩
structure nJ (g:Gc)(s:Gs)(p:Gp):Prop where
 n:g.n=p.n
 mb:s.mb=p.mb
 ra:s.ra=p.ra
 run:(s.run.map λq=>(q.1.rs,q.2))=p.run
 own:∀mc r,s.run=u_ (mc,r)->mc.own=g.n
 en:s.en=p.en.getD .non
abbrev Aau:om (Mc×Rn)->oj o3
 |none=> []
 |some (mc,_)=> [mc.x,mc.db,mc.dg]
abbrev plc (g:Gc)(s:Gs):oj o3:=g.x::Aau s.run
def nJ.none {g:Gc}{s:Gs}{p:Gp}(h:nJ g s p)(e:p.run=U_):s.run=none:=by
 have:=h.run;rw[e] at this;cases O:s.run with
 |none=>rfl
 |some q=>rw[O] at this;cases this
def nJ.some {g:Gc}{s:Gs}{p:Gp}(h:nJ g s p){rs:oj Rw}{r:Rn}(e:p.run=u_ (rs,r)):∃mc:Mc,s.run=u_ (mc,r)/\mc.rs=rs/\mc.own=g.n:=by
 have:=h.run;rw[e] at this;cases O:s.run with
 |none=>rw[O] at this;cases this
 |some q=>
  erw[q,mc,r'];rw[O] at this;cases this;exact⟨mc,1,1,h.own mc r' O⟩
variable {CM:o3}
def l8.frame {g:Gc}{s:Gs}(h:l8 C CM H g s)(O:∀b>plc g s,∀ob,H b=u_ ob->H' b=u_ ob)(t:Tk H H'):l8 C CM H' g s:=by
 erw[h,dx,fs,mv,av,rv,ev,e,f,i,j,k,l];exists dx,fs,mv,av,rv,ev,O _ uf _ e,f,i.mono t,j.mono t,?_,l.mono t;cases U:s.run with
 |none=>rwa[U] at k
 |some q=>
  erw[q,mc,r];have hp:plc g s= [g.x,mc.x,mc.db,mc.dg]:=by unfold plc Aau;rw[U]
  rw[hp] at O;rw[U] at k;erw[k,k1,k2,dm,fm,aa,ru,tv,gv,em,ac,i1,i2,[bf,ib,jb],i4,i5,i6];exact⟨k1,k2,dm,fm,aa,ru,tv,gv,O _ (by simp) _ em,ac,i1.mono t,i2.mono t,⟨bf,O _ (by simp) _ ib,λz hz=>(jb z hz).mono t⟩,O _ (by simp) _ i4,i5.mono t,i6.mono t⟩
def l8.there {g:Gc}{s:Gs}(h:l8 C CM H g s):∀b>plc g s,∃ob,H b=u_ ob:=by
 erw[h,dx,fs,mv,av,rv,ev,e,f,i,j,k,l];intro b O;rcases Aa.mp O with rfl|O
 .exact[_:e]
 .cases U:s.run with
  |none=>rw[U] at O;cases O
  |some q=>
   erw[q,mc,r];rw[U] at O k;erw[k,k1,k2,dm,fm,aa,ru,tv,gv,em,ac,i1,i2,[bf,ib,jb],i4,i5,i6];simp![Aau,uD,uH,uM] at O;rcases O with rfl|rfl|rfl
   .exact[_:em]
   .exact[_:ib]
   .exact[_:i4]
def IF {g:Gc}{d:D}{s s':Gs}{p:Gp}(b:MR H g d s s')(h:nJ g s p)(U:p.run=U_)(he:p.en=U_):nJ g s' (mi p d)/\∀c>plc g s',c=g.x\/H c=none:=by
 have hr:=h.none U;have aa:s.en= .non:=by rw[h.en,he];rfl
 have nil:s'.run=U_->∀c>plc g s',c=g.x\/H c=none:=λe c O=>by
  unfold plc at O;rw[e] at O;rcases Aa.mp O with z|z
  .exact .inl z
  .cases z
 unfold mi;by_cases c:d= .non
 .erw[b.lack c,b1,b2];rw[A6 (by rw[c];rfl)]
  exact⟨⟨h.n,b.mb.trans h.mb,b.ra.trans h.ra,(by show _=p.run;rw[b1,U];rfl),(λmc r e=>by rw[b1] at e;cases e),b2⟩,nil b1⟩
 .rw[A4 (λz=>c (by cases d with|non=>rfl|_=>cases z))]
  cases hd:QK d with
  |none=>
   erw[b.rule c hd,b1,b2];exact⟨⟨h.n,b.mb.trans h.mb,b.ra.trans h.ra,(by show _=p.run;rw[b1,U];rfl),(λmc r e=>by rw[b1] at e;cases e),b2⟩,nil b1⟩
  |some rs=>
   erw[b.go rs hd,mc,c1,c2,c3,c4,c5,c6,c7];exists ⟨h.n,b.mb.trans h.mb,b.ra.trans h.ra,?_,λac r e=>?_,?_⟩,λc O=>?_
   .rw[c6];show u_ (mc.rs,R0 rs g.n)=u_ (rs,R0 rs p.n);rw[c4,h.n]
   .rw[c6] at e;cases e;exact c5
   .rw[c7,h.n,aa];show _=(mX (R0 rs p.n)).getD .non;unfold mX;split<;>rfl
   .unfold plc at O;rw[c6] at O;simp![Aau,uD,uH,uM] at O;rcases O with z|rfl|rfl|rfl
    .exact .inl z
    .exact .inr c1
    .exact .inr c2
    .exact .inr c3
abbrev oy:om (oj Rw×Rn)->oj D
 |none=> []
 |some (_,r)=>r.gs
abbrev xr (p:Gp):D:=-[.tup (p.ra++oy p.run),p.en.getD .non]
def B5 {g:Gc}{s:Gs}{p:Gp}(h:nJ g s p):Ms s=xr p:=by
 unfold Ms xr;rw[h.ra,h.en];have e:Abi s.run=oy p.run:=by
  rw[<-h.run];cases s.run with
  |none=>rfl
  |some q=>rfl
 rw[e]
def Mq {p:Gp}(h:GI p):↑p.ra+↑(oy p.run)<=1000:=by
 have h1:=h.ra.2.2;cases O:p.run with
 |none=>show _+0<=1000;omega
 |some q=>
  erw[q,rs,r];have h2:=(h.run rs r O).2.1;have h3:=h2.gs.2.2;have h4:=h2.n;show _+↑r.gs<=1000;omega
inductive Ll (CO CP CG CM:Addr):Sp
 |mk (o:Oc)(m:Str)(qs:List (Str×D))(xs:List V)(uk:List (Key×V))(p:Gp)(_:vs= [-o.x,!m])(_:OAt CO CP H o qs)(_:Qn qs)(_:H o.ls=u_ (.lst xs))(_:↑xs<=100000)(_:H o.du=u_ (.dK uk))(_:↑uk<=100000)(_:g0D m (qA qs m)=u_ p)(_:∀(g:Gc)(s:Gs)(H':Hp),Kp [o.ls,o.du] H H'->H' o.ls=u_ (.lst (xs++ [-g.x]))->H' o.du=u_ (.dK (lR uk (Vj m) (.bl v_)))->l8 CG CM H' g s->nJ g s p->g.o=o.x->(∀b>plc g s,H b=U_)->Q .non H')
inductive Dt (CO CP CG CM:Addr):Sp
 |mk (o:Oc)(qs:List (Str×D))(g:Gc)(s:Gs)(p:Gp)(rk fk:List (Key×V))(_:vs= [-o.x,-g.x])(_:OAt CO CP H o qs)(_:l8 CG CM H g s)(_:nJ g s p)(_:GI p)(_:p.en.isSome=v_)(_:H o.dr=u_ (.dK rk))(_:↑rk<=100000)(_:H o.df=u_ (.dK fk))(_:↑fk<=100000)(_:o.dr≠o.df)(_:o.dr∉plc g s)(_:o.df∉plc g s)(_:∀(v1 v2:V)(H':Hp),Kp [o.dr,o.df] H H'->H' o.dr=u_ (.dK (lR rk (Vj g.n) v1))->Is H' (xr p) v1->H' o.df=u_ (.dK (lR fk (Vj g.n) v2))->Is H' (Qr (p.en.getD .non)) v2->Q .non H')
def LX:#[C,12,a.Y4,a.Y6,["self","name"],(Ll a.qr a.qG a.qK a.qm)]:=by
 have qM:=#[Ya,T];have O:=#[LU,T,C];exists 9,T.iL,xS
 erw[h,o,m,qs,xs,uk,p,rfl,hO,hq,U,aq,aa,au,hp,k];have hs:=uB;exists 3,%[#[Qa,#[j0,vc,vD,vE,YH,#[qN,5,pv 0,rfl],#v[#[Xz,T.M_Going,O,T.m_Going,T.mJ,qy,#v[pv 1,#[Qj,#[qN,5,pv 0,rfl],T.Q4,T.ii,qM,#v[pv 1]],pv 0]]]]]|#[Js,#[qN,5,pv 0,rfl],pv 1,Yc]]
 exists 0,o.x,_,o.dx,_,0,hO.e,T.qx,T.QF,L3 o,.inl [1:_:SqL.of U]
 exists 0,0,o.x,_,o.dx,_,0,hO.e,T.qx,T.Qf,Sn o;erw[id hO.p,al,dp,op,aw,hx,hd,hk,hv]
 exists o.px,al,0,hx,yy,0,o.px,m,qs,1,hO.p,λsv h1 h2=>?_;have hm:m>qs.map (·.1):=(QC qs).gn m p hp;have ag:=h1 hm;erw[jF hq hm,hn,kk,e,am,g1,g2];rw[am] at ag hp
 exists 0,λx dx ac ah nx=>?_;have s0:ig H (upd (upd H dx (.own x)) x (.ins a.qK dx [])):=λb o h=>by rwa[qj (qk h ac),qj (qk h ah)]
 have nox:o.x≠x:=qk hO.e ac
 exists x,dx,o.x,m,kk,sv,e,1,qg,ag.mono s0.tk,hn,nox,⟨_,_,s0 _ _ hO.e,Ws o _ ()⟩,λH1 s1 ao ax G1 b1 b2=>[1:?_]
 have ad:ig H H1:=λb ob h=>ao b ob (s0 b ob h) (qk h ac);have rel:nJ ⟨x,o.x,m⟩ s1 p/\∀c>plc ⟨x,o.x,m⟩ s1,H c=none:=by
  unfold g0D at hp;simp only at hp;split at hp
  .cases hp
  .split at hp
   .rename_i c
    cases hp;have e1:=b1 c;rw[e1]
    exists ⟨1,1,1,1,(λ_ _ z=>by cases z),1⟩,λc hc=>?_
    rcases Aa.mp hc with rfl|hc
    .exact ac
    .cases hc
   .rename_i c
    cases hp;obtain⟨r1,r2⟩:=IF (p:=⟨m,.non,[],U_,U_⟩) (b2 c) ⟨1,1,1,1,(λ_ _ z=>by cases z),1⟩ rfl rfl
    exists r1,λc hc=>?_;rcases r2 c hc with rfl|hc
    .exact ac
    .exact s0.free hc
 exists o.ls,xs,0,1,ad _ _ U,()
 have ak:Kp [o.ls,o.du] H1 (upd H1 o.ls (.lst (xs++ [-x]))):=⟨λb ob h n=>by rw[qj (λz=>n (by rw[z];exact uf))];exact h,lQ.tk (p:=o.ls) (λb ob h n=>by rwa[qj n]) (ad _ _ U) qg⟩
 have n1:o.du≠o.ls:=λz=>by rw[z,U] at aa;cases aa
 have ae:upd H1 o.ls (.lst (xs++ [-x])) o.du=u_ (.dK uk):=by rw[qj n1];exact ad _ _ aa
 have n2:o.x≠o.ls:=λz=>by have:=hO.e;rw[z,U] at this;cases this
 have n3:o.x≠o.du:=λz=>by have:=hO.e;rw[z,aa] at this;cases this
 exists 0,o.x,_,o.dx,_,0,(by rw[qj n2];exact ad _ _ hO.e),T.qx,T.Qx,Sl o,0,o.du,0,IN.k (k:=Vj m) ae ()
 have ap:=((Kp.of (L:= [o.ls,o.du]) ad).trans ak).trans (Kp.updD (ys:=lR uk (Vj m) (.bl v_)) ae (uc _ uf));refine k [x:o.x:m] s1 _ ap (by rw[qj n1.symm];exact qg) qg (G1.frame (λb hb ob h=>?_) ((ak.trans (Kp.updD (ys:=lR uk (Vj m) (.bl v_)) ae (uc _ uf)))).tk) rel.1 rfl rel.2
 have af:=rel.2 b hb;have m1:b≠o.ls:=λz=>by rw[z,U] at af;cases af
 have m2:b≠o.du:=λz=>by rw[z,aa] at af;cases af
 rw[qj m2,qj m1];exact h
def Eg:#[T,3,a.YY,a.YV,["self","going"],(Dt a.qr a.qG a.qK a.qm)]:=by
 have O:=#[Sd,T];have xZ:=#[BI,T];have XT:=#[LP,T];exists 9,T.iY,xp
 erw[h,o,qs,g,st,p,rk,fk,rfl,hO,hG,hR,hI,ae,ac,ay,af,aA,ag,nr,nf,k];have hs:=uB;exists 3,%[#[Js,#[qN,5,pv 0,rfl],#[qN,5,pv 1,rfl],#[QN,pv 1,T.qQ,T.mK,O]],#[Js,#[qN,5,pv 0,rfl],#[qN,5,pv 1,rfl],#[qq,xZ,T.iV,#v[#[qN,5,pv 1,rfl]]]]|#[Qa,#[Qj,pv 0,T.qx,T.lj,XT,#v[pv 1]]]]
 erw[id hG,dx,fs,mv,av,rv,ev,e,f,i,j,aB,l];have aw:o.dr≠g.x:=λz=>nr (by rw[z];exact uf)
 have aC:o.df≠g.x:=λz=>nf (by rw[z];exact uf)
 have ah:o.x≠o.dr:=λz=>by have:=hO.e;rw[z,ac] at this;cases this
 have ak:o.x≠o.df:=λz=>by have:=hO.e;rw[z,af] at this;cases this
 have al:↑(Abi st.run)=↑(oy p.run):=by
  have:=B5 hR;unfold Ms xr at this;simp![D.tup.injEq,UT] at this;have:=this.1;rw[hR.ra] at this;rw[List.append_cancel_left this]
 exists 0,g.x,dx,fs,1,e,f.meth _ (),g,st,1,hG,(by rw[hR.ra,al];exact Mq hI),λv1 H1 s1 i1=>?_
 rw[B5 hR] at i1
 exists 0,o.x,_,o.dx,_,0,s1 _ _ hO.e,T.qx,T.Qg,L4 o,0,g.x,_,dx,fs,0,s1 _ _ e,T.qQ,T.Yn,f.Zz,o.dr,0,IN.k (k:=Vj g.n) (s1 _ _ ac) ()
 have ad:Kp [o.dr,o.df] H (upd H1 o.dr (.dK (lR rk (Vj g.n) v1))):=(Kp.of s1).trans (Kp.updD (s1 _ _ ac) uf);generalize U:upd H1 o.dr (.dK (lR rk (Vj g.n) v1))=H2 at ad⊢;have am:H2 o.dr=u_ (.dK (lR rk (Vj g.n) v1)):=by rw[<-U];exact qg
 have e2:H2 g.x=u_ (.ins a.qK dx fs):=by rw[<-U,qj aw.symm];exact s1 _ _ e
 have ao:H2 o.x=u_ (.ins a.qr o.dx (ofs o)):=by rw[<-U,qj ah];exact s1 _ _ hO.e
 have aa:H2 o.df=u_ (.dK fk):=by rw[<-U,qj ag.symm];exact s1 _ _ af
 have i2:Is H2 (xr p) v1:=i1.mono (by rw[<-U];exact Tk.updD (s1 _ _ ac))
 have l2:Is H2 (p.en.getD .non) ev:=by rw[<-hR.en];exact l.mono ad.tk
 obtain⟨kk,ee,ap⟩:∃kk ee,p.en.getD .non=-[!kk,ee]:=by
  cases aq:p.en with
  |none=>rw[aq] at ae;cases ae
  |some d=>
   rcases hI.en d aq with⟨z,rfl⟩|⟨x,rfl,_⟩|⟨z,rfl⟩
   .exact[_:0]
   .exact[_:0]
   .exact[_:0]
 exists 0,g.x,_,dx,fs,0,e2,T.qQ,T.Q9,f.f_end,ev,kk,ee,1,(by rwa[<-ap]),λv2 H3 s3 i3=>?_
 rw[<-ap] at i3
 exists 0,o.x,_,o.dx,_,0,s3 _ _ ao,T.qx,T.QG,L5 o,0,g.x,_,dx,fs,0,s3 _ _ e2,T.qQ,T.Yn,f.Zz,o.df,0,IN.k (k:=Vj g.n) (s3 _ _ aa) ()
 have au:Tk H3 (upd H3 o.df (.dK (lR fk (Vj g.n) v2))):=Tk.updD (s3 _ _ aa);have ax:Kp [o.dr,o.df] H (upd H3 o.df (.dK (lR fk (Vj g.n) v2))):=(ad.trans (Kp.of s3)).trans (Kp.updD (s3 _ _ aa) (uc _ uf))
 exists 0,o.x,o.dx,0,(by rw[qj ak];exact s3 _ _ ao),Ws o _ (),0,_,0
 exact k v1 v2 _ ax (by rw[qj ag];exact s3 _ _ am) (i2.mono (s3.tk.trans au)) qg (i3.mono au)
end
variable {v:V}
def oV:VG ("looked_up":Str) [(("by_name":Str),v)]=none:=by rfl
def Ab7 (k:Str):inV (V.str k) [V.str "has",V.str "names"]=na k:=by
 have h:=XC k ["has","names"];refine h.trans ?_;unfold na;rw[<-Bool.decide_or,vd];simp
section
variable {C CM CO:o3}{H:Hp}{g:Gc}{s:Gs}{p:Gp}{Q:VK}{E:XK}
def NT (G:l8 C CM H g s)(R:nJ g s p)(I:GI p)(O:p.en=U_)(U:yl p=u_ m)(k:∀kd v H',ig H H'->na kd=Vg->Is H' (-[!kd,!m]) v->Q v H'):zp C CM [-g.x] H Q E:=by
 erw[kl I O U,hn,h];exists g,s,1,G;rcases h with⟨h1,h2⟩|⟨rs,r,h1,h2⟩
 .exact .inl ⟨R.none h1,m,by rw[R.mb,h2],λv H' s' i=>k _ v H' s' () i⟩
 .erw[R.some h1,mc,e1,e2,e3];exact .inr ⟨mc,r,_,e1,h2,λv i=>k _ v H (ig.refl _) () i⟩
def IR (G:l8 C CM H g s)(R:nJ g s p)(I:GI p)(O:p.en=U_)(U:yl p=U_)(k:∀rs r kd z v,p.run=u_ (rs,r)->r.th= .tup [-"asks",-[!kd,!z]]->na kd=v_->isT (!z)=v_->nE qs p=QI p (xj qs kd z)->Is H (-[!kd,!z]) v->Q v H):zp C CM [-g.x] H Q E:=by
 erw[jW (qs:=qs) I O U,rs,r,kd,z,h1,h2,h3,h4,h5];erw[R.some h1,mc,e1,e2,e3];exact⟨g,s,1,G,.inr ⟨mc,r,_,e1,h2,λv i=>k rs r kd z v h1 h2 h3 h4 h5 i⟩⟩
def Df (G:l8 C CM H g s)(R:nJ g s p)(I:GI p)(he:p.en=U_){d:D}{v:V}(hv:Is H d v)(U:∀rs r,p.run=u_ (rs,r)->∃u q,r.th= .tup [-"asks",-[!u,q]]/\AU u d=v_)(aa:g.o≠g.x)(ho:∃dx fs,H g.o=u_ (.ins CO dx fs)/\fs.lookup ("runner":Str)=U_)
  (k:∀H' s',Gw g s.run H H'->l8 C CM H' g s'->nJ g s' (QI p d)->(∀b>plc g s',b>plc g s\/H b=U_)->Q .non H'):zu C CM CO [-g.x,v] H Q E:=by
 refine⟨g,s,v,d,1,G,by rw[R.n];exact I.n,hv,aa,ho,?_⟩
 cases O:p.run with
 |none=>
  erw[I.no O he,z,hz,_];have hr:=R.none O;refine .inl ⟨hr,z,by rw[R.mb,hz],λH' s' w G' b=>?_⟩
  obtain⟨r1,r2⟩:=IF (p:=⟨p.n,p.mb,[-[-[-"rule",p.mb],d]],U_,U_⟩) b ⟨R.n,R.mb,(by show _= [D.tup [-[-"rule",p.mb],d]];rw[hz]),(by show s.run.map _=U_;rw[hr];rfl),R.own,(by show s.en= .non;rw[R.en,he];rfl)⟩ rfl rfl
  refine k H' s' w G' ?_ λc hc=>?_
  .have:QI p d=mi ⟨p.n,p.mb,[-[-[-"rule",p.mb],d]],U_,U_⟩ d:=by
    unfold QI;rw[O];show mi ⟨p.n,p.mb,_,U_,p.en⟩ d=_;rw[he]
   rwa[this]
  .rcases r2 c hc with rfl|h
   .exact .inl uf
   .exact .inr h
 |some q=>
  erw[q,rs,r];erw[R.some O,mc,e1,e2,e3];erw[I.run rs r O,k1,k2,k3,k4];erw[U rs r O,u,q,h1,h2];subst e2;refine .inr ⟨mc,r,u,q,e1,e3,k1,k2,h1,h2,λH' w G'=>?_⟩;have ee:QI p d={p with run:=u_ (mc.rs,l7 mc.rs p.n r d),en:=mX (l7 mc.rs p.n r d)}:=by unfold QI;rw[O]
  refine k H' _ w G' ?_ ?_
  .rw[ee,e3,R.n];unfold oX mX;by_cases c:Qy (l7 mc.rs p.n r d).th=v_
   .rw[A6 c,A6 c];exact⟨R.n,R.mb,R.ra,1,(λac r' z=>by cases z;exact e3),(by show s.en= .non;rw[R.en,he];rfl)⟩
   .rw[A4 c,A4 c];exact⟨R.n,R.mb,R.ra,1,(λac r' z=>by cases z;exact e3),1⟩
  .intro b hb;left;unfold plc at hb⊢;rw[e1];unfold oX at hb;split at hb<;>exact hb
end
abbrev LO (o:Oc):oj o3:= [o.ls,o.du,o.dr,o.df]
structure Bs (CO CP:o3)(H0:Hp)(o:Oc)(qs:oj (Str×D)):Prop where
 oa:OAt CO CP H0 o qs
 ls:∃xs,H0 o.ls=u_ (.lst xs)
 du:∃xs,H0 o.du=u_ (.dK xs)
 dr:∃xs,H0 o.dr=u_ (.dK xs)
 df:∃xs,H0 o.df=u_ (.dK xs)
 nd:(LO o).Nodup
 q:Qn qs
section
variable {CO CP:o3}{H0 H H':Hp}{o:Oc}{qs:oj (Str×D)}
def Bs.at (b:Bs CO CP H0 o qs)(k:Kp (LO o) H0 H):OAt CO CP H o qs:=b.oa.kp k (by
 intro p O;simp![LO,uD,uH,uM] at O;rcases O with rfl|rfl|rfl|rfl
 .exact .inl b.ls
 .exact .inr (.inl b.du)
 .exact .inr (.inl b.dr)
 .exact .inr (.inl b.df))
def Bs.new (b:Bs CO CP H0 o qs){c:o3}(h:H0 c=U_):c≠o.x/\c≠o.ls/\c≠o.du/\c≠o.dr/\c≠o.df:=by
 erw[b.ls,_,h1];erw[b.du,_,h2];erw[b.dr,_,h3];erw[b.df,_,h4];exact⟨(qk b.oa.e h).symm,(qk h1 h).symm,(qk h2 h).symm,(qk h3 h).symm,(qk h4 h).symm⟩
def Bs.nlo (b:Bs CO CP H0 o qs){c:o3}(h:H0 c=U_):c∉LO o:=by
 erw[b.new h,_,h1,h2,h3,h4];simp![LO,uD,uH,uM,Vb];exact⟨h1,h2,h3,h4⟩
def Ax (b:Bs CO CP H0 o qs)(k:Kp (LO o) H0 H)(h:∀c ob,H c=u_ ob->c∉o.df::L->H' c=u_ ob)(t:Tk H H')(O:∀c>L,H0 c=U_):Kp (LO o) H0 H':=⟨λc ob e n=>h c ob (k.kept c ob e n) (λz=>by
 rcases Aa.mp z with rfl|z
 .exact n (by simp[LO])
 .rw[O c z] at e;cases e),k.tk.trans t⟩
end
section
variable {qs:oj (Str×D)}{n:Str}{p:Gp}{r don:oj (Str×Gp)}
def Su (U:p.en=U_)(hw:yl p=U_):Sy.nxt #[Y,(n,p)::r,don]=[(n,nE qs p)::r:don]:=by
 have hf:(SyP qs).fin p=false:=by show p.en.isSome=Vg;rw[U];rfl
 have O:(SyP qs).want p=none:=hw;unfold Sy.nxt;simp only;rw[hf,A4 u8,O]
 rfl
def AbN (U:p.en=U_)(hw:yl p=u_ m){a:om D}(hy:Sy.yet #[Y,(n,p)::r,don] m=u_ (u_ a)):Sy.nxt #[Y,(n,p)::r,don]=[(n,QI p (a.getD .non))::r:don]:=by
 have hf:(SyP qs).fin p=false:=by show p.en.isSome=Vg;rw[U];rfl
 have O:(SyP qs).want p=u_ m:=hw;unfold Sy.nxt;simp only;rw[hf,A4 u8,O];simp only;rw[hy]
 rfl
def Sq (U:p.en=U_)(hw:yl p=u_ m)(hy:Sy.yet #[Y,(n,p)::r,don] m=u_ U_):Sy.nxt #[Y,(n,p)::r,don]=[(n,IZ p m)::r:don]:=by
 have hf:(SyP qs).fin p=false:=by show p.en.isSome=Vg;rw[U];rfl
 have O:(SyP qs).want p=u_ m:=hw;unfold Sy.nxt;simp only;rw[hf,A4 u8,O];simp only;rw[hy]
 rfl
def L6 (he:p.en=U_)(hw:yl p=u_ m)(U:Sy.yet #[Y,(n,p)::r,don] m=U_):∃p',g0D m (qA qs m)=u_ p'/\Sy.nxt #[Y,(n,p)::r,don]=[(m,p')::(n,p)::r:don]:=by
 have hf:(SyP qs).fin p=false:=by show p.en.isSome=Vg;rw[he];rfl
 have O:(SyP qs).want p=u_ m:=hw;erw[Sy.jR U,_,[p',e],_];exists p',e;unfold Sy.nxt;simp only;rw[hf,A4 u8,O];simp only;rw[U];simp only;rw[e]
def Sr {d:D}(O:p.en=u_ d):Sy.nxt #[Y,(n,p)::r,don]=[r:don++ [(n,p)]]:=by
 have U:(SyP qs).fin p=true:=by show p.en.isSome=v_;rw[O];rfl
 unfold Sy.nxt;simp only;rw[U,A6 rfl]
 rfl
end
def kh {d:D}(h:XY d):AU "thing" d=true:=by
 unfold AU;rcases h with rfl|h
 .rfl
 .cases hn:yL d with
  |true=>rfl
  |false=>
   rw[A4 u8,A6 h,A4 ()]
   rfl
structure Rnd {qs:oj (Str×D)}(CG CM:o3)(H0 H H1:Hp)(o:Oc)(S:Sy.Ss (SyP qs))(L0:oj o3)(g:Gc)(s1:Gs)(n:Str)(p1:Gp)(r:oj (Str×Gp))(fk1:oj (Key×V))(top:Nat):Prop where
 st:∃j,#[Y,(n,p1)::r,S.don]=Sy.nx S j
 len:↑fk1+Sy.mu #[Y,(n,p1)::r,S.don]<=top
 kp:∀b ob,H b=u_ ob->b∉o.df::L0->H1 b=u_ ob
 tk:Tk H H1
 df:H1 o.df=u_ (.dK fk1)
 fd:C7 H1 S fk1
 go:l8 CG CM H1 g s1
 rel:nJ g s1 p1
 pl:∀b>plc g s1,b>L0\/H b=U_/\H0 b=U_
 gi:SGI #[Y,(n,p1)::r,S.don]
inductive Aa6 (CO CP CG CM:Addr):Sp
 |mk (H0:Hp)(o:Oc)(qs:List (Str×D))(g:Gc)(s:Gs)(n:Str)(p:Gp)(r don:List (Str×Gp))(uk fk:List (Key×V))(top:Nat)(_:vs= [-o.x,-g.x])(_:Bs CO CP H0 o qs)(_:Kp (LO o) H0 H)(_:H o.du=u_ (.dK uk))(_:Aad #[Y,(n,p)::r,don] uk)(_:(∀q>don,q.2.en.isSome=v_))(_:top<=100000)(_:g.o=o.x)(_:(∀b>plc g s,H0 b=U_))(_:Rnd CG CM H0 H H o #[Y,(n,p)::r,don] (plc g s) g s n p r fk top)(_:∀(v:V)(H':Hp)(s':Gs)(p':Gp)(fk':List (Key×V)),Rnd CG CM H0 H H' o #[Y,(n,p)::r,don] (plc g s) g s' n p' r fk' top->((v= .non/\p'.en.isSome=v_)\/∃m,v= .str m/\p'.en=U_/\yl p'=u_ m/\Sy.yet #[Y,(n,p')::r,don] m=U_)->Q v H')
def Rnd.more {qs:oj (Str×D)}{CG CM CO CP:o3}{H0 H H1 H2 H3:Hp}{o:Oc}{S:Sy.Ss (SyP qs)}{L0:oj o3}{g:Gc}{s1 s3:Gs}{n:Str}{p1 p3:Gp}{r:oj (Str×Gp)}{fk1 U:oj (Key×V)}{top:Nat}(b:Bs CO CP H0 o qs)(k0:Kp (LO o) H0 H)(hL:∀b>L0,H0 b=U_)(h:Rnd CG CM H0 H H1 o S L0 g s1 n p1 r fk1 top)(k2:Kp [o.df] H1 H2)(f2:H2 o.df=u_ (.dK U))(d2:C7 H2 S U)(l2:↑U<=↑fk1+1)
  (ac:∀b ob,H2 b=u_ ob->b∉plc g s1->H3 b=u_ ob) (t3:Tk H2 H3) (G3:l8 CG CM H3 g s3) (R3:nJ g s3 p3) (ae:∀b>plc g s3,b>plc g s1\/H2 b=U_) (e:Sy.nxt #[Y,(n,p1)::r,S.don]=[(n,p3)::r:S.don]):
  Rnd CG CM H0 H H3 o S L0 g s3 n p3 r U top/\Sy.mu #[Y,(n,p3)::r,S.don]<Sy.mu #[Y,(n,p1)::r,S.don]:=by
 have ad:=Sy.nxt_mu (QC qs) (S:=#[Y,(n,p1)::r,S.don]) (by intro z;cases z)
 rw[e] at ad;have af:∀b>plc g s1,H0 b=none:=λb hb=>(h.pl b hb).elim (hL b) (·.2);have nf:o.df∉plc g s1:=λz=>(b.new (af _ z)).2.2.2.2 rfl;have ag:∀b ob,H1 b=u_ ob->b∉o.df::plc g s1->H3 b=u_ ob:=λc ob q z=>ac c ob (k2.kept c ob q (λy=>z (by rw[Ab.mp y];exact uf))) (λy=>z (uc _ y))
 refine⟨⟨?_,by have:=h.len;omega,λc ob q z=>?_,(h.tk.trans k2.tk).trans t3,ac _ _ f2 nf,d2.mono t3,G3,R3,λc hc=>?_,?_⟩,ad⟩
 .erw[h.st,j,hj];exact⟨j+1,by show _=Sy.nxt (Sy.nx S j);rw[<-hj,e]⟩
 .refine ag c ob (h.kp c ob q z) λy=>?_;rcases Aa.mp y with rfl|y
  .exact z uf
  .rcases h.pl c y with y|⟨y,_⟩
   .exact z (uc _ y)
   .rw[q] at y;cases y
 .rcases ae c hc with hc|hc
  .exact h.pl c hc
  .have O:H1 c=none:=by
    cases hq:H1 c with
    |none=>rfl
    |some ob=>
     by_cases y:c=o.df
     .rw[y,f2] at hc;cases hc
     .rw[k2.kept c ob hq (λz=>y (Ab.mp z))] at hc;cases hc
   by_cases c0:c>L0
   .exact .inl c0
   .right;have aa:H c=none:=by
     cases hq:H c with
     |none=>rfl
     |some ob=>
      by_cases y:c=o.df
      .rw[y,h.df] at O;cases O
      .rw[h.kp c ob hq (λz=>by rcases Aa.mp z with z|z;exact y z;exact c0 z)] at O;cases O
    exists aa;cases hq:H0 c with
    |none=>rfl
    |some ob=>
     by_cases y:c>LO o
     .have:=Ax b k0 h.kp h.tk hL;simp![LO,uD,uH,uM] at y;have keep:∀x,(∃xs,H0 x=u_ (.lst xs))\/(∃xs,H0 x=u_ (.dK xs))->H1 x≠none:=λx hx hn=>by
       rcases hx with⟨xs,hx⟩|⟨xs,hx⟩
       .erw[this.tk.lst x xs hx,ys,hy];rw[hy] at hn;cases hn
       .erw[this.tk.dct x xs hx,ys,hy];rw[hy] at hn;cases hn
      rcases y with rfl|rfl|rfl|rfl
      .exact A8 O (keep _ (.inl b.ls))
      .exact A8 O (keep _ (.inr b.du))
      .exact A8 O (keep _ (.inr b.dr))
      .exact A8 O (keep _ (.inr b.df))
     .rw[k0.kept c ob hq y] at aa;cases aa
 .have:=Ev b.q h.gi;rwa[e] at this
section
variable {P:o9}{w:og}{K:o0}{mg:Str->om o6}{base:o8}{a:Ad}{g:Ga}
def AbK:#[C,11,a.Y5,a.jc,["self","going"],(Aa6 a.qr a.qG a.qK a.qm)]:=by
 have WY:=#[Ed,T];have JU:=#[LR,T,C];have yx:=#[oQ,T];have Qe:=#[Ec,T];exists 9,T.ll,yo
 erw[h,H0,o,qs,gc,st,n,p,r,don,uk,fk,top,rfl,hB,hK,aK,hU,ap,aX,aq,hL,h0,k];have hs:=uB;exists 3,%[#[wc,6,uR,#[qp,yf,#[qN,5,pv 1,rfl],qO,qw _],%[#[qE,(2),yo.nd,#[QN,pv 1,T.qQ,T.mh,WY]],#[qF,#[qp,QS,#[qH,qC,pv 2],#[qD,#v[ql,ql]],#[w]],%[#[Qa,#[Qj,pv 1,T.qQ,T.lf,JU,#v[#[Qj,#[qN,5,pv 0,rfl],T.Q4,T.iK,yx,#v[pv 2]]]]]|Aj],qt],#[qE,(3),yo.nd,#[Qj,pv 0,T.qx,T.io,Qe,#v[#[qH,qC,pv 2]]]],#[qF,#[qp,yf,pv 3,qO,qw _],%[|#[qo,#[qH,qC,pv 2]]],qt]|#[qF,#[qp,QJ,#[qH,qC,pv 3],ql,qw _],%[|#[Qa,#[Qj,pv 1,T.qQ,T.lf,JU,#v[#[qH,qC,pv 3]]]]],%[|#[qF,#[qp,QJ,#[qH,qC,pv 3],ql,qw _],%[|#[Qa,#[Qj,pv 1,T.qQ,T.lf,JU,#v[qO]]]],%[|#[Qh,8,pv 1,#[qD,#v[ql,#[qH,qC,pv 2]]],rfl]]]]]]]|#[qo,qO]]
 let J_:Nat->L2.St->Hp->Prop:=λmm σ H1=>∃(s1:Gs) (p1:Gp) (fk1:oj (Key×V)) (u3 u4:om V),σ= [u_ (-o.x),u_ (-gc.x),u3,u4]/\mm=Sy.mu #[Y,(n,p1)::r,don]/\Rnd a.qK a.qm H0 H H1 o #[Y,(n,p)::r,don] (plc gc st) gc s1 n p1 r fk1 top
 exists J_,⟨_,st,p,fk,U_,U_,1,1,h0⟩;rintro mm σ H1 ⟨s1,p1,fk1,u3,u4,rfl,rfl,O⟩;have aL:=Ax hB hK O.kp O.tk hL;have aa:=hB.at aL;have au:∀b>plc gc s1,H0 b=none:=λb hb=>(O.pl b hb).elim (hL b) (·.2);erw[O.gi (n,p1) (.inl uf),hI,aZ];have hI:GI p1:=hI;have aw:H1 o.du=u_ (.dK uk):=O.kp _ _ aK (λz=>by
  rcases Aa.mp z with z|z
  .have:=hB.nd;simp[LO] at this;exact this.2.1.2 z
  .exact(hB.new (hL _ z)).2.2.1 rfl)
 erw[id O.go,dx,fs,mv,av,rv,ev,e,f,i,j,a1,l];have a2:↑fs<1000:=by have:=f.len;omega
 exists 0,gc.x,_,dx,fs,0,e,T.qQ,T.Q9,f.f_end,1,0;cases he:p1.en with
 |some d=>
  have l':Is H1 d ev:=by have:=l;rwa[O.rel.en,he] at this
  have aM:d≠ .non:=by rcases hI.en d he with⟨z,rfl⟩|⟨x,rfl,_⟩|⟨z,rfl⟩<;>(intro z;cases z)
  refine iU (ug (jQ l' aM)) ?_;exact k _ H1 s1 p1 fk1 O (.inl ⟨1,by rw[he];rfl⟩)
 |none=>
  have l':Is H1 .non ev:=by have:=l;rwa[O.rel.en,he] at this
  cases(show ev= .non from l')
  refine lN (ud rfl) ?_
  exists λσ' H'=>∃m',m'<Sy.mu #[Y,(n,p1)::r,don]/\J_ m' σ' H',λ_ _ h=>h;exists 8,B1,b1;have ax:gc.o≠gc.x:=by rw[aq];exact(hB.new (hL _ uf)).1.symm
  have ak:∀H2:Hp,(∀b ob,H1 b=u_ ob->b∉o.df::plc gc s1->H2 b=u_ ob)->∃dx fs,H2 gc.o=u_ (.ins a.qr dx fs)/\fs.lookup ("runner":Str)=none:=λH2 h2=>⟨_,_,(by rw[aq];exact h2 _ _ aa.e (λz=>by
   rcases Aa.mp z with z|z
   .have:=aa.e;rw[z,O.df] at this;cases this
   .exact(hB.new (au _ z)).1 rfl)),Ws o _ ()⟩
  cases hw:yl p1 with
  |none=>
   exists 0,gc.x,dx,fs,1,e,f.meth _ ()
   refine IR (E:=E0) (qs:=qs) O.go O.rel hI he hw λrs rr kd z v ay al ac hz aA hv=>b1 _ _ ?_;exists 8,B2,b2;erw[id hv,q,ws,rfl,hq,w1,r1,rfl,[rfl,aN],w2,r2,rfl,[rfl,aB],h3];cases(show r2= [] from h3)
   exists 0,q,_,_,0,1,SqT.of hq,1,(sml rfl),λt ht=>?_;have s2:=qf ht (-[V.str "has",V.str "names"])
   exists t,0,.inr (SqT.of qg),1,1,0;refine lN ((Ab7 kd).trans ac) ?_;erw[id aa.p,aO,dp,op,a3,hx,hd,hk,a4];have a5:↑z<=300:=by
    have:=yN hz;simp![iX,QB,uC,vf] at this;exact this.1
   erw[WM hB.q z ac,a6,aP];generalize a7:upd H1 t (-[V.str "has",V.str "names"])=H2 at s2⊢;have fin:∀(u:V) (H3:Hp),ig H2 H3->Is H3 (xj qs kd z) u->zu a.qK a.qm a.qr [-gc.x,u] H3 (λ_ H4=>∃m',m'<Sy.mu #[Y,(n,p1)::r,don]/\J_ m' [u_ (-o.x),u_ (-gc.x),u_ (-q),u4] H4) E0:=λu H3 s3 hu=>by
    have U:=s2.trans s3;refine Df (O.go.same U) O.rel hI he hu (λaQ r' e'=>?_) ax (ak H3 λb ob h _=>U b ob h) λH4 s4 w4 G4 R4 aR=>?_
    .rw[ay] at e';cases e';exact⟨kd,_,al,aP⟩
    .rw[<-aA] at R4;have kq:∀b ob,H3 b=u_ ob->b∉plc gc s1->H4 b=u_ ob:=λb ob h n=>w4.kept b ob h (λy=>n (by rw[y];exact uf)) (λmc r' y=>by
      unfold plc at n;rw[y] at n;simp![Aau,uD,uH,uM,Vb] at n;exact[n.2.1:n.2.2.1:n.2.2.2])
     erw[O.more hB hK hL (Kp.of U) (U _ _ O.df) (O.fd.mono U.tk) (HQ _) kq w4.tk G4 R4 aR (Su he hw),m1,m2];exact⟨_,m2,s4,_,fk1,_,0,1,m1⟩
   exists 0,gc.x,dx,fs,1,s2 _ _ e,f.meth _ ()
   exists 0,o.x,_,o.dx,_,0,s2 _ _ aa.e,T.qx,T.Qf,Sn o
   exists o.px,aO,0,s2 _ _ hx,oV,0,o.px,q,kd,z,qs,1,aa.p.same s2,hB.q,s2 _ _ hq,()
   have aC:kd="has"\/kd≠"has"/\kd="names":=by
    unfold na at ac;by_cases c:kd="has"
    .exact .inl c
    .rw[ug c,TH] at ac;exact .inr [c:um ac]
   rcases aC with c|⟨c',c⟩
   .refine .inl [c:fin _ H2 (ig.refl _) ?_];unfold xj;rw[A6 c];exact QU (by split<;>decide)
   .refine .inr [c:λu H3 s3 hu=>fin u H3 s3 ?_];unfold xj;rwa[A4 c']
  |some m=>
   erw[kl hI he hw,a8,al]
   exists 0,gc.x,dx,fs,1,e,f.meth _ ()
   refine NT (E:=E0) O.go O.rel hI he hw λkd v H2 s2 ac hv=>b1 _ _ ?_;exists 8,B2,b2;erw[id hv,q,ws,rfl,hq,w1,r1,rfl,[rfl,aN],w2,r2,rfl,[rfl,aB],h3];cases(show r2= [] from h3)
   exists 0,q,_,_,0,1,SqT.of hq,1,(sml rfl),λt ht=>?_;have s3:=qf ht (-[V.str "has",V.str "names"])
   exists t,0,.inr (SqT.of qg),1,1,0;refine iU ((Ab7 kd).trans ac) (b2 _ _ ?_);exists 8,B3,b3;generalize upd H2 t (-[V.str "has",V.str "names"])=H3 at s3⊢;have U:=s2.trans s3;have aD:=s3 _ _ hq;have aE:SGI #[Y,(n,p1)::r,don]:=O.gi
   exists 0,o.x,o.dx,0,U _ _ aa.e,Ws o _ ()
   exists 0,q,_,_,0,1,SqT.of aD,1,o,m,qs,#[Y,(n,p1)::r,don],uk,fk1,1,[U _ _ aa.e:aa.p.same U],hB.q,aE,U _ _ aw,hU,U _ _ O.df,O.fd.mono U.tk,(by have:=O.len;omega),ap,λu H4 am k4 f4 d4 l4 aS y4=>?_
   have ad:Kp [o.df] H1 H4:=(Kp.of U).trans k4;have aF:H4 q=u_ (-[V.str kd,V.str m]):=k4.tk.tup _ _ aD;have aT:o.df∉plc gc s1:=λz=>(hB.new (au _ z)).2.2.2.2 rfl;have G4:l8 a.qK a.qm H4 gc s1:=O.go.frame (λb hb ob h=>ad.kept b ob h (λz=>aT (by rwa[<-Ab.mp z]))) ad.tk
   erw[id G4,ao,ae,a9,bb,bc,bd,e4,af,i4,j4,aG,bf];refine b3 _ _ ?_;exists 8,B4,b4
   exists 0,1,0;unfold AV at y4;cases hy:Sy.yet #[Y,(n,p1)::r,don] m with
   |none=>
    rw[hy] at y4;cases(show u= .non from y4)
    refine lN (ud rfl) ⟨0,q,_,_,0,1,SqT.of aF,1,?_⟩;refine k _ H4 s1 p1 am ⟨O.st,(by rw[aS hy];exact O.len),λb ob h z=>ad.kept b ob (O.kp b ob h z) (λy=>z (by rw[Ab.mp y];exact uf)),O.tk.trans ad.tk,f4,d4,G4,O.rel,O.pl,O.gi⟩ (.inr ⟨m,1,he,hw,hy⟩)
   |some oa=>
    rw[hy] at y4;erw[y4,d,hd,ha,_];have sh:∃kk rr,d= .tup (.str kk::rr):=by
     cases oa with
     |none=>erw[ha,kk,rr,h,_];exact[kk:rr:h]
     |some x=>cases x with
      |none=>exact[_:_:ha]
      |some y=>exact[_:_:ha]
    erw[sh,kk,rr,rfl];erw[id hd,qa,wa,rfl,ag,w1,r1,rfl,[rfl,aY],h3];refine iU (ug (λz=>by cases z)) (b4 _ _ ?_)
    exists 0,qa,_,_,0,1,SqT.of ag,qI (j:=0) rfl,1,0;have fin:∀(dd:D) (u:V),Is H4 dd u->XY dd->Sy.nxt #[Y,(n,p1)::r,don]=⟨(n,QI p1 dd)::r,don⟩->zu a.qK a.qm a.qr [-gc.x,u] H4 (λ_ H5=>∃m',m'<Sy.mu #[Y,(n,p1)::r,don]/\J_ m' [u_ (-o.x),u_ (-gc.x),u_ (-q),u_ (-qa)] H5) E0:=λdd u hu hok ah=>by
     refine Df G4 O.rel hI he hu (λaQ r' e'=>?_) ax (ak H4 λb ob h n=>ad.kept b ob h (λz=>n (by rw[Ab.mp z];exact uf))) λH5 s5 w5 G5 R5 aU=>?_
     .rcases al with⟨h1,_⟩|⟨rs,rr,h1,h2⟩
      .rw[h1] at e';cases e'
      .rw[h1] at e';cases e';exact⟨"thing",_,h2,kh hok⟩
     .have kq:∀b ob,H4 b=u_ ob->b∉plc gc s1->H5 b=u_ ob:=λb ob h n=>w5.kept b ob h (λy=>n (by rw[y];exact uf)) (λmc r' y=>by
       unfold plc at n;rw[y] at n;simp![Aau,uD,uH,uM,Vb] at n;exact[n.2.1:n.2.2.1:n.2.2.2])
      erw[O.more hB hK hL ad f4 d4 l4 kq w5.tk G5 R5 aU ah,m1,m2];exact⟨_,m2,s5,_,am,_,0,1,m1⟩
    cases oa with
    |some x=>
     have hok:=MS hB.q aE hy;have ah:=AbN he hw hy;cases x with
     |some y=>
      cases(show D.tup (.str kk::rr)= .tup [-"value",y] from ha)
      erw[h3,w5,r5,rfl,h5,h6];cases(show r5= [] from h6)
      refine lN (ud rfl) ?_;exact⟨0,gc.x,ao,ae,1,e4,af.meth _ (),0,qa,_,_,0,1,SqT.of ag,1,fin y w5 h5 hok ah⟩
     |none=>
      cases(show D.tup (.str kk::rr)= .tup [-"lack"] from ha)
      refine iU () ?_
      exists 0,qa,_,_,0,1,SqT.of ag,qI (j:=0) rfl,1,0;refine lN (ud rfl) ?_;exact⟨0,gc.x,ao,ae,1,e4,af.meth _ (),fin .non .non rfl hok ah⟩
    |none=>
     erw[ha,k2,r2,e5,c1,c2];cases e5;refine iU (ug (λz=>c1 (V.str.inj z))) ?_
     exists 0,qa,_,_,0,1,SqT.of ag,qI (j:=0) rfl,1,0;refine iU (ug (λz=>c2 (V.str.inj z))) ?_
     exists 0,q,_,_,0,1,SqT.of aF,1,(sml rfl),λt5 aH=>?_;have s5:=qf aH (-[V.str "stuck",V.str m]);have aI:↑ae<1000:=by have:=af.len;omega
     exists 0,gc.x,_,ao,ae,1,s5 _ _ e4,T.qQ,T.Q9,aI;have aV:=Is.new (H:=H4) (ds:= [-"stuck",!m]) (p:=t5) ⟨_,0,QU (),_,0,[1:aB],1⟩ aH
     erw[ka (C:=a.qK) (CM:=a.qm) (g:=gc) (s:={s1 with en:= .tup [-"stuck",!m]}) (s5 _ _ e4) (af.set_end (u:=-t5)) (i4.mono s5.tk) (j4.mono s5.tk) (aG.same s5) aV,g1,g2]
     have aJ:nJ gc {s1 with en:= .tup [-"stuck",!m]} (IZ p1 m):=⟨O.rel.n,O.rel.mb,O.rel.ra,O.rel.run,O.rel.own,1⟩
     have aW:Kp [o.df] H1 (upd H4 t5 (-[V.str "stuck",V.str m])):=ad.trans (Kp.of s5);obtain⟨m1,m2⟩:=O.more hB hK hL aW (s5 _ _ f4) (d4.mono s5.tk) l4 (λb ob h n=>g2.kept b ob h (λy=>n (by rw[y];exact uf))) g2.tk g1 aJ (λb hb=> .inl hb) (Sq he hw hy)
     exact⟨_,m2,_,_,am,_,0,1,m1⟩
abbrev Xa (CG CM:o3)(H:Hp)(ox:o3):oj (Gc×Gs)->oj (Str×Gp)->Prop
 | [],[]=>True
 |q::t,p::l=>l8 CG CM H q.1 q.2/\nJ q.1 q.2 p.2/\q.1.o=ox/\Xa CG CM H ox t l
 |_,_=>False
abbrev O6:oj (Gc×Gs)->oj o3
 | []=> []
 |q::t=>plc q.1 q.2++O6 t
abbrev Sep:oj (Gc×Gs)->Prop
 | []=>True
 |q::t=>(∀b>plc q.1 q.2,b∉O6 t)/\Sep t
def Xa.frame {CG CM ox:o3}{H H':Hp}:∀{st:oj (Gc×Gs)}{l:oj (Str×Gp)},Xa CG CM H ox st l->(∀b>O6 st,∀ob,H b=u_ ob->H' b=u_ ob)->Tk H H'->Xa CG CM H' ox st l
 | [],[],_,_,_=>trivial
 | [],_::_,h,_,_=>h.elim
 |_::_,[],h,_,_=>h.elim
 |q::t,p::l,⟨h1,h2,h3,h4⟩,hk,tk=>⟨h1.frame (λb O=>hk b (vz _ O)) tk,h2,h3,Xa.frame h4 (λb O=>hk b (uN _ O)) tk⟩
def Xa.there {CG CM ox:o3}{H:Hp}:∀{st:oj (Gc×Gs)}{l:oj (Str×Gp)},Xa CG CM H ox st l->∀b>O6 st,∃ob,H b=u_ ob
 | [],[],_=>λb O=>by cases O
 | [],_::_,h=>h.elim
 |_::_,[],h=>h.elim
 |q::t,p::l,⟨h1,h2,h3,h4⟩=>λb O=>by
  rcases Ac.mp O with O|O
  .exact h1.there b O
  .exact Xa.there h4 b O
def Xa.len {CG CM ox:o3}{H:Hp}:∀{st:oj (Gc×Gs)}{l:oj (Str×Gp)},Xa CG CM H ox st l->↑st=↑l
 | [],[],_=>rfl
 | [],_::_,h=>h.elim
 |_::_,[],h=>h.elim
 |q::t,p::l,⟨h1,h2,h3,h4⟩=>by rw[ui,ui,Xa.len h4]
def BO {Y:Sy}:∀l:oj (Str×Y.G),↑l<=Sy.lfts l
 | []=>uj _
 |(_,g)::r=>by
  have:=BO r;show ↑r+1<=Y.lft g+1+Sy.lfts r;omega
def AdE (O:Qn qs)(n:Str):Sy.mu (Sy.S0 (SyP qs) n)<=20000:=by
 have U:=O.2.2;have hr:∀S:Sy.Ss (SyP qs),↑(Sy.rest S)<=60:=λS=>by
  have h1:↑(Sy.rest S)<=(qs.map (·.1)).length:=tT _ _;rw[u9] at h1;omega
 unfold Sy.mu;have h2:=hr (Sy.S0 (SyP qs) n);have h3:(SyP qs).M=302:=rfl;rw[h3];have h4:Sy.lfts (Sy.S0 (SyP qs) n).stk<=303:=by
  unfold Sy.S0;cases hg:(SyP qs).g0 n with
  |none=>exact uS _
  |some g=>
   have:=(QC qs).l0 n g hg;show(SyP qs).lft g+1+0<=303;have h3:(SyP qs).M=302:=rfl;omega
 omega
structure OI {qs:oj (Str×D)}(CG CM:o3)(H0 H:Hp)(o:Oc)(n0:Str)(S:Sy.Ss (SyP qs))(st:oj (Gc×Gs))(uk rk fk:oj (Key×V)):Prop where
 kp:Kp (LO o) H0 H
 nx:∃j,S=Sy.nx (Sy.S0 (SyP qs) n0) j
 ls:H o.ls=u_ (.lst (st.reverse.map λq=>V.ref q.1.x))
 du:H o.du=u_ (.dK uk)
 uo:Aad S uk
 ul:↑uk+Sy.mu S<=20001
 dr:H o.dr=u_ (.dK rk)
 rks:rk.map (·.1)=S.don.map λp=>Vj p.1
 rv:L2.IsL H (S.don.map λp=>xr p.2) (rk.map (·.2))
 rl:↑S.don+Sy.mu S<=20001
 df:H o.df=u_ (.dK fk)
 fd:C7 H S fk
 fl:↑fk+Sy.mu S<=20001
 stk:Xa CG CM H o.x st S.stk
 new:∀b>O6 st,H0 b=U_
 sep:Sep st
 gi:SGI S
 fin:∀q>S.don,(Gp.en q.2).isSome=v_
 nd:(S.stk.map (·.1)++S.don.map (·.1)).Nodup
def Aaf (n:Str)(j:Nat):((Sy.nx (Sy.S0 (SyP qs) n) j).stk.map (·.1)++(Sy.nx (Sy.S0 (SyP qs) n) j).don.map (·.1)).Nodup:=by
 cases O:(SyP qs).g0 n with
 |some g=>exact(Sy.nx_ok (QC qs) (Sy.S0_ok O) j).nd
 |none=>
  have e:Sy.nx (Sy.S0 (SyP qs) n) j=⟨[],[]⟩:=by
   have U:Sy.S0 (SyP qs) n=⟨[],[]⟩:=by unfold Sy.S0;rw[O]
   rw[U]
   induction j with
   |zero=>rfl
   |succ j ih=>show Sy.nxt _=_;rw[ih];rfl
  rw[e];exact vF
inductive Oj (CO CP:Addr):Sp
 |mk (o:Oc)(qs:List (Str×D))(n:Str)(_:vs= [-o.x,!n])(_:Bs CO CP H o qs)(_:H o.ls=u_ (.lst []))(_:H o.du=u_ (.dK []))(_:H o.dr=u_ (.dK []))(_:H o.df=u_ (.dK []))(_:∀(H':Hp)(rk uk fk:List (Key×V))(don:List (Str×Gp))(j:Nat),H' o.du=u_ (.dK uk)->Aad #[Y,[],don] uk->H' o.df=u_ (.dK fk)->C7 H' #[Y,[],don] fk->↑fk<=20001->SGI #[Y,[],don]->Kp (LO o) H H'->Sy.nx (Sy.S0 (SyP qs) n) j=⟨[],don⟩->H' o.dr=u_ (.dK rk)->(rk.map (·.1)=don.map λp=>Vj p.1)->L2.IsL H' (don.map λp=>xr p.2) (rk.map (·.2))->(∀p>don,GI p.2/\p.2.en.isSome=v_)->↑don<=20001->Q .non H')
def Kr {α:Type}{xs:oj α}{x:α}:atI (xs++ [x]) (-1)=u_ x:=by
 unfold atI ixN;have O:↑(xs++ [x])=↑xs+1:=by simp
 rw[A4 (),A6 ()]
 show(xs++ [x])[(-1+(↑(xs++ [x]):Int)).toNat]? =u_ x;rw[show(-1+(↑(xs++ [x]):Int)).toNat=↑xs by omega]
 simp
def Nq {Y:Sy}(S:Sy.Ss Y)(i:Nat):∀j,Sy.nx S (i+j)=Sy.nx (Sy.nx S i) j
 |0=>rfl
 |j+1=>by show Sy.nxt (Sy.nx S (i+j))=Sy.nxt (Sy.nx (Sy.nx S i) j);rw[Nq S i j]
def AbQ {qs:oj (Str×D)}(S:Sy.Ss (SyP qs)):∀j,Sy.mu (Sy.nx S j)<=Sy.mu S
 |0=>uj _
 |j+1=>by
  have h:=AbQ S j;show Sy.mu (Sy.nxt (Sy.nx S j))<=_;by_cases c:(Sy.nx S j).stk= []
  .have e:Sy.nxt (Sy.nx S j)=Sy.nx S j:=by unfold Sy.nxt;rw[c]
   rwa[e]
  .have:=Sy.nxt_mu (QC qs) c;omega
def PF:#[C,13,a.yQ,a.yT,["self","name"],(Oj a.qr a.qG)]:=by
 have Qe:=#[Ec,T];have jf:=#[LX,T,C];have ze:=#[AbK,T,C];have xM:=#[Eg,T];exists 9,T.iM,QO
 erw[h,o,qs,n,rfl,hB,bE,bh,bF,bG,k];have hs:=uB;have hO:=hB.oa;exists 3,%[#[qF,#[qp,yf,#[Qj,pv 0,T.qx,T.io,Qe,#v[pv 1]],qO,qw _],%[|#[Qa,#[Qj,pv 0,T.qx,T.iL,jf,#v[pv 1]]]],qt]|#[wc,6,uR,#[Bw,3,#[qN,5,pv 0,rfl],(λ_=>rfl)],%[#[qE,(2),QO.nd,#[qH,7,YS,#[qN,5,pv 0,rfl],#[Lz,6,Ba,qi],(λ_ _=>rfl)]],#[qE,(3),QO.nd,#[Qj,pv 0,T.qx,T.ll,ze,#v[pv 2]]]|#[qF,#[qp,yf,pv 3,qO,qw _],%[#[Qa,#[Nj,9,vc,PySem.F.slot_list_pop,PySem.F.type_list_pop,Nu,#[qN,5,pv 0,rfl],_,_]],#[Qa,#[LB,7,#[qN,5,pv 0,rfl],#[qN,5,pv 2,rfl],⟨1,1,1,1⟩]]|#[Qa,#[Qj,pv 0,T.qx,T.iY,xM,#v[pv 2]]]],%[|#[Qa,#[Qj,pv 0,T.qx,T.iL,jf,#v[pv 3]]]]]]]]
 have bH:=AdE hB.q n;exists 8,N,hN;have bI:∀(H1:Hp) (S:Sy.Ss (SyP qs)) (st:oj (Gc×Gs)) (uk rk fk:oj (Key×V)),OI a.qK a.qm H H1 o n S st uk rk fk->N [u_ (-o.x),u_ (!n),U_,U_] H1:=by
  intro H1 S st uk rk fk h1;refine hN _ _ ?_
  let J_:Nat->L2.St->Hp->Prop:=λmm σ H2=>∃(S:Sy.Ss (SyP qs)) (st:oj (Gc×Gs)) (uk rk fk:oj (Key×V)) (u3 u4:om V),σ= [u_ (-o.x),u_ (!n),u3,u4]/\mm=Sy.mu S/\OI a.qK a.qm H H2 o n S st uk rk fk
  exists J_,⟨_,S,st,uk,rk,fk,U_,U_,1,1,h1⟩;clear h1 bh bF bG bE;rintro mm σ H2 ⟨S,st,uk,rk,fk,u3,u4,rfl,rfl,hI⟩;have bo:=hB.at hI.kp
  exists 0,o.x,_,o.dx,_,0,bo.e,T.qx,T.QF,L3 o,_,.inl [_:SqL.of hI.ls:1];obtain⟨(stk:oj (Str×Gp)),(don:oj (Str×Gp))⟩:=S;have ax:Xa a.qK a.qm H2 o.x st stk:=hI.stk;cases st with
  |nil=>
   cases stk with
   |cons p l=>exact ax.elim
   |nil=>
    refine iU rfl ?_;erw[hI.nx,j,hj];exact k H2 rk uk fk don j hI.du hI.uo hI.df hI.fd (by have:=hI.fl;omega) hI.gi hI.kp hj.symm hI.dr hI.rks hI.rv (λp hp=>[(hI.gi p (.inr hp)).1:hI.fin p hp]) (by have:=hI.rl;have e:↑(#[Y,[],don].don)=↑don:=rfl;omega)
  |cons q t=>
   erw[q,gc,gs];cases stk with
   |nil=>exact ax.elim
   |cons p l=>
    erw[p,O,p];erw[ax,hG,bp,bJ,hT];have hG:l8 a.qK a.qm H2 gc gs:=hG;have bp:nJ gc gs p:=bp;have am:H2 o.ls=u_ (.lst ((t.reverse.map λq=>V.ref q.1.x)++ [V.ref gc.x])):=by
     have:=hI.ls;rwa[V4,uq] at this
    refine lN (by rw[V4,uq];show(!((Fb _ t.reverse)++ [V.ref gc.x]).isEmpty)=v_;simp) ?_
    exists λσ' H'=>∃m',m'<Sy.mu #[Y,(O,p)::l,don]/\J_ m' σ' H',λ_ _ h=>h;exists 8,B1,b1
    exists 0,o.x,_,o.dx,_,0,bo.e,T.qx,T.QF,L3 o,0,o.ls,_,_,0,1,SqL.of am,Kr,b1 _ _ ?_;exists 8,B2,b2;have ao:∀b>plc gc gs,H b=none:=λb U=>hI.new b (vz _ U);have ac:∀b>O6 t,H b=none:=λb U=>hI.new b (uN _ U);have bK:∃j,#[Y,(O,p)::l,don]=Sy.nx #[Y,(O,p)::l,don] j:=[(0):1]
    exists 0,o.x,o.dx,0,bo.e,Ws o _ (),0,H,o,qs,gc,gs,O,p,l,don,uk,fk,(20001),1,hB,hI.kp,hI.du,hI.uo,hI.fin,(),bJ,ao,⟨bK,hI.fl,λ_ _ h _=>h,Tk.refl _,hI.df,hI.fd,hG,bp,λb U=> .inl U,hI.gi⟩,λv H3 ak p3 ad hR hv=>?_
    have aV:Sy.mu #[Y,(O,p3)::l,don]<=Sy.mu #[Y,(O,p)::l,don]:=by
     erw[hR.st,j,hj];have hj:#[Y,(O,p3)::l,don]=Sy.nx #[Y,(O,p)::l,don] j:=hj;rw[hj];exact AbQ _ _
    have bL:∃j,#[Y,(O,p3)::l,don]=Sy.nx (Sy.S0 (SyP qs) n) j:=by
     erw[hR.st,j,hj];erw[hI.nx,i,hi];have hj:#[Y,(O,p3)::l,don]=Sy.nx #[Y,(O,p)::l,don] j:=hj;exact⟨i+j,by rwa[Nq,<-hi]⟩
    have ap:Kp (LO o) H H3:=Ax hB hI.kp hR.kp hR.tk ao;have ay:=hB.at ap;have aq:∀b>plc gc ak,H b=none:=λb U=>(hR.pl b U).elim (ao b) (·.2);have out:∀b,b>LO o->b≠o.df->b∉o.df::plc gc gs:=λb U hn z=>by
     rcases Aa.mp z with z|z
     .exact hn z
     .exact hB.nlo (ao b z) U
    have b3:o.ls≠o.du/\o.ls≠o.dr/\o.ls≠o.df/\o.du≠o.dr/\o.du≠o.df/\o.dr≠o.df:=by
     have h:=hB.nd;simp![LO,vN,uD,uH,uM,Vb,vF,and_true,V3] at h;exact⟨h.1.1,h.1.2.1,h.1.2.2,h.2.1.1,h.2.1.2,h.2.2⟩
    erw[b3,d1,d2,d3,d4,d5,d6];have af:=hR.kp _ _ am (out _ (by simp[LO]) d3)
    have aA:=hR.kp _ _ hI.du (out _ (by simp[LO]) d5)
    have aB:=hR.kp _ _ hI.dr (out _ (by simp[LO]) d6)
    have bq:Xa a.qK a.qm H3 o.x t l:=hT.frame (λb U ob h=>hR.kp b ob h (λz=>by
     rcases Aa.mp z with z|z
     .exact(hB.new (ac b U)).2.2.2.2 z
     .exact hI.sep.1 b z U)) hR.tk
    have bt:∀b>plc gc ak,b∉O6 t:=λb U z=>by
     rcases hR.pl b U with U|⟨U,_⟩
     .exact hI.sep.1 b U z
     .erw[hT.there b z,ob,e];rw[e] at U;cases U
    have b4:GI p3:=(hR.gi (O,p3) (.inl uf)).1;have aW:p3.n=O:=(hR.gi (O,p3) (.inl uf)).2;have bM:=hI.ul;have bN:=hR.len;have b5:=hI.rl;have cn:↑don+Sy.mu #[Y,(O,p)::l,don]<=20001:=b5;have b6:↑ad+Sy.mu #[Y,(O,p3)::l,don]<=20001:=bN;have aC:=Sy.nxt_mu (QC qs) (S:=#[Y,(O,p3)::l,don]) (by intro z;cases z)
    have cp:↑rk=↑don:=by
     have:=A9 Gb hI.rks;rwa[u9,u9] at this
    have aD:H3 o.df=u_ (.dK ad):=hR.df;have aO:l8 a.qK a.qm H3 gc ak:=hR.go;have ag:nJ gc ak p3:=hR.rel;have aX:C7 H3 #[Y,(O,p3)::l,don] ad:=hR.fd;have aY:SGI #[Y,(O,p3)::l,don]:=hR.gi;erw[bL,i3,aP];refine b2 _ _ ?_
    exists 0,1,0;rcases hv with⟨rfl,au⟩|⟨m,rfl,au,hw,hy⟩
    ·
     refine lN (ud rfl) ?_;exists 8,C1,c1;obtain⟨d,hd⟩:∃d,p3.en=u_ d:=by
      cases h:p3.en with
      |none=>rw[h] at au;cases au
      |some d=>exact[d:1]
     have ae:=Sr (qs:=qs) (n:=O) (r:=l) (don:=don) hd
     exists 0,o.x,_,o.dx,_,0,ay.e,T.qx,T.QF,L3 o,.inl [1:_:SqL.of af]
     exists o.ls,_,V.ref gc.x,1,1,af,by simp
     rw[List.dropLast_concat];have aa:Kp [o.ls,o.du] H3 (upd H3 o.ls (.lst (t.reverse.map λq=>V.ref q.1.x))):=⟨λb ob h n=>by rw[qj (λz=>n (by rw[z];exact uf))];exact h,lQ.tk (p:=o.ls) (λb ob h n=>by rwa[qj n]) af qg⟩
     obtain⟨H4,aE⟩:∃H4,H4=upd H3 o.ls (.lst (t.reverse.map λq=>V.ref q.1.x)):=⟨0⟩;rw[<-aE] at aa⊢;refine c1 _ _ ?_;exists 8,C2,c2;have e4:H4 o.x=u_ (.ins a.qr o.dx (ofs o)):=by rw[aE,qj (λz=>by have:=ay.e;rw[z,af] at this;cases this)];exact ay.e
     have aF:H4 o.ls=u_ (.lst (t.reverse.map λq=>V.ref q.1.x)):=by rw[aE];exact qg
     have al:H4 o.du=u_ (.dK uk):=by rwa[aE,qj d1.symm]
     have bO:∀b,H b=U_->b≠o.ls:=λb U=>(hB.new U).2.1;have b7:l8 a.qK a.qm H4 gc ak:=aO.frame (λb U ob h=>by rwa[aE,qj (bO b (aq b U))]) aa.tk
     erw[id b7,b8,b9,cq,cr,cs,cu,ca,f4,_];have aG:(iS uk (Vj gc.n)).isSome=true:=by
      rw[ag.n,aW];exact(hI.uo O).trans (ud uf)
     obtain⟨uv,cb⟩:∃uv,iS uk (Vj gc.n)=u_ uv:=by
      cases h:iS uk (Vj gc.n) with
      |none=>rw[h] at aG;cases aG
      |some uv=>exact[uv:1]
     exists 0,o.x,_,o.dx,_,0,e4,T.qx,T.Qx,Sl o,o.du,1,.inl [_:.inl al],0,gc.x,_,b8,b9,0,ca,T.qQ,T.Yn,f4.Zz,uk,Vj gc.n,uv,al,1,cb;have ah:Kp [o.ls,o.du] H3 (upd H4 o.du (.dK (JF uk (Vj gc.n)))):=aa.trans (Kp.updD al (uc _ uf));obtain⟨H5,bu⟩:∃H5,H5=upd H4 o.du (.dK (JF uk (Vj gc.n))):=⟨0⟩;rw[<-bu] at ah⊢;refine c2 _ _ ?_;have bP:H5 o.du=u_ (.dK (JF uk (Vj gc.n))):=by rw[bu];exact qg
     have bQ:H5 o.ls=u_ (.lst (t.reverse.map λq=>V.ref q.1.x)):=by rwa[bu,qj d1]
     have aH:∀b,H b=U_->b∉ [o.ls,o.du]:=λb U z=>by
      simp![uD,uH,uM] at z;rcases z with z|z
      .exact(hB.new U).2.1 z
      .exact(hB.new U).2.2.1 z
     have cc:l8 a.qK a.qm H5 gc ak:=aO.frame (λb U ob h=>ah.kept b ob h (aH b (aq b U))) ah.tk;have bR:H5 o.dr=u_ (.dK rk):=ah.kept _ _ aB (by simp![uD,uH,uM,Vb];exact[d2.symm:d4.symm])
     have bS:H5 o.df=u_ (.dK ad):=ah.kept _ _ aD (by simp![uD,uH,uM,Vb];exact[d3.symm:d5.symm])
     have aQ:∀b,b∉LO o->b∉ [o.ls,o.du]:=λb U z=>U (by simp![LO,uD,uH,uM] at z⊢;rcases z with z|z;exact .inl z;exact .inr (.inl z))
     have bv:Kp (LO o) H H5:=[λb ob h n=>ah.kept b ob (ap.kept b ob h n) (aQ b n):ap.tk.trans ah.tk];have bT:=hB.at bv
     exists 0,o.x,o.dx,0,bT.e,Ws o _ (),0,o,qs,gc,ak,p3,rk,ad,1,bT,cc,ag,b4,au,bR,(),bS,(),d6,λz=>(hB.new (aq _ z)).2.2.2.1 rfl,λz=>(hB.new (aq _ z)).2.2.2.2 rfl,λv1 v2 H6 aw aI i6 aZ j6=>?_
     have bU:∀b,b∉LO o->b∉ [o.dr,o.df]:=λb U z=>U (by simp![LO,uD,uH,uM] at z⊢;rcases z with z|z;exact .inr (.inr (.inl z));exact .inr (.inr (.inr z)))
     have cd:∀b,H b=U_->b∉ [o.dr,o.df]:=λb U=>bU b (hB.nlo U);have ce:Kp (LO o) H H6:=[λb ob h n=>aw.kept b ob (bv.kept b ob h n) (bU b n):bv.tk.trans aw.tk];have aJ:Tk H3 H6:=ah.tk.trans aw.tk;have bw:gc.n=O:=ag.n.trans aW;have aR:(#[Y,(O,p3)::l,don].stk.map (·.1)++#[Y,(O,p3)::l,don].don.map (·.1)).Nodup:=by
      rw[aP];exact Aaf n i3
     have bb:(O::(l.map (·.1)++don.map (·.1))).Nodup:=aR;have aK:O∉don.map (·.1):=λz=>(List.nodup_cons.mp bb).1 (uN _ z);have bx:O∉l.map (·.1):=λz=>(List.nodup_cons.mp bb).1 (vz _ z);have cf:iS rk (Vj O)=none:=by
      cases h:iS rk (Vj O) with
      |none=>rfl
      |some v=>
       have h1:=NX h;rw[hI.rks] at h1;erw[Ae.mp h1,q,hq,e];injection e with e
       exact A8 (Ae.mpr [q:hq:e]) aK
     rw[bw] at aI aZ;rw[Kz v1 cf] at aI;have bV:↑uk+Sy.mu #[Y,(O,p)::l,don]<=20001:=bM;have cv:=Ca uk (Vj gc.n:Key);have cg:=yu ad (Vj O:Key) v2;have a1:Aad #[Y,l,don++ [(O,p3)]] (JF uk (Vj gc.n)):=by
      intro m';rw[WT];by_cases c:m'=O
      .rw[A6 (by rw[c,bw]),c]
       exact(ug bx).symm
      .rw[A4 (by rw[bw];exact λz=>c (Ux z))]
       refine(hI.uo m').trans ?_;rw[vd];exact⟨λz=>by rcases Aa.mp z with z|z;exact A8 z c;exact z,λz=>uc _ z⟩
     have a2:(rk++ [((Vj O:Key),v1)]).map (·.1)=(don++ [(O,p3)]).map λq:Str×Gp=>(Vj q.1:Key):=by
      rw[uq,uq];have:=hI.rks;rw[this]
      rfl
     have a3:L2.IsL H6 ((don++ [(O,p3)]).map λq:Str×Gp=>xr q.2) ((rk++ [((Vj O:Key),v1)]).map (·.2)):=by
      rw[uq,uq];exact((hI.rv.mono (hR.tk.trans aJ))).append (L2.IsL.one i6)
     have a4:↑(don++ [(O,p3)])=↑don+1:=by rw[uI];rfl
     have a5:∀(m':Str) (g':Gp),g0D m' (qA qs m')=u_ g'->(∀g2:Gp,Sy.Yp (Y:=SyP qs) (don++ [(O,p3)]) m'=u_ g2->∃v,iS (lR ad (Vj O) v2) (Vj m')=u_ v/\Is H6 (Qr (g2.en.getD .non)) v)/\(Sy.Yp (Y:=SyP qs) (don++ [(O,p3)]) m'=U_->iS (lR ad (Vj O) v2) (Vj m')=U_):=by
      intro m' g' ch;rw[X4];by_cases c:m'=O
      .have aL:Sy.Yp (Y:=SyP qs) (don++ [(O,p3)]) m'=(u_ p3:om Gp):=by
        have e1:(don.find? λq=>decide (q.1=m'))=none:=List.find?_eq_none.mpr λq hq e=>aK (by rw[<-c,<-um e];exact ph hq)
        have e2:((don++ [(O,p3)]).find? λq:Str×Gp=>decide (q.1=m'))=u_ (O,p3):=by rw[rf,e1,c];simp
        show((don++ [(O,p3)]).find? λq:Str×Gp=>decide (q.1=m')).map (·.2)=u_ p3;rw[e2]
        rfl
       exists λg2 e2=>?_,λz=>?_
       .have e3:=aL.symm.trans e2;cases e3;rw[A6 (by rw[c])]
        exact[v2:1:j6]
       .have e3:=aL.symm.trans z;cases e3
      .have aL:Sy.Yp (Y:=SyP qs) (don++ [(O,p3)]) m'=Sy.Yp (Y:=SyP qs) don m':=by
        have e2:((don++ [(O,p3)]).find? λq:Str×Gp=>decide (q.1=m'))=don.find? λq:Str×Gp=>decide (q.1=m'):=by
         rw[rf];have:([(O,p3)].find? λq:Str×Gp=>decide (q.1=m'))=none:=by simp;exact λz=>c z.symm
         rw[this,Option.or_none]
        show((don++ [(O,p3)]).find? λq:Str×Gp=>decide (q.1=m')).map (·.2)=(don.find? λq:Str×Gp=>decide (q.1=m')).map (·.2);rw[e2]
       rw[A4 (λz=>c (Ux z))];have aM:(∀g2:Gp,Sy.Yp (Y:=SyP qs) don m'=u_ g2->∃v,iS ad (Vj m')=u_ v/\Is H6 (Qr (g2.en.getD .non)) v)/\(Sy.Yp (Y:=SyP qs) don m'=U_->iS ad (Vj m')=U_):=(aX.mono aJ) m' g' ch;exact[λg2 e2=>aM.1 g2 (aL.symm.trans e2):λz=>aM.2 (aL.symm.trans z)]
     have a6:Xa a.qK a.qm H6 o.x t l:=bq.frame (λb U ob h=>aw.kept b ob (ah.kept b ob h (aH b (ac b U))) (cd b (ac b U))) aJ;have a7:∀q>don++ [(O,p3)],q.2.en.isSome=true:=by
      intro q hq;rcases Ac.mp hq with hq|hq
      .exact hI.fin q hq
      .cases Ab.mp hq;exact au
     have eN:Sy.nx (Sy.S0 (SyP qs) n) (i3+1)=Sy.nxt #[Y,(O,p3)::l,don]:=by show Sy.nxt (Sy.nx _ i3)=_;rw[<-aP]
     have a8:=Aaf (qs:=qs) n (i3+1);rw[eN] at a8;have a9:=Ev hB.q aY;have bA:OI a.qK a.qm H H6 o n (Sy.nxt #[Y,(O,p3)::l,don]) t (JF uk (Vj gc.n)) (rk++ [(Vj O,v1)]) (lR ad (Vj O) v2):=by
      exists ce,[i3+1:eN.symm],aw.kept _ _ bQ (by simp![uD,uH,uM,Vb];exact[d2:d3]),aw.kept _ _ bP (by simp![uD,uH,uM,Vb];exact[d4:d5]),?_,(),aI,?_,?_,?_,aZ,?_,(),?_,ac,hI.sep.2,a9,?_,a8
      .rwa[ae]
      .rwa[ae]
      .rwa[ae]
      .have e:(Sy.nxt #[Y,(O,p3)::l,don]).don.length=↑don+1:=by rwa[ae]
       omega
      .rwa[ae]
      .rwa[ae]
      .rwa[ae]
     exact⟨_,Vv aC aV,_,t,_,_,_,_,0,1,bA⟩
    ·
     refine iU (ug (λz=>by cases z)) ?_
     erw[L6 (qs:=qs) au hw hy,p',ci,ae];rw[ae] at aC;erw[Sy.jR hy,y1,_,y3];have bW:=BO (Y:=SyP qs) ((O,p3)::l);have aS:↑((O,p3)::l)<=Sy.mu #[Y,(O,p3)::l,don]:=uZ bW (Va _ _);have cw:↑t=↑l:=hT.len;have bV:↑uk+Sy.mu #[Y,(O,p)::l,don]<=20001:=bM
     exists 0,o.x,o.dx,0,ay.e,Ws o _ (),0,o,m,qs,_,uk,p',1,ay,hB.q,af,?_,aA,(),ci,λgn sn H4 aa aF al bB bC bD aT=>?_
     .rw[uI,u9,List.length_reverse,U6];rw[ui] at aS;omega
     have aQ:∀b,b∉LO o->b∉ [o.ls,o.du]:=λb U z=>U (by simp![LO,uD,uH,uM] at z⊢;rcases z with z|z;exact .inl z;exact .inr (.inl z))
     have cj:Kp (LO o) H H4:=[λb ob h n=>aa.kept b ob (ap.kept b ob h n) (aQ b n):ap.tk.trans aa.tk];have aH:∀b,H b=U_->b∉ [o.ls,o.du]:=λb U=>aQ b (hB.nlo U);have aN:∀b>plc gn sn,H b=none:=λb U=>by
      have h3:=aT b U;cases h:H b with
      |none=>rfl
      |some ob=>
       by_cases c:b>LO o
       .simp![LO,uD,uH,uM] at c;rcases c with rfl|rfl|rfl|rfl
        .rw[af] at h3;cases h3
        .rw[aA] at h3;cases h3
        .rw[aB] at h3;cases h3
        .rw[aD] at h3;cases h3
       .rw[ap.kept b ob h c] at h3;cases h3
     exists _,Vv aC aV,[(m,p')::(O,p3)::l:don],(gn,sn)::(gc,ak)::t,lR uk (Vj m) (.bl v_),rk,ad,_,0,1;have cg:=yu uk (Vj m:Key) (.bl v_)
     exists 5
     refine⟨cj,⟨i3+1,by show _=Sy.nxt (Sy.nx _ i3);rw[<-aP,ae]⟩,?_,al,?_,(),aa.kept _ _ aB (by simp![uD,uH,uM,Vb];exact[d2.symm:d4.symm]),hI.rks,hI.rv.mono (hR.tk.trans aa.tk),?_,aa.kept _ _ aD (by simp![uD,uH,uM,Vb];exact[d3.symm:d5.symm]),?_,(),?_,?_,?_,?_,hI.fin,?_⟩
     .rw[aF,V4,V4,uq,uq]
      rfl
     .intro m';rw[X4];by_cases c:m'=m
      .rw[A6 (by rw[c])]
       exact(ud (by rw[c];exact uf)).symm
      .rw[A4 (λz=>c (Ux z))];refine(hI.uo m').trans ?_;rw[vd];exact⟨λz=>uc _ z,λz=>by rcases Aa.mp z with z|z;exact A8 z c;exact z⟩
     .show ↑don+_<=_;omega
     .exact aX.mono aa.tk
     .exact⟨bB,bC,bD,aO.frame (λb U ob h=>aa.kept b ob h (aH b (aq b U))) aa.tk,ag,bJ,bq.frame (λb U ob h=>aa.kept b ob h (aH b (ac b U))) aa.tk⟩
     .intro b U;rcases Ac.mp U with U|U
      .exact aN b U
      .rcases Ac.mp U with U|U
       .exact aq b U
       .exact ac b U
     .exists λb U z=>?_,bt,hI.sep.2;have h3:=aT b U;rcases Ac.mp z with z|z
      .erw[aO.there b z,ob,e];rw[e] at h3;cases h3
      .erw[bq.there b z,ob,e];rw[e] at h3;cases h3
     .have:=Ev hB.q aY;rwa[ae] at this
     .have:=Aaf (qs:=qs) n (i3+1);have e:Sy.nx (Sy.S0 (SyP qs) n) (i3+1)=⟨(m,p')::(O,p3)::l,don⟩:=by show Sy.nxt (Sy.nx _ i3)=_;rw[<-aP,ae]
      rwa[e] at this
 have u0:Aad #[Y,[],[]] []:=λm=>by rw[qar];rfl
 have f0:C7 H #[Y,[],[]] []:=λm g hg=>⟨(λg' e=>by cases e),λ_=>qar⟩
 have g0:SGI #[Y,[],[]]:=λp hp=>by rcases hp with hp|hp<;>cases hp
 exists 0,o.x,o.dx,0,hO.e,Ws o _ (),0,o,n,qs,#[Y,[],[]],[],[],1,hO,hB.q,g0,bh,u0,bG,f0,(),(λ_ z=>by cases z),λv H1 fk1 k1 f1 d1 l1 bX y1=>?_
 have aR:=hB.nd;simp![LO,vN,uD,uH,uM,Vb,vF,and_true,V3] at aR;erw[aR,[n1,n2,n3],[n4,n5],n6];have nin:∀b,b≠o.df->b∉ [o.df]:=λb U z=>U (Ab.mp z);have aU:Kp (LO o) H H1:=⟨λb ob h z=>k1.kept b ob h (λy=>z (by rw[Ab.mp y];simp[LO])),k1.tk⟩
 have bY:=hB.at aU;have bc:=k1.kept _ _ bE (nin _ n3);have bd:=k1.kept _ _ bh (nin _ n5);have bf:=k1.kept _ _ bF (nin _ n6)
 exists 1,0;unfold AV at y1;cases hg:(SyP qs).g0 n with
 |none=>
  have ey:Sy.yet #[Y,[],[]] n=u_ (u_ ((SyP qs).once n)):=by
   unfold Sy.yet;rw[A4 (by intro z;cases z),hg]
  rw[ey] at y1;erw[y1,d,i1,i2,_];have ck:d≠ .non:=by
   cases h:(SyP qs).once n with
   |none=>rw[h] at i2;intro z;rw[z] at i2;cases i2
   |some x=>rw[h] at i2;intro z;rw[z] at i2;cases i2
  refine iU (ug (jQ i1 ck)) ?_;have e0:Sy.S0 (SyP qs) n=⟨[],[]⟩:=by unfold Sy.S0;rw[hg]
  rw[e0] at bH;have l1:↑fk1<=0+1:=l1;exact bI H1 [[]:[]] [] [] [] fk1 ⟨aU,[(0):e0.symm],bc,bd,u0,(by show 0+_<=_;omega),bf,1,1,(by show 0+_<=_;omega),f1,d1,(),trivial,(λb U=>by cases U),trivial,g0,(λq hq=>by cases hq),vF⟩
 |some p=>
  have ey:Sy.yet #[Y,[],[]] n=none:=by
   unfold Sy.yet;rw[A4 (by intro z;cases z),hg]
   rfl
  rw[ey] at y1;cases(show v= .non from y1)
  refine lN (ud rfl) ?_;have e0:Sy.S0 (SyP qs) n=⟨[(n,p)],[]⟩:=by unfold Sy.S0;rw[hg]
  rw[e0] at bH;have bX:↑fk1=0:=bX ey
  exists 0,o.x,o.dx,0,bY.e,Ws o _ (),0,o,n,qs,[],[],p,1,bY,hB.q,bc,(),bd,(),hg,λgn sn H2 k2 am bZ bB bC bD aT=>?_
  have cm:Kp (LO o) H H2:=⟨λb ob h z=>k2.kept b ob (aU.kept b ob h z) (λy=>z (by simp![LO,uD,uH,uM] at y⊢;rcases y with y|y;exact .inl y;exact .inr (.inl y))),aU.tk.trans k2.tk⟩
  have aN:∀b>plc gn sn,H b=none:=λb U=>by
   have h3:=aT b U;cases h:H b with
   |none=>rfl
   |some ob=>
    by_cases c:b=o.df
    .rw[c,f1] at h3;cases h3
    .rw[k1.kept b ob h (nin b c)] at h3;cases h3
  have bg:∀b,b≠o.ls->b≠o.du->b∉ [o.ls,o.du]:=λb h1 h2 z=>by
   simp![uD,uH,uM] at z;rcases z with z|z
   .exact h1 z
   .exact h2 z
  refine bI H2 [[(n,p)]:[]] [(gn,sn)] (lR [] (Vj n) (.bl v_)) [] fk1 ⟨cm,[(0):e0.symm],am,bZ,?_,?_,k2.kept _ _ bf (bg _ (vV n2) (vV n4)),1,1,(by show 0+_<=_;omega),k2.kept _ _ f1 (bg _ (vV n3) (vV n5)),d1.mono k2.tk,(),⟨bB,bC,bD,trivial⟩,?_,⟨λb U z=>(by cases z),trivial⟩,?_,(λq hq=>by cases hq),?_⟩
  .intro m';rw[X4];by_cases c:m'=n
   .rw[A6 (by rw[c])]
    exact(ud (by rw[c];exact uf)).symm
   .rw[A4 (λz=>c (Ux z)),qar];exact(ug (λz=>c (Ab.mp z))).symm
  .have:=yu [] (Vj n:Key) (.bl v_);rw[tP] at this;omega
  .intro b U;rcases Ac.mp U with U|U
   .exact aN b U
   .cases U
  .intro q hq;rcases hq with hq|hq
   .cases Ab.mp hq;exact Kx hB.q hg
   .cases hq
  .exact List.nodup_cons.mpr ⟨(λz=>by cases z),vF⟩
end
namespace Sy
variable {Y:Sy}
variable {n0:Str}
def AaA (h:Y.Ok){n:Str}{g:Y.G}{r don:oj (Str×Y.G)}(hs:SOk n0 ([(n,g)::r:don]:Ss Y))(hf:Y.fin g=Vg)(hw:Y.want g=u_ m){o:om (om D)}(O:yet ([(n,g)::r:don]:Ss Y) m=u_ o):F Y m=o:=by
 erw[hs,[[s,k,U,hk],c2,c3],nd,aa,bot];unfold yet at O;by_cases c:m>((n,g)::r).map (·.1)
 .rw[A6 c] at O;cases O;have w:Wt Y n m:=⟨s,k,U,by rwa[<-hk],by rwa[<-hk]⟩
  rcases Aa.mp c with rfl|hm
  .exact zA h (.one w)
  .exact zA h (.more (Ix (g:=g) [⟨s,k,U,hk⟩:c2:c3] hm) w)
 .rw[A4 c] at O;cases hg:Y.g0 m with
  |none=>
   rw[hg] at O;cases O;exact kY h hg
  |some gm=>
   rw[hg] at O;simp only at O;cases hd:Yp don m with
   |none=>rw[hd] at O;cases O
   |some gd=>
    rw[hd] at O;cases O;erw[aa _ (zx hd),s',e1,e2];rw[hg] at e1;cases e1;have e3:gd=it Y (F Y) Y.M gm:=e2;rw[F_run h hg,e3]
abbrev Aan (Y:Sy)(ns:oj Str)(n:Str)(g:Y.G):Prop:=∃s k,Y.g0 n=u_ s/\g=it Y (F Y) k s/\∀i,i<k->Y.fin (it Y (F Y) i s)=Vg->∀m,Y.want (it Y (F Y) i s)=u_ m->Y.g0 m=U_\/m>ns
def Aan.more {ns O:oj Str}{n:Str}{g:Y.G}(h:Aan Y ns n g)(hn:∀m>ns,m>O):Aan Y O n g:=by
 erw[h,s,k,h1,h2,h3];exact⟨s,k,h1,h2,λi hi U m hw=>(h3 i hi U m hw).imp id (hn m)⟩
abbrev Z8 (S:Ss Y):oj Str:=S.stk.map (·.1)++S.don.map (·.1)
abbrev Clo (S:Ss Y):Prop:=∀p,p>S.stk\/p>S.don->Aan Y (Z8 S) p.1 p.2
variable {S:Ss Y}
def Sv (h:Y.Ok)(hs:SOk n0 S)(c:Clo S):Clo (nxt S):=by
 erw[S,stk,don];cases stk with
 |nil=>exact c
 |cons p r=>
  erw[p,n,g];have c0:=c (n,g) (.inl uf);have on:∀g',Y.fin g=Vg->step Y (F Y) g=g'->(∀m,Y.want g=u_ m->Y.g0 m=U_\/m>Z8 (⟨(n,g)::r,don⟩:Ss Y))->Clo (⟨(n,g')::r,don⟩:Ss Y):=by
   intro g' hf e hm p O;have U:∀m>Z8 (⟨(n,g)::r,don⟩:Ss Y),m>Z8 (⟨(n,g')::r,don⟩:Ss Y):=λm hm=>hm;have top:Aan Y (Z8 (⟨(n,g')::r,don⟩:Ss Y)) n g':=by
    erw[c0,s,k,h1,h2,h3];have h2:g=it Y (F Y) k s:=h2;exists s,k+1,h1,by rw[Wc,<-h2,e],λi hi ac m hw=>?_
    by_cases ci:i<k
    .exact(h3 i ci ac m hw).imp id (U m)
    .have:i=k:=by omega
     subst this;rw[<-h2] at hw;exact(hm m hw).imp id (U m)
   rcases O with O|O
   .rcases Aa.mp O with rfl|O
    .exact top
    .exact(c p (.inl (uc _ O))).more U
   .exact(c p (.inr O)).more U
  unfold nxt;simp only;cases hf:Y.fin g with
  |true=>
   rw[A6 rfl];have U:∀m>Z8 (⟨(n,g)::r,don⟩:Ss Y),m>Z8 (⟨r,don++ [(n,g)]⟩:Ss Y):=by
    intro m hm;unfold Z8 at hm⊢;simp![uA,uq,Ui,U0,uD,Ac,uH,uM] at hm⊢;rcases hm with hm|hm|hm
    .exact .inr (.inr hm)
    .exact .inl hm
    .exact .inr (.inl hm)
   intro p O;rcases O with O|O
   .exact(c p (.inl (uc _ O))).more U
   .rcases Ac.mp O with O|O
    .exact(c p (.inr O)).more U
    .cases Ab.mp O;exact c0.more U
  |false=>
   rw[A4 u8];have aa:step Y (F Y) g=match Y.want g with
     |none=>Y.own g
     |some m=>match F Y m with
      |some a=>Y.tk g a
      |none=>Y.stuck g m:=by
    unfold step;rw[hf,A4 u8]
    all_goals rfl
   cases hw:Y.want g with
   |none=>exact on _ hf (by rw[aa,hw]) λm z=>by rw[hw] at z;cases z
   |some m=>
    rw[hw] at aa;simp only at aa⊢;cases hy:yet ([(n,g)::r:don]:Ss Y) m with
    |some o=>
     have hF:=AaA h hs hf hw hy;have hm:∀m',Y.want g=u_ m'->Y.g0 m'=U_\/m'>Z8 (⟨(n,g)::r,don⟩:Ss Y):=by
      intro m' z;rw[hw] at z;cases z;unfold yet at hy;by_cases cm:m>((n,g)::r).map (·.1)
      .exact .inr (vz _ cm)
      .rw[A4 cm] at hy;cases hg:Y.g0 m with
       |none=>exact .inl rfl
       |some gm=>
        rw[hg] at hy;simp only at hy;cases hd:Yp don m with
        |none=>rw[hd] at hy;cases hy
        |some gd=>exact .inr (uN _ (Ae.mpr [_:zx hd:1]))
     cases o with
     |some a=>exact on _ hf (by rw[aa,hF]) hm
     |none=>exact on _ hf (by rw[aa,hF]) hm
    |none=>
     simp only;erw[jR hy,h1,[g',hg],h2];rw[hg];have U:∀m'>Z8 (⟨(n,g)::r,don⟩:Ss Y),m'>Z8 (⟨(m,g')::(n,g)::r,don⟩:Ss Y):=λm' hm=>uc _ hm;intro p O;rcases O with O|O
     .rcases Aa.mp O with rfl|O
      .exact⟨g',(0),hg,1,λi hi=>A8 hi (UR i)⟩
      .exact(c p (.inl O)).more U
     .exact(c p (.inr O)).more U
def Np (h:Y.Ok){n0:Str}{S:Ss Y}(O:SOk n0 S)(c:Clo S):∀k,Clo (nx S k)
 |0=>c
 |k+1=>Sv h (nx_ok h O k) (Np h O c k)
def AcA {n:Str}{g:Y.G}(U:Y.g0 n=u_ g):Clo (S0 Y n):=by
 unfold S0;rw[U];intro p O;rcases O with O|O
 .cases Ab.mp O;exact⟨g,(0),U,1,λi hi=>A8 hi (UR i)⟩
 .cases O
variable {i:Nat}
def end_clo (h:Y.Ok){g0:Y.G}(U:Y.g0 n0=u_ g0){k:Nat}{don:oj (Str×Y.G)}(hk:nx (S0 Y n0) k=[[]:don]){p:Str×Y.G}(hp:p>don){s:Y.G}(hs:Y.g0 p.1=u_ s)(hf:Y.fin (it Y (F Y) i s)=Vg)(hw:Y.want (it Y (F Y) i s)=u_ m):Y.g0 m=U_\/m>don.map (·.1):=by
 have c:=Np h (S0_ok U) (AcA U) k;have ok:=nx_ok h (S0_ok U) k;rw[hk] at c ok;erw[c p (.inr hp),s',k',h1,h2,h3];rw[hs] at h1;cases h1;erw[ok.don p hp,s2,e1,e2];rw[hs] at e1;cases e1;have O:Y.fin (it Y (F Y) k' s)=true:=by
  rw[<-h2,e2];exact it_end h _ _ (h.l0 _ _ hs)
 have aa:i<k':=by
  rcases V7 i k' with z|z
  .exact z
  .erw[Vf z,d,rfl];rw[wX,ZE O,O] at hf;cases hf
 rcases h3 i aa hf m hw with z|z
 .exact .inl z
 .exact .inr (by simpa [Z8] using z)
end Sy
section
variable {qs qs':oj (Str×D)}
nonrec abbrev FP (qs:oj (Str×D)):Sy.Orc:=Sy.F (SyP qs)
nonrec abbrev itP (qs:oj (Str×D)) (k:Nat) (g:Gp):Gp:=Sy.it (SyP qs) (FP qs) k g
def Ze (g:Gp):Sy.step (SyP qs) (FP qs) g=if g.en.isSome=v_ then g else match yl g with
  |none=>nE qs g
  |some m=>match FP qs m with
   |some a=>QI g (a.getD .non)
   |none=>IZ g m:=rfl
abbrev Qz (p:Gp):oj D:=p.ra++runPG' p.run
where runPG':om (oj Rw×Rn)->oj D
 |none=> []
 |some (_,r)=>r.gs
abbrev GA (g:Gp):Prop:=g.run=U_->g.en=U_->g.ra= []
def wN {rs:oj Rw}{own:Str}{gs:oj D}:∀(f:Nat) (B:Str->D) (p:Int) (n:Nat),(mo rs own gs f B p n).gs=gs
 |0,B,p,n=>rfl
 |f+1,B,p,n=>by
  unfold mo;by_cases c:GT.gt p ↑rs
  .rw[A6 c]
  .rw[A4 c];cases U:l9 own (Yu rs p) B p with
   |go O p'=>exact wN f O p' (n+1)
   |stop e=>rfl
def AS {r:Rn}{a:D}:(l7 rs own r a).gs=r.gs++ [-[xk r.th,a]]:=by
 unfold l7;split
 .rfl
 .exact wN _ _ _ _
def Cg (h:g.run=U_)(d:D):Qz (mi g d)=g.ra/\GA (mi g d):=by
 unfold mi;split
 .exists ?_,λ_ z=>by cases z
  show g.ra++Qz.runPG' g.run=g.ra;rw[h];exact ve _
 .cases hd:QK d with
  |none=>
   exists ?_,λ_ z=>by cases z
   show g.ra++Qz.runPG' g.run=g.ra;rw[h];exact ve _
  |some rs=>
   exists ?_,λz=>by cases z
   show g.ra++(R0 rs g.n).gs=g.ra;rw[show(R0 rs g.n).gs= [] from wN _ _ _ _]
   exact ve _
def XN (ha:GA g)(he:g.en=U_)(d:D):Qz (QI g d)=Qz g++ [-[yc g,d]]/\GA (QI g d):=by
 unfold QI;cases O:g.run with
 |none=>
  have U:=ha O he;erw[Cg (g:=⟨g.n,g.mb,[-[-[-"rule",g.mb],d]],U_,g.en⟩) rfl d,h1,h2];exists h1.trans ?_,h2;have e1:Qz g= []:=by unfold Qz;rw[U,O];rfl
  have e2:yc g=-[-"rule",g.mb]:=by unfold yc;rw[O]
  rw[e1,e2]
  rfl
 |some p=>
  erw[p,rs,r];exists ?_,λz=>by cases z
  show g.ra++(l7 rs g.n r d).gs=Qz g++_;have e2:yc g=xk r.th:=by unfold yc;rw[O]
  have e3:Qz g=g.ra++r.gs:=by unfold Qz;rw[O];rfl
  rw[AS,e2,e3,V1]
def W1 {d:D}(h:g0D m d=u_ g):GA g/\Qz g= []:=by
 unfold g0D at h;split at h
 .split at h
  .cases h
  .split at h
   .cases h;exact[λ_ _=>rfl:1]
   .cases h;erw[Cg (g:=⟨m,.non,[],U_,U_⟩) rfl _,h1,h2];exact[h2:h1]
 .cases h
def Eb (U:Qn qs)(O:g0D m (qA qs m)=U_):XY ((Ki (qA qs m)).getD .non):=by
 by_cases hm:m>qs.map (·.1)
 .erw[jF U hm,hn,k,e,hd,h1,h2];rw[hd] at O⊢;unfold g0D at O;simp only at O;by_cases c:k="leaf"
  .exact .inr (h2 (by rw[c];decide+kernel)).2
  .rw[A4 c] at O;split at O<;>cases O
 .rw[Yj hm];exact .inl rfl
def zZ (hq:Qn qs){f:Sy.Orc}(hf:∀m a,f m=u_ a->XY (a.getD .non))(h:GI g)(ha:GA g):GI (Sy.step (SyP qs) f g)/\GA (Sy.step (SyP qs) f g):=by
 have e:Sy.step (SyP qs) f g=if g.en.isSome=v_ then g else match yl g with
  |none=>nE qs g
  |some m=>match f m with
   |some a=>QI g (a.getD .non)
   |none=>IZ g m:=rfl
 rw[e];cases O:g.en with
 |some d=>exact[h:ha]
 |none=>
  simp![vO,A4 u8];cases U:yl g with
  |none=>
   erw[jW (qs:=qs) h O U,rs,r,k,z,_,_,hk,_,e];exists EX hq h O U;show GA (nE qs g);rw[e];exact(XN ha O _).2
  |some m=>
   simp only;cases hm:f m with
   |some a=>exact[AD h O (hf m a hm):(XN ha O _).2]
   |none=>exact⟨NE h m,λ_ z=>by cases z⟩
def SM (O:Qn qs){f:Sy.Orc}(U:∀m a,f m=u_ a->XY (a.getD .non)):∀(k:Nat) {g:Gp},GI g->GA g->GI (Sy.it (SyP qs) f k g)/\GA (Sy.it (SyP qs) f k g)
 |0,g,h,ha=>[h:ha]
 |k+1,g,h,ha=>SM O U k (zZ O U h ha).1 (zZ O U h ha).2
def AcS (U:Qn qs):∀(k:Nat) (m:Str) (a:om D),Sy.Fh (SyP qs) k m=u_ a->XY (a.getD .non)
 |0,m,a,h=>by
  cases O:(SyP qs).g0 m with
  |none=>rw[Sy.Wj O] at h;cases h;exact Eb U O
  |some g=>rw[Sy.KW O] at h;cases h
 |k+1,m,a,h=>by
  cases O:(SyP qs).g0 m with
  |none=>rw[Sy.Wj O] at h;cases h;exact Eb U O
  |some g=>
   rw[Sy.Fh_run O] at h;have aa:=SM U (AcS U k) 302 (Kx U O).1 (W1 O).1;cases hs:(SyP qs).said (Sy.it (SyP qs) (Sy.Fh (SyP qs) k) (SyP qs).M g) with
   |none=>rw[hs] at h;cases h
   |some v=>
    rw[hs] at h;cases h;exact .inr (DK aa.1 hs)
def Aar (O:Qn qs)(m:Str)(a:om D)(h:FP qs m=u_ a):XY (a.getD .non):=by
 erw[(Sy.F_iff (QC qs)).mp h,k,h];exact AcS O k m a h
def zD (O:Qn qs)(U:g0D m (qA qs m)=u_ g)(k:Nat):GI (itP qs k g)/\GA (itP qs k g):=SM O (Aar O) k (Kx O U).1 (W1 U).1
end
abbrev Dn (qs:oj (Str×D))(n:Str)(don:oj (Str×Gp)):Prop:=∃j,Sy.nx (Sy.S0 (SyP qs) n) j=[[]:don]
section
variable {qs:oj (Str×D)}{n:Str}{don don':oj (Str×Gp)}
def Acm (h:Dn qs n don)(k:Dn qs n don'):don=don':=by
 erw[h,i,hi];erw[k,j,O];have e:=Sy.nx_one (S:=Sy.S0 (SyP qs) n) (k:=i) (j:=j) (by rw[hi]) (by rw[O])
 rw[hi,O] at e;exact A9 Sy.Ss.don e
def qak (O:g0D n (qA qs n)=U_)(h:Dn qs n don):don= []:=by
 have U:Sy.S0 (SyP qs) n=⟨[],[]⟩:=by unfold Sy.S0;rw[show(SyP qs).g0 n=U_ from O]
 exact Acm h [(0):U]
def S4 (O:g0D n (qA qs n)=u_ g)(h:Dn qs n don):Sy.SOk (Y:=SyP qs) n [[]:don]:=by
 erw[h,j,U];rw[<-U];exact Sy.nx_ok (QC qs) (Sy.S0_ok O) j
def Im (O:g0D n (qA qs n)=u_ g)(h:Dn qs n don):(don.map (·.1)).getLast? =u_ n:=by
 rcases(S4 O h).bot with b|⟨_,b⟩
 .cases b
 .exact b
def JM (h:Dn qs n don){p:Str×Gp}(O:p>don):∃s,g0D p.1 (qA qs p.1)=u_ s/\p.2=Sy.it (SyP qs) (Sy.F (SyP qs)) 302 s:=by
 cases U:g0D n (qA qs n) with
 |none=>rw[qak U h] at O;cases O
 |some g=>exact(S4 U h).don p O
def sJ (h:Dn qs n don):(don.map (·.1)).Nodup:=by
 cases O:g0D n (qA qs n) with
 |none=>rw[qak O h];exact vF
 |some g=>exact(S4 O h).nd
end
abbrev IH (p:Gp):D:= .tup (p.ra++oy p.run)
abbrev mY (p:Gp):D:=p.en.getD .non
def Mr (p:Gp):xr p=-[IH p,mY p]:=rfl
def Abj:∀{rk:oj (Key×V)}{don:oj (Str×Gp)},(rk.map (·.1)=don.map λp=>Vj p.1)->∃vs:oj (Str×V),rk=jM vs/\vs.map (·.1)=don.map (·.1)/\vs.map (·.2)=rk.map (·.2)
 | [],[],_=>⟨[],1,1,1⟩
 | [],_::_,h=>by cases h
 |_::_,[],h=>by cases h
 |(k,v)::r,p::l,h=>by
  injection h with h1 h2
  erw[Abj h2,vs,O,e2,e3];exists (p.1,v)::vs,?_,?_,?_
  .rw[XQ,<-O];have h1:k=Vj p.1:=h1;rw[h1]
  .rw[uA,uA,e2]
  .rw[uA,uA,e3]
def AdQ {p:Gp}(h:GI p)(O:p.en.isSome=v_):nD (IH p)=v_/\dp (IH p)<=31/\nD (mY p)=v_/\dp (mY p)<=20:=by
 have h1:nL (p.ra++oy p.run)=v_/\dpL (p.ra++oy p.run)<=30:=by
  cases hr:p.run with
  |none=>exact⟨BL h.ra.1 rfl,AJ 30 h.ra.2.1 (by simp[dpL,oy])⟩
  |some q=>
   erw[q,rs,r];have h2:=(h.run rs r hr).2.1.gs;exact[BL h.ra.1 h2.1:AJ 30 h.ra.2.1 h2.2.1]
 refine⟨h1.1,by show 1+_<=31;omega,?_⟩
 unfold mY;cases U:p.en with
 |none=>rw[U] at O;cases O
 |some d=>
  show nD d=v_/\dp d<=20;rcases h.en d U with⟨z,rfl⟩|⟨x,rfl,hx⟩|⟨z,rfl⟩
  .exact⟨1,by show dp (-[-"fault",!z])<=20;simp[dp,dpL]⟩
  .have:=Jd hx;exists ?_,?_
   .simp![nD,nL,ZK (yN hx),U7]
   .simp![dp,dpL];omega
  .exact⟨1,by simp[dp,dpL]⟩
variable {don:oj (Str×Gp)}
def Acl {n:Str}(h:Dn qs n don)(hm:g0D m (qA qs m)=U_\/m>don.map (·.1)):Sy.yet #[Y,[],don] m=u_ (FP qs m):=by
 cases U:(SyP qs).g0 m with
 |none=>
  unfold Sy.yet;rw[A4 (by intro z;cases z),U]
  show u_ (u_ ((SyP qs).once m))=u_ (FP qs m);rw[show FP qs m=_ from Sy.kY (QC qs) U]
 |some g=>
  rcases hm with hm|hm
  .rw[show(SyP qs).g0 m=U_ from hm] at U;cases U
  .erw[Ae.mp hm,[O,p],hp,rfl];have hd:Sy.Yp (Y:=SyP qs) don O=u_ p:=by
    have aa:=sJ h;unfold Sy.Yp;have:(don.find? λq=>decide (q.1=O))=u_ (O,p):=by
     clear h hm
     induction don with
     |nil=>cases hp
     |cons q r ih=>
      rw[uA,vN] at aa;rcases Aa.mp hp with rfl|hp
      .rw[v9,ud rfl]
      .have ac:q.1≠O:=λz=>aa.1 (by rw[z];exact Ae.mpr [_:hp:1])
       rw[v9,ug ac];exact ih hp aa.2
    have e2:(FR (λq:Str×Gp=>decide (q.1=O)) don).map (·.2)=u_ p:=by rw[this];rfl
    exact e2
   erw[JM h hp,s,e2,e3];have e2:(SyP qs).g0 O=u_ s:=e2;rw[U] at e2;cases e2;unfold Sy.yet;rw[A4 (by intro z;cases z),U]
   show(Sy.Yp (Y:=SyP qs) don O).map (λg=>((SyP qs).said g).map u_)=u_ (FP qs O);rw[hd];show u_ (((SyP qs).said p).map u_)=u_ (FP qs O);rw[show FP qs O=_ from Sy.F_run (QC qs) U]
   have e3:p=Sy.it (SyP qs) (Sy.F (SyP qs)) 302 g:=e3;rw[e3]
   rfl
end K41
namespace K41
open PySem L2 PyProof.Rows
structure Ad5 (CO CP:o3)(H0 H:Hp)(qs:oj (Str×D))(n:Str)(o:Oc)(rk uk fk:oj (Key×V))(don:oj (Str×Gp)):Prop where
 sm:ig H0 H
 oa:OAt CO CP H o qs
 dr:H o.dr=u_ (.dK rk)
 ks:rk.map (·.1)=don.map λp=>Vj p.1
 vs:L2.IsL H (don.map λp=>xr p.2) (rk.map (·.2))
 du:H o.du=u_ (.dK uk)
 uo:Aad #[Y,[],don] uk
 df:H o.df=u_ (.dK fk)
 fd:C7 H #[Y,[],don] fk
 fl:↑fk<=20101
 dn:Dn qs n don
 sg:SGI #[Y,[],don]
 gi:∀p>don,GI p.2/\p.2.en.isSome=v_
 len:↑don<=20001
 new:H0 o.x=U_/\H0 o.dr=U_/\H0 o.du=U_/\H0 o.df=U_
 ne:o.dr≠o.df/\o.du≠o.df
inductive Aa8 (bn:Addr):Sp
 |mk (z:Str)(_:vs= [!z])(hz:↑z<=1000)(_:nm z=v_->∀H',ig H H'->Q .non H')(_:nm z=Vg->∀(e:Addr)(H':Hp),ig H H'->E_ (-e) (u_ bn) H')
inductive OJ:Sp
 |mk (t:_)(z:_)(_:vs= [-t])(_:H t=u_ (-[!z]))(_:nm z=v_)(_:∀H',ig H H'->Q .non H')
inductive Ov (CO CP:Addr):Sp
 |mk (px t:Addr)(n:Str)(qs:List (Str×D))(_:vs= [-px,-t])(_:H t=u_ (-[!n]))(_:nm n=v_)(_:yk CP H px qs)(_:Qn qs)(_:∀H' o rk uk fk don,o.px=px->Ad5 CO CP H H' qs n o rk uk fk don->↑fk<=20001->Q (-o.x) H')
inductive OG (CO CP:Addr):Sp
 |mk (px:Addr)(n:Str)(qs:List (Str×D))(_:vs= [-px,!n])(_:nm n=v_)(_:yk CP H px qs)(_:Qn qs)(_:∀H' o rk uk fk don,o.px=px->Ad5 CO CP H H' qs n o rk uk fk don->↑fk<=20001->Q (-o.x) H')
variable {qs:oj (Str×D)}{don:oj (Str×Gp)}
def AK {n:Str}(h:Dn qs n don):g0D n (qA qs n)=U_\/n>don.map (·.1):=by
 cases O:g0D n (qA qs n) with
 |none=>exact .inl rfl
 |some g=>exact .inr (FV (Im O h))
section
variable {P:o9}{w:og}{K:o0}{mg:Str->om o6}{base:o8}{a:Ad}{g:Ga}
def Nl (T:Tx K mg a)(C:Fx K w mg g a):FnOk P w K mg base (CX1 P w) 2 a.ZT a.ZY ["name"] (Aa8 g.bn):=by
 have O:=#[Xg,T];refine T.iC.F.okX qao () (λ_ _ _ _ H _ Q E U h=>?_)
 erw[h,z,rfl,aa,k1,k2];exists 3,%[|#[qF,#[Qi,#[Qb,#[qq,16,O,U.mono (),_,T.iD.m,T.iD.F.kp,T.iD.b,.nil,qy,#v[pv 0],_,_,_]]],%[|#[Kq,22,C.x_BadName,_,C.Wx,ql,_,_]],qt]]
 exists 0,!z,!z,1,QU (),λH1 s1=>[0:?_]
 have e:mG (!z)=nm z:=rfl;rw[e];cases hn:nm z with
 |false=>exact lm [1:λe=>k2 hn e H1 s1]
 |true=>exact iR (k1 hn H1 s1)
def Sg:#[C,3,a.XX,a.XR,["names"],OJ]:=by
 have JT:=#[Nl,T,C];exists 9,T.mC,xx
 erw[h,t,z,rfl,U,hz,k];exists 3,%[|#[YO,#[pi_tup,pv 0],#[qP,(1),xx.nd],%[|#[Qa,#[qq,16,JT,hr.mono (),_,T.iC.m,T.iC.F.kp,T.iC.b,.nil,oG,#v[pv 1],_,_,_]]]]]
 exists 0,t,1,[_:SqT.of U];refine WV (xs:= [!z]) (λi σ H'=>(∃u,σ= [u_ (-t),u])/\ig H H') [⟨0⟩:ig.refl _] (λi σ H' _ h=>SqT.of (h.2 _ _ U)) ?_ ?_
 .rintro i x σ H' hx ⟨⟨u,rfl⟩,s1⟩;have O:x= !z:=by
   cases i with
   |zero=>exact(uJ hx).symm
   |succ i=>cases hx
  subst O;exact⟨0,z,1,by have:=xO hz;omega,λ_ H2 s2=>[⟨0⟩:s1.trans s2],λz=>A8 (hz.symm.trans z) HM⟩
 .rintro σ H' ⟨_,s1⟩;exact k H' s1
def PV:#[C,14,a.Zx,a.ZI,["project","names"],(Ov a.qr a.qG)]:=by
 have KN:=#[Sg,T,C];have zR:=#[LL,T];have jV:=#[PF,T,C];exists 9,T.ky,jP
 erw[h,px,t,n,qs,rfl,ht,hn,hP,hq,k1];exists 3,%[#[Qa,#[qq,KN,T.mC,#v[pv 1]]],#[qE,(2),jP.nd,#[Xz,T.M_PlainOrder,zR,T.m_PlainOrder,T.lK,qy,#v[pv 0]]],#[YO,#[pi_tup,pv 1],#[qP,(3),jP.nd],%[|#[Qa,#[Qj,pv 2,T.qx,T.iM,jV,#v[pv 3]]]]]|#[qo,pv 2]]
 exists 8,N1,q1
 exists 0,t,n,1,ht,hn,λH1 s1=>q1 _ _ ?_;exists 8,N2,q2
 exists 0,λx dx hx au nx=>?_;have s0:ig H1 (upd (upd H1 dx (.own x)) x (.ins a.qr dx [])):=λb o h=>by rwa[qj (qk h hx),qj (qk h au)]
 exists x,dx,px,1,qg,λo H2 eo aw ax kp tk f1 f2 f3 f4 nd ad ae af ag ah=>[1:q2 _ _ ?_];exists 8,N3,q3;have ay:ig H1 H2:=λb ob h=>kp b ob (s0 b ob h) (qk h hx);have O:=s1.trans ay;have ak:=O _ _ ht;subst eo aw ax;have hB:Bs a.qr a.qG H2 o qs:=⟨[ad:hP.same O],[_:ae],[_:af],[_:ag],[_:ah],nd,hq⟩
 exists 0,t,1,[_:SqT.of ak];have fr:∀b,upd (upd H1 o.dx (.own o.x)) o.x (.ins a.qr o.dx []) b=U_->H b=none:=λb U=>by
  cases e:H b with
  |none=>rfl
  |some ob=>rw[s0 b ob (s1 b ob e)] at U;cases U
 let J_:Nat->L2.St->Hp->Prop:=λi σ H'=>(∃u,σ= [u_ (-o.px),u_ (-t),u_ (-o.x),u])/\((i=0/\H'=H2)\/(i=1/\∃rk uk fk don,Ad5 a.qr a.qG H H' qs n o rk uk fk don/\↑fk<=20001))
 refine WV (xs:= [!n]) J_ [⟨0⟩:.inl [1:1]] (λi σ H' _ h=>?_) ?_ ?_
 .rcases h.2 with⟨_,rfl⟩|⟨_,rk,uk,fk,don,h,_⟩
  .exact SqT.of ak
  .exact SqT.of (h.sm _ _ ht)
 .rintro i x' σ H' al ⟨⟨u,rfl⟩,h⟩;have aa:x'= .str n/\i=0:=by
   cases i with
   |zero=>exact[(uJ al).symm:1]
   |succ i=>cases al
  erw[aa,rfl,rfl];rcases h with⟨_,rfl⟩|⟨z,_⟩
  .exists 0,o.x,o.dx,0,ad,Ws o _ (),0,o,qs,n,1,hB,ae,af,ag,ah,λH3 rk uk fk don j am aA ao aB aC aD k3 aE ap aF aG aH aq=>?_
   have out:∀b,H b≠U_->b∉LO o:=λb U z=>by
    simp![LO,uD,uH,uM] at z;rcases z with rfl|rfl|rfl|rfl
    .exact U (fr _ f1)
    .exact U (fr _ f2)
    .exact U (fr _ f3)
    .exact U (fr _ f4)
   have ac:=nd;simp![vN,uD,uH,uM,Vb,vF,and_true,V3] at ac;have aa:H o.x=none:=by
    cases e:H o.x with
    |none=>rfl
    |some ob=>rw[s1 _ _ e] at hx;cases hx
   exact⟨⟨0⟩,.inr ⟨1,rk,uk,fk,don,⟨λb ob e=>k3.kept b ob (O b ob e) (out b (by rw[e];intro z;cases z)),hB.at k3,ap,aF,aG,am,aA,ao,aB,(),[j:aE],aD,aH,aq,⟨aa,fr _ f3,fr _ f2,fr _ f4⟩,[ac.2.2:ac.2.1.2]⟩,aC⟩⟩
  .cases z
 .rintro σ H' ⟨⟨u,rfl⟩,h⟩;rcases h with⟨z,_⟩|⟨_,rk,uk,fk,don,h,hl⟩
  .cases z
  .exact q3 _ _ [0:k1 H' o rk uk fk don rfl h hl]
def Ao:#[C,15,a.Z1,a.ZP,["project","name"],(OG a.qr a.qG)]:=by
 have O:=#[PV,T,C];exists 9,T.iH,KZ,U
 erw[h,px,n,qs,rfl,hn,hP,hq,k1];have hs:=uB;exists 3,%[|#[qo,#[qq,16,O,U.mono (),_,T.ky.m,T.ky.F.kp,T.ky.b,.nil,qy,#v[pv 0,#[qD,#v[pv 1]]],_,_,_]]]
 exists 0,0,(sml rfl),λt ht=>?_;have s1:=qf ht (-[V.str n]);exact⟨px,t,n,qs,1,qg,hn,hP.same s1,hq,λH' o rk uk fk don e h hl=>k1 H' o rk uk fk don e ⟨s1.trans h.sm,h.oa,h.dr,h.ks,h.vs,h.du,h.uo,h.df,h.fd,h.fl,h.dn,h.sg,h.gi,h.len,⟨s1.free h.new.1,s1.free h.new.2.1,s1.free h.new.2.2.1,s1.free h.new.2.2.2⟩,h.ne⟩ hl⟩
end
def Ci (p:Gp):IH p= .tup (Qz p):=by
 unfold IH Qz;cases p.run with
 |none=>rfl
 |some q=>rfl
abbrev Aaz (qs:oj (Str×D))(x:D):Prop:=∃kd z a,x= .tup [-[!kd,!z],a]/\↑z<=1000/\((na kd=v_/\a=xj qs kd z)\/(na kd=Vg/\(kd="thing"\/kd="rule")/\∃y,FP qs z=u_ y/\a=y.getD .non))
variable {g:Gp}{m:Str}
def sW (h:GI g)(O:yl g=u_ m):∃kd,yc g= .tup [!kd,!m]/\na kd=false:=by
 unfold yl at O;split at O
 .rename_i k z e
  by_cases c:na k=v_
  .rw[A6 c] at O;cases O
  .rw[A4 c] at O;cases O;exact⟨k,e,by simpa using c⟩
 .cases O
variable {kd:Str}
def AaB (h:GI g)(he:g.en=U_)(U:yc g=-[!kd,!m]):↑m<=1000:=by
 unfold yc at U;cases hr:g.run with
 |none=>
  rw[hr] at U;erw[h.no hr he,z,hz,hn];simp![hz] at U;cases U;have:=xO hn;omega
 |some p=>
  erw[p,rs,r];rw[hr] at U;erw[h.run rs r hr,_,_,ht,O];have O:=O he;rcases ht with⟨z,e⟩|⟨e1,e,_⟩|⟨u,z,e,hT,_⟩
  .rw[e] at O;exact A8 (show decide (("fault":Str)="asks")=v_ from O) ()
  .rw[e] at O;exact A8 (show decide (("said":Str)="asks")=v_ from O) ()
  .simp![e] at U;have U:(D.tup [!u,!z])=-[!kd,!m]:=U;cases U;have:=YQ hT;have:↑m<=600:=this;omega
def Ac5 (h:GI g)(he:g.en=U_)(O:yc g=-[!kd,!m])(hk:na kd=Vg):kd="thing"\/kd="rule":=by
 unfold yc at O;cases hr:g.run with
 |none=>
  rw[hr] at O;have O:D.tup [-"rule",g.mb]=-[!kd,!m]:=O;injection O with O
  injection O with O _
  injection O with O
  exact .inr O.symm
 |some p=>
  erw[p,rs,r];rw[hr] at O;have O:xk r.th=-[!kd,!m]:=O;have aa:=(h.run rs r hr).2.2;have U:=aa.2 he;rcases aa.1 with⟨z,e1⟩|⟨e0,e1,_⟩|⟨u,z,e1,_,hu⟩
  .rw[e1] at U;exact A8 (show decide (("fault":Str)="asks")=v_ from U) ()
  .rw[e1] at U;exact A8 (show decide (("said":Str)="asks")=v_ from U) ()
  .rw[e1] at O;have O:D.tup [!u,!z]=-[!kd,!m]:=O;cases O;rcases hu with rfl|⟨rfl|rfl,_⟩
   .exact A8 hk ()
   .exact .inl rfl
   .exact A8 hk ()
section
variable {qs:oj (Str×D)}
def Aa2 (hq:Qn qs)(h:GI g)(ha:GA g)(hF:∀x>Qz g,Aaz qs x):∀x>Qz (Sy.step (SyP qs) (FP qs) g),Aaz qs x:=by
 have aa:∀{d:D},g.en=U_->(∀kd z,yc g= .tup [!kd,!z]->(na kd=v_/\d=xj qs kd z)\/(na kd=Vg/\(kd="thing"\/kd="rule")/\∃y,FP qs z=u_ y/\d=y.getD .non))->(∃kd z,yc g=-[!kd,!z])->∀x>Qz (QI g d),Aaz qs x:=by
  intro d O h1 ⟨kd,z,e⟩ x U;rw[(XN ha O d).1] at U;rcases Ac.mp U with U|U
  .exact hF x U
  .cases Ab.mp U;exact⟨kd,z,d,by rw[e],AaB h O e,h1 kd z e⟩
 rw[Ze];cases O:g.en with
 |some d=>exact hF
 |none=>
  simp![vO,A4 u8];cases hw:yl g with
  |none=>
   erw[jW (qs:=qs) h O hw,rs,r,k,z,ac,ad,hk,_,e];show∀x>Qz (nE qs g),_;rw[e];have hp:yc g=-[!k,!z]:=by
    unfold yc;rw[ac];show xk r.th=_;rw[ad]
    rfl
   exact aa O (λkd y e2=>by rw[hp] at e2;cases e2;exact .inl [hk:1]) [k:z:hp]
  |some m=>
   simp only;erw[sW h hw,kd,hp,hk];cases ae:FP qs m with
   |some a=>exact aa O (λaf y e2=>by rw[hp] at e2;cases e2;exact .inr ⟨hk,Ac5 h O hp hk,a,ae,1⟩) [kd:m:hp]
   |none=>exact hF
def Aey (O:Qn qs):∀(k:Nat) {g:Gp},GI g->GA g->(∀x>Qz g,Aaz qs x)->∀x>Qz (itP qs k g),Aaz qs x
 |0,g,h,ha,t=>t
 |k+1,g,h,ha,t=>by
  erw[zZ O (Aar O) h ha,h1,h2];exact Aey O k h1 h2 (Aa2 O h ha t)
def Acr (U:Qn qs)(O:g0D m (qA qs m)=u_ g)(k:Nat):∀x>Qz (itP qs k g),Aaz qs x:=
 Aey U k (Kx U O).1 (W1 O).1 (λx hx=>by rw[(W1 O).2] at hx;cases hx)
abbrev nz (qs:oj (Str×D)) (m:Str):D:=match g0D m (qA qs m) with
 |none=>yV (qA qs m)
 |some g=>Qr ((itP qs 302 g).en.getD .non)
def My {n:Str}{p:Gp}(h:Dn qs n don)(U:(m,p)>don):Sy.Yp (Y:=SyP qs) don m=u_ p:=by
 have O:=sJ h;unfold Sy.Yp;have:(don.find? λq=>decide (q.1=m))=u_ (m,p):=by
  clear h
  induction don with
  |nil=>cases U
  |cons q r ih=>
   rw[uA,vN] at O;rcases Aa.mp U with rfl|U
   .rw[v9,ud rfl]
   .have aa:q.1≠m:=λz=>O.1 (by rw[z];exact Ae.mpr [_:U:1])
    rw[v9,ug aa];exact ih U O.2
 have e2:(FR (λq:Str×Gp=>decide (q.1=m)) don).map (·.2)=u_ p:=by rw[this];rfl
 exact e2
def Ad2 {n:Str}(h:Dn qs n don)(hm:g0D m (qA qs m)=U_\/m>don.map (·.1)):Acw qs don m=nz qs m:=by
 unfold Acw nz;cases U:g0D m (qA qs m) with
 |none=>rfl
 |some g=>
  rcases hm with hm|hm
  .rw[U] at hm;cases hm
  .erw[Ae.mp hm,[m',p],hp,rfl];erw[JM h hp,s,O,e2];have O:g0D m' (qA qs m')=u_ s:=O;rw[U] at O;cases O;have e2:p=itP qs 302 g:=e2;simp![My h hp];rw[<-e2]
   rfl
abbrev Adn (d:D):om Str:=match d with
 | .tup [!k,!m]=>if k="stuck" then u_ m else U_
 |_=>U_
variable {e:D}{x:Str}
def Bd (h:ThS e):e≠ -[-"stuck",!x]:=by
 intro z;rcases h with⟨y,rfl⟩|⟨y,rfl,_⟩|⟨u,y,rfl,_⟩
 .injection z with z;injection z with z _;injection z with z;revert z;decide+kernel
 .injection z with z;injection z with z _;injection z with z;revert z;decide+kernel
 .injection z with z;injection z with z _;injection z with z;revert z;decide+kernel
def Aci {r:Rn}(h:ThS r.th)(k:mX r=u_ e):ThS e:=by
 unfold mX at k;by_cases c:Qy r.th=v_
 .rw[A6 c] at k;cases k
 .rw[A4 c] at k;cases k;exact h
def NO {d:D}(k:(mi g d).en=u_ e):ThS e:=by
 unfold mi at k;split at k
 .cases k;exact .inl ⟨0⟩
 .cases O:QK d with
  |none=>rw[O] at k;cases k;exact .inl ⟨0⟩
  |some rs=>rw[O] at k;exact Aci (Aag (wO O).2) k
def Dh {d:D}(h:GI g)(U:g.en=U_)(ha:XY d)(k:(QI g d).en=u_ e):ThS e:=by
 unfold QI at k;cases O:g.run with
 |none=>rw[O] at k;exact NO k
 |some p=>
  erw[p,rs,r];rw[O] at k;erw[h.run rs r O,h1,h2,h3,h4];exact Aci (IJ h1 h2 (h4 U) ha) k
def Dl (hq:Qn qs){m x:Str}{s:Gp}(U:g0D m (qA qs m)=u_ s):∀k,(itP qs k s).en=u_ (-[-"stuck",!x])->∃i,(itP qs i s).en=U_/\yl (itP qs i s)=u_ x/\FP qs x=U_
 |0,O=>by
  have O:s.en=u_ _:=O;unfold g0D at U;split at U
  .split at U
   .cases U
   .split at U
    .cases U;cases O
    .cases U;exact A8 rfl (Bd (NO O))
  .cases U
 |k+1,O=>by
  have e0:itP qs (k+1) s=Sy.step (SyP qs) (FP qs) (itP qs k s):=Sy.Wc (Y:=SyP qs) k s;rw[e0,Ze] at O;erw[zD hq U k,gi,ga];cases he:(itP qs k s).en with
  |some d=>
   rw[he] at O;simp![re,Ve] at O;exact Dl hq U k O
  |none=>
   rw[he] at O;simp![vO,A4 u8] at O;cases hw:yl (itP qs k s) with
   |none=>
    rw[hw] at O;erw[jW (qs:=qs) gi he hw,rs,r,k',z,ad,ae,aa,_,e];have O:(nE qs (itP qs k s)).en=_:=O;have ac:=EX hq gi he hw;rw[e] at O ac;exact A8 rfl (Bd (Dh gi he (.inr (WM hq z aa).1) O))
   |some m'=>
    rw[hw] at O;simp only at O;cases hF:FP qs m' with
    |some a=>
     rw[hF] at O;exact A8 rfl (Bd (Dh gi he (Aar hq _ _ hF) O))
    |none=>
     rw[hF] at O;have O:u_ (D.tup [-"stuck",!m'])=u_ (-[-"stuck",!x]):=O;cases O;exact⟨k,he,hw,hF⟩
def AaZ (h:EnS e)(k:Adn (Qr e)=u_ x):e=-[-"stuck",!x]:=by
 rcases h with⟨z,rfl⟩|⟨y,rfl,_⟩|⟨z,rfl⟩
 .have e2:Qr (flt z)=flt z:=by unfold Qr flt;dsimp only;exact A4 ()
  rw[e2] at k;have k:(if("fault":Str)="stuck" then u_ z else U_)=u_ x:=k
  rw[A4 ()] at k
  cases k
 .have e2:Qr (-[-"said",y])=-[-"value",y]:=by unfold Qr;dsimp only;exact A6 rfl
  rw[e2] at k;cases y with
  |str w=>
   have k:(if("value":Str)="stuck" then u_ w else U_)=u_ x:=k
   rw[A4 ()] at k
   cases k
  |_=>cases k
 .have e2:Qr (-[-"stuck",!z])=-[-"stuck",!z]:=by unfold Qr;dsimp only;exact A4 ()
  rw[e2] at k;have k:(if("stuck":Str)="stuck" then u_ z else U_)=u_ x:=k
  rw[A6 rfl] at k;cases k
  rfl
def YZ {s:Gp}(O:g0D m (qA qs m)=u_ s):(itP qs 302 s).en.isSome=true:=Sy.it_end (Y:=SyP qs) (QC qs) 302 s ((QC qs).l0 m s O)
def AaY (hq:Qn qs){n:Str}(h:Dn qs n don)(hm:m>don.map (·.1))(hx:Adn (nz qs m)=u_ x):x>don.map (·.1):=by
 erw[Ae.mp hm,[m',p],hp,rfl];erw[JM h hp,s,O,e2];have O:g0D m' (qA qs m')=u_ s:=O;unfold nz at hx;rw[O] at hx;simp only at hx;have hf:=YZ O;cases he:(itP qs 302 s).en with
 |none=>rw[he] at hf;cases hf
 |some e=>
  rw[he] at hx;have ee:=AaZ ((zD hq O 302).1.en e he) hx;rw[ee] at he;erw[Dl hq O 302 he,i,h1,h2,h3];have U:∃g,g0D n (qA qs n)=u_ g:=by
   cases c:g0D n (qA qs n) with
   |none=>rw[qak c h] at hp;cases hp
   |some g=>exact[g:1]
  erw[U,g0,U];erw[h,j,hj];have fi:(SyP qs).fin (Sy.it (SyP qs) (Sy.F (SyP qs)) i s)=false:=by
   show(itP qs i s).en.isSome=Vg;rw[h1]
   rfl
  rcases Sy.end_clo (QC qs) U hj hp O (i:=i) (m:=x) fi h2 with c|c
  .rw[show FP qs x=_ from Sy.kY (QC qs) c] at h3
   cases h3
  .exact c
end
inductive Lj (CP:Addr):Sp
 |mk (px:Addr)(n:Str)(qs:List (Str×D))(gp:Gp)(_:vs= [-px,!n])(_:nm n=v_)(_:yk CP H px qs)(_:Qn qs)(_:g0D n (qA qs n)=u_ gp)(_:∀v H',ig H H'->GI (itP qs 302 gp)->(itP qs 302 gp).en.isSome=v_->Is H' (xr (itP qs 302 gp)) v->Q v H')
inductive Lp (CP:Addr):Sp
 |mk (px:Addr)(n:Str)(qs:List (Str×D))(_:vs= [-px,!n])(_:nm n=v_)(_:yk CP H px qs)(_:Qn qs)(_:∀v H',ig H H'->Is H' (nz qs n) v->nrg (nz qs n)->Q v H')
section
variable {P:o9}{w:og}{K:o0}{mg:Str->om o6}{base:o8}{a:Ad}{g:Ga}
def LV:#[C,16,a.kO,a.Ke,["project","name"],(Lj a.qG)]:=by
 have Yr:=#[Ao,T,C];refine T.ni.F.ok WI () (λ_ _ _ _ H vs Q E hr h=>?_)
 erw[h,px,n,qs,gp,rfl,hn,hP,hq,hg,k];exists 3,%[#[qE,(2),WI.nd,#[qq,Yr,T.iH,#v[pv 0,pv 1]]],#[qF,#[WG,#[oF,5,QT hr,pv 1,#[qN,5,pv 2,rfl]]],%[|jY],qt]|#[qo,#[QE,#[qN,5,pv 2,rfl],pv 1]]]
 exists 8,N1,q1
 exists 0,0,px,n,qs,1,hn,hP,hq,λH' o rk uk fk don _ h _=>q1 _ _ ?_;erw[Abj h.ks,vs,e1,e2,e3];have hk:vs.map (·.1)=(don.map λq=>(q.1,xr q.2)).map (·.1):=by rw[e2,uK];rfl
 have hi:L2.IsL H' ((don.map λq=>(q.1,xr q.2)).map (·.2)) (vs.map (·.2)):=by rw[e3,uK];exact h.vs
 have aa:=h.dr;rw[e1] at aa;have he:=h.oa.e;exists 8,N2,q2
 exists 0,0,o.x,_,o.dx,_,0,he,T.qx,T.Qg,L4 o,o.dr,0,mQ.k (k:=Vj n) aa,0;have hl:=Im hg h.dn;have U:=FV hl;erw[Ae.mp U,[m,p],ac,rfl];have ad:m>(don.map λq=>(q.1,xr q.2)).map (·.1):=by rwa[uK]
 erw[qax hk hi ad,l1,l2];have hd:qA (don.map λq=>(q.1,xr q.2)) m=xr p:=X8 (by rw[uK];exact sJ h.dn) (Ae.mpr [(m,p):ac:1])
 rw[hd] at l2;erw[JM h.dn ac,s0,f1,f2];have f1:g0D m (qA qs m)=u_ s0:=f1;have hg:g0D m (qA qs m)=u_ gp:=hg;rw[hg] at f1;cases f1;have f2:p=itP qs 302 gp:=f2;have O:=h.gi _ ac;have O:GI p/\p.en.isSome=true:=O;rw[l1];refine iU rfl (q2 _ _ ?_)
 exists 0,o.x,_,o.dx,_,0,he,T.qx,T.Qg,L4 o,0,o.dr,0,(by rw[<-l1];exact mQ.k (k:=Vj m) aa)
 rw[f2] at l2 O;exact k _ H' h.sm O.1 O.2 l2
def BH:#[C,16,a.wT,a.Wy,["project","name"],(Lp a.qG)]:=by
 have Yr:=#[Ao,T,C];have Qe:=#[Ec,T];exists 9,T.me,ou
 erw[h,px,n,qs,rfl,hn,hP,hq,k];exists 3,%[|#[qo,#[Qj,#[qq,Yr,T.iH,#v[pv 0,pv 1]],T.qx,T.io,Qe,#v[pv 1]]]]
 exists 0,0,px,n,qs,1,hn,hP,hq,λH1 o rk uk fk don _ O hl=>?_
 exists o.x,o.dx,0,O.oa.e,Ws o _ (),0,o,n,qs,#[Y,[],don],uk,fk,1,O.oa,hq,O.sg,O.du,O.uo,O.df,O.fd,(),(λp hp=>(O.gi p hp).2),λv H2 ac k2 f2 d2 l2 _ y2=>?_
 unfold AV at y2;rw[Acl O.dn (AK O.dn)] at y2;erw[y2,d,hd,ha,hg];obtain⟨aa,U⟩:=hg (λz=>by cases z)
 have U:d=nz qs n:=U.trans (Ad2 O.dn (AK O.dn));rw[U] at hd aa;refine k v H2 (λb ob e=>k2.kept b ob (O.sm b ob e) (λz=>?_)) hd aa;rw[Ab.mp z,O.new.2.2.2] at e;cases e
inductive Aa5 (CP:Addr):Sp
 |mk (px:Addr)(n:Str)(qs:List (Str×D))(_:vs= [-px,!n])(_:nm n=v_)(_:yk CP H px qs)(_:Qn qs)(_:∀t H' don,ig H H'->H' t=u_ (.tup (don.map λp=>V.str p.1))->Dn qs n don->↑don<=20001->(∀p>don,GI p.2/\p.2.en.isSome=v_)->Q (-t) H')
def Bj {H:Hp}:∀{zs:oj Str},(∀z>zs,↑z<=100)->L2.IsL H (zs.map D.str) (zs.map V.str)
 | [],_=>rfl
 |z::r,h=>⟨_,0,QU (by have:=h z uf;omega),Bj λy O=>h y (uc _ O)⟩
def AbI:#[C,16,a.f_met_by,a.d_met_by,["project","name"],(Aa5 a.qG)]:=by
 have O:=#[Ao,T,C];exists 9,T.sF,DH,U
 erw[h,px,n,qs,rfl,hn,hP,hq,k];exists 3,%[|#[qo,#[qS,#[AO,1,rfl],T.QD,vo,#v[#[qN,5,#[qq,16,O,U.mono (),_,T.iH.m,T.iH.F.kp,T.iH.b,.nil,qy,#v[pv 0,pv 1],_,_,_],rfl]]]]]
 exists 0,0,px,n,qs,1,hn,hP,hq,λH' o rk uk fk don _ h hl=>?_
 exists o.x,_,o.dx,_,0,h.oa.e,T.qx,T.Qg,L4 o,o.dr,rk,1,.inl h.dr,λt ht=>?_;refine k t _ don (h.sm.trans (qf ht _)) ?_ h.dn h.len h.gi;rw[qg];have e:(rk.map λp=>kV p.1)=don.map λp=>V.str p.1:=by
  have:=A9 (Fb kV) h.ks;rwa[uK,uK] at this
 rw[e]
end
variable {e:D}
def ML {s:Gp}(O:g0D m (qA qs m)=u_ s)(U:(itP qs 302 s).en=u_ e):nz qs m=Qr e:=by
 unfold nz;rw[O]
 try dsimp only
 rw[U]
 rfl
inductive Ch (rs:List Rw)(own:Str):Rn->List D->Rn->Prop
 |nil (r:Rn):Ch rs own r [] r
 |cons {r r':Rn}{a:D}{as:List D}(u:Str)(d:D)(h1:r.th=-[-"asks",-[!u,d]])(h2:AU u a=v_)(h3:Ch rs own (l7 rs own r a) as r'):Ch rs own r (a::as) r'
variable {rs:oj Rw}{own:Str}
def Ch.snoc {a:D}{r O:Rn}{as:oj D}(h:Ch rs own r as O)(u:Str)(d:D)(h1:O.th=-[-"asks",-[!u,d]])(h2:AU u a=v_):Ch rs own r (as++ [a]) (l7 rs own O a):=by
 induction h with
 |nil r=>exact .cons u d h1 h2 (.nil _)
 |cons U d' k1 k2 _ ih=>exact .cons U d' k1 k2 (ih h1)
def IT {r:Rn}{u:Str}{d:D}(h:r.th=-[-"asks",-[!u,d]]):Qy r.th=true:=by
 rw[h];show decide (("asks":Str)="asks")=v_;exact ud rfl
abbrev AcZ:D->D
 | .tup [_,a]=>a
 |_=> .non
abbrev RC (g:Gp):Prop:=∀rs r,g.run=u_ (rs,r)->Ch rs g.n (R0 rs g.n) (r.gs.map AcZ) r
def Nd (h:g.run=U_)(d:D):RC (mi g d):=by
 intro rs r e;by_cases hn:yL d=v_
 .have U:mi g d={g with en:=u_ (flt "lack")}:=A6 hn
  rw[U] at e;exact A8 (h.symm.trans e) (by intro z;cases z)
 .cases hr:QK d with
  |none=>
   have U:mi g d={g with en:=u_ (flt "rule")}:=by unfold mi;rw[A4 hn,hr]
   rw[U] at e;exact A8 (h.symm.trans e) (by intro z;cases z)
  |some O=>
   have U:mi g d={g with run:=u_ (O,R0 O g.n),en:=mX (R0 O g.n)}:=by unfold mi;rw[A4 hn,hr]
   rw[U] at e⊢;cases e;have:(R0 rs g.n).gs= []:=wN _ _ _ _;show Ch rs g.n (R0 rs g.n) ((R0 rs g.n).gs.map AcZ) (R0 rs g.n);rw[this];exact .nil _
def DR {d:D}(O:RC g)(U:∀rs r,g.run=u_ (rs,r)->∃u e,r.th= .tup [-"asks",-[!u,e]]/\AU u d=v_):RC (QI g d):=by
 cases h:g.run with
 |none=>
  have e:QI g d=mi {g with ra:= [-[-[-"rule",g.mb],d]]} d:=by unfold QI;rw[h]
  rw[e];exact Nd (g:={g with ra:= [-[-[-"rule",g.mb],d]]}) h d
 |some p=>
  erw[p,rs,r];have e0:QI g d={g with run:=u_ (rs,l7 rs g.n r d),en:=mX (l7 rs g.n r d)}:=by unfold QI;rw[h]
  rw[e0];intro aa r' e;cases e;erw[U rs r h,u,x,h1,h2];have:=(O rs r h).snoc u x h1 h2;show Ch rs g.n (R0 rs g.n) ((l7 rs g.n r d).gs.map AcZ) (l7 rs g.n r d);rw[AS,uq];exact this
section
variable {qs:oj (Str×D)}
def OW (hq:Qn qs)(h:GI g)(hc:RC g):RC (Sy.step (SyP qs) (FP qs) g):=by
 rw[Ze];cases he:g.en with
 |some d=>exact hc
 |none=>
  simp![vO,A4 u8];cases hw:yl g with
  |none=>
   erw[jW (qs:=qs) h he hw,rs,r,k,z,ac,ad,hk,_,e];show RC (nE qs g);rw[e];exact DR hc λaf r' e'=>by
    rw[ac] at e';cases e';exact⟨k,_,ad,(WM hq z hk).2⟩
  |some m=>
   simp only;cases hF:FP qs m with
   |none=>exact λrs r e=>hc rs r e
   |some y=>
    refine DR hc λrs r e=>?_;erw[sW h hw,kd,U,hk];have aa:=(h.run rs r e).2.2;unfold yc at U;rw[e] at U;have U:xk r.th=-[!kd,!m]:=U;have O:=aa.2 he;rcases aa.1 with⟨z,e1⟩|⟨e0,e1,_⟩|⟨u,z,e1,_,hu⟩
    .rw[e1] at O;exact A8 (show decide (("fault":Str)="asks")=v_ from O) ()
    .rw[e1] at O;exact A8 (show decide (("said":Str)="asks")=v_ from O) ()
    .rw[e1] at U;have U:D.tup [!u,!z]=-[!kd,!m]:=U;cases U;have ae:kd="thing":=by
      rcases hu with rfl|⟨rfl|rfl,_⟩
      .exact A8 hk ()
      .rfl
      .exact A8 hk ()
     subst ae;exact⟨_,_,e1,kh (Aar hq _ _ hF)⟩
def Abl (O:Qn qs):∀(k:Nat) {g:Gp},GI g->GA g->RC g->RC (itP qs k g)
 |0,g,h,ha,t=>t
 |k+1,g,h,ha,t=>by
  erw[zZ O (Aar O) h ha,h1,h2];exact Abl O k h1 h2 (OW O h t)
def Ads {d:D}(h:g0D m d=u_ g):RC g:=by
 unfold g0D at h;split at h
 .split at h
  .cases h
  .split at h
   .cases h;intro rs r e;cases e
   .cases h;exact Nd rfl _
 .cases h
def Abh (U:Qn qs)(O:g0D m (qA qs m)=u_ g)(k:Nat):RC (itP qs k g):=Abl U k (Kx U O).1 (W1 O).1 (Ads O)
abbrev Cp (z:Str):D:=-[-"stuck",!z]
abbrev AcT (z:Str):D:=-[-"asks",-[-"thing",!z]]
abbrev Hs (src:D)(pre:oj D)(rl:D):Prop:=(src= .tup [-"rule",rl]/\pre= [])\/∃z:Str,src= .tup [-"made",!z]/\pre= [-[-[-"rule",!z],rl]]
inductive IG (src:D)(p:Gp):Prop
 |wait (z:Str)(h0:src=-[-"made",!z])(h1:p.mb= !z)(h2:p.run=U_)(h3:p.ra= [])(h4:p.en=U_\/p.en=u_ (Cp z)):IG src p
 |lack (pre:List D)(rl:D)(h0:Hs src pre rl)(h1:p.ra=pre)(h2:p.run=U_)(h3:yL rl=v_)(h4:p.en=u_ (flt "lack")):IG src p
 |bad (pre:List D)(rl:D)(h0:Hs src pre rl)(h1:p.ra=pre)(h2:p.run=U_)(h3:yL rl=Vg)(h5:QK rl=U_)(h4:p.en=u_ (flt "rule")):IG src p
 |run (pre:List D)(rl:D)(rs:List Rw)(r:Rn)(h0:Hs src pre rl)(h1:p.ra=pre)(h2:p.run=u_ (rs,r))(h3:yL rl=Vg)(h5:QK rl=u_ rs)(h4:p.en=mX r\/∃z,p.en=u_ (Cp z)/\r.th=AcT z):IG src p
variable {src:D}
def ND {pre:oj D}{rl:D}(h:g.run=U_)(hs:Hs src pre rl)(hp:g.ra=pre):IG src (mi g rl)/\(mi g rl).n=g.n:=by
 cases hn:yL rl with
 |true=>
  have O:mi g rl={g with en:=u_ (flt "lack")}:=A6 hn
  rw[O];exact[.lack pre rl hs hp h hn rfl:1]
 |false=>
  have U:¬yL rl=true:=by rw[hn];exact u8
  cases hr:QK rl with
  |none=>
   have O:mi g rl={g with en:=u_ (flt "rule")}:=by unfold mi;rw[A4 U,hr]
   rw[O];exact[.bad pre rl hs hp h hn hr rfl:1]
  |some rs=>
   have O:mi g rl={g with run:=u_ (rs,R0 rs g.n),en:=mX (R0 rs g.n)}:=by unfold mi;rw[A4 U,hr]
   rw[O];exact[.run pre rl rs _ hs hp rfl hn hr (.inl rfl):1]
def AdI (hq:Qn qs)(h:g0D m (qA qs m)=u_ g):IG (qA qs m) g:=by
 have hm:m>qs.map (·.1):=(QC qs).gn m g h;erw[jF hq hm,_,k,e,hd,h1,h2];rw[hd] at h⊢;have h:(if k="leaf" then U_ else if k="made" then u_ (⟨m,e,[],U_,U_⟩:Gp) else u_ (mi ⟨m,.non,[],U_,U_⟩ e))=u_ g:=h
 by_cases U:k="leaf"
 .rw[A6 U] at h;cases h
 rw[A4 U] at h;by_cases O:k="made"
 .rw[A6 O] at h;cases h;erw[h1 O,z,rfl,_];subst O;exact .wait z rfl rfl rfl rfl (.inl rfl)
 .rw[A4 O] at h;cases h;have hk:k="rule":=by
   rcases(h2 O).1 with h|h
   .exact A8 h U
   .exact h
  subst hk;exact(ND (g:=⟨m,.non,[],U_,U_⟩) rfl (.inl [1:1]) rfl).1
def SQ (hq:Qn qs)(h:GI g)(hi:IG src g):IG src (Sy.step (SyP qs) (FP qs) g):=by
 rw[Ze];cases he:g.en with
 |some d=>exact hi
 |none=>
  simp![vO,A4 u8];cases hi with
  |lack pre rl h0 h1 h2 h3 h4=>rw[he] at h4;cases h4
  |bad pre rl h0 h1 h2 h3 h5 h4=>rw[he] at h4;cases h4
  |wait z h0 h1 h2 h3 h4=>
   have hw:yl g=u_ z:=by
    unfold yl yc;rw[h2]
    try dsimp only
    rw[h1]
    try dsimp only
    exact A4 ()
   rw[hw]
   try dsimp only
   cases hF:FP qs z with
   |none=>exact .wait z h0 h1 h2 h3 (.inr rfl)
   |some y=>
    have e:QI g (y.getD .non)=mi {g with ra:= [-[-[-"rule",g.mb],y.getD .non]]} (y.getD .non):=by unfold QI;rw[h2]
    show IG src (QI g (y.getD .non));rw[e];exact(ND (g:={g with ra:= [-[-[-"rule",g.mb],y.getD .non]]}) h2 (.inr ⟨z,h0,by rw[h1]⟩) rfl).1
  |run pre rl rs r h0 h1 h2 h3 h5 h4=>
   have tk:∀d,IG src (QI g d):=λd=>by
    have e:QI g d={g with run:=u_ (rs,l7 rs g.n r d),en:=mX (l7 rs g.n r d)}:=by unfold QI;rw[h2]
    rw[e];exact .run pre rl rs _ h0 h1 rfl h3 h5 (.inl rfl)
   cases hw:yl g with
   |none=>
    erw[jW (qs:=qs) h he hw,ac,r',k,z,ad,ae,hk,_,e];show IG src (nE qs g);rw[e];exact tk _
   |some m=>
    try dsimp only
    cases hF:FP qs m with
    |some y=>exact tk _
    |none=>
     erw[sW h hw,kd,U,hk];have aa:=(h.run rs r h2).2.2;unfold yc at U;rw[h2] at U;have U:xk r.th=-[!kd,!m]:=U;have O:=aa.2 he;refine .run pre rl rs r h0 h1 h2 h3 h5 (.inr [m:1:?_]);rcases aa.1 with⟨z,e1⟩|⟨e0,e1,_⟩|⟨u,z,e1,_,hu⟩
     .rw[e1] at O;exact A8 (show decide (("fault":Str)="asks")=v_ from O) ()
     .rw[e1] at O;exact A8 (show decide (("said":Str)="asks")=v_ from O) ()
     .rw[e1] at U⊢;have U:D.tup [!u,!z]=-[!kd,!m]:=U;cases U;rcases hu with rfl|⟨rfl|rfl,_⟩
      .exact A8 hk ()
      .rfl
      .exact A8 hk ()
def Aa0 (g:Gp):(Sy.step (SyP qs) (FP qs) g).n=g.n:=by
 rw[Ze];split
 .rfl
 .split
  .exact AbA qs g
  .split
   .exact Dg g _
   .rfl
def Ab8 (O:Qn qs){src:D}:∀(k:Nat) {g:Gp},GI g->GA g->IG src g->IG src (itP qs k g)/\(itP qs k g).n=g.n
 |0,g,h,ha,t=>[t:1]
 |k+1,g,h,ha,t=>by
  erw[zZ O (Aar O) h ha,h1,h2];erw[Ab8 O k h1 h2 (SQ O h t),U,i2];exact[U:i2.trans (Aa0 g)]
inductive Fn (qs:List (Str×D))(m:Str)(src:D)(as:List D)(en:D):Prop
 |wait (z:Str)(h0:src=-[-"made",!z])(h1:as= [])(h2:en=Cp z):Fn qs m src as en
 |lack (pre:List D)(rl:D)(h0:Hs src pre rl)(h1:as=pre)(h3:yL rl=v_)(h4:en=flt "lack"):Fn qs m src as en
 |bad (pre:List D)(rl:D)(h0:Hs src pre rl)(h1:as=pre)(h3:yL rl=Vg)(h5:QK rl=U_)(h4:en=flt "rule"):Fn qs m src as en
 |run (pre:List D)(rl:D)(rs:List Rw)(r:Rn)(h0:Hs src pre rl)(h1:as=pre++r.gs)(h3:yL rl=Vg)(h5:QK rl=u_ rs)(h6:Ch rs m (R0 rs m) (r.gs.map AcZ) r)(h7:C6 rs r)(h8:ThS r.th)(h4:en=r.th\/∃z,en=Cp z/\r.th=AcT z):Fn qs m src as en
def Fr (hq:Qn qs)(hg:g0D m (qA qs m)=u_ g):Fn qs m (qA qs m) (Qz (itP qs 302 g)) (mY (itP qs 302 g)):=by
 erw[Kx hq hg,hG,hn];erw[Ab8 hq 302 hG (W1 hg).1 (AdI hq hg),hi,aa];have O:=YZ hg;have ac:=Abh hq hg 302;have U:=(zD hq hg 302).1;generalize itP qs 302 g=p at hi aa O ac U;unfold mY Qz;cases hi with
 |wait z h0 h1 h2 h3 h4=>
  rcases h4 with h4|h4
  .rw[h4] at O;cases O
  .rw[h2,h3,h4];exact .wait z h0 rfl rfl
 |lack pre rl h0 h1 h2 h3 h4=>
  rw[h2,h4,h1];exact .lack pre rl h0 (ve _) h3 rfl
 |bad pre rl h0 h1 h2 h3 h5 h4=>
  rw[h2,h4,h1];exact .bad pre rl h0 (ve _) h3 h5 rfl
 |run pre rl rs r h0 h1 h2 h3 h5 h4=>
  have hc:=ac rs r h2;rw[aa,hn] at hc;have hO:=(U.run rs r h2).2.1;have ad:=(U.run rs r h2).2.2.1;rw[h2,h1];refine .run pre rl rs r h0 rfl h3 h5 hc hO ad ?_;rcases h4 with h4|⟨z,h4,h6⟩
  .rw[h4] at O⊢;unfold mX at O⊢;by_cases c:Qy r.th=v_
   .rw[A6 c] at O;cases O
   .rw[A4 c];exact .inl rfl
  .rw[h4];exact .inr [z:1:h6]
end
namespace Sy
variable {Y:Sy}
abbrev Bf (l:oj (Str×Y.G))(n:Str)(g:Y.G):Prop:=∃g',(g=g'\/∃m,g=Y.stuck g' m)/\Aan Y (l.map (·.1)) n g'
def Bf.more {l O:oj (Str×Y.G)}{n:Str}{g:Y.G}(h:Bf l n g)(hn:∀p>l,p>O):Bf O n g:=by
 erw[h,g',h1,h2];exists g',h1,h2.more λm hm=>?_;erw[Ae.mp hm,p,U,rfl];exact Ae.mpr [p:hn p U:1]
structure Bfs (S:Ss Y):Prop where
 st:∀p>S.stk,Bf S.don p.1 p.2
 dn:∀l1 p l2,S.don=l1++p::l2->Bf l1 p.1 p.2
def Cq {α:Type}{l l1 l2:oj α}{x p:α}(h:l++ [x]=l1++p::l2):(l=l1/\x=p)\/∃O,l=l1++p::O:=by
 rcases tU l2 with rfl|⟨O,y,rfl⟩
 .exact .inl (Rk h rfl|>.imp id λz=>(Pk z).1)
 .right;exists O;have:l++ [x]=(l1++p::O)++ [y]:=by rw[h];simp
  exact(Rk this rfl).1
variable {n0:Str}{S:Ss Y}
def AbP (h:Y.Ok)(hs:SOk n0 S)(c:Bfs S):Bfs (nxt S):=by
 erw[S,stk,don];cases stk with
 |nil=>exact c
 |cons p r=>
  erw[p,n,g];have c0:=c.st (n,g) uf;have put:∀g',Bf don n g'->Bfs (⟨(n,g')::r,don⟩:Ss Y):=λg' hb=>⟨λp hp=>by
   rcases Aa.mp hp with rfl|hp
   .exact hb
   .exact c.st p (uc _ hp),c.dn⟩
  have c1:Y.fin g=Vg->Aan Y (don.map (·.1)) n g:=λO=>by
   erw[c0,g1,h1,h2];rcases h1 with h1|⟨m,h1⟩
   .have h1:g=g1:=h1;rwa[h1]
   .have h1:g=Y.stuck g1 m:=h1;rw[h1,h.fs g1 m] at O;cases O
  have on:∀g',Y.fin g=Vg->step Y (F Y) g=g'->(∀m,Y.want g=u_ m->Y.g0 m=U_\/m>don.map (·.1))->Bf don n g':=by
   intro g' O e hm;erw[c1 O,s,k,h1,h2,h3];exists g',.inl rfl,s,k+1,h1,by rw[Wc,<-h2,e],λi hi ac m hw=>?_
   by_cases ci:i<k
   .exact h3 i ci ac m hw
   .have:i=k:=by omega
    subst this;rw[<-h2] at hw;exact hm m hw
  unfold nxt;simp only;cases O:Y.fin g with
  |true=>
   rw[A6 rfl];exists λp hp=>(c.st p (uc _ hp)).more λq hq=>vz _ hq,λl1 p l2 e=>?_;rcases Cq e with⟨rfl,rfl⟩|⟨l3,e⟩
   .exact c0
   .exact c.dn l1 p l3 e
  |false=>
   rw[A4 u8];have aa:step Y (F Y) g=match Y.want g with
     |none=>Y.own g
     |some m=>match F Y m with
      |some a=>Y.tk g a
      |none=>Y.stuck g m:=by
    unfold step;rw[O,A4 u8]
    all_goals rfl
   cases hw:Y.want g with
   |none=>exact put _ (on _ O (by rw[aa,hw]) λm z=>by rw[hw] at z;cases z)
   |some m=>
    rw[hw] at aa;simp only at aa⊢;cases U:yet ([(n,g)::r:don]:Ss Y) m with
    |some o=>
     cases o with
     |some a=>
      have hF:=AaA h hs O hw U;refine put _ (on _ O (by rw[aa,hF]) λm' z=>?_)
      rw[hw] at z;cases z;unfold yet at U;by_cases cm:m>((n,g)::r).map (·.1)
      .rw[A6 cm] at U;cases U
      .rw[A4 cm] at U;cases hg:Y.g0 m with
       |none=>exact .inl rfl
       |some gm=>
        rw[hg] at U;simp only at U;cases hd:Yp don m with
        |none=>rw[hd] at U;cases U
        |some gd=>exact .inr (Ae.mpr [_:zx hd:1])
     |none=>exact put _ [g:.inr [m:1]:c1 O]
    |none=>
     simp only;erw[jR U,h1,[g',hg],h2];rw[hg];exists λp hp=>?_,c.dn;rcases Aa.mp hp with rfl|hp
     .exact⟨_,.inl rfl,g',(0),hg,1,λi hi=>A8 hi (UR i)⟩
     .exact c.st p hp
def nx_bf (h:Y.Ok){n0:Str}{S:Ss Y}(O:SOk n0 S)(c:Bfs S):∀k,Bfs (nx S k)
 |0=>c
 |k+1=>AbP h (nx_ok h O k) (nx_bf h O c k)
def S0_bf {n:Str}{g:Y.G}(O:Y.g0 n=u_ g):Bfs (S0 Y n):=by
 unfold S0;rw[O];exists λp U=>?_,λl1 p l2 e=>?_
 .cases Ab.mp U;exact⟨_,.inl rfl,g,(0),O,1,λi hi=>A8 hi (UR i)⟩
 .have e: []=l1++p::l2:=e;simp at e
end Sy
section
variable {qs:oj (Str×D)}
def Aa1 (ha:GA g):∀x>Qz (Sy.step (SyP qs) (FP qs) g),x>Qz g\/(g.en=U_/\∃d,x=-[yc g,d]):=by
 have U:∀d,g.en=U_->∀x>Qz (QI g d),x>Qz g\/(g.en=U_/\∃d,x=-[yc g,d]):=by
  intro d he x O;rw[(XN ha he d).1] at O;rcases Ac.mp O with O|O
  .exact .inl O
  .cases Ab.mp O;exact .inr [he:d:1]
 rw[Ze];cases he:g.en with
 |some d=>exact λx O=> .inl O
 |none=>
  simp![vO,A4 u8];have U:∀d,∀x>Qz (QI g d),x>Qz g\/(True/\∃d,x=-[yc g,d]):=λd x O=>(U d he x O).imp id λz=>[trivial:z.2];cases hw:yl g with
  |none=>
   show∀x>Qz (nE qs g),_;unfold nE;split
   .exact U _
   .exact λx O=> .inl O
  |some m=>
   simp only;cases FP qs m with
   |some a=>exact U _
   |none=>exact λx O=> .inl O
def AdH (U:Qn qs):∀(k:Nat) {g:Gp},GI g->GA g->∀x>Qz (itP qs k g),x>Qz g\/∃i,i<k/\(itP qs i g).en=U_/\∃d,x=-[yc (itP qs i g),d]
 |0,g,h,ha=>λx O=> .inl O
 |k+1,g,h,ha=>by
  erw[zZ U (Aar U) h ha,h1,h2];intro x O;rcases AdH U k h1 h2 x O with O|⟨i,hi,hd⟩
  .rcases Aa1 ha x O with O|O
   .exact .inl O
   .exact .inr [(0):HW k:O]
  .exact .inr [i+1:Nat.succ_lt_succ hi:hd]
variable {z:Str}
def MK (hq:Qn qs){n:Str}{l1 l2:oj (Str×Gp)}{p:Str×Gp}(h:Dn qs n don)(e:don=l1++p::l2){an:D}(U:D.tup [-[!kd,!z],an]>Qz p.2)(hk:na kd=Vg):g0D z (qA qs z)=U_\/z>l1.map (·.1):=by
 have hp:p>don:=by rw[e];simp
 erw[JM h hp,s,e1,e2];cases hg:g0D n (qA qs n) with
 |none=>rw[qak hg h] at hp;cases hp
 |some g=>
  erw[id h,j,hj];have hb:=Sy.nx_bf (QC qs) (Sy.S0_ok hg) (Sy.S0_bf hg) j;rw[hj] at hb;erw[hb.dn l1 p l2 e,g',O,s',k,h1,h2,h3];have h1:g0D p.1 (qA qs p.1)=u_ s':=h1;rw[e1] at h1;cases h1;have ea:Qz p.2=Qz (itP qs k s):=by
   have h2:g'=itP qs k s:=h2;rcases O with O|⟨m,O⟩
   .rw[O,h2]
   .have O:p.2=IZ g' m:=O;rw[O,h2]
    rfl
  rw[ea] at U;rcases AdH hq k (Kx hq e1).1 (W1 e1).1 _ U with U|⟨i,aa,hi,d,hd⟩
  .rw[(W1 e1).2] at U;cases U
  .have hw:yl (itP qs i s)=u_ z:=by
    have hd:yc (itP qs i s)=-[!kd,!z]:=by
     injection hd with hd
     injection hd with hd _
     exact hd.symm
    unfold yl;rw[hd];show(if na kd=v_ then U_ else u_ z)=u_ z
    rw[hk,A4 u8]
   exact h3 i aa (by show(itP qs i s).en.isSome=Vg;rw[hi];rfl) z hw
def Ac4 (h:GI g)(he:g.en=U_)(O:yc g=-[!kd,!m])(hk:kd≠"names"):nm m=true:=by
 unfold yc at O;cases hr:g.run with
 |none=>
  rw[hr] at O;have O:D.tup [-"rule",g.mb]=-[!kd,!m]:=O;erw[h.no hr he,z,hz,hn];rw[hz] at O;cases O;exact hn
 |some p=>
  erw[p,rs,r];rw[hr] at O;have O:xk r.th=-[!kd,!m]:=O;have aa:=(h.run rs r hr).2.2;have U:=aa.2 he;rcases aa.1 with⟨z,e1⟩|⟨e0,e1,_⟩|⟨u,z,e1,_,hu⟩
  .rw[e1] at U;exact A8 (show decide (("fault":Str)="asks")=v_ from U) ()
  .rw[e1] at U;exact A8 (show decide (("said":Str)="asks")=v_ from U) ()
  .rw[e1] at O;have O:D.tup [!u,!z]=-[!kd,!m]:=O;cases O;rcases hu with rfl|⟨_,hn⟩
   .exact A8 rfl hk
   .exact hn
def Ty (hq:Qn qs){s:Gp}(O:g0D m (qA qs m)=u_ s){an:D}(U:D.tup [-[!kd,!z],an]>Qz (itP qs 302 s))(hk:kd≠"names"):nm z=true:=by
 rcases AdH hq 302 (Kx hq O).1 (W1 O).1 _ U with U|⟨i,_,hi,d,hd⟩
 .rw[(W1 O).2] at U;cases U
 .injection hd with hd
  injection hd with hd _
  exact Ac4 (zD hq O i).1 hi hd.symm hk
end
abbrev AeI (qs ers:oj (Str×D))(kd z:Str)(an:D):Prop:=(kd≠"names"->nm z=v_)/\((na kd=v_/\an=xj qs kd z)\/(na kd=Vg/\(kd="thing"\/kd="rule")/\((g0D z (qA qs z)=U_/\an=(Ki (qA qs z)).getD .non)\/((∃s,g0D z (qA qs z)=u_ s)/\z>ers.map (·.1)/\qA ers z= .tup [-"said",an]/\isT an=v_))))
structure Rst (qs ers es:oj (Str×D))(m:Str)(as:oj D)(en:D):Prop where
 nin:m∉ers.map (·.1)
 run:∃s,g0D m (qA qs m)=u_ s
 asks:∀x>as,∃kd z an,x= .tup [-[!kd,!z],an]/\↑z<=1000/\AeI qs ers kd z an
 fin:Fn qs m (qA qs m) as en
 few:↑as<=400
 nd:nL as=v_/\dpL as<=30/\nD en=v_/\dp en<=20
 stk:∀z,en=Cp z->z>es.map (·.1)/\∃k x,qA es z= .tup [!k,x]/\k≠"said"
nonrec abbrev Pp:=oj (Str×oj D×D)
abbrev iT (ps:Pp):oj (Str×D):=ps.map λs=>(s.1,s.2.2)
abbrev stD (s:Str×oj D×D):D:=-[.str s.1,.tup s.2.1,s.2.2]
structure Rpp (qs:oj (Str×D))(ps:Pp):Prop where
 nd:((iT ps).map (·.1)).Nodup
 st:∀i s,ps[i]? =u_ s->Rst qs ((iT ps).take i) (iT ps) s.1 s.2.1 s.2.2
abbrev nc (don:oj (Str×Gp)):Pp:=don.map λq=>(q.1,Qz q.2,mY q.2)
def AF (don:oj (Str×Gp)):(iT (nc don)).map (·.1)=don.map (·.1):=by
 unfold iT nc;rw[uK,uK]
 rfl
def MJ {p:Gp}(h:GI p):↑(Qz p)<=400:=by
 have h1:=h.ra.2.2;unfold Qz;rw[uI];cases O:p.run with
 |none=>show _+0<=400;omega
 |some q=>
  erw[q,rs,r];have h2:=(h.run rs r O).2.1;have h3:=h2.gs.2.2;have h4:=h2.n;show _+↑r.gs<=400;omega
def Al (hq:Qn qs){n:Str}(h:Dn qs n don):Rpp qs (nc don):=by
 have au:((iT (nc don)).map (·.1)).Nodup:=by rw[AF];exact sJ h
 exists au,λi s hs=>?_;unfold nc at hs;rw[uG] at hs;cases hp:don[i]? with
 |none=>rw[hp] at hs;cases hs
 |some p=>
  rw[hp] at hs;cases hs;have al:=uQ hp;erw[Af.mp hp,hi,aw];have ad:don=don.take i++p::don.drop (i+1):=by
   rw[<-aw,<-uV hi,UA]
  erw[JM h al,s,e1,e2];have am:=(zD hq e1 302).1;have ah:=YZ e1;have ax:(iT (nc don)).take i=iT (nc (don.take i)):=by
   unfold iT nc;rw[<-UW,<-UW]
  have e2:p.2=itP qs 302 s:=e2;have ao:∀{l:oj (Str×Gp)}{q:Str×Gp},(l.map (·.1)).Nodup->q>l->qA (iT (nc l)) q.1=mY q.2:=λ{l q} hl ay=>X8 (by rw[AF];exact hl) (Ae.mpr [(q.1,Qz q.2,mY q.2):Ae.mpr [q:ay:1]:1])
  have aA:((don.take i).map (·.1)).Nodup:=(sJ h).sublist ((V0 i don).map _)
  try dsimp only
  rw[ax];exists ?_,[s:e1],λx hx=>?_,?_,?_,?_,λz hz=>?_
  .rw[AF];intro z;have:=sJ h;rw[ad,uq,T4] at this;exact this.2.2 p.1 z p.1 (by rw[uA];exact uf) rfl
  .obtain⟨kd,z,an,rfl,aB,hc⟩:=Acr hq e1 302 x (by rwa[<-e2])
   exists kd,z,an,1,aB,λhk=>Ty hq e1 (by rwa[<-e2]) hk
   rcases hc with hc|⟨hk,aC,y,hF,ha⟩
   .exact .inl hc
   .refine .inr [hk:aC:?_];rcases MK hq h ad hx hk with h0|ae
    .refine .inl [h0:?_];have ap:FP qs z=u_ (Ki (qA qs z)):=Sy.kY (QC qs) h0;rw[hF] at ap;cases ap;exact ha
    .erw[Ae.mp ae,[z',pz],af,rfl];erw[JM h (T5 af),sz,ez,ac];have ez:g0D z' (qA qs z')=u_ sz:=ez;have ac:pz=itP qs 302 sz:=ac;have aa:FP qs z'=(JL (itP qs 302 sz)).map some:=Sy.F_run (QC qs) ez;rw[hF] at aa;cases O:JL (itP qs 302 sz) with
     |none=>rw[O] at aa;cases aa
     |some v=>
      rw[O] at aa;have hy:y=u_ v:=uJ aa;rw[hy] at ha;have ha:an=v:=ha;have ak:=(zD hq ez 302).1;have ag:=YZ ez;have aq:mY (itP qs 302 sz)= .tup [-"said",v]/\isT v=true:=by
       unfold JL at O;unfold mY;cases U:(itP qs 302 sz).en with
       |none=>rw[U] at ag;cases ag
       |some e=>
        rw[U] at O;have O:jy e=u_ v:=O;rcases ak.en e U with⟨y,rfl⟩|⟨y,rfl,hy⟩|⟨y,rfl⟩
        .have:jy (flt y)=none:=(show(if("fault":Str)="said" then u_ (D.str y) else U_)=U_ from A4 ())
         rw[this] at O;cases O
        .have:jy (-[-"said",y])=u_ y:=(show(if("said":Str)="said" then u_ y else U_)=u_ y from A6 rfl)
         rw[this] at O;cases O;exact[1:hy]
        .have:jy (-[-"stuck",!y])=none:=(show(if("stuck":Str)="said" then u_ (D.str y) else U_)=U_ from A4 ())
         rw[this] at O;cases O
      refine .inr ⟨[sz:ez],by rwa[AF],?_,by rw[ha];exact aq.2⟩
      rw[ao aA af];show mY pz=_;rw[ac,aq.1,ha]
  .show Fn qs p.1 (qA qs p.1) (Qz p.2) (mY p.2);rw[e2];exact Fr hq e1
  .show(Qz p.2).length<=400;rw[e2];exact MJ am
  .have:=AdQ am ah;rw[<-e2] at this;rw[Ci] at this;erw[this,a1,a2,a3,a4];simp![nD] at a1;simp![dp] at a2;exact⟨a1,by show dpL (Qz p.2)<=30;omega,a3,a4⟩
  .have hz:mY p.2=Cp z:=hz;have he:(itP qs 302 s).en=u_ (-[-"stuck",!z]):=by
    rw[e2] at hz;unfold mY at hz;cases U:(itP qs 302 s).en with
    |none=>rw[U] at ah;cases ah
    |some e=>rw[U] at hz;exact A9 u_ hz
   erw[Dl hq e1 302 he,_,_,_,aD];have aE:Adn (nz qs p.1)=u_ z:=by
    rw[ML e1 he];have e2:Qr (-[-"stuck",!z])=-[-"stuck",!z]:=by unfold Qr;dsimp only;exact A4 ()
    rw[e2];show(if("stuck":Str)="stuck" then u_ z else U_)=u_ z
    exact A6 rfl
   have ae:=AaY hq h (ph al) aE;refine⟨by rwa[AF],?_⟩
   erw[Ae.mp ae,[z',pz],af,rfl];erw[JM h af,sz,ez,ac];have ez:g0D z' (qA qs z')=u_ sz:=ez;have ac:pz=itP qs 302 sz:=ac;rw[ao (sJ h) af];show∃k x,mY pz=_/\_;rw[ac];have aa:FP qs z'=(JL (itP qs 302 sz)).map some:=Sy.F_run (QC qs) ez;rw[aD] at aa;have ak:=(zD hq ez 302).1;have ag:=YZ ez;unfold mY;cases U:(itP qs 302 sz).en with
   |none=>rw[U] at ag;cases ag
   |some e=>
    rcases ak.en e U with⟨y,rfl⟩|⟨y,rfl,hy⟩|⟨y,rfl⟩
    .exact["fault":0:()]
    .have:JL (itP qs 302 sz)=u_ y:=by unfold JL;rw[U];show(if("said":Str)="said" then u_ y else U_)=u_ y;exact A6 rfl
     rw[this] at aa;cases aa
    .exact["stuck":0:()]
end K41
namespace K41
open PySem L2 PyProof.Rows
inductive AcU (x:V)(y:V)(H:Hp)(Q:VK):Prop
 |same (d:D)(h0:Is H d x)(h1:Is H d y)(h2:d= .non\/trD d=v_)(h3:dp d<=60)(h4:Q (.bl v_) H):AcU x y H Q
 |nt (p:Addr)(us:List V)(h0:x= .non)(h1:y=-p)(h2:H p=u_ (¬us))(h3:Q (.bl Vg) H):AcU x y H Q
variable {X:Cx}
def Ea (hu:X.A.units+64<Vr):OpR X (Vs .Eq) AcU:=by
 exists 2,x,y,v,u,Q,I,O,U,h;have aa:X.A.units<cLine:=by omega
 rcases h with⟨d,h1,h2,rfl|hd,hp,q⟩|⟨p,us,rfl,rfl,hp,q⟩
 .cases(show x= .non from h1)
  cases(show y= .non from h2)
  exact QJ oq s σ H .non .non v u Q I O U ⟨1,by simpa using q⟩
 .refine BD hu oq s σ H x y v u Q I O U ⟨d,d,h1,h2,hd,hd,hp,?_⟩;rwa[(AH (MV hd)).mpr rfl]
 .cases O;cases U;erw[I.tuple (.inl (.of hp)),its,_,tq,_];exact Pa tq aa X.prog X.w X.xe _ ⟨.bl Vg,H,I,1,q⟩
def NI {K:o0}{a:o3}{c:Int}{xs:oj V}{g:TG}{tb:TS}{D:mF}{σ:L2.St}{H:Hp}(O:Nat->L2.St->Hp->Prop)(h0:O 0 σ H)(hl:∀i σ H,i<=↑xs->O i σ H->SqT K H a xs)
  (hs:∀i x σ H p,xs[i]? =u_ x->O i σ H->H p=U_->g (-p) σ (upd H p (-[.int (c+i),x])) λσ2 H2=>tb {D with nx:=O (i+1),ct:=O (i+1),bk:=D.nx} σ2 H2) (hd:∀σ H,O ↑xs σ H->D.nx σ H):
  ∃W:Nat->Nat->L2.St->Hp->Prop,(∃m,W 0 m σ H)/\∀i m σ H,W i m σ H->
   ((Ite K a c).stop i H/\D.nx σ H)\/((Ite K a c).go i H/\∃N:L2.St->Hp->Prop,(∀σ' H',N σ' H'->∃m',m'<m/\W (i+1) m' σ' H')/\∀x H',(Ite K a c).yld i H x H'->g x σ H' λσ2 H2=>tb {D with nx:=N,ct:=N,bk:=D.nx} σ2 H2):=by
 exists λi m σ H=>m=↑xs-i/\i<=↑xs/\O i σ H,⟨↑xs,by simp,uS _,h0⟩
 rintro i m σ H ⟨rfl,hi,p⟩;have q:=hl i σ H hi p;by_cases U:i<↑xs
 .refine .inr ⟨⟨xs,xs[i],q,by simp[U]⟩,O (i+1),λσ' H' p'=>⟨↑xs-(i+1),(),1,U,p'⟩,λx H' y=>?_⟩
  erw[y,p2,y2,rfl,hp,rfl,y];exact hs i y2 σ _ p2 (y xs q) p hp
 .have e:i=↑xs:=by omega
  subst e;exact .inl [[xs:q:1]:hd σ H p]
inductive DB:Sp
 |mk (v:V)(d:D)(_:vs= [v])(_:Is H d v)(_:(d= .non\/∃k e,d=-[!k,e]))(_:∀H',ig H H'->Q (.bl (yL (yV d))) H')
inductive CG (rs:List Rw)(own:Str):Rn->List D->Rn->Prop
 |nil (r:Rn):CG rs own r [] r
 |cons {r r':Rn}{a:D}{gs:List D}(u:Str)(d:D)(h1:r.th=-[-"asks",-[!u,d]])(h2:AU u a=v_)(h3:CG rs own (l7 rs own r a) gs r'):CG rs own r (.tup [-[!u,d],a]::gs) r'
def Acp {rs:oj Rw}{own:Str}:∀{as:oj D}{r r':Rn},Ch rs own r as r'->∃gs,r'.gs=r.gs++gs/\CG rs own r gs r'
 |_,_,_,.nil r=>⟨[],by simp,.nil r⟩
 |_,r,_,.cons (a:=a) u d h1 h2 h3=>by
  erw[Acp h3,gs,e,h];exists .tup [-[!u,d],a]::gs,?_,.cons u d h1 h2 h;rw[e,AS,h1];simp[xk]
inductive Om (C:Addr):Sp
 |mk (m:Mc)(r r':Rn)(t:Addr)(us:List V)(gs:List D)(_:vs= [-m.x,-t])(_:yC C H m r)(_:C6 m.rs r)(_:QW m.rs)(_:↑m.own<=100)(_:H t=u_ (¬us))(_:L2.IsL H gs us)(_:CG m.rs m.own r gs r')(_:∀H',Mv m H H'->yC C H' m r'->C6 m.rs r'->Q (.int (↑gs:Int)) H')
abbrev Aeg (r:Rn)(en:D):Prop:=(en=r.th/\Qy r.th=Vg/\∃k x,en= .tup [!k,x]/\k≠"stuck")\/∃z,en=Cp z/\r.th=AcT z
inductive OH:Sp
 |mk (rv:V)(own:Str)(tr ta:Addr)(us:List V)(ev:V)(rs:List Rw)(r:Rn)(gs:List D)(_:vs= [rv,!own,-tr])(_:Is H (Yd rs) rv)(_:QW rs)(_:nm own=v_)(_:H tr=u_ (-[-ta,ev]))(_:H ta=u_ (¬us))(_:L2.IsL H gs us)(_:CG rs own (R0 rs own) gs r)(_:Is H r.th ev)(_:Qy r.th=Vg)(_:∀H',ig H H'->Q (.bl v_) H')
inductive Lf:Sp
 |mk (rv:V)(own:Str)(ta:Addr)(us:List V)(ev:V)(rs:List Rw)(r:Rn)(gs:List D)(en:D)(_:vs= [rv,!own,-ta,ev])(_:Is H (Yd rs) rv)(_:QW rs)(_:nm own=v_)(_:H ta=u_ (¬us))(_:L2.IsL H gs us)(_:CG rs own (R0 rs own) gs r)(_:Is H en ev)(_:Aeg r en)(_:∀H',ig H H'->Q (.bl v_) H')
inductive DA:Sp
 |mk (sv:V)(own:Str)(ta:Addr)(us:List V)(ev:V)(qs:List (Str×D))(src:D)(as:List D)(en:D)(_:vs= [sv,!own,-ta,ev])(_:Is H src sv)(_:nm own=v_)(_:H ta=u_ (¬us))(_:L2.IsL H as us)(_:Fn qs own src as en)(_:Is H en ev)(_:EnS en)(_:nD en=v_/\dp en<=20)(_:∀H',ig H H'->Q (.bl v_) H')
section
variable {P:o9}{w:og}{K:o0}{mg:Str->om o6}{base:o8}{a:Ad}{g:Ga}
def oS:#[T,2,a.f_has_run,a.d_has_run,["source"],DB]:=by
 have Q2:=#[An,T];exists 9,T.mP,Cu
 erw[h,v,d,rfl,iv,hd,k];have hs:=uB;exists 3,%[|#[qo,#[Qp,yf,#[qq,Q2,T.iq,#v[pv 0]],qO]]]
 exists 0,v,d,1,iv,hd,λu H1 s1 O=>[1:?_];have e:decide (u=V.non)=yL (yV d):=by
  cases hd:yL (yV d) with
  |true=>
   cases U:yV d with
   |non=>rw[U] at O;exact ud O
   |_=>rw[U] at hd;cases hd
  |false=>exact ug (jQ O λz=>by rw[z] at hd;cases hd)
 rw[e];exact k _ s1
def Ee:#[C,8,a.jv,a.jx,["machine","asks"],(Om a.qm)]:=by
 have Qs:=#[oP,T];have Ys:FnOk P w K mg base (CX1 P w) 6 a.Yz a.Yx ["self","tree"] (MZ a.qm):=(Nm T C).up0;exists 9,T.iP,yE
 erw[h,m,r0,r',t,us,gs,rfl,M0,ak,hR,al,ht,ad,am,k];have hs:=uB;have U:↑us=↑gs:=↑ad;exists 3,%[#[YO,#[Bz,8,_,T.wL,pv 1,_],#[oE,6,rfl,QM #[qP,(2),yE.nd] (QM #[qP,(3),yE.nd] XE),_,_],%[#[qF,#[qp,#[wM,1,hr.units],#[QN,pv 0,T.qu,T.iG,Qs],#[qD,#v[ql,#[qH,qC,pv 3]]],qw _],%[|#[qo,pv 2]],qt]|#[O2,26,pv 0,T.qu,T.iI.h,Ys,hr.mono (),T.iI.b,#v[#[qH,qC,pv 3]],[1:1],_,C.m_BadAnswer,C.e_BadAnswer,(λ_ _=>%[|#[qo,pv 2]]),_,_,_,_,_]]]|#[qo,#[qz,qT,T.Yo,uL,#v[pv 1]]]]
 exists 8,N1,q1
 exists 0,t,us,1,SqT.of ht,λhsz=>?_
 let J_:Nat->L2.St->Hp->Prop:=λi σ H'=>∃(r:Rn) (x2 x3:om V),σ= [u_ (-m.x),u_ (-t),x2,x3]/\yC a.qm H' m r/\C6 m.rs r/\CG m.rs m.own r (gs.drop i) r'/\Mv m H H'
 refine NI (c:=0) (xs:=us) J_ ⟨r0,_,0,M0,ak,am,Mv.refl _ _⟩ (λi σ H' hi ⟨_,_,_,_,_,_,_,mv⟩=>SqT.of (mv.tk.tup _ _ ht)) ?_ ?_
 .rintro i y σ H' p hy ⟨r,x2,x3,rfl,M,hO,hc,mv⟩ hp;have ae:i<↑gs:=by rw[<-U];exact(Af.mp hy).1
  have ao:gs.drop i=gs[i]::gs.drop (i+1):=uV ae;rw[ao] at hc;generalize ap:gs[i]=gi at hc;obtain⟨y',af,iy⟩:=ad.get (i:=i) (d:=gi) (by rw[uh ae,ap])
  rw[hy] at af;cases af;have s1:=qf hp (-[.int (0+(i:Int)),y]);have M1:=M.same s1;have aa:=mv.trans (Mv.of s1);have e1:(upd H' p (-[.int (0+(i:Int)),y])) p=u_ (-[.int (0+(i:Int)),y]):=qg;generalize upd H' p (-[.int (0+(i:Int)),y])=H1 at s1 M1 aa e1⊢;have aq:=iy.mono aa.tk;cases hc with
  |cons u d h1 h2 h3=>
   rename_i an
   erw[aq,tp,up,rfl,ag,v1,r1,rfl,i1,v2,r2,rfl,i2,au];cases(show r2= [] from au)
   exists p,0,SqT.of e1,1,_,0,_,0,1;show nw _ _ _ _ H1;exists 8,B1,b1;erw[id M1,aw,ax,_,_,_,_,ay,aA,_]
   exists 0,m.x,aw,ax,1,ay,aA.meth _ (),m,r,1,M1,λv5 i5=>?_
   rw[h1] at i5
   exists 0,tp,_,_,0,1,SqT.of ag,qI (j:=0) rfl,sml rfl,λl hl=>?_;have s2:=qf hl (-[-"asks",v1]);have ac:=hO.gd;rw[h1] at ac;have O:=ZK ac.1;have ah:dpL [-"asks",-[!u,d]]<=60:=by
    have:=ac.2;simp![dp] at this⊢;omega
   simp![nD] at O
   exists [-"asks",-[!u,d]],[-"asks",-[!u,d]],i5.mono s2.tk,Is.new (ds:= [-"asks",-[!u,d]]) ⟨_,0,QU (),_,0,i1,1⟩ hl,O,O,ah,0
   rw[(eqNL_iff O).mpr rfl];refine iR (b1 _ _ ?_);have M2:=M1.same s2;have aB:=aa.trans (Mv.of s2);erw[id M2,aC,aD,_,_,_,_,aE,aF,_]
   exists 0,m.x,aC,aD,1,aE,aF.meth _ (),0,tp,_,_,0,1,SqT.of (s2 _ _ ag),qI (j:=1) rfl,m,r,v2,u,d,an,1,M2,hO,h1,i2.mono s2.tk,hR,al,h2,λH3 aG M3=>?_
   exact⟨l7 m.rs m.own r an,_,0,M3,AR hR hO (IT h1) (AT h2),h3,aB.trans aG⟩
 .rintro σ H' ⟨r,x2,x3,rfl,M,hO,hc,mv⟩;rw[U,RK] at hc;cases hc;refine q1 _ _ ?_
  exists 0,t,us,1,.inr (SqT.of (mv.tk.tup _ _ ht));rw[U];exact k _ mv M hO
variable {C dx:o3}{H:Hp}{v:V}{rs:oj Rw}{own:Str}{Q:VK}
def Nw {br bn:o3}{E:XK}{x:o3}(hv:Is H (Yd rs) v)(hR:QW rs)(O:nm own=v_)(hx:H x=U_)(aa:H dx=U_)(q:∀(db dg:o3) (H':Hp),H db=U_->H dg=U_->ig H H'->yC C H' ⟨x,db,dg,rs,own⟩ (R0 rs own)->Q .non H'):
  KS C br bn [-x,v,!own] (upd (upd H dx (.own x)) x (.ins C dx [])) Q E:=by
 have U:ig H (upd (upd H dx (.own x)) x (.ins C dx [])):=λb o h=>by rwa[qj (qk h hx),qj (qk h aa)]
 have hl:=xO O;exists x,dx,v,!own,Yd rs,!own,1,qg,hv.mono U.tk,QU (),λh=>?_,λ_ h=>?_,λac ag e1 ad e2 _ _ H1 db dg kept ae af M1=>?_
 .rw[hR.read] at h;cases h
 .rw[show mG (!own)=nm own from rfl,O] at h;cases h
 .cases e2;have:ac=rs:=by
   have h1:=ad.read;rw[<-e1,hR.read] at h1;exact(uJ h1).symm
  subst this;exact q db dg H1 (U.free ae) (U.free af) (λb o h=>kept b o (U b o h) (qk h hx)) M1
variable {H1 H2:Hp}
def DJ {m:Mc}(s:ig H H1)(v:Mv m H1 H2)(h1:H m.x=U_)(h2:H m.db=U_)(h3:H m.dg=U_):ig H H2:=λb o e=>v.kept b o (s b o e) (qk e h1) (qk e h2) (qk e h3)
def Se:#[C,9,a.f_does,a.d_does,["rule","own","run"],OH]:=by
 have yX:=#[Ee,T,C];have yi:=#[qad,T,C];have Qs:=#[oP,T];have qY:=#[KK,T];exists 9,T.EZ,DI
 erw[h,rv,own,tr,ta,us,ev,rs,r,gs,rfl,hv,hR,ac,aa,ad,ae,ao,ie,hw,k];have hs:=uB;have aw:=xO ac;exists 3,%[#[qE,(3),DI.nd,#[Xz,T.wt,yi,T.WS,T.iQ,oG,#v[pv 0,pv 1]]],#[qF,#[qp,D5,#[qq,yX,T.iP,#v[pv 3,#[qH,qC,pv 2]]],#[qz,qT,T.Yo,uL,#v[#[qH,qC,pv 2]]],qw _],%[|#[qo,Yc]],qt]|#[qo,#[ZL,#[Abw,4,#[QN,pv 3,T.qu,T.im,qY]],#[zl,#[Qp,#[oO,1,hr.units],#[QN,pv 3,T.qu,T.iG,Qs],#[qH,qC,pv 2]]]]]]
 exists 8,N1,q1
 exists 0,0,λx dx hx ap nx=>Nw hv hR ac hx ap λdb dg H1 aq au s1 M1=>[1:q1 _ _ ?_];exists 8,N2,q2
 exists 5
 refine⟨0,0,tr,_,_,0,1,SqT.of (s1 _ _ aa),qI (j:=0) rfl,⟨x,db,dg,rs,own⟩,R0 rs own,r,ta,us,gs,1,M1,MO hR,hR,by show ↑own<=100;omega,s1 _ _ ad,ae.mono s1.tk,ao,λH2 mv M2 hO=>?_⟩
 have s2:ig H H2:=DJ s1 mv hx aq au
 exists 0,tr,_,_,0,1,SqT.of (s2 _ _ aa),qI (j:=0) rfl,ta,us,1,.inr (SqT.of (s2 _ _ ad)),_,0,1,0;rw[↑ae];refine iU (ug ()) (q2 _ _ ?_)
 erw[id M2,af,ag,_,_,_,_,ah,ak,_];erw[hO.two,wd,ed,U]
 exists 0,x,af,ag,1,ah,ak.meth _ (),⟨x,db,dg,rs,own⟩,r,1,M2,.inr [wd:ed:U]
 rw[hw]
 exists 0
 exists 0,lN rfl ?_;have O:nL [!wd,ed]=true:=by
  have:=ZK hO.gd.1;rw[U] at this
  simpa only [nD] using this
 have al:dpL [!wd,ed]<=60:=by
  have:=hO.gd.2;rw[U] at this;simp![dp] at this⊢;omega
 exists 0,x,af,ag,1,ah,ak.meth _ (),⟨x,db,dg,rs,own⟩,r,1,M2,λv5 i5=>?_
 have am:=ie.mono s2.tk;rw[U] at i5 am
 exists 0,tr,_,_,0,1,SqT.of (s2 _ _ aa),qI (j:=1) rfl,_,_,i5,am,O,O,al;rw[(eqNL_iff O).mpr rfl];exact k _ s2
def LK:#[C,10,a.Wg,a.wW,["rule","own","asks","end"],Lf]:=by
 have O:=#[Se,T,C];have yX:=#[Ee,T,C];have yi:=#[qad,T,C];have Qs:=#[oP,T];exists 9,T.mU,ZW
 erw[h,rv,own,ta,us,ev,rs,r,gs,en,rfl,hv,hR,aa,ac,ad,ae,ie,hE,k];have hs:=uB;have aA:=xO aa;exists 3,%[#[qF,#[qp,CC,#[qH,qC,pv 3],ql,qw _],%[|#[qo,#[qq,O,T.EZ,#v[pv 0,pv 1,#[qD,#v[pv 2,pv 3]]]]]],qt],#[qE,(4),ZW.nd,#[Xz,T.wt,yi,T.WS,T.iQ,oG,#v[pv 0,pv 1]]]|#[qo,#[ZL,#[Qp,QJ,#[qq,yX,T.iP,#v[pv 4,pv 2]],#[qz,qT,T.Yo,uL,#v[pv 2]]],#[zl,#[Qp,#[oO,1,hr.units],#[QN,pv 4,T.qu,T.iG,Qs],#[qD,#v[ql,#[qD,#v[ql,#[qH,qC,pv 3]]]]]]]]]]
 exists 8,N1,q1;rcases hE with⟨e0,hw,kk,ex,ee,hk⟩|⟨z,ee,af⟩
 .rw[ee] at ie;erw[id ie,te,ue,rfl,U,w1,r1,rfl,[rfl,ag],ah]
  exists 0,te,_,_,0,1,SqT.of U,qI (j:=0) rfl,1,0,lN (by simpa using hk) ?_
  exists 0,0,0,0,sml rfl,λtr ak=>?_;have m1:=qf ak (-[-ta,-te])
  exists rv,own,tr,ta,us,-te,rs,r,gs,1,hv.mono m1.tk,hR,aa,qg,m1 _ _ ac,ad.mono m1.tk,ae,?_,hw,λH' s'=>k H' (m1.trans s');rw[<-e0,ee];exact ie.mono m1.tk
 .rw[ee] at ie;erw[id ie,te,ue,rfl,U,w1,r1,rfl,[rfl,ag],w2,r2,rfl,[rfl,al],am];cases(show r2= [] from am)
  exists 0,te,_,_,0,1,SqT.of U,qI (j:=0) rfl,1,0,iU (by simp) (q1 _ _ ?_)
  exists 8,N2,q2
  exists 0,0,λx dx hx ao nx=>Nw hv hR aa hx ao λdb dg H1 ap aq s1 M1=>[1:q2 _ _ ?_]
  exists 5
  refine⟨0,0,⟨x,db,dg,rs,own⟩,R0 rs own,r,ta,us,gs,1,M1,MO hR,hR,by show ↑own<=100;omega,s1 _ _ ac,ad.mono s1.tk,ae,λH2 mv M2 hO=>?_⟩
  have s2:ig H H2:=DJ s1 mv hx ap aq
  exists 0,ta,us,1,.inr (SqT.of (s2 _ _ ac)),1,0;rw[↑ad];refine lN (ud rfl) ?_;erw[id M2,au,aw,_,_,_,_,ax,ay,_]
  exists 0,x,au,aw,1,ax,ay.meth _ (),⟨x,db,dg,rs,own⟩,r,1,M2,λv5 i5=>?_
  exists 0,te,_,_,0,1,SqT.of (s2 _ _ U),qI (j:=1) rfl,sml rfl,λt1 h1=>[sml rfl:λt2 h2=>?_];have n1:=qf h1 (-[V.str "thing",V.str z]);have n2:=qf h2 (-[V.str "asks",V.ref t1]);have j1:=Is.new (ds:= [-"thing",!z]) ⟨_,0,QU (),_,0,[1:al],1⟩ h1
  have j2:=Is.new (ds:= [-"asks",-[-"thing",!z]]) ⟨_,0,QU (),_,0,j1,1⟩ h2
  rw[af] at i5;have nl:nL [-"asks",-[-"thing",!z]]=true:=rfl
  exists _,_,i5.mono (n1.trans n2).tk,j2,nl,nl,by simp[dpL,dp]
  rw[(eqNL_iff nl).mpr rfl];exact k _ ((s2.trans n1).trans n2)
inductive GoR (own:Str)(rl:D)(gs:List D)(en:D):Prop
 |lack (h0:yL rl=v_)(h1:gs= [])(h2:en=flt "lack"):GoR own rl gs en
 |bad (h0:yL rl=Vg)(h1:QK rl=U_)(h2:gs= [])(h3:en=flt "rule"):GoR own rl gs en
 |run (rs:List Rw)(r:Rn)(h0:yL rl=Vg)(h1:QK rl=u_ rs)(h3:CG rs own (R0 rs own) gs r)(h5:Aeg r en):GoR own rl gs en
def AdW {r:Rn}{en:D}(h8:ThS r.th)(O:EnS en)(h4:en=r.th\/∃z,en=Cp z/\r.th=AcT z):Aeg r en:=by
 rcases h4 with h4|h4
 .left;rcases O with⟨z,e⟩|⟨x,e,_⟩|⟨z,e⟩
  .exact⟨h4,by rw[<-h4,e];exact(show decide (("fault":Str)="asks")=Vg by decide+kernel),_,_,e,()⟩
  .exact⟨h4,by rw[<-h4,e];exact(show decide (("said":Str)="asks")=Vg by decide+kernel),_,_,e,()⟩
  .rw[h4] at e;exact A8 e (Bd h8)
 .exact .inr h4
variable {qs:oj (Str×D)}{src:D}
def AdU {as:oj D}{en:D}(h:Fn qs own src as en)(O:EnS en):(∃z:Str,src= .tup [-"made",!z]/\as= []/\en=Cp z)\/∃pre gs rl,Hs src pre rl/\as=pre++gs/\GoR own rl gs en:=by
 cases h with
 |wait z h0 h1 h2=>exact .inl ⟨z,h0,h1,h2⟩
 |lack pre rl h0 h1 h3 h4=>exact .inr ⟨pre,[],rl,h0,by rwa[ve],.lack h3 rfl h4⟩
 |bad pre rl h0 h1 h3 h5 h4=>exact .inr ⟨pre,[],rl,h0,by rwa[ve],.bad h3 h5 rfl h4⟩
 |run pre rl rs r h0 h1 h3 h5 h6 h7 h8 h4=>
  erw[Acp h6,gs,e,U];rw[show(R0 rs own).gs= [] from wN _ _ _ _,tY] at e
  rw[e] at h1;exact .inr ⟨pre,gs,rl,h0,h1,.run rs r h3 h5 U (AdW h8 O h4)⟩
def Eo:#[C,11,a.zB,a.XI,["source","name","asks","end"],DA]:=by
 have U:=#[LK,T,C];have WF:=#[oR,T,C];exists 9,T.mB,Yh
 erw[h,sv,own,ta,us,ev,qs,src,as,en,rfl,ax,aB,ae,af,hF,ie,hE,aL,k];have hs:=uB;have two:=AdU hF hE;have O:∃kk e,src=-[!kk,e]:=by
  rcases two with⟨z,h,_⟩|⟨_,_,_,⟨h,_⟩|⟨z,h,_⟩,_⟩
  .exact[_:_:h]
  .exact[_:_:h]
  .exact[_:_:h]
 erw[O,kk,e0,O];rw[O] at ax;erw[ax,ts,uu,rfl,ao,w1,r1,rfl,[rfl,_],w2,r2,rfl,aq,aC];cases(show r2= [] from aC)
 exists 3,%[#[qE,(4),Yh.nd,#[qH,qC,pv 0]],#[qF,#[qp,QJ,#[qH,qC,pv 0],ql,qw _],%[#[qF,#[qp,#[Kw,1,hr.units0],pv 2,#[qD,qd],qw _],%[|#[qo,#[Qp,#[oO,1,hr.units],pv 3,#[qD,#v[ql,#[qH,qC,pv 0]]]]]],qt],#[qF,#[qp,#[wM,1,hr.units],#[qH,qC,#[qH,qC,pv 2]],#[qD,#v[ql,#[qH,qC,pv 0]]],qw _],%[|#[qo,Yc]],qt],#[qE,(4),Yh.nd,#[qH,qC,#[qH,qC,pv 2]]]|#[qE,(2),Yh.nd,#[xg,DE,pv 2,#[jN,qi],We]]],qt],#[qF,#[qp,yf,pv 4,qO,qw _],%[|#[qo,#[ZL,#[Qp,#[Kw,1,hr.units0],pv 2,#[qD,qd]],#[zl,#[Qp,#[oO,1,hr.units],pv 3,#[qD,#v[ql,ql]]]]]]],qt],#[qF,#[Qi,#[Qb,#[qq,WF,T.mO,#v[pv 4]]]],%[|#[qo,#[ZL,#[Qp,#[Kw,1,hr.units0],pv 2,#[qD,qd]],#[zl,#[Qp,#[oO,1,hr.units],pv 3,#[qD,#v[ql,ql]]]]]]],qt]|#[qo,#[qq,U,T.mU,#v[pv 4,pv 1,pv 2,pv 3]]]]
 exists 8,N1,q1
 exists 0,ts,_,_,0,1,SqT.of ao,qI (j:=1) rfl,q1 _ _ ?_;exists 8,N2,q2;have ay:∀(aa:V) (rl:D) (gs:oj D) (ag:o3) (ah:oj V) (H1:Hp),ig H H1->Is H1 rl aa->H1 ag=u_ (¬ah)->L2.IsL H1 gs ah->GoR own rl gs en->N2 [u_ (-ts),u_ (!own),u_ (-ag),u_ ev,u_ aa] H1:=by
  intro aa rl gs ag ah H1 s1 ir ak ac ap;refine q2 _ _ ?_;exists 8,N3,q3
  exists 0,1,0;cases ap with
  |lack h0 h1 h2=>
   have aD:rl= .non:=by
    cases rl with
    |non=>rfl
    |_=>cases h0
   rw[aD] at ir;cases(show aa= .non from ir)
   refine lN (ud rfl) ?_;rw[h1] at ac;cases(show ah= [] from ac)
   exists 0,uS _,λt0 h0=>⟨ag,t0,[],1,1,SqT.of (qf h0 _ _ _ ak),SqT.of qg,0,lN rfl ?_⟩;have m0:=qf h0 (.tup ([]:oj V))
   exists 0,sml rfl,λt1 h1=>?_;have m1:=qf h1 (-[V.str "fault",V.str "lack"]);have i1:=Is.new (ds:= [-"fault",-"lack"]) ⟨_,0,QU (),_,0,QU (),1⟩ h1
   have ad:=ie.mono ((s1.trans m0).trans m1).tk;rw[h2] at ad
   exists [-"fault",-"lack"],[-"fault",-"lack"],ad,i1,1,1,by simp[dpL,dp]
   rw[(eqNL_iff (show nL [-"fault",-"lack"]=v_ from rfl)).mpr rfl]
   exact k _ ((s1.trans m0).trans m1)
  |bad h0 h1 h2 h3=>
   have au:aa≠ .non:=jQ ir λz=>by rw[z] at h0;cases h0
   refine iU (ug au) (q3 _ _ ?_);exists 8,N4,q4
   exists 0,aa,rl,1,ir,λH2 s2=>[0:?_];rw[h1];refine lm ?_;rw[h2] at ac;cases(show ah= [] from ac)
   exists 0,uS _,λt0 h0=>⟨ag,t0,[],1,1,SqT.of (qf h0 _ _ _ (s2 _ _ ak)),SqT.of qg,0,lN rfl ?_⟩;have m0:=qf h0 (.tup ([]:oj V))
   exists 0,sml rfl,λt1 h1=>?_;have m1:=qf h1 (-[V.str "fault",V.str "rule"]);have i1:=Is.new (ds:= [-"fault",-"rule"]) ⟨_,0,QU (),_,0,QU (),1⟩ h1
   have sm:=((s1.trans s2).trans m0).trans m1;have ad:=ie.mono sm.tk;rw[h3] at ad
   exists [-"fault",-"rule"],[-"fault",-"rule"],ad,i1,1,1,by simp[dpL,dp]
   rw[(eqNL_iff (show nL [-"fault",-"rule"]=v_ from rfl)).mpr rfl]
   exact k _ sm
  |run rs r h0 h1 h3 h5=>
   have au:aa≠ .non:=jQ ir λz=>by rw[z] at h0;cases h0
   refine iU (ug au) (q3 _ _ ?_);exists 8,N4,q4
   exists 0,aa,rl,1,ir,λH2 s2=>[0:?_];rw[h1];refine iR (q4 _ _ ?_);erw[Bt h1,hR,aE];rw[aE] at ir;exact⟨0,0,0,0,aa,own,ag,ah,ev,rs,r,gs,en,1,ir.mono s2.tk,hR,aB,s2 _ _ ak,ac.mono s2.tk,h3,ie.mono (s1.trans s2).tk,h5,λH3 s3=>k _ ((s1.trans s2).trans s3)⟩
 exists 0,ts,_,_,0,1,SqT.of ao,qI (j:=0) rfl,1,0;rcases two with⟨z,h,ha,aF⟩|⟨pre,gs,rl,⟨h,al⟩|⟨z,h,al⟩,ha,ap⟩
 .rw[O] at h;cases h;erw[aq,rfl,aw];refine lN (ud rfl) ?_;rw[ha] at af;cases(show us= [] from af)
  show nw _ _ _ _ H;exists 8,A1,a1
  exists 0,uS _,λt0 h0=>⟨ta,t0,[],1,1,SqT.of (qf h0 _ _ _ ae),SqT.of qg,0,lN rfl ?_⟩;have m0:=qf h0 (.tup ([]:oj V))
  exists 0,0,ts,_,_,0,1,SqT.of (m0 _ _ ao),qI (j:=1) rfl,sml rfl,λt1 h1=>?_;have m1:=qf h1 (-[V.str "stuck",V.str z]);have i1:=Is.new (ds:= [-"stuck",!z]) ⟨_,0,QU (),_,0,[1:aw],1⟩ h1
  have ad:=ie.mono (m0.trans m1).tk;rw[aF] at ad
  exists [-"stuck",!z],[-"stuck",!z],ad,i1,1,1,by simp[dpL,dp]
  rw[(eqNL_iff (show nL [-"stuck",!z]=v_ from rfl)).mpr rfl]
  exact k _ (m0.trans m1)
 .rw[O] at h;cases h;rw[al,tY] at ha;rw[ha] at af;refine iU (ug (λy=>by have:=V.str.inj y;revert this;decide+kernel)) (ay w2 _ gs ta us H (ig.refl _) aq ae af ap)
 .rw[O] at h;cases h;erw[aq,rfl,aw];rw[ha,al] at af;obtain⟨v1,rr,rfl,i1,aG⟩:=(show∃v1 rr,us=v1::rr/\Is H (-[-[-"rule",!z],rl]) v1/\L2.IsL H gs rr from by
   erw[af,v1,rr,e,h1,h2];exact⟨v1,rr,e,h1,h2⟩)
  erw[i1,tp,up,rfl,aA,x1,aM,rfl,aH,x2,aI,rfl,aJ,aK];cases(show aI= [] from aK)
  refine lN (ud rfl) ?_;show nw _ _ _ _ H;exists 8,A1,a1
  exists 0,uS _,λt0 h0=>⟨ta,t0,0,1,SqT.of (qf h0 _ _ _ ae),SqT.of qg,0,iU rfl (a1 _ _ ?_)⟩;have m0:=qf h0 (.tup ([]:oj V));generalize upd H t0 (-[])=H1 at m0⊢;exists 8,A2,a2
  exists 0,ta,_,_,0,1,SqT.of (m0 _ _ ae),qI (j:=0) rfl,tp,_,_,0,1,SqT.of (m0 _ _ aA),qI (j:=0) rfl
  exists 0,ts,_,_,0,1,SqT.of (m0 _ _ ao),qI (j:=1) rfl,sml rfl,λt1 h1=>?_;have m1:=qf h1 (-[V.str "rule",V.str z]);have j1:=Is.new (ds:= [-"rule",!z]) ⟨_,0,QU (),_,0,[1:aw],1⟩ h1
  exists [-"rule",!z],[-"rule",!z],aH.mono (m0.trans m1).tk,j1,1,1,by simp[dpL,dp],0
  rw[(eqNL_iff (show nL [-"rule",!z]=v_ from rfl)).mpr rfl]
  refine iR (a2 _ _ ?_);have am:=m0.trans m1;generalize upd H1 t1 (-[V.str "rule",V.str z])=H2 at am⊢;exists 8,A3,a3
  exists 0,ta,_,_,0,1,SqT.of (am _ _ ae),qI (j:=0) rfl,tp,_,_,0,1,SqT.of (am _ _ aA),qI (j:=1) rfl,a3 _ _ ?_
  exists 0,0,ta,0,SqT.of (am _ _ ae),λhw=>?_,λ_ pp hp=>?_
  .exfalso;have h1:=hw.1;have h1:HT.sIx ↑(_::rr) 0 (u_ ((1:Nat):Int))=0:=h1;rw[HT.sIx_nat] at h1;rw[ui] at h1;omega
  .have hc:nj (V.ref tp::rr) (u_ 1) U_=rr:=by
    rw[show(u_ (1:Int))=u_ ((1:Nat):Int) from rfl,zG (by rw[ui];omega)]
    rfl
   rw[hc];have mp:=am.trans (qf hp (¬rr));exact ay x2 rl gs pp rr _ mp (aJ.mono mp.tk) qg (aG.mono mp.tk) ap
def AbX {K:o0}{b A:o3}{H1:Hp}{tg:TG}{tc:TT}{te:TE}{tl:L2.St}{Q:VK}{xs:oj V}(C:Nat->oj V->Hp->Prop)(hb:H1 b=u_ (¬xs))(hn:↑xs<=Vk)(h0:C 0 [] (upd H1 A (.lst [])))(hC:∀i ys H,C i ys H->ig H1 H)
  (aa:∀i x ys H O U,xs[i]? =u_ x->C i ys H->H A=u_ (.lst ys)->tg x (O::U::tl) H λσ2 H2=>tc σ2 H2 λc H3=>if c=v_ then te σ2 H3 λy H4=>H4 A=u_ (.lst ys)/\(∃u0 u1,σ2=u0::u1::tl)/\C (i+1) (ys++ [y]) (upd H4 A (.lst (ys++ [y]))) else H3 A=u_ (.lst ys)/\(∃u0 u1,σ2=u0::u1::tl)/\C (i+1) ys H3)
  (hQ:∀ys H,C ↑xs ys H->H A=u_ (.lst ys)->Q (-A) H):CQ A (Itt K b) tg tc te (U_::U_::tl) H1 Q:=by
 exists ↑xs,λi σ ys H=>(∃O U,σ=O::U::tl)/\C i ys H,hn,[[U_:U_:1]:h0],?_,?_
 .rintro i σ ys H hi ⟨⟨O,U,rfl⟩,hc⟩ hl hy;have sm:=hC _ _ _ hc;have e0:xs[i]? =u_ xs[i]:=uh hi;exists ⟨_,_,SqT.of (sm _ _ hb),e0⟩;rintro x H' ⟨rfl,hx⟩;have e:=hx _ (SqT.of (sm _ _ hb));exact aa i x ys H' O U e hc hl
 .rintro σ ys H ⟨_,hc⟩ hl;exact[[_:SqT.of (hC _ _ _ hc _ _ hb):uj _]:hQ ys H hc hl]
abbrev xN (H:Hp)(d:o3)(ps:oj (Str×D)):Prop:=∃vs:oj (Str×V),H d=u_ (.dK (jM vs))/\vs.map (·.1)=ps.map (·.1)/\L2.IsL H (ps.map (·.2)) (vs.map (·.2))
variable {H':Hp}
def xN.same {d:o3}{ps:oj (Str×D)}(h:xN H d ps)(s:ig H H'):xN H' d ps:=by
 erw[h,vs,h1,h2,h3];exact⟨vs,s _ _ h1,h2,h3.mono s.tk⟩
abbrev AeJ (qs ers:oj (Str×D))(kd z:Str)(an:D)(b:Bool):Prop:=(AeI qs ers kd z an/\b=v_)\/(kd="thing"/\nm z=v_/\(∃s,g0D z (qA qs z)=u_ s)/\z∉ers.map (·.1)/\b=Vg)
inductive kz (CP:Addr):Sp
 |mk (px ed t:Addr)(av:V)(kd z:Str)(an:D)(qs ers:List (Str×D))(b:Bool)(_:vs= [-px,-ed,-t,av])(_:H t=u_ (-[!kd,!z]))(_:yk CP H px qs)(_:Qn qs)(_:xN H ed ers)(_:Is H an av)(_:↑z<=1000)(_:AeJ qs ers kd z an b)(_:∀H',ig H H'->Q (.bl b) H')
inductive Ld (CP:Addr):Sp
 |mk (px sd ed ts ta:Addr)(us:List V)(ev:V)(m:Str)(as:List D)(en:D)(qs ers es:List (Str×D))(b:Bool)(_:vs= [-px,-sd,-ed,-ts])(_:H ts=u_ (-[!m,-ta,ev]))(_:H ta=u_ (¬us))(_:L2.IsL H as us)(_:Is H en ev)(_:yk CP H px qs)(_:Qn qs)(_:xN H sd es)(_:xN H ed ers)(_:nm m=v_)(_:(Rst qs ers es m as en/\EnS en/\b=v_)\/(m∉ers.map (·.1)/\(∃s,g0D m (qA qs m)=u_ s)/\(∃z,as= [-[-[-"thing",!z],-"x"]]/\nm z=v_/\(∃s,g0D z (qA qs z)=u_ s)/\z∉ers.map (·.1))/\b=Vg))(_:∀H',ig H H'->Q (if b=v_ then .non else -"answer") H')
def sY (U:Qn qs){n:Str}{sv:V}(h1:n>qs.map (·.1)->Is H (qA qs n) sv)(h2:n∉qs.map (·.1)->sv= .non):∃d,Is H d sv/\(d= .non\/∃k e,d=-[!k,e])/\d=qA qs n/\yL (yV d)=(g0D n (qA qs n)).isSome:=by
 by_cases c:n>qs.map (·.1)
 .erw[jF U c,_,kk,e,hd,_];exists _,h1 c,.inr [kk:e:hd],1;rw[hd];unfold yV g0D
  try dsimp only
  by_cases O:kk="leaf"
  .rw[A6 O,A6 O];rfl
  .rw[A4 O,A4 O];split<;>rfl
 .exists .non,h2 c,.inl rfl,(Yj c).symm;cases hg:g0D n (qA qs n) with
  |none=>rfl
  |some s=>exact A8 ((QC qs).gn n s hg) c
def CI:#[C,5,a.jo,a.jG,["project","earlier","ask","answer"],(kz a.qG)]:=by
 have QP:=#[Xg,T];have WO:=#[oS,T];have qM:=#[Ya,T];have yx:=#[oQ,T];refine T.lH.F.ok Y9 () (λ_ _ _ s H vs Q E hr h=>?_)
 erw[h,px,ed,t,av,kd,z,an,qs,ers,b,rfl,ht,hP,hq,hT,ia,a1,hA,k];have hs:=uB;exists 3,%[@qF _ _ _ _ _ _ _ _ #[Bv,7,#[qp,CC,#[qH,qC,pv 2],ql,qw _],#[qal,4,#[Qi,#[Qb,#[qq,QP,T.iD,#v[#[qH,qC,pv 2]]]]]]].pt %[|#[qo,Yc]] qt,#[qF,#[qp,QS,#[qH,qC,pv 2],#[qD,#v[ql,ql]],#[w]],%[|#[qo,#[Qp,Ea hr.units,pv 3,#[Qj,pv 0,T.Q4,T.iK,yx,#v[pv 2]]]]],qt],#[qF,#[qp,oN,#[qH,qC,pv 2],#[qD,#v[ql,ql]],#[w]],%[|#[qo,Yc]],qt],#[qE,(4),Y9.nd,#[Qj,pv 0,T.Q4,T.ii,qM,#v[#[qH,qC,pv 2]]]],#[qF,#[Qb,#[qq,WO,T.mP,#v[pv 4]]],%[|#[qo,#[Qp,Ea hr.units,#[qah,7,QT hr,pv 1,#[qH,qC,pv 2],⟨1,1,1,1⟩],#[qD,#v[ql,pv 3]]]]],qt]|#[qo,#[Qp,Ea hr.units,pv 3,#[ya,#[qp,yf,pv 4,qO,qw _],qO,#[qH,qC,pv 4]]]]]
 exists 8,N1,q1;have aM:kd≠"names"->nm z=true:=by
  rcases hA with⟨h,_⟩|⟨_,h,_⟩
  .exact h.1
  .exact λ_=>h
 have aq:∀H1,ig H H1->N1 [u_ (-px),u_ (-ed),u_ (-t),u_ av,U_] H1:=by
  intro H1 s1;refine q1 _ _ ?_;have au:=s1 _ _ ht;have aw:=hP.same s1;have aN:=hT.same s1;have aO:=ia.mono s1.tk;erw[id aw,ax,a2,op,a3,hx,_];exists 8,N2,q2
  exists 0,t,_,_,0,1,SqT.of au,qI (j:=0) rfl,sml rfl,λl hl=>?_;have m2:=qf hl (-[V.str "has",V.str "names"])
  exists l,0,.inr (SqT.of qg),1,1,0;have s2:=s1.trans m2;have aa:=m2 _ _ au;have af:=aw.same m2;have ay:=aN.same m2;have ag:=aO.mono m2.tk;have ah:=m2 _ _ hx;generalize upd H1 l (-[V.str "has",V.str "names"])=H2 at s2 aa af ay ag ah⊢;have rest:na kd=Vg->(kd="thing"\/kd="rule")->(g0D z (qA qs z)=U_->an=(Ki (qA qs z)).getD .non/\b=v_)->(∀s,g0D z (qA qs z)=u_ s->(b=v_/\z>ers.map (·.1)/\qA ers z= .tup [-"said",an]/\isT an=v_)\/(b=Vg/\z∉ers.map (·.1)))->N2 [u_ (-px),u_ (-ed),u_ (-t),u_ av,U_] H2:=by
   intro hk ak aP aA;refine q2 _ _ ?_;exists 8,N3,q3
   exists 0,t,_,_,0,1,SqT.of aa,qI (j:=0) rfl,sml rfl,λl2 aQ=>?_;have m3:=qf aQ (-[V.str "thing",V.str "rule"])
   exists l2,0,.inr (SqT.of qg),1,1,0;have aR:inV (V.str kd) [V.str "thing",V.str "rule"]=decide (kd>(["thing","rule"]:oj Str)):=XC kd ["thing","rule"];refine iU (by rw[aR,ud (by rcases ak with rfl|rfl<;>simp)];rfl) (q3 _ _ ?_)
   have s3:=s2.trans m3;have al:=m3 _ _ aa;have aB:=af.same m3;have aC:=ay.same m3;have am:=ag.mono m3.tk;have aD:=m3 _ _ ah;generalize upd H2 l2 (-[V.str "thing",V.str "rule"])=H3 at s3 al aB aC am aD⊢;exists 8,N4,q4
   exists 0,px,ax,0,aD,yy,0,t,_,_,0,1,SqT.of al,qI (j:=1) rfl,px,z,qs,1,aB,λsv h1 h2=>q4 _ _ ?_;exists 8,N5,q5;erw[sY hq h1 h2,d,aE,hd,aS,aT]
   exists 0,sv,d,1,aE,hd,λH4 s4=>[0:?_];rw[aT];have ac:=s3.trans s4;cases O:g0D z (qA qs z) with
   |some sz=>
    refine lN rfl ?_;erw[aC.same s4,vs,ad,aF,aU];have aG:=s4 _ _ al;have U:=am.mono s4.tk;by_cases cz:z>ers.map (·.1)
    .erw[qax aF aU cz,l1,l2];rcases aA sz O with⟨rfl,_,aH,hT⟩|⟨_,hn⟩
     .rw[aH] at l2
      exists 0,ed,1,.inl [_:.inl ad],0,t,_,_,0,1,SqT.of aG,qI (j:=1) rfl,_,mQ.k (k:=Vj z) ad;rw[l1]
      exists 0,sml rfl,λt5 h5=>?_;have m5:=qf h5 (-[V.str "said",av]);have aI:=Jd hT;refine .same (-[-"said",an]) (l2.mono m5.tk) (Is.new (ds:= [-"said",an]) ⟨_,0,QU (),_,0,U,1⟩ h5) (.inr ?_) (by simp![dp,dpL];omega) (k _ (ac.trans m5))
      have h1:=MV (sw hT);show puL [-"said",an]=v_;simp![puL,puD,h1,Vd]
     .exact A8 cz hn
    .rcases aA sz O with⟨_,hn,_⟩|⟨rfl,_⟩
     .exact A8 hn cz
     .exists 0,ed,1,.inl [_:.inl ad],0,t,_,_,0,1,SqT.of aG,qI (j:=1) rfl,_,mQ.k (k:=Vj z) ad;rw[As (by rw[aF];exact cz)]
      exists 0,sml rfl,λt5 h5=>?_;exact .nt t5 _ rfl rfl qg (k _ (ac.trans (qf h5 _)))
   |none=>
    erw[aP O,ha,rfl];refine iU rfl (q5 _ _ ?_);have U:=am.mono s4.tk;have ae:=aE.mono s4.tk
    exists 0,0,1,0;by_cases c:z>qs.map (·.1)
    .erw[jF hq c,_,kk,e,ao,_,aV];rw[ao] at O;have aJ:kk="leaf":=by
      by_cases ck:kk="leaf"
      .exact ck
      .unfold g0D at O
       try dsimp only at O
       rw[A4 ck] at O;split at O<;>cases O
     have hT:=(aV (by rw[aJ];decide+kernel)).2
     have aI:=Jd hT;rw[aS,ao] at ae;erw[ae,ts,us,rfl,aW,w1,r1,rfl,_,w2,r2,rfl,aX,aY];cases(show r2= [] from aY)
     refine iU (ug (λz=>by cases z)) ?_
     exists 0,ts,_,_,0,1,SqT.of aW,qI (j:=1) rfl;have ap:an=e:=by
      rw[ha,ao,aJ]
      rfl
     rw[ap] at U;exact .same e U aX (.inr (sw hT)) () (k _ ac)
    .cases h2 c;refine lN (ud rfl) ?_;have ap:an= .non:=by rw[ha,Yj c];rfl
     rw[ap] at U;exact .same .non U rfl (.inl rfl) (by simp[dp]) (k _ ac)
  rcases hA with⟨⟨_,⟨hk,ha⟩|⟨hk,ak,hc⟩⟩,rfl⟩|⟨rfl,_,⟨sz,O⟩,aZ,rfl⟩
  .refine lN ((Ab7 kd).trans hk) ?_
   exists 0,0,px,ax,0,ah,oV,0,px,t,kd,z,qs,1,af,hq,aa,()
   have aK:=(WM hq z hk).1;have aI:=Jd aK;have fin:∀(v6:V) (H6:Hp),ig H2 H6->Is H6 (xj qs kd z) v6->AcU av v6 H6 (λv H'=>Q v H'):=λv6 H6 s6 i6=> .same (xj qs kd z) (by rw[<-ha];exact ag.mono s6.tk) i6 (.inr (sw aK)) () (k _ (s2.trans s6))
   have aL:kd="has"\/kd≠"has"/\kd="names":=by
    unfold na at hk;by_cases c:kd="has"
    .exact .inl c
    .rw[ug c,TH] at hk;exact .inr [c:um hk]
   rcases aL with c|⟨c',c⟩
   .refine .inl [c:fin _ H2 (ig.refl _) ?_];unfold xj;rw[A6 c];exact QU (by split<;>decide)
   .refine .inr [c:λv6 H6 s6 i6=>fin v6 H6 s6 ?_];unfold xj;rwa[A4 c']
  .refine iU ((Ab7 kd).trans hk) (rest hk ak (λh0=>?_) λs O=> .inl ?_)
   .rcases hc with⟨_,h⟩|⟨⟨s,O⟩,_⟩
    .exact[h:1]
    .rw[h0] at O;cases O
   .rcases hc with⟨h,_⟩|⟨_,h1,h2,h3⟩
    .rw[O] at h;cases h
    .exact⟨1,h1,h2,h3⟩
  .refine iU ((Ab7 "thing").trans ()) (rest () (.inl rfl) (λh0=>?_) λs O=> .inr [1:aZ])
   rw[O] at h0;cases h0
 exists 0,t,_,_,0,1,SqT.of ht,qI (j:=0) rfl,1,0;by_cases ck:kd="names"
 .exact iU (by simp[ck]) (iU rfl (aq H (ig.refl _)))
 .refine lN (by simpa using ck) ?_
  exists 0,t,_,_,0,1,SqT.of ht,qI (j:=1) rfl,!z,!z,1,QU (),λH1 s1=>[0:?_]
  have e:mG (!z)=true:=aM ck;rw[e];exact iR (aq H1 s1)
def Aac (n:Nat)(b:Bool)(h:b=v_\/n=1):(tu n b).all id=b:=by
 rcases h with rfl|rfl
 .simp
 .cases b<;>rfl
def LJ:#[C,12,a.Zv,a.ZO,["project","ends","earlier","step"],(Ld a.qG)]:=by
 have Zh:=#[CI,T,C];have WO:=#[oS,T];have qM:=#[Ya,T];have aG:=#[Eo,T,C];refine T.mH.F.ok YD () (λ_ _ _ s H vs Q E hr h=>?_)
 erw[h,px,sd,ed,ts,ta,us,ev,m,as,en,qs,ers,es,b,rfl,U,al,ae,ie,hP,hq,hS,hT,am,hc,k];have hs:=uB;have a6:=xO am;have ao:m∉ers.map (·.1):=by
  rcases hc with⟨h,_⟩|⟨h,_⟩
  .exact h.nin
  .exact h
 have ap:∃s,g0D m (qA qs m)=u_ s:=by
  rcases hc with⟨h,_⟩|⟨_,h,_⟩
  .exact h.run
  .exact h
 have af:∀x>as,∃kd z an,x= .tup [-[!kd,!z],an]/\↑z<=1000/\AeJ qs ers kd z an b:=by
  rcases hc with⟨h,_,hb⟩|⟨_,_,⟨z,ha,hz,hg,hn⟩,hb⟩
  .intro x hx;erw[h.asks x hx,kd,z,an,e,hl,hA];exact⟨kd,z,an,e,hl,.inl [hA:hb]⟩
  .intro x hx;rw[ha] at hx;cases Ab.mp hx;exact⟨_,_,0,by have:=xO hz;omega,.inr ⟨1,hz,hg,hn,hb⟩⟩
 have aq:b=v_\/↑as=1:=by
  rcases hc with⟨_,_,hb⟩|⟨_,_,⟨z,ha,_⟩,_⟩
  .exact .inl hb
  .right;rw[ha];rfl
 erw[id hP,aH,a7,op,a8,hx,_];have au:↑us=↑as:=↑ae;exists 3,%[#[qE,(4),YD.nd,#[qH,qC,pv 3]],#[qE,(5),YD.nd,#[qH,qC,pv 3]],#[qE,(6),YD.nd,#[Qj,pv 0,T.Q4,T.ii,qM,#v[pv 4]]],@qF _ _ _ _ _ _ _ _ #[xl,#[WG,#[pc_din,QT hr,pv 4,pv 2]],#[jt,#[Qi,#[Qb,#[qq,WO,T.mP,#v[pv 6]]]]]].pt %[|#[qo,ql]] qt,#[qF,#[Qi,#[Qb,#[qz,#[zt,1,rfl],T.z_all,Hy,#v[#[zd,2,["ask","answer","project","earlier"],(2),[0,2],9,Me (qh ja) ["project","ends","earlier","step","name","end","source"],rfl,#[xI,#[qH,qC,pv 3]],(λ_ _ _ _ _ _=>#[DY,1,K,3,(2),1,rfl,rfl,QM #[qP,(0),(show Vy (["ask","answer","project","earlier"]:oj Str) by decide+kernel)] (QM #[qP,(1),(show Vy (["ask","answer","project","earlier"]:oj Str) by decide+kernel)] XE),_,_]),(λ_ _ _ _ _ _=> @yq _),(λ_ _ _ _ _ _=>#[qq,Zh,T.lH,#v[pv 2,pv 3,pv 0,pv 1]]),_]]]]],%[|#[qo,ql]],qt],#[qF,#[Qi,#[Qb,#[qq,aG,T.mB,#v[pv 6,pv 4,#[qH,qC,pv 3],pv 5]]]],%[|#[qo,ql]],qt],@qF _ _ _ _ _ _ _ _ #[Bv,7,#[qp,QJ,#[qH,qC,pv 5],ql,qw _],@qal _ _ _ _ #[xl,#[WG,#[oF,5,QT hr,#[qH,qC,pv 5],pv 1]],#[jt,#[qp,QJ,#[qH,qC,#[QE,pv 1,#[qH,qC,pv 5]]],ql,qw _]]].pt].pt %[|#[qo,ql]] qt|#[qo,qO]]
 exists 8,N1,q1
 exists 0,ts,_,_,0,1,SqT.of U,qI (j:=0) rfl,q1 _ _ ?_;exists 8,N2,q2
 exists 0,ts,_,_,0,1,SqT.of U,qI (j:=2) rfl,q2 _ _ ?_;exists 8,N3,q3
 exists 0,px,aH,0,hx,yy,0,px,m,qs,1,hP,λsv h1 h2=>q3 _ _ ?_;exists 8,N4,q4;erw[sY hq h1 h2,d,aw,hd,aI,aJ];erw[id hT,vs,aK,aL,aM]
 exists 0,0,ed,0,mQ.k (k:=Vj m) aK,0;rw[AC aL aM m];refine iU (ug ao) ?_
 exists 0,sv,d,1,aw,hd,λH1 s1=>[0:?_];erw[ap,sm,hg];rw[aJ,hg];refine iR (q4 _ _ ?_);exists 8,N5,q5;have ax:=s1 _ _ U;have ad:=s1 _ _ al
 exists 0,ts,_,_,0,1,SqT.of ax,qI (j:=1) rfl,ta,us,1,SqT.of ad,λaN A0 ay=>?_;refine AbX (tl:= [u_ (-px),u_ (-ed)]) (λi ys H'=>ys=(tu i b).map V.bl/\ig H1 H') ad aN [1:qf ay _] (λi ys H' h=>h.2) ?_ ?_
 .rintro i x ys H' w0 w1 hx ⟨rfl,s'⟩ aO;have hi:i<↑as:=by rw[<-au];exact(Af.mp hx).1
  erw[ae.get (i:=i) (d:=as[i]) (uh hi),x',aA,ix];rw[hx] at aA;cases aA;erw[af _ (uT hi),kd,z,an,e,aB,ag];have ah:=s1.trans s';rw[e] at ix;erw[ix.mono ah.tk,t6,w6,rfl,aP,x7,r7,rfl,i7,x8,r8,rfl,i8,aQ];cases(show r8= [] from aQ)
  erw[i7,t7,w7,rfl,aR,x9,r9,rfl,[rfl,a9],xa,ra,rfl,[rfl,a5],aS];cases(show ra= [] from aS)
  exists t6,0,SqT.of aP,1
  exists _,0,_,0,1
  try dsimp![YR,nN,Go]
  rw[A6 rfl]
  exists 0,0,0,0,px,ed,t7,x8,kd,z,an,qs,ers,b,1,aR,hP.same ah,hq,hT.same ah,i8,aB,ag,λH3 s3=>?_
  exists 5
  refine⟨s3 _ _ aO,[_:0],?_,λb o e=>by rw[qj (qk e ay)];exact s3 _ _ (s' _ _ e)⟩
  rw[List.replicate_succ',uq]
  rfl
 rintro ys H2 ⟨rfl,s2⟩ aT
 exists A0,0,SqL.of aT;rw[Aac _ b (by rwa[au])]
 have O:=s1.trans s2;rcases hc with⟨hR,hE,rfl⟩|⟨_,_,_,rfl⟩;rotate_left
 .exact[0:lm (k _ O)]
 exists 0,iR (q5 _ _ ?_);exists 8,N6,q6;have aC:=O _ _ al;have aD:=O _ _ U
 exists 0,0,0,ts,_,_,0,1,SqT.of aD,qI (j:=1) rfl,0,sv,m,ta,us,ev,qs,qA qs m,as,en,1,(by rw[<-aI];exact aw.mono O.tk),am,aC,ae.mono O.tk,hR.fin,ie.mono O.tk,hE,[hR.nd.2.2.1:hR.nd.2.2.2],λH3 s3=>[0:iR (q6 _ _ ?_)]
 exists 8,N7,q7;have aa:=O.trans s3;have aU:=ie.mono aa.tk;have aV:∃kk x,en=-[!kk,x]:=by
  rcases hE with⟨z,e⟩|⟨x,e,_⟩|⟨z,e⟩
  .exact[_:_:e]
  .exact[_:_:e]
  .exact[_:_:e]
 erw[aV,kk,ex,ac];have aE:=aU;rw[ac] at aE;erw[aE,te,ue,rfl,ak,v1,r1,rfl,[rfl,_],v2,r2,rfl,aW,aX];cases(show r2= [] from aX)
 exists 0,te,_,_,0,1,SqT.of ak,qI (j:=0) rfl,1,0;by_cases ck:kk="stuck"
 .refine lN (ud (by rw[ck])) ?_
  obtain⟨z,hz⟩:∃z,en=Cp z:=by
   rcases hE with⟨z,e⟩|⟨x,e,_⟩|⟨z,e⟩
   .rw[ac] at e;injection e with e
    injection e with e _
    injection e with e
    rw[ck] at e;exact A8 e ()
   .rw[ac] at e;injection e with e
    injection e with e _
    injection e with e
    rw[ck] at e;exact A8 e ()
   .exact[z:e]
  erw[hR.stk z hz,aY,k',x',aZ,a1];rw[ac] at hz;unfold Cp at hz;cases hz;erw[aW,rfl,aB];erw[hS.same aa,bb,aF,a2,a3];erw[qax a2 a3 aY,l1,l2];rw[aZ] at l2;erw[l2,tz,uz,ez,a4,y1,z1,rfl,[rfl,_],_];rw[ez] at l1
  exists 0,te,_,_,0,1,SqT.of ak,qI (j:=1) rfl,0,sd,u_ (-tz),1,(by rw[<-l1];exact mQ.k (k:=Vj z) aF),0,iU rfl ?_
  exists 0,0,te,_,_,0,1,SqT.of ak,qI (j:=1) rfl,sd,0,(by rw[<-l1];exact mQ.k (k:=Vj z) aF),tz,_,_,0,1,SqT.of a4,qI (j:=0) rfl,1,0
  exact iU (ug (λy=>a1 (V.str.inj y))) (q7 _ _ (k _ aa))
 .exact iU (ug (λy=>ck (V.str.inj y))) (iU rfl (q7 _ _ (k _ aa)))
inductive Lk:Sp
 |mk (t:Addr)(us:List V)(ps:Pp)(_:vs= [-t])(_:H t=u_ (¬us))(_:L2.IsL H (ps.map stD) us)(_:((iT ps).map (·.1)).Nodup)(_:↑ps<=1000)(_:∀d H',H d=U_->ig H H'->xN H' d (iT ps)->Q (-d) H')
abbrev PpB (qs:oj (Str×D))(ps:Pp)(b:Bool):Prop:=↑ps<=1000/\(∀s>ps,nm s.1=v_)/\((iT ps).map (·.1)).Nodup/\((Rpp qs ps/\(∀s>ps,EnS s.2.2)/\b=v_)\/((∃s r z,ps=s::r/\(∃g,g0D s.1 (qA qs s.1)=u_ g)/\s.2.1= [-[-[-"thing",!z],-"x"]]/\nm z=v_/\∃g,g0D z (qA qs z)=u_ g)/\b=Vg))
inductive DC (CP:Addr):Sp
 |mk (px t:Addr)(us:List V)(qs:List (Str×D))(ps:Pp)(b:Bool)(_:vs= [-px,-t])(_:H t=u_ (¬us))(_:L2.IsL H (ps.map stD) us)(_:yk CP H px qs)(_:Qn qs)(_:PpB qs ps b)(_:∀v H',ig H H'->(b=v_->v= .non)->(b=Vg->v≠ .non)->Q v H')
abbrev shD (qs:oj (Str×D)) (ps:Pp) (n:Str):D:=if n>(iT ps).map (·.1) then Qr (qA (iT ps) n) else yV (qA qs n)
inductive Le (CP bn:Addr):Sp
 |mk (px t:Addr)(us:List V)(n:Str)(qs:List (Str×D))(ps:Pp)(b:Bool)(_:vs= [-px,-t,!n])(_:H t=u_ (¬us))(_:L2.IsL H (ps.map stD) us)(_:yk CP H px qs)(_:Qn qs)(_:PpB qs ps b)(_:↑n<=1000)(_:nm n=v_->∀v H',ig H H'->Is H' (if b=v_ then shD qs ps n else .non) v->Q v H')(_:nm n=Vg->∀(e:Addr)(H':Hp),ig H H'->E_ (-e) (u_ bn) H')
inductive Kf (CP:Addr):Sp
 |mk (px t:Addr)(us:List V)(n:Str)(qs:List (Str×D))(ps:Pp)(_:vs= [-px,-t,!n])(_:H t=u_ (¬us))(_:L2.IsL H (ps.map stD) us)(_:yk CP H px qs)(_:Qn qs)(_:PpB qs ps v_)(_:↑n<=1000)(_:nm n=Vg)(_:∀H',ig H H'->Q (.bl v_) H')
def B8 (ps:Pp):↑(iT ps)=↑ps:=by unfold iT;rw[u9]
variable {i:Nat}
def Mu {ps:Pp}(hi:i<↑ps):(iT ps)[i]? =u_ (ps[i].1,ps[i].2.2):=by
 unfold iT;rw[uG,uh hi]
 rfl
def Acf {ps:Pp}(hi:i<↑ps)(O:((iT ps).map (·.1)).Nodup):ps[i].1∉((iT ps).take i).map (·.1):=by
 intro z;erw[Af.mp (Mu hi),U,aa];have:=O;rw[<-UA i (iT ps),uV U,uq,T4] at this;exact this.2.2 _ z _ (by rw[uA,aa];exact uf) rfl
variable {m:Str}{e:D}
def xN.put {d:o3}{es:oj (Str×D)}{vs:oj (Str×V)}(h1:H d=u_ (.dK (jM vs)))(h2:vs.map (·.1)=es.map (·.1))(h3:L2.IsL H (es.map (·.2)) (vs.map (·.2)))(hm:m∉es.map (·.1))(U:Is H e v):xN (upd H d (.dK (lR (jM vs) (Vj m) v))) d (es++ [(m,e)]):=by
 have O:lR (jM vs) (Vj m) v=jM (vs++ [(m,v)]):=by
  rw[Kz _ (As (by rwa[h2]))]
  unfold jM;rw[uq]
  rfl
 have tk:=Tk.updD (ys:=lR (jM vs) (Vj m) v) h1;exists vs++ [(m,v)],by rw[qg,O],?_,?_
 .rw[uq,uq,h2]
  rfl
 .rw[uq,uq];exact(h3.mono tk).append (L2.IsL.one (U.mono tk))
def BF:#[T,1,a.ZG,a.ZM,["paper"],Lk]:=by
 refine T.iO.F.ok yI () (λ_ _ _ _ H vs Q E hr h=>?_)
 erw[h,t,us,ps,rfl,ht,aa,ag,hl,k];have hs:=uB;have ac:↑us=↑ps:=by rw[↑aa,u9]
 exists 3,%[#[qE,(1),yI.nd,J7],#[YO,#[pi_tup,pv 0],#[oE,6,rfl,QM #[qP,(2),yI.nd] (QM #[qP,(3),yI.nd] (QM #[qP,(4),yI.nd] XE)),_,_],%[|#[Qa,#[LA,9,pv 1,pv 2,pv 4,⟨1,1,1,1⟩]]]]|#[qo,pv 1]]
 exists 8,N1,q1;refine λd hd=>q1 _ _ ?_;have m0:=qf hd (.dK ([]:oj (Key×V)));have ad:xN (upd H d (.dK [])) d []:=⟨[],qg,1,1⟩;generalize upd H d (.dK [])=H0 at m0 ad⊢;exists 8,N2,q2
 exists 0,t,1,[_:SqT.of (m0 _ _ ht)]
 let J_:Nat->L2.St->Hp->Prop:=λi σ H'=>(∃u2 u3 u4,σ= [u_ (-t),u_ (-d),u2,u3,u4])/\ig H H'/\xN H' d ((iT ps).take i)
 refine WV (xs:=us) J_ [[_:_:0]:m0:ad] (λi σ H' _ h=>SqT.of (h.2.1 _ _ ht)) ?_ ?_
 .rintro i x σ H1 hx ⟨⟨u2,u3,u4,rfl⟩,s1,vs,O,U,ah⟩;have hi:i<↑ps:=by rw[<-ac];exact(Af.mp hx).1
  obtain⟨x',ae,ix⟩:=aa.get (i:=i) (d:=stD ps[i]) (by rw[uG,uh hi];rfl)
  rw[hx] at ae;cases ae;erw[ix,tt,ut,rfl,ak,y1,r1,rfl,[rfl,_],y2,r2,rfl,_,y3,r3,rfl,i3,al];cases(show r3= [] from al)
  exists tt,0,SqT.of (s1 _ _ ak),1,_,0,_,0,_,0,1;have af:=Acf hi ag;have am:↑vs<=1000:=by
   have:=A9 Gb U;rw[u9,u9,vG,B8] at this;omega
  exists 5
  refine⟨0,d,1,.inl [_:.inl O],0,0,jM vs,Vj ps[i].1,O,1,by unfold jM;rw[u9];omega,λv hv=>?_,λ_=>?_⟩
  .rw[As (by rwa[U])] at hv
   cases hv
  .exists [_:_:0],λb o e=>?_,?_
   .rw[qj (qk e hd)];exact s1 _ _ e
   .have:=xN.put O U ah af (i3.mono s1.tk);rw[vn,Mu hi];exact this
 .rintro σ H1 ⟨⟨u2,u3,u4,rfl⟩,s1,hT⟩;refine q2 _ _ [0:k d H1 hd s1 ?_];rwa[ac,<-B8,U1] at hT
def wl:#[C,13,a.XF,a.zg,["project","paper"],(DC a.qG)]:=by
 have Jt:=#[BF,T];have O:=#[LJ,T,C];refine T.iE.F.ok Q6 () (λ_ _ _ s H vs Q E hr h=>?_)
 erw[h,px,t,us,qs,ps,b,rfl,ht,aa,hP,hq,[hl,aw,ae,hB],k];have hs:=uB;have af:↑us=↑ps:=by rw[↑aa,u9]
 exists 3,%[#[qE,(2),Q6.nd,#[qq,Jt,T.iO,#v[pv 1]]],#[qE,(3),Q6.nd,J7],#[YO,#[Bz,8,_,T.wL,pv 1,_],#[oE,6,rfl,QM #[qP,(4),Q6.nd] (QM #[qP,(5),Q6.nd] XE),_,_],%[#[qE,(6),Q6.nd,#[qq,O,T.mH,#v[pv 0,pv 2,pv 3,pv 5]]],#[qF,#[qp,Xi,pv 6,qO,qw _],%[|#[qo,#[qD,#v[pv 4,pv 6]]]],qt]|#[Js,pv 3,#[qH,qC,pv 5],#[qH,qC,pv 5]]]]|#[qo,qO]]
 exists 8,N1,q1
 exists 0,t,us,ps,1,ht,aa,ae,hl,λsd H1 aE s1 hS=>q1 _ _ ?_;exists 8,N2,q2;refine λed ag=>q2 _ _ ?_;have m2:=qf ag (.dK ([]:oj (Key×V)));have ah:xN (upd H1 ed (.dK [])) ed []:=⟨[],qg,1,1⟩;have s2:=s1.trans m2;have ax:=hS.same m2;generalize upd H1 ed (.dK [])=H2 at m2 ah s2 ax⊢;exists 8,N3,q3
 exists 0,t,us,1,SqT.of (s2 _ _ ht),λhsz=>?_
 let J_:Nat->L2.St->Hp->Prop:=λi σ H'=>(∃u4 u5 u6,σ= [u_ (-px),u_ (-t),u_ (-sd),u_ (-ed),u4,u5,u6])/\ig H1 H'/\xN H' ed ((iT ps).take i)/\(i=0\/b=v_)
 refine NI (c:=0) (xs:=us) J_ ⟨[_:_:0],m2,ah,.inl rfl⟩ (λi σ H' hi h=>SqT.of (h.2.1 _ _ (s1 _ _ ht))) ?_ ?_
 .rintro i y σ H' p hy ⟨⟨u4,u5,u6,rfl⟩,s',ak,U⟩ hp;have hi:i<↑ps:=by rw[<-af];exact(Af.mp hy).1
  obtain⟨y',al,iy⟩:=aa.get (i:=i) (d:=stD ps[i]) (by rw[uG,uh hi];rfl)
  rw[hy] at al;cases al;have m4:=qf hp (-[.int (0+(i:Int)),y]);have e4:(upd H' p (-[.int (0+(i:Int)),y])) p=u_ (-[.int (0+(i:Int)),y]):=qg;have s4:=s'.trans m4;have ac:=ak.same m4;generalize upd H' p (-[.int (0+(i:Int)),y])=H4 at m4 e4 s4 ac⊢;have am:=s1.trans s4;erw[iy.mono am.tk,tt,ut,rfl,ad,y1,r1,rfl,[rfl,_],y2,r2,rfl,i2,y3,r3,rfl,i3,ay];cases(show r3= [] from ay)
  erw[i2,ta,ua,rfl,aA,aB]
  exists p,0,SqT.of e4,1,_,0,_,0,1;show nw _ _ _ _ H4;exists 8,B1,b1;have ao:=Acf hi ae
  exists 0,0,0,0,px,sd,ed,tt,ta,ua,y3,ps[i].1,ps[i].2.1,ps[i].2.2,qs,(iT ps).take i,iT ps,b,1,ad,aA,aB,i3,hP.same am,hq,hS.same s4,ac,aw _ (uT hi),?_,λH5 s5=>b1 _ _ ?_
  .rcases hB with⟨hR,hE,rfl⟩|⟨⟨s,r,z,rfl,hg,ha,hz,aC⟩,rfl⟩
   .exact .inl [hR.st i _ (uh hi):hE _ (uT hi):1]
   .rcases U with rfl|U
    .exact .inr ⟨ao,hg,⟨z,ha,hz,aC,by rw[pH];exact uH⟩,1⟩
    .cases U
  exists 8,B2,b2
  exists 0,1,0;have ap:=s4.trans s5;cases b with
  |false=>
   refine lN rfl ?_
   exists 0,0,sml rfl,λt6 h6=>?_;exact k _ _ ((s1.trans ap).trans (qf h6 _)) (λz=>by cases z) (λ_ z=>by cases z)
  |true=>
   refine iU rfl (b2 _ _ ?_);erw[ac.same s5,vs,aq,au,aD];have aF:↑vs<=1000:=by
    have:=A9 Gb au;rw[u9,u9,vG,B8] at this;omega
   exists 0,tt,_,_,0,1,SqT.of (s5 _ _ ad),qI (j:=2) rfl,0,0,tt,_,_,0,1,SqT.of (s5 _ _ ad),qI (j:=0) rfl,ed,0,IN.k (k:=Vj ps[i].1) aq (by unfold jM;rw[u9];omega),[_:_:0],λb o e=>?_,?_,.inr rfl
   .rw[qj (qk e ag)];exact ap _ _ e
   .have:=xN.put aq au aD ao (i3.mono s5.tk);rw[vn,Mu hi];exact this
 .rintro σ H' ⟨⟨u4,u5,u6,rfl⟩,s',ak,U⟩;refine q3 _ _ (k _ _ (s1.trans s') (λ_=>rfl) λhb=>?_);rcases U with h0|h0
  .rcases hB with⟨_,_,h⟩|⟨⟨s,r,z,rfl,_⟩,_⟩
   .rw[h] at hb;cases hb
   .rw[af] at h0;cases h0
  .rw[h0] at hb;cases hb
abbrev nuD (d:D):Prop:=d= .non\/∃xs,d= .tup xs/\nL xs=v_
inductive Ae1 (x:V)(y:V)(H:Hp)(Q:VK):Prop
 |mk (d:D)(_:Is H d x)(_:Is H d y)(_:nuD d)(_:dp d<=60)(_:Q (.bl Vg) H)
def AbC (hu:X.A.units+64<Vr):OpR X (Vs .NotEq) Ae1:=by
 exists 2,x,y,v,u,Q,I,O,U,h;erw[h,d,h1,h2,k1,hd,q];rcases k1 with rfl|⟨xs,rfl,k1⟩
 .cases(show x= .non from h1)
  cases(show y= .non from h2)
  exact CC oq s σ H .non .non v u Q I O U ⟨1,by simpa using q⟩
 .refine wM hu oq s σ H x y v u Q I O U ⟨xs,xs,h1,h2,k1,k1,?_,by rwa[(eqNL_iff k1).mpr rfl]⟩
  have:dp (¬xs)=1+dpL xs:=by simp![dp]
  omega
def Nx {K:o0}{b A:o3}{H1:Hp}{tg:TG}{tc:TT}{te:TE}{tl:L2.St}{Q:VK}{xs:oj V}(C:Nat->oj V->Hp->Prop)(hb:H1 b=u_ (¬xs))(hn:↑xs<=Vk)(h0:C 0 [] (upd H1 A (.lst [])))(hC:∀i ys H,C i ys H->ig H1 H)
  (aa:∀i x ys H O,xs[i]? =u_ x->C i ys H->H A=u_ (.lst ys)->tg x (O::tl) H λσ2 H2=>tc σ2 H2 λc H3=>if c=v_ then te σ2 H3 λy H4=>H4 A=u_ (.lst ys)/\(∃u0,σ2=u0::tl)/\C (i+1) (ys++ [y]) (upd H4 A (.lst (ys++ [y]))) else H3 A=u_ (.lst ys)/\(∃u0,σ2=u0::tl)/\C (i+1) ys H3)
  (hQ:∀ys H,C ↑xs ys H->H A=u_ (.lst ys)->Q (-A) H):CQ A (Itt K b) tg tc te (U_::tl) H1 Q:=by
 exists ↑xs,λi σ ys H=>(∃O,σ=O::tl)/\C i ys H,hn,[[U_:1]:h0],?_,?_
 .rintro i σ ys H hi ⟨⟨O,rfl⟩,U⟩ hl hy;have sm:=hC _ _ _ U;have e0:xs[i]? =u_ xs[i]:=uh hi;exists ⟨_,_,SqT.of (sm _ _ hb),e0⟩;rintro x H' ⟨rfl,hx⟩;have e:=hx _ (SqT.of (sm _ _ hb));exact aa i x ys H' O e U hl
 .rintro σ ys H ⟨_,U⟩ hl;exact[[_:SqT.of (hC _ _ _ U _ _ hb):uj _]:hQ ys H U hl]
def zX {kk:Str}{ee:D}:g0D m (-[!kk,ee])=U_↔kk="leaf":=by
 unfold g0D;simp only;constructor
 .intro h;by_cases c:kk="leaf"
  .exact c
  .rw[A4 c] at h;split at h<;>cases h
 .intro h;rw[A6 h]
def NP (hq:Qn qs)(m:Str):∃k r,nz qs m= .tup (.str k::r)/\↑k<=10/\nL r=v_/\dpL r<=40/\(k="value"->∃x,r= [x]/\isT x=v_):=by
 have one:∀(k:Str) (x:D),↑k<=10->isT x=v_->∃O r,D.tup [!k,x]= .tup (.str O::r)/\↑O<=10/\nL r=v_/\dpL r<=40/\(O="value"->∃x,r= [x]/\isT x=v_):=λk x hk U=>by
  have:=Jd U;exists k,[x],1,hk,?_,?_,λ_=>[x:1:U]
  .simp![nL,ZK (yN U),Vd]
  .simp![dpL];omega
 have two:∀(k z:Str),↑k<=10->k≠"value"->∃O r,D.tup [!k,!z]= .tup (.str O::r)/\↑O<=10/\nL r=v_/\dpL r<=40/\(O="value"->∃x,r= [x]/\isT x=v_):=λk z hk U=>⟨k,[!z],1,hk,1,by simp[dpL,dp],λh=>A8 h U⟩
 unfold nz;cases hg:g0D m (qA qs m) with
 |none=>
  try dsimp only
  by_cases c:m>qs.map (·.1)
  .erw[jF hq c,_,k,e,hd,h1,h2];rw[hd] at hg⊢;have hl:k="leaf":=zX.mp hg;have hm:k≠"made":=by rw[hl];decide+kernel
   have e2:yV (-[!k,e])=-[-"value",e]:=A6 hl;rw[e2];exact one _ e () (h2 hm).2
  .rw[Yj c];exact⟨"lack",[],1,(),1,by simp[dpL],λh=>A8 h ()⟩
 |some s=>
  try dsimp only
  have hf:=YZ hg;cases he:(itP qs 302 s).en with
  |none=>rw[he] at hf;cases hf
  |some e=>
   rcases(zD hq hg 302).1.en e he with⟨z,rfl⟩|⟨v,rfl,hv⟩|⟨z,rfl⟩
   .have e2:Qr (flt z)=flt z:=by unfold Qr flt;dsimp only;exact A4 ()
    show∃k r,Qr (flt z)=_/\_;rw[e2];exact two "fault" z () ()
   .have e2:Qr (-[-"said",v])=-[-"value",v]:=by unfold Qr;dsimp only;exact A6 rfl
    show∃k r,Qr (-[-"said",v])=_/\_;rw[e2];exact one _ v () hv
   .have e2:Qr (-[-"stuck",!z])=-[-"stuck",!z]:=by unfold Qr;dsimp only;exact A4 ()
    show∃k r,Qr (-[-"stuck",!z])=_/\_;rw[e2];exact two "stuck" z () ()
inductive Dx (CP:Addr):Sp
 |mk (px t L:Addr)(us:List V)(zs:List Str)(qs:List (Str×D))(ps:Pp)(_:vs= [-px,-t,-L])(_:H t=u_ (¬us))(_:L2.IsL H (ps.map stD) us)(_:yk CP H px qs)(_:Qn qs)(_:PpB qs ps v_)(_:H L=u_ (.lst (zs.map V.str)))(_:∀z>zs,nm z=v_)(_:∀n>(iT ps).map (·.1),Qr (qA (iT ps) n)=nz qs n)(_:∀H',ig H H'->Q (.bl v_) H')
def DF (U:Qn qs){ps:Pp}(hA:∀n>(iT ps).map (·.1),Qr (qA (iT ps) n)=nz qs n)(n:Str):(n>(iT ps).map (·.1)\/g0D n (qA qs n)=U_->shD qs ps n=nz qs n)/\(n∉(iT ps).map (·.1)->∀s,g0D n (qA qs n)=u_ s->shD qs ps n= .non):=by
 unfold shD;exists λh=>?_,λh s O=>?_
 .by_cases c:n>(iT ps).map (·.1)
  .rw[A6 c];exact hA n c
  .rw[A4 c];rcases h with h|h
   .exact A8 h c
   .unfold nz;rw[h]
 .rw[A4 h];have hn:n>qs.map (·.1):=(QC qs).gn n s O;erw[jF U hn,_,kk,e,hd,_];rw[hd] at O⊢;have ck:kk≠"leaf":=λc=>by rw[zX.mpr c] at O;cases O
  exact A4 ck
def Ado (O:Qn qs){ps:Pp}(hA:∀n>(iT ps).map (·.1),Qr (qA (iT ps) n)=nz qs n)(n:Str):nuD (shD qs ps n)/\dp (shD qs ps n)<=60:=by
 erw[DF O hA n,h1,h2];have one:shD qs ps n=nz qs n->nuD (shD qs ps n)/\dp (shD qs ps n)<=60:=λh=>by
  erw[NP O n,k,r,e,_,hn,hd,_];rw[h,e];exists .inr ⟨0,by simp![nL,nD,hn,Vd]⟩
  simp![dp,dpL];omega
 by_cases c:n>(iT ps).map (·.1)
 .exact one (h1 (.inl c))
 .cases U:g0D n (qA qs n) with
  |none=>exact one (h1 (.inr U))
  |some s=>rw[h2 c s U];exact⟨.inl rfl,by simp[dp]⟩
def wb (T:Tx K mg a)(C:Fx K w mg g a):FnOk P w K mg base (CX1 P w) 14 a.f_shown a.d_shown ["project","paper","name"] (Le a.qG g.bn):=by
 have JT:=#[Nl,T,C];have yJ:=#[wl,T,C];have Jt:=#[BF,T];have xZ:=#[BI,T];have Q2:=#[An,T];have qM:=#[Ya,T];refine T.iA.F.okX Bl () (λ_ _ _ s H vs Q E U h=>?_)
 erw[h,px,t,us,n,qs,ps,b,rfl,ht,ad,hP,hq,hB,am,k,k2];have hs:=uB;exists 3,%[#[Qa,#[qq,16,JT,U.mono (),_,T.iC.m,T.iC.F.kp,T.iC.b,.nil,Abz,#v[pv 2],_,_,_]],#[qF,#[qp,Xi,#[qq,16,yJ,U.mono (),_,T.iE.m,T.iE.F.kp,T.iE.b,.nil,qy,#v[pv 0,pv 1],_,_,_],qO,qw _],%[|#[qo,qO]],qt],#[qE,(3),Bl.nd,#[qq,16,Jt,U.mono (),_,T.iO.m,T.iO.F.kp,T.iO.b,.nil,qy,#v[pv 1],_,_,_]],#[qF,#[WG,#[pc_din,QT U,pv 2,pv 3]],%[|#[qo,#[qq,16,xZ,U.mono (),_,T.iV.m,T.iV.F.kp,T.iV.b,.nil,qy,#v[#[QE,6,QT U,pv 3,pv 2,(λ_ _=>rfl)]],_,_,_]]],qt]|#[qo,#[qq,16,Q2,U.mono (),_,T.iq.m,T.iq.F.kp,T.iq.b,.nil,qy,#v[#[Qj,20,pv 0,T.Q4,T.ii.h,qM,U.mono (),T.ii.b,.nil,qy,#v[pv 2],_,_,_]],_,_,_]]]
 exists 8,N1,q1
 exists 0,n,1,am,λhn H1 s1=>q1 _ _ ?_,k2;exists 8,N2,q2
 exists 0,0,px,t,us,qs,ps,b,1,s1 _ _ ht,ad.mono s1.tk,hP.same s1,hq,hB,λv H2 s2 h1 h2=>[1:0:?_];have O:=s1.trans s2;cases b with
 |false=>
  have hv:=h2 rfl;exact lN (by simpa using hv) (k hn _ _ O rfl)
 |true=>
  cases h1 rfl;refine iU (by simp) (q2 _ _ ?_)
  exists 8,N3,q3;erw[hB,hl,aA,ae,ao]
  exists 0,t,us,ps,1,O _ _ ht,ad.mono O.tk,ae,hl,λsd H3 aB s3 hS=>q3 _ _ ?_;exists 8,N4,q4;have ac:=O.trans s3;erw[id hS,vs,af,ag,ah]
  exists 0,0,sd,0,mQ.k (k:=Vj n) af,0;rw[AC ag ah n];by_cases c:n>(iT ps).map (·.1)
  .refine lN (ud c) ?_;erw[qax ag ah c,l1,l2];have ap:∃kk x,qA (iT ps) n=-[!kk,x]:=by
    erw[Ae.mp c,[m,e],ak,rfl];rw[X8 ae ak];erw[Ae.mp ak,s,aq,au];rcases ao with⟨_,hE,_⟩|⟨_,z⟩
    .have:=hE s aq;cases au;rcases this with⟨z,e⟩|⟨x,e,_⟩|⟨z,e⟩
     .exact[_:_:e]
     .exact[_:_:e]
     .exact[_:_:e]
    .cases z
   erw[ap,kk,ex,aa];rw[aa] at l2
   exists 0,0,sd,0,(by rw[<-l1];exact mQ.k (k:=Vj n) af),_,kk,ex,1,l2,λu H4 s4 i4=>k hn _ _ (ac.trans s4) ?_
   rw[A6 rfl];unfold shD;rwa[A6 c,aa]
  .refine iU (ug c) (q4 _ _ ?_);have al:=hP.same ac;erw[id al,aw,aC,op,aD,hx,_]
   exists 0,px,aw,0,hx,yy,0,px,n,qs,1,al,λsv h1 h2=>?_;erw[sY hq h1 h2,d,ax,hd,ay,_]
   exists sv,d,1,ax,hd,λu H4 s4 i4=>k hn _ _ (ac.trans s4) ?_;rw[A6 rfl];unfold shD;rw[A4 c,<-ay];exact i4
def CF:#[C,15,a.zh,a.XH,["project","paper","text"],(Kf a.qG)]:=by
 have JB:=#[wb,T,C];exists 9,T.mt,Ym
 erw[h,px,t,us,n,qs,ps,rfl,ht,aa,hP,hq,hB,ac,hz,k];have hs:=uB;exists 3,%[#[qE,(3),Ym.nd,Yc],#[Lw,1,(4),21,Ym.nd,rfl,rfl,JB,hr.mono (),_,T.iA.m,T.iA.F.kp,T.iA.b,#v[pv 0,pv 1,pv 2],[1:1],_,C.KO,(λ_ _=>%[|#[qE,(3),Ym.nd,#[qz,#[sO,2,rfl],T.qR,vb,#v[pv 4,#[pe_gR,C.Wx]]]]]),_,_,_,_,_]|#[qo,pv 3]]
 have U:PySem.W.kitOne K (-g.bn) (-g.bn)=u_ true:=by
  unfold PySem.W.kitOne;rw[A6 (by simp)]
 exists 0,0,0,px,t,us,n,qs,ps,v_,1,ht,aa,hP,hq,hB,ac,λhn=>A8 (hz.symm.trans hn) HM,λ_ O H1 s1=>⟨g.bn,1,C.ew,λea he ad=>?_⟩;cases he;have e1:(upd H1 O (AY O g.bn)) O=u_ (AY O g.bn):=qg;have s2:=s1.trans (qf ad (AY O g.bn));generalize upd H1 O (AY O g.bn)=H2 at e1 s2⊢
 exists 0,-O,-g.bn,-g.bn,-g.bn,v_,1,.own _,.exc e1 C.xc,U;exact[0:k _ s2]
def Em:#[C,17,a.ww,a.wE,["project","paper","names"],(Dx a.qG)]:=by
 have yJ:=#[wl,T,C];have JB:=#[wb,T,C];have qM:=#[Ya,T];have Xh:=#[BH,T,C];exists 9,T.md,Q8
 erw[h,px,t,L,us,zs,qs,ps,rfl,ht,ac,hP,hq,hB,hL,ax,hA,k];have hs:=uB;have ah:↑us=↑ps:=by rw[↑ac,u9]
 exists 3,%[#[qF,#[qp,Xi,#[qq,yJ,T.iE,#v[pv 0,pv 1]],qO,qw _],%[|#[qo,Yc]],qt],#[By,2,["step"],(1),[],(3),12,Q8.nd,rfl,GL rfl,SG,rfl,#[xI,pv 1],(λ_ _ _ _ _ _=>#[qP,(0),(show Vy (["step"]:oj Str) by decide+kernel)]),(λ_ _ _ _ _ _=> @yq _),(λ_ _ _ _ _ _=>#[qH,#[Ay,1,K,rfl],pv 0]),_,_,_],#[YO,#[Wm,pv 2],#[qP,(4),Q8.nd],%[#[qE,(5),Q8.nd,#[Qj,pv 0,T.Q4,T.ii,qM,#v[pv 4]]],#[qE,(6),Q8.nd,qO],@qF _ _ _ _ _ _ _ _ #[xl,#[qp,QS,pv 4,pv 3,#[w]],#[xl,#[qp,yf,pv 5,qO,qw _],#[jt,#[qp,QJ,#[qH,qC,pv 5],ql,qw _]]]].pt %[|#[qE,(6),Q8.nd,#[qq,Xh,T.me,#v[pv 0,pv 4]]]] qt,#[qE,(7),Q8.nd,#[qq,16,JB,hr.mono (),_,T.iA.m,T.iA.F.kp,T.iA.b,.nil,oG,#v[pv 0,pv 1,pv 4],_,_,_]]|@qF _ _ _ _ _ _ _ _ #[xl,#[qp,CC,#[Qp,yf,pv 7,qO],#[Qp,yf,pv 6,qO],qw _],#[jt,#[qp,AbC hr.units,pv 7,pv 6,qw _]]].pt %[|#[qo,Yc]] qt]]|#[qo,Yc]]
 exists 8,N1,q1
 exists 0,0,px,t,us,qs,ps,v_,1,ht,ac,hP,hq,hB,λv H1 s1 h1 h2=>[1:0:?_];cases h1 rfl;refine iU (by simp) (q1 _ _ ?_)
 exists 8,N2,q2;have ak:=s1 _ _ ht
 exists 0,t,us,1,SqT.of ak,λay A0 al=>?_;refine Nx (tl:= []) (λi ys H'=>ys=(((iT ps).map (·.1)).take i).map V.str/\ig H1 H') ak ay [1:qf al _] (λi ys H' h=>h.2) ?_ ?_
 .rintro i x ys H' w0 hx ⟨rfl,s'⟩ aA;have hi:i<↑ps:=by rw[<-ah];exact(Af.mp hx).1
  obtain⟨x',am,ix⟩:=ac.get (i:=i) (d:=stD ps[i]) (by rw[uG,uh hi];rfl)
  rw[hx] at am;cases am;erw[ix.mono (s1.trans s').tk,tt,ut,rfl,aB,y1,r1,rfl,[rfl,_],_]
  try dsimp![YR,nN,Go]
  rw[A6 rfl]
  exists 5
  refine⟨0,tt,_,_,0,1,SqT.of aB,qI (j:=0) rfl,aA,⟨0⟩,?_,λb o e=>by rw[qj (qk e al)];exact s' _ _ e⟩
  rw[vn,uG,Mu hi,uq]
  rfl
 rintro ys H2 ⟨rfl,s2⟩ ao;refine q2 _ _ ?_;have e2:((iT ps).map (·.1)).take ↑us=(iT ps).map (·.1):=by rw[ah,<-B8,<-u9 (f:=λx:Str×D=>x.1),U1]
 rw[e2] at ao;have ad:=s1.trans s2;exists 8,N3,q3
 exists 0,L,1,[_:SqL.of (ad _ _ hL)]
 let J_:Nat->L2.St->Hp->Prop:=λi σ H'=>(∃u4 u5 u6 u7,σ= [u_ (-px),u_ (-t),u_ (-L),u_ (-A0),u4,u5,u6,u7])/\ig H2 H'
 refine Kk (xs:=zs.map V.str) J_ [⟨_,_,_,0⟩:ig.refl _] (λi σ H' _ h=>SqL.of (h.2 _ _ (ad _ _ hL))) ?_ ?_
 .rintro i y σ Ha hy ⟨⟨u4,u5,u6,u7,rfl⟩,sa⟩;erw[Ae.mp (uQ hy),z,hz,rfl];have U:=ax z hz;have aG:=xO U;have ap:=ad.trans sa;have aa:=hP.same ap;erw[id aa,aC,aH,op,aI,hx,_];erw[DF hq hA z,ae,aD];erw[Ado hq hA z,aq,aE];show nw _ _ _ _ Ha;exists 8,B1,b1
  exists 0,px,aC,0,hx,yy,0,px,z,qs,1,aa,λsv h1 h2=>b1 _ _ ?_;exists 8,B2,b2;refine b2 _ _ ?_;exists 8,B3,b3;have go:∀(dv:V) (Hb:Hp),ig Ha Hb->Is Hb (shD qs ps z) dv->B3 [u_ (-px),u_ (-t),u_ (-L),u_ (-A0),u_ (!z),u_ sv,u_ dv,u7] Hb:=by
   intro dv Hb sb O;refine b3 _ _ ?_;exists 8,B4,b4;have af:=ap.trans sb
   exists 0,0,0,px,t,us,z,qs,ps,v_,1,af _ _ ht,ac.mono af.tk,hP.same af,hq,hB,(),λ_ v Hc sc ic=>b4 _ _ ?_,λh=>A8 (U.symm.trans h) HM
   rw[A6 rfl] at ic;have O:=O.mono sc.tk;have en:decide (v=V.non)=decide (dv=V.non):=by
    rcases aq with h|⟨xs,h,_⟩
    .rw[h] at ic O;cases(show v= .non from ic)
     cases(show dv= .non from O)
     rfl
    .rw[h] at ic O;erw[ic,_,_,rfl,_];erw[O,_,_,rfl,_]
     rfl
   exists 0,1,0,1,1,0;rw[en];refine iU (by simp) ?_
   exists 0,0,shD qs ps z,ic,O,aq,aE;exact[0:iR [⟨_,_,_,0⟩:(sa.trans sb).trans sc]]
  exists 0,0,A0,0,.inl (SqL.of (sa _ _ ao)),1,XO _,0;have au:inV (V.str z) (((iT ps).map (·.1)).map V.str)=decide (z>(iT ps).map (·.1)):=XC _ _;by_cases c:z>(iT ps).map (·.1)
  .refine lN (au.trans (ud c)) (lN rfl ?_);exact⟨0,0,px,z,qs,1,U,aa,hq,λv Hb sb ib _=>go v Hb sb (by rwa[ae (.inl c)])⟩
  refine iU (au.trans (ug c)) ?_
  exists 0,1,0;by_cases cq:z>qs.map (·.1)
  .erw[jF hq cq,_,kk,e,ag,_,_];have aw:=h1 cq;rw[ag] at aw;erw[aw,ts,uu,rfl,aF,w1,r1,rfl,[rfl,_],_];refine iU (ug (λz=>by cases z)) ?_
   exists 0,ts,_,_,0,1,SqT.of aF,qI (j:=0) rfl,1,0;by_cases cl:kk="leaf"
   .refine lN (ud (by rw[cl])) ?_
    exact⟨0,0,px,z,qs,1,U,aa,hq,λv Hb sb ib _=>go v Hb sb (by rw[ae (.inr (by rw[ag];exact zX.mpr cl))];exact ib)⟩
   .refine iU (ug (λy=>cl (V.str.inj y))) (go .non Ha (ig.refl _) ?_);cases hg:g0D z (qA qs z) with
    |none=>rw[ag] at hg;exact A8 (zX.mp hg) cl
    |some s=>rw[aD c s hg];exact rfl
  .cases h2 cq;refine lN (ud rfl) (lN rfl ?_);exact⟨0,0,px,z,qs,1,U,aa,hq,λv Hb sb ib _=>go v Hb sb (by rw[ae (.inr (by rw[Yj cq];rfl))];exact ib)⟩
 .rintro σ Ha ⟨_,sa⟩;exact q3 _ _ (k _ (ad.trans sa))
end
abbrev IY (i:Int):Str:=Vq i
abbrev tK (k:Nat):Str:="t"++IY (k:Int)
def Km:∀k:Nat,k<41->nm (tK k)=v_/\↑(tK k)<=4/\↑(IY (k:Int))<=4:=by decide+kernel
def Adf:((Vp 41).map tK).Nodup:=by decide+kernel
variable {i j:Nat}
def Dj (hi:i<41)(U:j<41)(h:tK i=tK j):i=j:=by
 have O:((Vp 41).map tK)[i]? =u_ (tK i):=by rw[uG,T8 hi];rfl
 have e2:((Vp 41).map tK)[j]? =u_ (tK j):=by rw[uG,T8 U];rfl
 rw[h,<-e2] at O;exact(List.getElem?_inj (by rwa[u9,vT]) Adf).mp O
abbrev cR (z:Str):oj Rw:= [("text",[.s "a",.s z]),("ask",[.s "b",.s "a"]),("say",[.s "b"])]
abbrev cL (k:Nat):oj Str:= ["text a t"++IY (k:Int),"ask b a","say b"]
def Afg:∀k:Nat,k<41->(cR (tK k)).map yU=cL k:=by decide+kernel
def AcX {k:Nat}(O:k<41):Yd (cR (tK k))= .tup ((cL k).map D.str):=by
 rw[<-Afg k O,uK]
 rfl
def S8:∀k:Nat,k<41->isT (.tup ((cL k).map D.str))=v_/\lw (.tup ((cL k).map D.str))=v_/\sz (.tup ((cL k).map D.str))<=300/\∀z>cL k,↑z<=100:=by decide+kernel
def Aej:∀k:Nat,k<41->↑(tK k)<=300/\(tK k).cps.toList.all QA=v_/\isT (.str (tK k))=true:=by decide+kernel
def Acq {k:Nat}(U:k<41):QW (cR (tK k)):=by
 refine⟨by show 1<=3;decide,by show 3<=40;decide,?_,by rw[AcX U];exact(S8 k U).1⟩
 intro r O;have O:r>([("text",[.s "a",.s (tK k)]),("ask",[.s "b",.s "a"]),("say",[.s "b"])]:oj Rw):=O;simp![uD,uH,uM] at O;have hw:=Aej k U;rcases O with rfl|rfl|rfl
 .exact⟨[.box,.words],(show(("text":Str),[Kd.box,Kd.words])>FRM by decide+kernel),show("a":Str)>BX by decide+kernel,[hw.1:hw.2.1],trivial⟩
 .exact⟨[.box,.box],(),show("b":Str)>BX by decide+kernel,show("a":Str)>BX by decide+kernel,trivial⟩
 .exact⟨[.box],(),show("b":Str)>BX by decide+kernel,trivial⟩
abbrev Do (k:Nat):D:=-[-"rule",Yd (cR (tK (k+1)))]
abbrev lfX:D:=-[-"leaf",-"x"]
def Of {k:Nat}(O:k<40):W0 (Do k):=by
 have h:=S8 (k+1) ()
 exact KG (.inr rfl) (Acq ()).tree (by rw[AcX ()];exact h.2.1) (by rw[AcX ()];exact h.2.2.1)
def AbU:W0 lfX:=KG (.inl rfl) () () ()
abbrev asC (k:Nat):oj D:= [-[-[-"thing",.str (tK (k+1))],-"x"]]
abbrev enX:D:=-[-"said",-"x"]
abbrev stC (k:Nat):Str×oj D×D:=(tK k,asC k,enX)
variable {z:Str}{e:D}
def SR {B:Str->D}{p:Int}(h:isT e=v_):Kj B z e p= .go (mn B z e) (p+1):=by
 cases e with
 |non=>exact A8 h ()
 |_=>exact A6 h
def M9 (B:Str->D)(z:Str)(e:D):mn B z e z=e:=A6 rfl
abbrev thA (z:Str):D:=-[-"asks",-[-"thing",!z]]
def Act (h:nm z=v_):nK "ask" (!z)=thA z:=by
 show(if("ask":Str)="names" then _ else if mG (!z)=v_ then D.tup [-"asks",-[.str (if("ask":Str)="ask" then "thing" else "has"),!z]] else flt "name")=_
 rw[A4 (),A6 (show mG (!z)=v_ from h),A6 rfl]
 rfl
variable {qs:oj (Str×D)}{g:Gp}
def SL {f:Sy.Orc}{n:Str}{p:Gp}{k:Nat}(O:g0D n (qA qs n)=u_ g)(h:Sy.it (SyP qs) f k g=p)(U:p.en.isSome=v_):Sy.it (SyP qs) f 302 g=p:=by
 have h1:(SyP qs).fin (Sy.it (SyP qs) f k g)=true:=by rwa[h]
 rw[<-h];exact Sy.it_one (Sy.it_end (QC qs) 302 g ((QC qs).l0 n g O)) h1
variable {m:Str}
def Ob {f:Sy.Orc}{p:Gp}(O:p.en=U_)(U:yl p=u_ m):Sy.step (SyP qs) f p=match f m with
  |some a=>QI p (a.getD .non)
  |none=>IZ p m:=by
 have e:Sy.step (SyP qs) f p=if p.en.isSome=v_ then p else match yl p with
  |none=>nE qs p
  |some m=>match f m with
   |some a=>QI p (a.getD .non)
   |none=>IZ p m:=rfl
 rw[e,O,U]
 rfl
variable {rs:oj Rw}{own:Str}{n:Nat}
def OS {gs:oj D}{f:Nat}{B O:Str->D}{p p':Int}(U:p<=(↑rs:Int))(h:l9 own (Yu rs p) B p= .go O p'):mo rs own gs (f+1) B p n=mo rs own gs f O p' (n+1):=by
 show(if GT.gt p (↑rs:Int) then _ else match l9 own (Yu rs p) B p with
  | .go O p'=>mo rs own gs f O p' (n+1)
  | .stop e=>⟨B,p,if Qy e=v_ then n else n+1,gs,e⟩)=_
 rw[A4 (show¬GT.gt p (↑rs:Int) by omega),h]
def DM {gs:oj D}{f:Nat}{B:Str->D}{p:Int}(U:p<=(↑rs:Int))(h:l9 own (Yu rs p) B p= .stop e):mo rs own gs (f+1) B p n=⟨B,p,if Qy e=v_ then n else n+1,gs,e⟩:=by
 show(if GT.gt p (↑rs:Int) then _ else match l9 own (Yu rs p) B p with
  | .go O p'=>mo rs own gs f O p' (n+1)
  | .stop e=>⟨B,p,if Qy e=v_ then n else n+1,gs,e⟩)=_
 rw[A4 (show¬GT.gt p (↑rs:Int) by omega),h]
def AeW {k:Nat}(hk:k<40):R0 (cR (tK (k+1))) (tK k)=⟨mn B0 "a" (.str (tK (k+1))),(2),(1),[],thA (tK (k+1))⟩/\l7 (cR (tK (k+1))) (tK k) ⟨mn B0 "a" (.str (tK (k+1))),(2),(1),[],thA (tK (k+1))⟩ (-"x")=⟨mn (mn B0 "a" (.str (tK (k+1)))) "b" (-"x"),(3),(3),asC k,enX⟩:=by
 have U:=Aej (k+1) ()
 have hn:=(Km (k+1) ()).1
 generalize tK k=own;have e1:l9 own (Yu (cR (tK (k+1))) 1) B0 1= .go (mn B0 "a" (.str (tK (k+1)))) 2:=(show Kj B0 "a" (.str (tK (k+1))) 1=_ from SR U.2.2)
 have e2:l9 own (Yu (cR (tK (k+1))) 2) (mn B0 "a" (.str (tK (k+1)))) 2= .stop (thA (tK (k+1))):=(show Out.stop (nK "ask" (mn B0 "a" (.str (tK (k+1))) "a"))=_ by rw[M9,Act hn])
 have e3:l9 own (Yu (cR (tK (k+1))) 3) (mn (mn B0 "a" (.str (tK (k+1)))) "b" (-"x")) 3= .stop enX:=(show Out.stop (-[-"said",mn (mn B0 "a" (.str (tK (k+1)))) "b" (-"x") "b"])=_ by rw[M9];rfl)
 have O:(↑(cR (tK (k+1))):Int)=3:=rfl;constructor
 .unfold R0;rw[OS (f:=299) (by rw[O];decide) e1,DM (f:=298) (by rw[O];decide) e2]
  rfl
 .unfold l7;rw[show yL (-"x")=Vg from rfl,A4 u8]
  show mo (cR (tK (k+1))) own (asC k) (297+1) (mn (mn B0 "a" (.str (tK (k+1)))) "b" (-"x")) 3 2=_;rw[DM (f:=297) (by rw[O];decide) e3]
  rfl
def JA {k:Nat}(hk:k<40)(hd:qA qs (tK k)=Do k)(hF:FP qs (tK (k+1))=u_ (u_ (-"x"))):∃s,g0D (tK k) (qA qs (tK k))=u_ s/\Qz (itP qs 302 s)=asC k/\mY (itP qs 302 s)=enX/\FP qs (tK k)=u_ (u_ (-"x")):=by
 erw[AeW hk,O,r1]
 let g0:Gp:=⟨tK k,.non,[],u_ (cR (tK (k+1)),R0 (cR (tK (k+1))) (tK k)),mX (R0 (cR (tK (k+1))) (tK k))⟩
 have U:g0D (tK k) (qA qs (tK k))=u_ g0:=by
  rw[hd];show(if("rule":Str)="leaf" then U_ else if("rule":Str)="made" then u_ (⟨tK k,Yd (cR (tK (k+1))),[],U_,U_⟩:Gp) else u_ (mi ⟨tK k,.non,[],U_,U_⟩ (Yd (cR (tK (k+1))))))=_
  rw[A4 (),A4 ()]
  unfold mi;rw[show yL (Yd (cR (tK (k+1))))=Vg from rfl,A4 u8,(Acq ()).read]
 have he:g0.en=none:=by show mX (R0 (cR (tK (k+1))) (tK k))=U_;rw[O];rfl
 have hw:yl g0=u_ (tK (k+1)):=by
  have:g0=⟨tK k,.non,[],u_ (cR (tK (k+1)),⟨mn B0 "a" (.str (tK (k+1))),(2),(1),[],thA (tK (k+1))⟩),U_⟩:=by
   show(⟨tK k,.non,[],u_ (cR (tK (k+1)),R0 (cR (tK (k+1))) (tK k)),mX (R0 (cR (tK (k+1))) (tK k))⟩:Gp)=_;rw[O]
   rfl
  rw[this]
  rfl
 have e1:itP qs 1 g0=QI g0 (-"x"):=by
  show Sy.step (SyP qs) (FP qs) g0=_;rw[Ob he hw,hF]
  rfl
 have e2:QI g0 (-"x")=⟨tK k,.non,[],u_ (cR (tK (k+1)),⟨mn (mn B0 "a" (.str (tK (k+1)))) "b" (-"x"),(3),(3),asC k,enX⟩),u_ enX⟩:=by
  show(⟨tK k,.non,[],u_ (cR (tK (k+1)),l7 (cR (tK (k+1))) (tK k) (R0 (cR (tK (k+1))) (tK k)) (-"x")),mX (l7 (cR (tK (k+1))) (tK k) (R0 (cR (tK (k+1))) (tK k)) (-"x"))⟩:Gp)=_;rw[O,r1]
  rfl
 have e3:itP qs 302 g0=QI g0 (-"x"):=SL (f:=FP qs) U e1 (by rw[e2];rfl)
 refine⟨g0,U,by rw[e3,e2];rfl,by rw[e3,e2];rfl,?_⟩
 rw[show FP qs (tK k)=_ from Sy.F_run (QC qs) U]
 show(JL (itP qs 302 g0)).map u_=_;rw[e3,e2];show((u_ enX).bind jy).map u_=_;show(if("said":Str)="said" then u_ (D.str "x") else U_).map u_=_
 rw[A6 rfl]
 rfl
section
variable {qs:oj (Str×D)}{m:Nat}
def JC (h1:1<=m)(h2:m<=40)(hd:∀k,k+1<m->qA qs (tK k)=Do k)(O:qA qs (tK (m-1))=lfX):∀j k,j+k+1=m->FP qs (tK k)=u_ (u_ (-"x"))
 |0,k,h=>by
  have:k=m-1:=by omega
  subst this;have U:g0D (tK (m-1)) (qA qs (tK (m-1)))=none:=by rw[O];exact zX.mpr rfl
  exact(Sy.kY (QC qs) U).trans (by show u_ (Ki (qA qs (tK (m-1))))=_;rw[O];rfl)
 |j+1,k,h=>by
  erw[JA () (hd k ()) (JC h1 h2 hd O j (k+1) ()),_,_,_,_,hF]
  exact hF
abbrev ppC (m n:Nat):Pp:=(Vp n).map λj=>stC (m-2-j)
def AcW (m n:Nat):(iT (ppC m n)).map (·.1)=(Vp n).map λj=>tK (m-2-j):=by
 unfold iT ppC;rw[uK,uK]
 rfl
def Aew (h2:m<=40)(hn:n+1<=m):((iT (ppC m n)).map (·.1)).Nodup:=by
 rw[AcW];refine List.pairwise_map.mpr (Pd (λ{i j} hi O U e=>?_) List.nodup_range);rw[V5] at hi O;have:=Dj () () e
 omega
def AcY (hi:i<n):(ppC m n)[i]? =u_ (stC (m-2-i)):=by
 unfold ppC;rw[uG,T8 hi]
 rfl
def MD (hq:Qn qs)(h1:2<=m)(h2:m<=40)(hd:∀k,k+1<m->qA qs (tK k)=Do k)(U:qA qs (tK (m-1))=lfX):Rpp qs (ppC m (m-1)):=by
 have O:=Aew (m:=m) (n:=m-1) h2 ()
 exists O,λi s hs=>?_;have hi:i<m-1:=by
  have:=(Af.mp hs).1;unfold ppC at this
  rwa[u9,vT] at this
 rw[AcY hi] at hs;cases hs;have aa:=JC () h2 hd U i (m-2-i+1) ()
 erw[JA () (hd (m-2-i) ()) aa,s,hg,ha,he,_]
 have tk:((iT (ppC m (m-1))).take i).map (·.1)=(Vp i).map λj=>tK (m-2-j):=by
  rw[UW,AcW,<-UW,List.take_range,TN ()]
 refine⟨?_,[s:hg],λx hx=>?_,?_,by show 1<=400;decide,⟨1,by show dpL (asC (m-2-i))<=30;simp[asC,dpL,dp],1,by show dp enX<=20;simp[enX,dp,dpL]⟩,λz hz=>?_⟩
 .rw[tk];intro z;erw[Ae.mp z,j,hj,e];rw[V5] at hj;have:=Dj () () e
  omega
 .have hx:x>asC (m-2-i):=hx;cases Ab.mp hx;have ht:=Km (m-2-i+1) ()
  exists "thing",_,0,(),λ_=>ht.1,.inr [():.inl rfl:?_]
  cases i with
  |zero=>
   left;have e:m-2-0+1=m-1:=by omega
   rw[e,U];exact[zX.mpr rfl:1]
  |succ i=>
   right;have e:m-2-(i+1)+1=m-2-i:=by omega
   rw[e];erw[JA () (hd (m-2-i) ()) (JC () h2 hd U i (m-2-i+1) ()),s',ac,_]
   refine⟨[s':ac],by rw[tk];exact Ae.mpr [i:List.mem_range.mpr ():1],?_,()⟩
   refine X8 ?_ ?_
   .rw[UW];exact O.sublist (V0 _ _)
   .refine uQ (i:=i) ?_;rw[List.getElem?_take,A6 ()]
    unfold iT;rw[uG,AcY ()]
    rfl
 .show Fn qs (tK (m-2-i)) (qA qs (tK (m-2-i))) (asC (m-2-i)) enX;rw[<-ha,<-he];exact Fr hq hg
 .have hz:enX=Cp z:=hz;unfold enX Cp at hz;injection hz with hz
  injection hz with hz _
  injection hz with hz
  exact A8 hz ()
end
abbrev prC (m n:Nat):oj (Str×D):=(tK (m-1),lfX)::(Vp n).map λj=>(tK (m-2-j),Do (m-2-j))
def Abs {m:Nat}(h2:m<=40)(hn:n+1<=m):Ac0 (prC m n):=by
 have e:(prC m n).map (·.1)=tK (m-1)::(Vp n).map λj=>tK (m-2-j):=by
  unfold prC;rw[uA,uK]
  rfl
 exists [?_:?_],λp U=>?_
 .rw[e];intro z hz;rcases Aa.mp hz with rfl|hz
  .exact(Km _ ()).1
  .erw[Ae.mp hz,j,O,rfl];exact(Km _ ()).1
 .rw[e,vN];exists λz=>?_,?_
  .erw[Ae.mp z,j,O,e];rw[V5] at O;have:=Dj () () e
   omega
  .have:=Aew (m:=m) (n:=n) h2 hn
   rwa[AcW] at this
 .rcases Aa.mp U with rfl|U
  .exact AbU
  .erw[Ae.mp U,j,O,rfl];rw[V5] at O;exact Of ()
inductive Aa7:Sp
 |mk (m:Nat)(_:vs= [.int (m:Int)])(_:m=2\/m=40)(_:∀H',ig H H'->Q (.bl v_) H')
section
variable {P:o9}{w:og}{K:o0}{mg:Str->om o6}{base:o8}{a:Ad}{g:Ga}
def AbM:#[C,15,a.jr,a.jq,["many"],Aa7]:=by
 have ji:=#[Ep,T];have yJ:=#[wl,T,C];have JB:=#[wb,T,C];exists 9,T.lD,QH
 erw[h,m,rfl,hm,k];have hs:=uB;have aG:2<=m/\m<=40:=by omega
 have str:∀k:Nat,k<41->Vq ((k:Nat):Int)=IY (k:Int):=λ_ _=>rfl;exists 3,%[#[qE,(1),QH.nd,#[Q7,#v[#[qD,#v[#[qV,qZ,ql,#[qS,QV,T.JO,Ue,#v[#[qV,BC,pv 0,qi]]]],#[qD,#v[ql,ql]]]]]]],#[qE,(2),QH.nd,#[Q7,qd]],#[YO,#[DW,8,_,T.J2,#v[#[qV,BC,pv 0,qi],#[Lz,6,Ba,qi],#[Lz,6,Ba,qi]],_,_],#[qP,(3),QH.nd],%[#[Qa,#[j0,vc,vD,vE,YH,pv 1,#v[#[qD,#v[#[qV,qZ,ql,#[qS,QV,T.JO,Ue,#v[pv 3]]],#[qD,#v[ql,#[qD,#v[#[qV,qZ,ql,#[qS,QV,T.JO,Ue,#v[#[qV,yA,pv 3,qi]]]],ql,ql]]]]]]]]]|#[Qa,#[j0,vc,vD,vE,YH,pv 2,#v[#[qD,#v[#[qV,qZ,ql,#[qS,QV,T.JO,Ue,#v[pv 3]]],#[qD,#v[#[qD,#v[#[qD,#v[ql,#[qV,qZ,ql,#[qS,QV,T.JO,Ue,#v[#[qV,yA,pv 3,qi]]]]]],ql]]]],#[qD,#v[ql,ql]]]]]]]]],#[qE,(4),QH.nd,#[Xz,T.M_Project,ji,T.m_Project,T.li,qy,#v[#[qS,qU,T.QD,vo,#v[pv 1]]]]],@qF _ _ _ _ _ _ _ _ #[xl,#[qp,#[wM,1,hr.units],#[qq,16,JB,hr.mono (),_,T.iA.m,T.iA.F.kp,T.iA.b,.nil,oG,#v[pv 4,#[qS,qU,T.QD,vo,#v[pv 2]],ql],_,_,_],#[qD,#v[ql,ql]],qw _],#[jt,#[qp,Xi,#[qq,yJ,T.iE,#v[pv 4,#[qS,qU,T.QD,vo,#v[pv 2]]]],qO,qw _]]].pt %[|#[qo,Yc]] qt|#[qo,#[Qp,yf,#[qq,16,JB,hr.mono (),_,T.iA.m,T.iA.F.kp,T.iA.b,.nil,oG,#v[pv 4,#[qS,qU,T.QD,vo,#v[#[xg,Kl,pv 2,#[jN,qi],We]]],ql],_,_,_],qO]]]
 exists 8,N1,q1;have a2:(m:Int)-1=((m-1:Nat):Int):=by omega
 exists 0,_,0,1,0,vA (vS _) ()
 rw[a2];have bw:=Km (m-1) ()
 exists _,0,1,mW (by show 1+↑(IY ((m-1:Nat):Int))<=_;omega),sml rfl,λt1 h1=>[sml rfl:λt2 h2=>[sml rfl:λL1 aH=>q1 _ _ ?_]]
 have m1:=qf h1 (-[V.str "leaf",V.str "x"]);have i1:=Is.new (ds:= [-"leaf",-"x"]) ⟨_,0,QU (),_,0,QU (),1⟩ h1
 have m2:=m1.trans (qf h2 (-[V.str (tK (m-1)),V.ref t1]));have i2:Is (upd (upd H t1 (-[V.str "leaf",V.str "x"])) t2 (-[V.str (tK (m-1)),V.ref t1])) (prD (tK (m-1),lfX)) (-t2):=Is.new (ds:= [.str (tK (m-1)),lfX]) ⟨_,0,QU (),_,0,i1,1⟩ h2
 have aN:H L1=none:=m2.free aH;have m3:ig H (upd (upd (upd H t1 (-[V.str "leaf",V.str "x"])) t2 (-[V.str (tK (m-1)),V.ref t1])) L1 (.lst [V.ref t2])):=m2.trans (qf aH (.lst [V.ref t2]));have e3:upd (upd (upd H t1 (-[V.str "leaf",V.str "x"])) t2 (-[V.str (tK (m-1)),V.ref t1])) L1 (.lst [V.ref t2]) L1=u_ (.lst [V.ref t2]):=qg;have i3:Is (upd (upd (upd H t1 (-[V.str "leaf",V.str "x"])) t2 (-[V.str (tK (m-1)),V.ref t1])) L1 (.lst [V.ref t2])) (prD (tK (m-1),lfX)) (-t2):=i2.mono (qf aH (.lst [V.ref t2])).tk;show cl _ _ _ _ _ (upd (upd (upd H t1 (-[V.str "leaf",V.str "x"])) t2 (-[V.str (tK (m-1)),V.ref t1])) L1 (.lst [V.ref t2]));generalize upd (upd (upd H t1 (-[V.str "leaf",V.str "x"])) t2 (-[V.str (tK (m-1)),V.ref t1])) L1 (.lst [V.ref t2])=H1 at m3 e3 i3⊢;exists 8,N2,q2
 exists uS _,λLS ao=>q2 _ _ ?_;have aO:H LS=none:=m3.free ao;have aP:L1≠LS:=qk e3 ao;have m4:=m3.trans (qf ao (.lst ([]:oj V)));have e4:=qf ao (.lst ([]:oj V)) _ _ e3;have aQ:upd H1 LS (.lst ([]:oj V)) LS=u_ (.lst []):=qg;have i4:=i3.mono (qf ao (.lst ([]:oj V))).tk;generalize upd H1 LS (.lst ([]:oj V))=H2 at m4 e4 aQ i4⊢;exists 8,N3,q3
 exists 0,_,0,1,0,0,(m:Int)-2,-1,1,⟨(),(),(),()⟩
 have en:((m:Int)-2- -1).toNat=m-1:=by omega
 rw[en]
 let J_:Nat->L2.St->Hp->Prop:=λi σ H'=>∃(O U:oj V) (u3:om V),σ= [u_ (.int (m:Int)),u_ (-L1),u_ (-LS),u3,U_]/\ig H H'/\H' L1=u_ (.lst O)/\L2.IsL H' ((prC m i).map prD) O/\H' LS=u_ (.lst U)/\L2.IsL H' ((ppC m i).map stD) U
 refine CW (lo:=(m:Int)-2) (n:=m-1) J_ ⟨[-t2],[],U_,1,m4,e4,⟨_,0,i4,1⟩,aQ,1⟩ ?_ ?_
 .rintro i σ H3 hi ⟨O,U,u3,rfl,s3,aA,af,aI,ag⟩;have l1:↑O<=100:=by rw[↑af,u9];unfold prC;rw[ui,u9,vT];omega
  have l2:↑U<=100:=by rw[↑ag,u9];unfold ppC;rw[u9,vT];omega
  obtain⟨kk,aR⟩:∃kk:Nat,kk=m-2-i:=⟨0⟩;have ek:(m:Int)-2-(i:Int)=(kk:Int):=by omega
  have aS:(kk:Int)+1=((kk+1:Nat):Int):=by omega
  have bx:=Km kk ()
  have bA:=Km (kk+1) ()
  have a3:=(S8 (kk+1) ()).2.2.2
  rw[ek];show nw _ _ _ _ H3;exists 8,B1,b1
  exists 0,.inl [1:_:SqL.of aA],0,0,vA (vS _) ()
  exists _,0,1,mW (by show 1+↑(IY (kk:Int))<=_;omega)
  exists 0,_,0,1,0,vA (vS _) ()
  rw[aS]
  exists _,0,1,mW (by show 8+↑(IY ((kk+1:Nat):Int))<=_;omega),sml rfl,λt5 h5=>[sml rfl:λt6 h6=>[sml rfl:λt7 h7=>?_]]
  have n5:ig H3 (upd H3 t5 (.tup ((cL (kk+1)).map V.str))):=qf h5 _;have j5:Is (upd H3 t5 (.tup ((cL (kk+1)).map V.str))) (Yd (cR (tK (kk+1)))) (-t5):=by rw[AcX ()];exact Is.new (ds:=(cL (kk+1)).map D.str) (Bj a3) h5
  have n6:ig (upd H3 t5 (.tup ((cL (kk+1)).map V.str))) (upd (upd H3 t5 (.tup ((cL (kk+1)).map V.str))) t6 (-[V.str "rule",V.ref t5])):=qf h6 _;have j6:Is (upd (upd H3 t5 (.tup ((cL (kk+1)).map V.str))) t6 (-[V.str "rule",V.ref t5])) (Do kk) (-t6):=Is.new (ds:= [-"rule",Yd (cR (tK (kk+1)))]) ⟨_,0,QU (),_,0,j5,1⟩ h6
  have n7:ig (upd (upd H3 t5 (.tup ((cL (kk+1)).map V.str))) t6 (-[V.str "rule",V.ref t5])) (upd (upd (upd H3 t5 (.tup ((cL (kk+1)).map V.str))) t6 (-[V.str "rule",V.ref t5])) t7 (-[V.str (tK kk),V.ref t6])):=qf h7 _;have j7:Is (upd (upd (upd H3 t5 (.tup ((cL (kk+1)).map V.str))) t6 (-[V.str "rule",V.ref t5])) t7 (-[V.str (tK kk),V.ref t6])) (prD (tK kk,Do kk)) (-t7):=Is.new (ds:= [.str (tK kk),Do kk]) ⟨_,0,QU (),_,0,j6,1⟩ h7
  show KY _ _ (upd (upd (upd H3 t5 (.tup ((cL (kk+1)).map V.str))) t6 (-[V.str "rule",V.ref t5])) t7 (-[V.str (tK kk),V.ref t6])) _;have ak:=(n5.trans n6).trans n7;generalize upd (upd (upd H3 t5 (.tup ((cL (kk+1)).map V.str))) t6 (-[V.str "rule",V.ref t5])) t7 (-[V.str (tK kk),V.ref t6])=H4 at ak j7⊢;have aD:=ak _ _ aA
  exists L1,O,0,1,aD,(),b1 _ _ ?_
  have tk:Tk H4 (upd H4 L1 (.lst (O++ [-t7]))):=Tk.updL aD;have s5:ig H (upd H4 L1 (.lst (O++ [-t7]))):=λb o e=>by rw[qj (qk e aN)];exact ak _ _ (s3 _ _ e)
  have aT:upd H4 L1 (.lst (O++ [-t7])) L1=u_ (.lst (O++ [-t7])):=qg;have aJ:upd H4 L1 (.lst (O++ [-t7])) LS=u_ (.lst U):=by rw[qj (vV aP)];exact ak _ _ aI
  have ap:L2.IsL (upd H4 L1 (.lst (O++ [-t7]))) ((prC m (i+1)).map prD) (O++ [-t7]):=by
   have ep:prC m (i+1)=prC m i++ [(tK kk,Do kk)]:=by
    unfold prC;rw[HN,uq,U0,aR]
    rfl
   rw[ep,uq];exact((af.mono ak.tk).mono tk).append (L2.IsL.one (j7.mono tk))
  have aq:=(ag.mono ak.tk).mono tk;generalize upd H4 L1 (.lst (O++ [-t7]))=H5 at s5 aT aJ ap aq⊢
  exists 0,.inl [1:_:SqL.of aJ],0,0,vA (vS _) ()
  exists _,0,1,mW (by show 1+↑(IY (kk:Int))<=_;omega)
  exists 0,_,0,1,0,vA (vS _) ()
  rw[aS]
  exists _,0,1,mW (by show 1+↑(IY ((kk+1:Nat):Int))<=_;omega),sml rfl,λt8 h8=>?_
  have n8:ig H5 (upd H5 t8 (-[V.str "thing",V.str (tK (kk+1))])):=qf h8 _;have j8:Is (upd H5 t8 (-[V.str "thing",V.str (tK (kk+1))])) (-[-"thing",.str (tK (kk+1))]) (-t8):=Is.new (ds:= [-"thing",.str (tK (kk+1))]) ⟨_,0,QU (),_,0,QU (),1⟩ h8
  exists sml rfl,λt9 h9=>[sml rfl:λtA hA=>[sml rfl:λtB hB=>[sml rfl:λtC hC=>?_]]];have n9:ig (upd H5 t8 (-[V.str "thing",V.str (tK (kk+1))])) (upd (upd H5 t8 (-[V.str "thing",V.str (tK (kk+1))])) t9 (-[V.ref t8,V.str "x"])):=qf h9 _;have j9:Is (upd (upd H5 t8 (-[V.str "thing",V.str (tK (kk+1))])) t9 (-[V.ref t8,V.str "x"])) (-[-[-"thing",.str (tK (kk+1))],-"x"]) (-t9):=Is.new (ds:= [-[-"thing",.str (tK (kk+1))],-"x"]) ⟨_,0,j8,_,0,QU (),1⟩ h9
  have aU:=n8.trans n9;have hA:(upd (upd H5 t8 (-[V.str "thing",V.str (tK (kk+1))])) t9 (-[V.ref t8,V.str "x"])) tA=none:=hA;have hB:(upd (upd (upd H5 t8 (-[V.str "thing",V.str (tK (kk+1))])) t9 (-[V.ref t8,V.str "x"])) tA (-[V.ref t9])) tB=none:=hB;have hC:(upd (upd (upd (upd H5 t8 (-[V.str "thing",V.str (tK (kk+1))])) t9 (-[V.ref t8,V.str "x"])) tA (-[V.ref t9])) tB (-[V.str "said",V.str "x"])) tC=none:=hC;show KY _ _ (upd (upd (upd (upd (upd H5 t8 (-[V.str "thing",V.str (tK (kk+1))])) t9 (-[V.ref t8,V.str "x"])) tA (-[V.ref t9])) tB (-[V.str "said",V.str "x"])) tC (-[V.str (tK kk),V.ref tA,V.ref tB])) _;generalize upd (upd H5 t8 (-[V.str "thing",V.str (tK (kk+1))])) t9 (-[V.ref t8,V.str "x"])=H6 at aU j9 hA hB hC⊢;have nA:=qf hA (-[V.ref t9]);have jA:=Is.new (ds:= [-[-[-"thing",.str (tK (kk+1))],-"x"]]) ⟨_,0,j9,1⟩ hA;have nB:=qf hB (-[V.str "said",V.str "x"]);have jB:=Is.new (ds:= [-"said",-"x"]) ⟨_,0,QU (),_,0,QU (),1⟩ hB
  have nC:=qf hC (-[V.str (tK kk),V.ref tA,V.ref tB]);have jC:Is (upd (upd (upd H6 tA (-[V.ref t9])) tB (-[V.str "said",V.str "x"])) tC (-[V.str (tK kk),V.ref tA,V.ref tB])) (stD (stC kk)) (-tC):=Is.new (ds:= [.str (tK kk),.tup (asC kk),enX]) ⟨_,0,QU (),_,0,jA.mono nB.tk,_,0,jB,1⟩ hC
  have al:=((aU.trans nA).trans nB).trans nC;generalize upd (upd (upd H6 tA (-[V.ref t9])) tB (-[V.str "said",V.str "x"])) tC (-[V.str (tK kk),V.ref tA,V.ref tB])=H7 at jC al⊢;have ah:=al _ _ aJ
  exists LS,U,0,1,ah,()
  have aK:Tk H7 (upd H7 LS (.lst (U++ [-tC]))):=Tk.updL ah
  exists O++ [-t7],U++ [-tC],0,λb o e=>?_,?_,(ap.mono al.tk).mono aK,qg,?_
  .rw[qj (qk e aO)];exact al _ _ (s5 _ _ e)
  .rw[qj aP];exact al _ _ aT
  .have ep:ppC m (i+1)=ppC m i++ [stC kk]:=by
    unfold ppC;rw[HN,uq,aR]
    rfl
   rw[ep,uq];exact((aq.mono al.tk).mono aK).append (L2.IsL.one (jC.mono aK))
 .rintro σ H3 ⟨O,U,u3,rfl,s3,aA,af,aI,ag⟩;refine q3 _ _ ?_;exists 8,N4,q4
  exists 0,L1,O,1,.inl [SqL.of aA:λtp a4=>?_];have mp:=qf a4 (¬O);intro x dx nx a5 bB;have mx:ig (upd H3 tp (¬O)) (upd (upd (upd H3 tp (¬O)) dx (.own x)) x (.ins a.qG dx [])):=λb ob e=>by
   rwa[qj (qk e nx),qj (qk e a5)]
  have aV:=mp.trans mx
  exists x,dx,tp,prC m (m-1),O,1,qg,mx _ _ qg,af.mono aV.tk,Abs aG.2 (),(by unfold prC;rw[ui,u9,vT];omega),λqs H4 keep hP hT au=>[1:q4 _ _ ?_]
  have aL:ig H3 H4:=λb ob e=>keep b ob (aV _ _ e) (qk (mp _ _ e) nx);have s4:=s3.trans aL;have hd:∀k,k+1<m->qA qs (tK k)=Do k:=λk hk=>X8 hT.1.1.2 (au.mem_iff.mpr (uc _ (Ae.mpr ⟨m-2-k,List.mem_range.mpr (),by rw[show m-2-(m-2-k)=k by omega]⟩)))
  have hl:qA qs (tK (m-1))=lfX:=X8 hT.1.1.2 (au.mem_iff.mpr uf);have hR:=MD hT aG.1 aG.2 hd hl;have aM:∀s>ppC m (m-1),EnS s.2.2/\nm s.1=true:=λs ac=>by
   erw[Ae.mp ac,j,hj,rfl];rw[V5] at hj;exact[.inr (.inl [0:()]):(Km _ ()).1]
  have aB:↑(ppC m (m-1))=m-1:=by unfold ppC;rw[u9,vT]
  have aW:PpB qs (ppC m (m-1)) true:=⟨(),λs ac=>(aM s ac).2,hR.nd,.inl [hR:λs ac=>(aM s ac).1:1]⟩
  have t0:("t0":Str)=tK 0:=by decide+kernel
  have aE:=aL _ _ aI;have aw:=ag.mono aL.tk;exists 8,N5,q5
  exists 0,0,LS,U,1,.inl [SqL.of aE:λts a6=>?_];have ms:=qf a6 (¬U)
  exists x,ts,U,"t0",qs,ppC m (m-1),v_,1,qg,aw.mono ms.tk,hP.same ms,hT,aW,(),λ_ v H5 s5 i5=>?_,λh=>A8 h ()
  have a7:shD qs (ppC m (m-1)) "t0"=-[-"value",-"x"]:=by
   have a8:("t0":Str)>(iT (ppC m (m-1))).map (·.1):=by
    rw[AcW,t0];exact Ae.mpr ⟨m-2,List.mem_range.mpr (),by rw[Fo]⟩
   have a9:qA (iT (ppC m (m-1))) "t0"=enX:=by
    rw[t0];refine X8 hR.nd (uQ (i:=m-2) ?_);unfold iT;rw[uG,AcY ()]
    show u_ (tK (m-2-(m-2)),enX)=_;rw[Fo]
   unfold shD;rw[A6 a8,a9];unfold Qr enX
   try dsimp only
   exact A6 rfl
  rw[A6 rfl,a7] at i5
  exists sml rfl,λtv hv=>?_;have mv:=qf hv (-[V.str "value",V.str "x"]);have iv:=Is.new (ds:= [-"value",-"x"]) ⟨_,0,QU (),_,0,QU (),1⟩ hv
  exists [-"value",-"x"],[-"value",-"x"],i5.mono mv.tk,iv,1,1,by simp[dpL,dp],0
  rw[(eqNL_iff (show nL [-"value",-"x"]=v_ from rfl)).mpr rfl]
  refine iU rfl ?_;have am:=(ms.trans s5).trans mv;have aX:=s4.trans am;generalize upd H5 tv (-[V.str "value",V.str "x"])=H6 at am aX⊢;have aF:=am _ _ aE;have ax:=aw.mono am.tk
  exists 0,0,LS,U,1,.inl [SqL.of aF:λtw bb=>?_];have mw:=qf bb (¬U)
  exists x,tw,U,qs,ppC m (m-1),v_,1,qg,ax.mono mw.tk,(hP.same am).same mw,hT,aW,λv7 H7 s7 bc _=>[1:0:?_];cases bc rfl;refine iU (by simp) (q5 _ _ ?_)
  have aC:=mw.trans s7;have bd:=aX.trans aC;have ah:=aC _ _ aF;have ay:=ax.mono aC.tk;have bf:=(hP.same am).same aC;obtain⟨s0,aa,ae⟩:∃s0 aa,ppC m (m-1)=s0::aa:=by
   cases hc:ppC m (m-1) with
   |nil=>rw[hc] at aB;have:m-1=0:=aB.symm;omega
   |cons s0 r=>exact[s0:r:1]
  rw[ae] at ay;obtain⟨v0,ad,rfl,_,aY⟩:=(show∃v0 ad,U=v0::ad/\Is H7 (stD s0) v0/\L2.IsL H7 (aa.map stD) ad from by
   erw[ay,v0,ad,e,h1,h2];exact⟨v0,ad,e,h1,h2⟩)
  exists 0,0,0,LS,0,SqL.of ah,λpl bg=>?_;have aZ:nj (v0::ad) (u_ 1) U_=ad:=by
   rw[show(u_ (1:Int))=u_ ((1:Nat):Int) from rfl,zG (by rw[ui];omega)]
   rfl
  rw[aZ];have ml:=qf bg (.lst ad)
  exists pl,ad,1,.inl [SqL.of qg:λtz bh=>?_];have mz:=ml.trans (qf bh (¬ad));have bo:PpB qs aa (decide (m=2)):=by
   have bp:↑aa+1=m-1:=by rw[<-aB,ae];rfl
   have a1:∀s>aa,s>ppC m (m-1):=λs ac=>by rw[ae];exact uc _ ac
   exists (),λs ac=>(aM s (a1 s ac)).2,?_,?_
   .have:=hR.nd;rw[ae] at this;exact(List.nodup_cons.mp this).2
   .rcases hm with rfl|rfl
    .have:aa= []:=by
      cases aa with
      |nil=>rfl
      |cons _ _=>rw[ui] at bp;omega
     subst this;exact .inl ⟨⟨vF,λi s ac=>(by cases ac)⟩,λs ac=>(by cases ac),1⟩
    .right
     exists ?_,1;have e1:aa[0]? =u_ (stC 37):=by
      have:=AcY (m:=40) (n:=39) (i:=1) ()
      rw[show(40:Nat)-1=39 from rfl] at ae
      rwa[ae] at this
     cases aa with
     |nil=>cases e1
     |cons s1 r=>
      cases e1;erw[JA (k:=37) () (hd 37 ()) (JC () () hd hl 1 38 ()),g1,bq,_]
      erw[JA (k:=38) () (hd 38 ()) (JC () () hd hl 0 39 ()),g2,bt,_]
      exact⟨_,r,tK 38,1,[g1:bq],1,(Km 38 ()).1,g2,bt⟩
  exists x,tz,ad,"t0",qs,aa,decide (m=2),1,qg,aY.mono mz.tk,bf.same mz,hT,bo,(),λ_ v H8 s8 i8=>?_,λh=>A8 h ()
  have bu:v= .non:=by
   by_cases c2:m=2
   .rw[ud c2,A6 rfl] at i8;have bv:aa= []:=by
     have:↑aa+1=m-1:=by rw[<-aB,ae];rfl
     cases aa with
     |nil=>rfl
     |cons _ _=>rw[ui] at this;omega
    rw[bv] at i8;unfold shD at i8;rw[A4 (by intro z;cases z),t0,hd 0 ()] at i8
    have:yV (Do 0)= .non:=(show(if("rule":Str)="leaf" then D.tup [-"value",Yd (cR (tK (0+1)))] else D.non)= .non from A4 ())
    rwa[this] at i8
   .rwa[ug c2,A4 u8] at i8
  exists 1;rw[bu,ud rfl];exact k _ (bd.trans (mz.trans s8))
abbrev AeA:D->D
 | .tup (k::_)=>k
 |d=>d
def SW (ps:oj (Str×D)):(ps.map prD).map AeA=(ps.map (·.1)).map D.str:=by
 rw[uK,uK]
 rfl
def Dk {H:Hp}:∀{zs:oj Str}{vs:oj V},L2.IsL H (zs.map D.str) vs->vs=zs.map V.str
 | [],_,h=>h
 |z::r,_,h=>by
  erw[h,v,q,rfl,[rfl,_],h2];rw[Dk h2]
  rfl
def AbZ {K:o0}{a A:o3}{H1:Hp}{te:TE}{tl:L2.St}{Q:VK}{ps:oj (Str×D)}{us:oj V}(ha:H1 a=u_ (.lst us))(hl:L2.IsL H1 (ps.map prD) us)(hn:↑ps<=60)(hA:H1 A=U_)
  (O:∀p x H (R:VK),p>ps->ig H1 H->Is H (prD p) x->(∀y H',ig H H'->Is H' (.str p.1) y->R y H')->te (u_ x::tl) H R)
  (hQ:∀H',ig H1 H'->H' A=u_ (.lst ((ps.map (·.1)).map V.str))->Q (-A) H'):CQ A (Itl K a) (YR 0) nN te (U_::tl) H1 Q:=by
 have hs:=uB;refine SI (ds:=ps.map prD) AeA ha hl (by rw[u9];omega) hA (λd x H R hd s hx r=>?_) λH' ys s U hy=>hQ H' s ?_
 .erw[Ae.mp hd,p,hp,rfl];exact O p x H R hp s hx r
 .rw[SW] at hy;rw[<-Dk hy];exact U
def EF:∀{l m:oj Str},l.Nodup->(∀x>l,x>m)->↑l<=↑m
 | [],m,_,_=>uS _
 |x::r,m,hn,hs=>by
  rw[vN] at hn;have O:=hs x uf;have h:=EF (l:=r) (m:=m.erase x) hn.2 (λy U=>(List.mem_erase_of_ne (λz=>hn.1 (by rwa[<-z]))).mpr (hs y (uc _ U)))
  rw[List.length_erase_of_mem O] at h;have:0<↑m:=List.length_pos_of_mem O;rw[ui];omega
def zL {zs:oj Str}:∀{ws:oj V},(∀y>ws,y>zs.map V.str)->∃U:oj Str,ws=U.map V.str/\∀z>U,z>zs
 | [],_=>⟨[],1,λz hz=>by cases hz⟩
 |y::r,h=>by
  obtain⟨U,rfl,h2⟩:=zL (ws:=r) λx O=>h x (uc _ O);erw[Ae.mp (h y uf),z,hz,rfl];exists z::U,1,λx O=>?_;rcases Aa.mp O with rfl|O
  .exact hz
  .exact h2 x O
variable {xs:oj V}{y:V}
def S7 {lo hi:om Int}(h:y>nj xs lo hi):y>xs:=by
 unfold nj at h;exact tW (T5 h)
def LG {K:o0}(h:X.K=K):OpR X (VJ .Add) (DT K):=h▸Wi
abbrev ZZ:oj Str:= ["zz"]
abbrev BT:oj Str:= ["","A","a b",Tt "a" 25]
def Ad0:∀z>BT,nm z=Vg/\↑z<=100:=by decide+kernel
variable {don:oj (Str×Gp)}
def LF (U:Qn qs){n:Str}(h:Dn qs n don):PpB qs (nc don) v_/\(∀m>(iT (nc don)).map (·.1),Qr (qA (iT (nc don)) m)=nz qs m)/\(g0D n (qA qs n)=U_\/n>(iT (nc don)).map (·.1)):=by
 have hR:=Al U h;have aa:↑don<=60:=by
  have:=EF (sJ h) (m:=qs.map (·.1)) λx hx=>by
   erw[Ae.mp hx,[m,p],O,rfl];erw[JM h O,s,e,_];exact(QC qs).gn _ s e
  rw[u9,u9] at this;exact uZ this U.2.2
 have hE:∀p>don,EnS (mY p.2)/\nm p.1=v_/\Qr (mY p.2)=nz qs p.1:=λp O=>by
  erw[JM h O,s,e1,e2];have e2:p.2=itP qs 302 s:=e2;have hf:=YZ e1;exists ?_,U.1.1.1 _ ((QC qs).gn _ s e1),?_
  .rw[e2];unfold mY;cases he:(itP qs 302 s).en with
   |none=>rw[he] at hf;cases hf
   |some e=>exact(zD U e1 302).1.en e he
  .rw[e2];unfold nz mY;rw[e1]
 refine⟨⟨by unfold nc;rw[u9];omega,λs hs=>?_,hR.nd,.inl [hR:λs hs=>?_:1]⟩,λm hm=>?_,?_⟩
 .erw[Ae.mp hs,p,O,rfl];exact(hE p O).2.1
 .erw[Ae.mp hs,p,O,rfl];exact(hE p O).1
 .rw[AF] at hm;erw[Ae.mp hm,p,O,rfl];rw[X8 hR.nd (Ae.mpr [(p.1,Qz p.2,mY p.2):Ae.mpr [p:O:1]:1])];exact(hE p O).2.2
 .rw[AF];exact AK h
def AbS:PpB qs [] true:=⟨(),λs O=>(by cases O),vF,.inl ⟨⟨vF,λi s O=>(by cases O)⟩,λs O=>(by cases O),rfl⟩⟩
inductive MY (K:PySem.W.Frag):Sp
 |mk (q:Addr)(ns:List Int)(_:vs= [-q])(_:SqL K H q (ns.map V.int))(_:↑ns<=63)(_:∀H',Q (.bl v_) H')
def AbJ:#[C,18,a.f_law,a.d_law,["script"],(MY K)]:=by
 have Zc:=#[AbM,T,C];have aP:=#[LN,T];have ji:=#[Ep,T];have w8:=#[Em,T,C];have aa:=#[AbI,T,C];have O:=#[LV,T,C];have JB:=#[wb,T,C];have Xh:=#[BH,T,C];have KR:=#[CF,T,C];exists 9,T.BY,ZQ
 erw[h,q,ns,rfl,hq,bh,k];have hs:=uB;exists 3,%[#[qF,#[Qi,#[Qb,#[qq,Zc,T.lD,#v[#[qV,yA,qi,#[qV,kS,#[qV,D9,#[qV,xz,#[qz,#[sM,1,rfl],T.z_sum,boot_sum,#v[pv 0]],qi],qi],qi]]]]]],%[|#[qo,Yc]],qt],#[qE,(1),ZQ.nd,#[qq,aP,T.mr,#v[pv 0]]],#[qE,2,(2),4,ZQ.nd,rfl,GH rfl,#[Xz,T.M_Project,ji,T.m_Project,T.li,qy,#v[#[qS,qU,T.QD,vo,#v[pv 1]]]],_,_],#[qE,(3),ZQ.nd,#[qV,BE,#[zd,["pair"],[],SG,#[Wm,pv 1],(λ_ _ _ _ _ _=>#[qP,(0),(show Vy (["pair"]:oj Str) by decide+kernel)]),(λ_ _ _ _ _ _=>#[qH,#[Ay,1,K,rfl],pv 0])],#[Q7,#v[ql]]]],#[qF,#[Qi,#[Qb,#[qq,w8,T.md,#v[pv 2,#[qD,qd],pv 3]]]],%[|#[qo,Yc]],qt],#[YO,#[jH,#v[#[qz,qT,T.Yo,uL,#v[pv 3]]]],#[qP,(4),ZQ.nd],%[#[qE,(5),ZQ.nd,#[qH,7,YS,pv 3,pv 4,(λ_ _=>rfl)]],#[qE,(6),ZQ.nd,#[qS,qU,T.QD,vo,#v[#[zd,["met","project"],[2],Me (qh Ls) ["script","pairs","project","names","k","name","paper","text"],#[xI,#[qq,aa,T.sF,#v[pv 2,pv 5]]],(λ_ _ _ _ _ _=>#[qP,(0),(show Vy (["met","project"]:oj Str) by decide+kernel)]),(λ_ _ _ _ _ _=>#[qV,LG (K:=K) rfl,#[qD,#v[pv 0]],#[qq,O,T.ni,#v[pv 1,pv 0]]])]]]],#[qF,#[Qi,#[Qb,#[qq,w8,T.md,#v[pv 2,pv 6,#[BA,10,(),pv 3,#[jN,#[qV,xz,pv 4,qi]],_]]]]],%[|#[qo,Yc]],qt],#[qF,#[qp,#[wM,1,hr.units],#[qq,16,JB,hr.mono (),_,T.iA.m,T.iA.F.kp,T.iA.b,.nil,oG,#v[pv 2,pv 6,pv 5],_,_,_],#[qq,Xh,T.me,#v[pv 2,pv 5]],qw _],%[|#[qo,Yc]],qt]|#[YO,#[Wm,#[xg,Kl,#[Q7,#v[ql,ql,ql,#[qV,Py,ql,qi]]],#[jN,#[qV,xz,pv 4,qi]],#[jN,#[qV,yA,#[qV,xz,pv 4,qi],qi]]]],#[qP,(7),ZQ.nd],%[|#[qF,#[Qi,#[Qb,#[qq,KR,T.mt,#v[pv 2,pv 6,pv 7]]]],%[|#[qo,Yc]],qt]]]]]|#[qo,Yc]]
 exists 8,N1,q1
 exists 0,q,ns,1,hq,_,0,1,(by show(0:Int)<8;decide),_,0,1,[():()],_,0,1,.inr [():()],_,0,1
 generalize hS:ns.sum=S;obtain⟨m,hm,aQ⟩:∃m:Nat,(2:Int)+S%8/7*38=(m:Int)/\(m=2\/m=40):=[(2+S%8/7*38).toNat:():()]
 exists m,(by show [V.int (2+S%8/7*38)]=_;rw[hm]),aQ,λH0 s0=>[0:iR (q1 _ _ ?_)]
 have hq:=Og hq s0;exists 8,N2,q2
 exists 0,q,ns,1,hq,λL ps us H1 bo s1 hL ay hok bp=>q2 _ _ ?_;exists 8,N3,q3
 exists 0,L,us,1,.inl [SqL.of hL:λt ht=>?_];have m1:=qf ht (¬us);intro x dx nx aR bq;have m2:ig (upd H1 t (¬us)) (upd (upd (upd H1 t (¬us)) dx (.own x)) x (.ins a.qG dx [])):=λb ob e=>by
  rwa[qj (qk e nx),qj (qk e aR)]
 have aA:=m1.trans m2
 exists x,dx,t,ps,us,1,qg,m2 _ _ qg,ay.mono aA.tk,hok,(),λqs H2 keep hP hT aS=>[1:q3 _ _ ?_]
 have s2:ig H1 H2:=λb ob e=>keep b ob (aA _ _ e) (qk (m1 _ _ e) nx);have aB:=s2 _ _ hL;have aC:=ay.mono s2.tk;exists 8,N4,q4
 exists 0,L,1,[_:SqL.of aB],λA0 aT=>?_;refine AbZ (tl:= []) aB aC () aT (λp y H' R hp s' hy hR=>?_) λH3 s3 aU=>?_
 .erw[hy,tp,up,rfl,ak,w1,r1,rfl,[rfl,hz],_];exact⟨0,tp,_,_,0,1,SqT.of ak,qI (j:=0) rfl,hR _ _ (ig.refl _) [1:hz]⟩
 exists sml rfl,λl2 aD=>?_;have m4:=qf aD (.lst [V.str "zz"])
 exists 5
 refine⟨A0,l2,_,0,1,m4 _ _ aU,qg,by rw[u9,u9];show _+1<=Vk;omega,λl3 aV=>q4 _ _ ?_⟩
 have m5:=m4.trans (qf aV (.lst ((ps.map (·.1)).map V.str++ [V.str "zz"])));obtain⟨zs,al⟩:∃zs,zs=ps.map (·.1)++ZZ:=⟨0⟩;have e5:upd (upd H3 l2 (.lst [V.str "zz"])) l3 (.lst ((ps.map (·.1)).map V.str++ [V.str "zz"])) l3=u_ (.lst (zs.map V.str)):=by rw[qg,al,uq];rfl
 generalize upd (upd H3 l2 (.lst [V.str "zz"])) l3 (.lst ((ps.map (·.1)).map V.str++ [V.str "zz"]))=H4 at m5 e5⊢;have aW:=s3.trans m5;have ac:∀z>zs,nm z=true:=λz hz=>by
  rw[al] at hz;rcases Ac.mp hz with h|h
  .exact hok.1.1 z h
  .cases Ab.mp h
   decide+kernel
 have bt:↑zs<=9:=by rw[al,uI,u9];show _+1<=9;omega
 have aE:=hP.same aW;exists 8,N5,q5
 exists 0,uS _,λt0 h0=>?_;have m6:=qf h0 (.tup ([]:oj V))
 exists 0,x,t0,l3,[],zs,qs,[],1,qg,1,aE.same m6,hT,AbS,m6 _ _ e5,ac,λn hn=>(by cases hn),λH5 s5=>[0:iR (q5 _ _ ?_)]
 have aF:=m6.trans s5;have aX:=aE.same aF;have aG:=aF _ _ e5;exists 8,N6,q6
 exists 0,l3,0,.inl (SqL.of aG),↑zs,by rw[u9],(),()
 let J_:Nat->L2.St->Hp->Prop:=λi σ H'=>(∃u4 u5 u6 u7,σ= [u_ (-q),u_ (-L),u_ (-x),u_ (-l3),u4,u5,u6,u7])/\ig H5 H'
 refine wZ (n:=↑zs) J_ [⟨_,_,_,0⟩:ig.refl _] ?_ ?_
 .rintro i σ Ha hi ⟨⟨u4,u5,u6,u7,rfl⟩,sa⟩;have aH:=sa _ _ aG;have am:=aX.same sa;show nw _ _ _ _ Ha;exists 8,B1,b1;have aY:atI (zs.map V.str) (0+(i:Int))=u_ (V.str zs[i]):=by
   rw[Int.zero_add];exact qI (j:=i) (by rw[uG,uh hi];rfl)
  exists 0,0,l3,_,_,0,1,SqL.of aH,aY,b1 _ _ ?_;have hn:=ac zs[i] (uT hi);generalize zs[i]=n at hn⊢;have bu:=xO hn;exists 8,B2,b2
  exists 0,0,x,n,qs,1,hn,am,hT,λtm Hb don sb aI hD bv bw=>?_
  exists tm,0,SqT.of aI,λaZ A1 aJ=>?_;have a1:=am.same sb;refine Nx (tl:= [u_ (-x)]) (λi ys H'=>L2.IsL H' (((nc don).take i).map stD) ys/\ig Hb H') aI aZ [1:qf aJ _] (λi ys H' h=>h.2) ?_ ?_
  .rintro j y ys H' w0 hy ⟨ad,s'⟩ a2;rw[uG] at hy;cases ae:don[j]? with
   |none=>rw[ae] at hy;cases hy
   |some p=>
    rw[ae] at hy;cases hy;have a3:=uQ ae;erw[JM hD a3,sg,e1,e2];have e2:p.2=itP qs 302 sg:=e2;have aK:nm p.1=true:=hT.1.1.1 _ ((QC qs).gn _ sg e1);have bx:=xO aK
    try dsimp![YR,nN,Go]
    rw[A6 rfl]
    exists 0,sml rfl,λt1 h1=>?_;have n1:=qf h1 (-[V.str p.1]);have i1:=Is.new (ds:= [.str p.1]) ⟨_,0,QU (),1⟩ h1
    exists 0,0,x,p.1,qs,sg,1,aK,(a1.same s').same n1,hT,e1,λv H4 s4 _ _ iv=>?_;rw[Mr,Ci,<-e2] at iv;refine Iy (i1.mono s4.tk) iv (by show 1+2<=1000;decide) λv5 H5 s5 i5=>?_
    have ao:=(n1.trans s4).trans s5;have aL:=ao _ _ a2;have tk:Tk H5 (upd H5 A1 (.lst (ys++ [v5]))):=Tk.updL aL;have ep:(nc don)[j]? =u_ (p.1,Qz p.2,mY p.2):=by unfold nc;rw[uG,ae];rfl
    exists 5
    refine⟨aL,⟨0⟩,?_,λb o e=>by rw[qj (qk e aJ)];exact ao _ _ (s' _ _ e)⟩
    rw[vn,ep,uq];have a4:Is H5 (stD (p.1,Qz p.2,mY p.2)) v5:=i5;exact((ad.mono ao.tk).mono tk).append (L2.IsL.one (a4.mono tk))
  rintro ys Hc ⟨ad,sc⟩ a5;have ad:L2.IsL Hc ((nc don).map stD) ys:=by
   have e:↑(nc don)=↑(don.map λp=>V.str p.1):=by unfold nc;rw[u9,u9]
   rwa[<-e,U1] at ad
  exists A1,ys,1,.inl [SqL.of a5:λtp ak=>b2 _ _ ?_];have mp:=qf ak (¬ys);have ep:upd Hc tp (¬ys) tp=u_ (¬ys):=qg;have U:=ad.mono mp.tk;have af:=(sb.trans sc).trans mp;generalize upd Hc tp (¬ys)=Hd at mp ep U af⊢;erw[LF hT hD,ap,aM,aq];have a6:=af _ _ aH;have ag:=am.same af;exists 8,B3,b3
  exists 0,0,0,0,_,0,1,(by show(0:Int)<3;decide),0,l3,0,SqL.of a6,λbA p2 aD aN a7=>?_
  erw[zL aN,ms,rfl,a8];have m7:=qf a7 (.lst (ms.map V.str))
  exists x,tp,p2,ys,ms,qs,nc don,1,m7 _ _ ep,U.mono m7.tk,ag.same m7,hT,ap,qg,λz hz=>ac z (a8 z hz),aM,λHe se=>[0:iR (b3 _ _ ?_)];have ah:=m7.trans se;exists 8,B4,b4;erw[NP hT n,kk,r,ea,bB,a9,bC,_];have nl:nL (.str kk::r)=true:=by simp![nL,nD,a9,Vd]
  exists 0,0,0,x,tp,ys,n,qs,nc don,v_,1,ah _ _ ep,U.mono ah.tk,ag.same ah,hT,ap,(),λ_ v Hf sf iF=>?_,λh=>A8 (hn.symm.trans h) HM
  rw[A6 rfl,(DF hT aM n).1 aq.symm,ea] at iF;have aO:=ah.trans sf
  exists 0,0,x,n,qs,1,hn,ag.same aO,hT,λv2 Hg sg i8 _=>?_;rw[ea] at i8
  exists _,_,iF.mono sg.tk,i8,nl,nl,(by simp![dpL,dp];omega),0
  rw[(eqNL_iff nl).mpr rfl];refine iR (b4 _ _ ?_);have bb:=aO.trans sg;have bc:MulOk "a" 25:=by unfold MulOk;decide+kernel
  exists _,0,1,bc,sml rfl,λl4 h4=>?_;have m8:=qf h4 (.lst (BT.map V.str));have e8:upd Hg l4 (.lst (BT.map V.str)) l4=u_ (.lst (BT.map V.str)):=qg
  exists 0,_,0,1,(by show(0:Int)<4;decide),0,0,_,0,1,(by show(0:Int)<4;decide),_,0,1,0,l4,0,SqL.of e8,λp5 au=>?_
  obtain⟨fs,bd,bf⟩:=zL (zs:=BT) (ws:=nj (BT.map V.str) (u_ ((0+(i:Int))%4)) (u_ ((0+(i:Int))%4+1))) λy hy=>S7 hy;have au:upd Hg l4 (.lst (BT.map V.str)) p5=none:=au;have m9:=m8.trans (qf au (.lst (nj (BT.map V.str) (u_ ((0+(i:Int))%4)) (u_ ((0+(i:Int))%4+1)))));have e9:upd (upd Hg l4 (.lst (BT.map V.str))) p5 (.lst (nj (BT.map V.str) (u_ ((0+(i:Int))%4)) (u_ ((0+(i:Int))%4+1)))) p5=u_ (.lst (fs.map V.str)):=by rw[qg,bd]
  exists p5,1,[_:SqL.of e9];have aw:=bb.trans m9;show∃W:Nat->Nat->L2.St->Hp->Prop,(∃m,W 0 m _ (upd (upd Hg l4 (.lst (BT.map V.str))) p5 (.lst (nj (BT.map V.str) (u_ ((0+(i:Int))%4)) (u_ ((0+(i:Int))%4+1))))))/\_;generalize upd (upd Hg l4 (.lst (BT.map V.str))) p5 (.lst (nj (BT.map V.str) (u_ ((0+(i:Int))%4)) (u_ ((0+(i:Int))%4+1))))=Hh at e9 aw⊢
  let J2_:Nat->L2.St->Hp->Prop:=λ_ σ H'=>(∃u7,σ= [u_ (-q),u_ (-L),u_ (-x),u_ (-l3),u_ (.int (0+(i:Int))),u_ (!n),u_ (-tp),u7])/\ig Hh H'
  refine Kk (xs:=fs.map V.str) J2_ [⟨0⟩:ig.refl _] (λ_ σ H' _ h=>SqL.of (h.2 _ _ e9)) ?_ ?_
  .rintro j y σ Hi hy ⟨⟨u7,rfl⟩,si⟩;erw[Ae.mp (uQ hy),z,hz,rfl];erw[Ad0 z (bf z hz),bg,bD];have ax:=aw.trans si;exact⟨0,0,0,x,tp,ys,z,qs,nc don,1,ax _ _ ep,U.mono ax.tk,ag.same ax,hT,ap,(),bg,λHj sj=>[0:iR [⟨0⟩:si.trans sj]]⟩
  .rintro σ Hi ⟨⟨u7,rfl⟩,si⟩;exact[⟨_,_,_,0⟩:(sa.trans af).trans (aw.trans si)]
 .rintro σ Ha _;exact q6 _ _ (k Ha)
end
def Ac8 {K:o0}{h:o8}{mg:Str->om o6}(X:K.In h)(G:h.Ns VD mg){U aa O ac f1 f2 f3 f4 f5 f6 f7 f8 f9 aV aW aX aY aZ a1 a2 a3 a4 a5 a6 a7 a8 a9 bb bc bd bf bg bh bo bp bq bt bu bv bw bx bA bB bC bD bE bF bG bH bI bJ bK bL bM bN bO bP bQ bR bS bT bU bV bW bX bY bZ b3 b4 b5 b6 b7 b8 b9 ca cb cc cd ce cf cg ch ci cj ck cm cn cp cq cr cs cu:o3}{t1 t2 t3 t4 t5 t6 t7 t8 t9 cv cw:Tok}
  (aL:#[K,"Machine"]=u_ (u_ (-U))) (aM:Cls K U) (aC:PySem.W.makesIn K U=v_/\PySem.W.keepIn K (-U)=v_)
  (aP:#[K,"Going"]=u_ (u_ (-aa))) (aQ:Cls K aa) (aK:PySem.W.makesIn K aa=v_/\PySem.W.keepIn K (-aa)=v_)
  (aE:#[K,"PlainOrder"]=u_ (u_ (-O))) (aF:Cls K O) (ag:PySem.W.makesIn K O=v_/\PySem.W.keepIn K (-O)=v_)
  (aN:#[K,"Project"]=u_ (u_ (-ac))) (aO:Cls K ac) (aD:PySem.W.makesIn K ac=v_/\PySem.W.keepIn K (-ac)=v_)
  (h1:FZg K "is_text" wv f1)
  (h2:FZg K "is_tree" zC f2)
  (h3:FZg K "is_name" wS f3)
  (h4:FZg K "is_pair" wx f4)
  (h5:FZg K "is_row_of_names" y6 f5)
  (h6:FZg K "is_answer" Xm f6)
  (h7:FZg K "part_of" w9 f7)
  (h8:FZg K "pieces_of" Xv f8)
  (h9:FZg K "row_of" wg f9)
  (h10:FZg K "read_lines" J0 aV)
  (h11:FZg K "rule_rows" XA aW)
  (h12:FZg K "bad_line" zP aX)
  (h13:FZg K "is_rule" WD aY)
  (cx:FZg K "text_made" Xj aZ)
  (cy:FZg K "self_made" Xq a1)
  (cz:FZg K "copy_made" xY a2)
  (cA:FZg K "row_made" Zq a3)
  (cB:FZg K "put_made" Zo a4)
  (cC:FZg K "join_made" xR a5)
  (cD:FZg K "first_made" JQ a6)
  (cE:FZg K "rest_made" Xs a7)
  (cF:FZg K "size_made" Xl a8)
  (cG:FZg K "cut_made" Zi a9)
  (cH:FZg K "glue_made" Xn bb)
  (cI:FZg K "is_jump_taken" YL bc)
  (cJ:FZg K "asked_or_fault" YA bd)
  (aR:FZm K U "__init__" "Machine.__init__" jl bf)
  (cK:FZm K U "now" "Machine.now" jL bg)
  (cM:FZm K U "answer" "Machine.answer" Yv bh)
  (cN:FZm K U "asked" "Machine.asked" Y2 bo)
  (cO:FZm K U "go_on" "Machine.go_on" YX bp)
  (cP:FZm K U "is_waiting" "Machine.is_waiting" yg bq)
  (cQ:FZm K U "do_row" "Machine.do_row" Yw bt)
  (cS:FZm K U "hold" "Machine.hold" jh bu)
  (cT:FZg K "asks_that_stand" y8 bv)
  (cU:FZg K "does" DL bw)
  (aS:FZm K aa "__init__" "Going.__init__" JD bx)
  (cV:FZm K aa "begin" "Going.begin" jX bA)
  (cW:FZm K aa "look" "Going.look" Jw bB)
  (cX:FZm K aa "wanted" "Going.wanted" jk bC)
  (cY:FZm K aa "take" "Going.take" JW bD)
  (cZ:FZm K aa "full" "Going.full" JX bE)
  (aT:FZm K O "__init__" "PlainOrder.__init__" Yf bF)
  (c0:FZm K O "begin_anew" "PlainOrder.begin_anew" QX bG)
  (c1:FZm K O "go_through" "PlainOrder.go_through" Q1 bH)
  (c2:FZm K O "enter" "PlainOrder.enter" yO bI)
  (c3:FZm K O "settle" "PlainOrder.settle" yt bJ)
  (c4:FZm K O "runner" "PlainOrder.runner" yp bK)
  (c5:FZm K O "leave" "PlainOrder.leave" yR bL)
  (c6:FZm K O "go_on" "PlainOrder.go_on" yM bM)
  (c7:FZm K O "answer_yet" "PlainOrder.answer_yet" QZ bN)
  (c8:FZg K "answer_at_once" Yt bO)
  (c9:FZg K "has_run" WN bP)
  (da:FZg K "answer_by" xQ bQ)
  (de:FZg K "check_name" JR bR)
  (dh:FZg K "check_names" j3 bS)
  (di:FZg K "order_from" Jv bT)
  (dj:FZg K "order_over" JV bU)
  (dk:FZg K "answer_of" Xx bV)
  (dl:FZg K "full_run" Zk bW)
  (dm:FZg K "met_by" Ko bX)
  (dq:FZg K "first_wrong" Ja bY)
  (dt:FZg K "first_ends" Jn bZ)
  (dv:FZg K "wrong_word" ja b3)
  (dw:FZg K "is_right_answer" Ye b4)
  (dy:FZg K "is_full_run" jI b5)
  (dz:FZg K "is_run_of" xJ b6)
  (dA:FZg K "shown" wr b7)
  (dB:FZg K "is_source" Xo b8)
  (aU:FZm K ac "__init__" "Project.__init__" Yi b9)
  (dC:FZm K ac "sources" "Project.sources" jE ca)
  (dD:FZm K ac "source_of" "Project.source_of" yn cb)
  (dE:FZm K ac "looked_up" "Project.looked_up" Q0 cc)
  (dF:FZg K "longest_row" jZ cd)
  (dG:FZg K "_law_cell_at" jS ce)
  (dH:FZg K "_law_pot" WB cf)
  (dI:FZg K "_law_take" zI cg)
  (dJ:FZg K "_law_word" Zb ch)
  (dL:FZg K "_law_line" xh ci)
  (dM:FZg K "_law_rule" J5 cj)
  (dN:FZg K "_law_maker" Xd ck)
  (dO:FZg K "_law_leaf" J9 cm)
  (dP:FZg K "_law_source" JG cn)
  (dQ:FZg K "_law_sources" jU cp)
  (dR:FZg K "_law_refused" jK cq)
  (dS:FZg K "_law_right" XB cr)
  (dU:FZg K "_law_chain_right" Yb cs)
  (dV:FZg K "law" Ls cu)
  (ay:#[K,U,"rows"])
  (aA:#[K,U,"rule"])
  (aG:#[K,U,"own"])
  (ap:#[K,U,"boxes"])
  (aq:#[K,U,"place"])
  (aB:#[K,U,"done"])
  (au:#[K,U,"given"])
  (aw:#[K,U,"there"])
  (aI:#[K,aa,"name"])
  (aH:#[K,aa,"order"])
  (ax:#[K,aa,"made_by"])
  (al:#[K,aa,"rule_asks"])
  (ao:#[K,aa,"rule_run"])
  (aJ:#[K,aa,"end"])
  (ad:#[K,O,"given_project"])
  (ah:#[K,O,"stack"])
  (ae:#[K,O,"under_way"])
  (af:#[K,O,"full_runs"])
  (ak:#[K,O,"found"])
  (am:#[K,ac,"by_name"])
  (g1:#[K,"MOST_SIGNS"]=u_ (u_ (.int 300 t1)))
  (g2:#[K,"MOST_PARTS"]=u_ (u_ (.int 40 t2)))
  (g3:#[K,"MOST_SIZE"]=u_ (u_ (.int 600 t3)))
  (g4:#[K,"MOST_DEPTH"]=u_ (u_ (.int 12 t4)))
  (g5:#[K,"MOST_NAME_SIGNS"]=u_ (u_ (.int 24 t5)))
  (g6:#[K,"LETTERS"]=u_ (u_ (.str "abcdefghijklmnopqrstuvwxyz" t6)))
  (g7:#[K,"NAME_SIGNS"]=u_ (u_ (.str "abcdefghijklmnopqrstuvwxyz0123456789./" t7)))
  (g8:#[K,"PERCENT"]=u_ (u_ (.int 37 t8)))
  (g9:#[K,"MOST_LINES"]=u_ (u_ (.int 40 t9)))
  (dW:#[K,"MOST_DONE"]=u_ (u_ (.int 300 cv)))
  (dX:#[K,"MOST_NAMES"]=u_ (u_ (.int 60 cw)))
  (zz:∀x>(["ord","len","isinstance","str","tuple","all","int","range","zip","dict","enumerate","sorted","abs","min","sum"]:oj Str),PySem.W.nsIn K VD x=u_ U_):∃a,Tx K mg a:=by
 exists 6,d1,F1,Qd,h1,["value"];exists 6,d2,F2,Qd,h2,["value"];exists 6,d3,F3,Qd,h3,["value"];exists 6,d4,F4,Qd,h4,["value"];exists 6,d5,F5,Qd,h5,["tree"];exists 6,d6,F6,Qd,h6,["ask","answer"];exists 6,d7,F7,Qd,h7,["kind","piece","count"];exists 6,d8,F8,Qd,h8,["line","form"];exists 6,d9,F9,Qd,h9,["line","count"];exists 6,dY,dZ,Qd,h10,["value"];exists 6,d0,ea,Qd,h11,["tree"];exists 6,eb,ec,Qd,h12,["tree"];exists 6,ef,eg,Qd,h13,["value"];exists 6,eh,ei,Qd,cx,["boxes","own","parts"];exists 6,ej,ek,Qd,cy,["boxes","own","parts"];exists 6,el,em,Qd,cz,["boxes","own","parts"];exists 6,eo,eq,Qd,cA,["boxes","own","parts"];exists 6,er,et,Qd,cB,["boxes","own","parts"];exists 6,eu,ey,Qd,cC,["boxes","own","parts"];exists 6,ez,eA,Qd,cD,["boxes","own","parts"];exists 6,eB,eC,Qd,cE,["boxes","own","parts"];exists 6,eD,eE,Qd,cF,["boxes","own","parts"];exists 6,eF,eG,Qd,cG,["boxes","own","parts"];exists 6,eH,eI,Qd,cH,["boxes","own","parts"];exists 6,eJ,eK,Qd,cI,["boxes","word","parts"];exists 6,eL,eM,Qd,cJ,["word","held"];obtain⟨eN,eO⟩:=y9 aR ["self","rule","own"] (by rfl');obtain⟨eP,eQ⟩:=y9 cK ["self"] (by rfl');obtain⟨eR,eS⟩:=y9 cM ["self","tree"] (by rfl');obtain⟨eT,eU⟩:=y9 cN ["self"] (by rfl');obtain⟨eV,eW⟩:=y9 cO ["self"] (by rfl');obtain⟨eX,eY⟩:=y9 cP ["self"] (by rfl');obtain⟨eZ,e0⟩:=y9 cQ ["self","row"] (by rfl');obtain⟨e1,e2⟩:=y9 cS ["self","box","tree"] (by rfl');exists 6,e3,e4,Qd,cT,["machine","asks"];exists 6,e5,e6,Qd,cU,["rule","own","run"];obtain⟨e7,e8⟩:=y9 aS ["self","name","source","order"] (by rfl');obtain⟨e9,fa⟩:=y9 cV ["self","rule"] (by rfl');obtain⟨fb,fc⟩:=y9 cW ["self"] (by rfl');obtain⟨fe,ff⟩:=y9 cX ["self"] (by rfl');obtain⟨fg,fh⟩:=y9 cY ["self","answer"] (by rfl');obtain⟨fi,fj⟩:=y9 cZ ["self"] (by rfl');obtain⟨fm,fo⟩:=y9 aT ["self","project"] (by rfl');obtain⟨fq,ft⟩:=y9 c0 ["self","project"] (by rfl');obtain⟨fu,fv⟩:=y9 c1 ["self","name"] (by rfl');obtain⟨fw,fx⟩:=y9 c2 ["self","name"] (by rfl');obtain⟨fy,fz⟩:=y9 c3 ["self","going"] (by rfl');obtain⟨fA,fB⟩:=y9 c4 ["self","rule","own"] (by rfl');obtain⟨fC,fD⟩:=y9 c5 ["self","going"] (by rfl');obtain⟨fE,fF⟩:=y9 c6 ["self","going"] (by rfl');obtain⟨fG,fH⟩:=y9 c7 ["self","name"] (by rfl');exists 6,fI,fJ,Qd,c8,["source"];exists 6,fK,fL,Qd,c9,["source"];exists 6,fM,fN,Qd,da,["end"];exists 6,fO,fP,Qd,de,["name"];exists 6,fQ,fR,Qd,dh,["names"];exists 6,fS,fT,Qd,di,["project","name"];exists 6,fU,fV,Qd,dj,["project","names"];exists 6,fW,fX,Qd,dk,["project","name"];exists 6,fY,fZ,Qd,dl,["project","name"];exists 6,f0,gb,Qd,dm,["project","name"];exists 6,gc,ge,Qd,dq,["project","paper"];exists 6,gf,gg,Qd,dt,["paper"];exists 6,gh,gj,Qd,dv,["project","ends","earlier","step"];exists 6,gk,gl,Qd,dw,["project","earlier","ask","answer"];exists 6,gm,gq,Qd,dy,["source","name","asks","end"];exists 6,gr,gu,Qd,dz,["rule","own","asks","end"];exists 6,gv,gw,Qd,dA,["project","paper","name"];exists 6,gx,gy,Qd,dB,["value"];obtain⟨gz,gA⟩:=y9 aU ["self","sources"] (by rfl');obtain⟨gB,gC⟩:=y9 dC ["self"] (by rfl');obtain⟨gD,gE⟩:=y9 dD ["self","name"] (by rfl');obtain⟨gF,gG⟩:=y9 dE ["self","ask"] (by rfl');exists 6,gH,gI,Qd,dF,["names"];exists 6,gJ,gK,Qd,dG,["script","k"];exists 6,gL,gM,Qd,dH,["cell","salt"];exists 6,gN,gO,Qd,dI,["pot","many"];exists 6,gP,gQ,Qd,dJ,["pot","names"];exists 6,gR,gS,Qd,dL,["pot","names","many","k"];exists 6,gT,gU,Qd,dM,["pot","names"];exists 6,gW,gX,Qd,dN,["pot","names"];exists 6,gY,gZ,Qd,dO,["pot","names"];exists 6,hb,hc,Qd,dP,["pot","names"];exists 6,he,hf,Qd,dQ,["script"];exists 6,hg,hh,Qd,dR,["project","paper","text"];exists 6,hj,hk,Qd,dS,["project","paper","names"];exists 6,hl,ho,Qd,dU,["many"];exists 6,hp,hq,Qd,dV,["script"];have z:∀x>(["ord","len","isinstance","str","tuple","all","int","range","zip","dict","enumerate","sorted","abs","min","sum"]:oj Str),mg x=none:=λx hx=>PySem.W.mg_none_of X G (zz x hx);simp![uD,uU,uM,forall_eq_or_imp,forall_eq] at z;erw[z,z1,z2,z3,z4,z5,z6,z7,z8,z9,hr,hs,ht,hu,hv,hw];exact[⟨f1,d1,f2,d2,f3,d3,f4,d4,f5,d5,f6,d6,f7,d7,f8,d8,f9,d9,aV,dY,aW,d0,aX,eb,aY,ef,aZ,eh,a1,ej,a2,el,a3,eo,a4,er,a5,eu,a6,ez,a7,eB,a8,eD,a9,eF,bb,eH,bc,eJ,bd,eL,bf,eN,bg,eP,bh,eR,bo,eT,bp,eV,bq,eX,bt,eZ,bu,e1,bv,e3,bw,e5,bx,e7,bA,e9,bB,fb,bC,fe,bD,fg,bE,fi,bF,fm,bG,fq,bH,fu,bI,fw,bJ,fy,bK,fA,bL,fC,bM,fE,bN,fG,bO,fI,bP,fK,bQ,fM,bR,fO,bS,fQ,bT,fS,bU,fU,bV,fW,bW,fY,bX,f0,bY,gc,bZ,gf,b3,gh,b4,gk,b5,gm,b6,gr,b7,gv,b8,gx,b9,gz,ca,gB,cb,gD,cc,gF,cd,gH,ce,gJ,cf,gL,cg,gN,ch,gP,ci,gR,cj,gT,ck,gW,cm,gY,cn,hb,cp,he,cq,hg,cr,hj,cs,hl,cu,hp,U,aa,O,ac⟩:⟨F1,F2,F3,F4,F5,F6,F7,F8,F9,dZ,ea,ec,eg,ei,ek,em,eq,et,ey,eA,eC,eE,eG,eI,eK,eM,eO,eQ,eS,eU,eW,eY,e0,e2,e4,e6,e8,fa,fc,ff,fh,fj,fo,ft,fv,fx,fz,fB,fD,fF,fH,fJ,fL,fN,fP,fR,fT,fV,fX,fZ,gb,ge,gg,gj,gl,gq,gu,gw,gy,gA,gC,gE,gG,gI,gK,gM,gO,gQ,gS,gU,gX,gZ,hc,hf,hh,hk,ho,hq,aM,⟨aC.1,aR.1,aR.2.1,aC.2⟩,uO X G aL,ay,aA,aG,ap,aq,aB,au,aw,aQ,⟨aK.1,aS.1,aS.2.1,aK.2⟩,uO X G aP,aI,aH,ax,al,ao,aJ,aF,⟨ag.1,aT.1,aT.2.1,ag.2⟩,uO X G aE,ad,ah,ae,af,ak,aO,⟨aD.1,aU.1,aU.2.1,aD.2⟩,uO X G aN,am,[_:uO X G g1],[_:uO X G g2],[_:uO X G g3],[_:uO X G g4],[_:uO X G g5],[_:uO X G g6],[_:uO X G g7],[_:uO X G g8],[_:uO X G g9],[_:uO X G dW],[_:uO X G dX],z1,z2,z3,z4,z5,z6,z7,z8,z9,hr,hs,ht,hu,hv,hw⟩]
variable {K:o0}{h:o8}{mg:Str->om o6}{f:o3}{x:Str}
def mk1 (X:K.In h)(G:h.Ns VD mg){O:o3}{y:Str}(z:∃m,PySem.W.nsIn K VD y=u_ (u_ (-m))/\PySem.W.nsIn K O x=u_ (u_ (-m)))(e:mg y=u_ (-f)):PySem.W.nsIn K O x=u_ (u_ (-f)):=by
 erw[z,m,h1,h2];have:=(uO X G h1).symm.trans e;injection this with this
 injection this with this
 rw[<-this];exact h2
abbrev MKP:oj (Str×Str):= [("text","text_made"),("self","self_made"),("copy","copy_made"),("row","row_made"),("put","put_made"),("join","join_made"),("first","first_made"),("rest","rest_made"),("size","size_made"),("cut","cut_made"),("glue","glue_made")]
abbrev Ab5 (e:hZ):om Str:=match e.key with
 | .str x _=>u_ x
 |_=>U_
variable {a:o3}{es:Array hZ}
def qaw (hl:K.lookup a=u_ ⟨.type "dict",U_,.dict es n,#[]⟩)(hk:es.toList.map Ab5=FRM.map λx=>u_ x.1)(hz:xB z=U_):PySem.W.nsIn K a z=u_ none:=by
 have h1:∀e>es.toList,∃x t,e.key= .str x t/\x≠z:=by
  intro e U;have hm:Ab5 e>es.toList.map Ab5:=Ae.mpr [e:U:1];rw[hk] at hm;erw[Ae.mp hm,x,hx,ex];have O:=WU hz x hx;unfold Ab5 at ex;split at ex
  .rename_i y t hy
   cases ex;exact⟨_,_,hy,O⟩
  .cases ex
 unfold PySem.W.nsIn;rw[hl]
 try dsimp only
 have f1:es.toList.find? (λe=>e.key.isStr z)=none:=by
  rw[Uv];intro e U;erw[h1 e U,x,t,hx,O];rw[hx];exact λq=>O (um q)
 have f2:es.toList.any (·.refKey)=false:=by
  rw[t_];intro e U;erw[h1 e U,x,t,hx,O];unfold FX;rw[hx];exact u8
 rw[f1,f2]
 rfl
def AdT {w:og}{K:o0}{h:o8}{mg:Str->om o6}{a:Ad}(T:Tx K mg a)(X:K.In h)(G:h.Ns VD mg){aB aA aF aM aa O U aW:o3}{eF eM:Array hZ}{nF nM:Nat}
  (gB:#[K,"BOXES"]=u_ (u_ (-aB))) (gA:#[K,"ASKING"]=u_ (u_ (-aA))) (gF:#[K,"FORMS"]=u_ (u_ (-aF))) (gM:#[K,"MAKERS"]=u_ (u_ (-aM)))
  (lB:TZ K aB BX) (lA:TZ K aA ["ask","has","names"]) (lF:K.lookup aF=u_ ⟨.type "dict",U_,.dict eF nF,#[]⟩) (lM:K.lookup aM=u_ ⟨.type "dict",U_,.dict eM nM,#[]⟩)
  (kF:PySem.W.KeysLit w.params eF.toList) (kM:PySem.W.KeysLit w.params eM.toList) (zF:(aF==VC)=Vg) (zM:(aM==VC)=Vg)
  (fF:∀x>FRM,TZn K aF x.1 (x.2.map Kd.t)) (fM:∀p>MKP,∃m,PySem.W.nsIn K VD p.2=u_ (u_ (-m))/\PySem.W.nsIn K aM p.1=u_ (u_ (-m))) (oM:∀z>AcD,PySem.W.nsIn K aM z=u_ U_)
  (kk:eF.toList.map Ab5=FRM.map λx=>u_ x.1)
  (g1:#[K,"BadRule"]=u_ (u_ (-aa))) (b1:PySem.W.excIn K aa VE "ValueError.__new__"=v_)
  (g2:#[K,"BadName"]=u_ (u_ (-O))) (b2:PySem.W.excIn K O VE "ValueError.__new__"=v_)
  (g3:#[K,"BadAnswer"]=u_ (u_ (-U)))
  (e3:PySem.W.exmOne K (-U) (-U)=u_ v_)
  (gW:#[K,"WrightError"]=u_ (u_ (-aW)))
  (e2:PySem.W.exmOne K (-O) (-aW)=u_ v_) (x2:AwV.zf K O):∃g,Fx K w mg g a:=by
 exists ⟨aB,aA,aF,aM,aa,O,U,aW⟩,⟨uO X G gB,uO X G gA,uO X G gF,uO X G gM,λH=>lB.sq (),λH=>lA.sq (),⟨zF,eF,nF,lF,kF⟩,λx hx=>?_,⟨zM,eM,nM,lM,kM⟩,mk1 X G (fM ("text","text_made") ()) T.lp.m,mk1 X G (fM ("self","self_made") ()) T.lr.m,mk1 X G (fM ("copy","copy_made") ()) T.lJ.m,mk1 X G (fM ("row","row_made") ()) T.lS.m,mk1 X G (fM ("put","put_made") ()) T.lU.m,mk1 X G (fM ("join","join_made") ()) T.lE.m,mk1 X G (fM ("first","first_made") ()) T.lc.m,mk1 X G (fM ("rest","rest_made") ()) T.lC.m,mk1 X G (fM ("size","size_made") ()) T.lq.m,mk1 X G (fM ("cut","cut_made") ()) T.lV.m,mk1 X G (fM ("glue","glue_made") ()) T.lI.m,oM,λz hz=>qaw lF kk hz,uO X G g1,b1,uO X G g2,b2,uO X G g3,e3,uO X G gW,e2,x2⟩
 erw[fF x hx,q,h1,h2];exact⟨q,h1,λH=>by rw[Zp];exact h2.sq (by rw[u9];exact uZ (B6 x hx) ())⟩
end K41
open PySem PySem.W PyProof.Rows L2
set_option maxRecDepth 100000 in
set_option maxHeartbeats 0 in
theorem PySem.Challenge.cw_askwright_k41_papers_are_right_holds : PySem.Challenge.rw_askwright_k41_papers_are_right.Holds := by
 w_on;o_law;k_head;(case hw=>w_witness2)
 k_fill
 refine L2.IS (l:=PySem.Challenge.rw_askwright_k41_papers_are_right) (n:=63) (k:=18) (x:="script") (CX:=L2.CX0) (sp:=K41.MY) rfl (by decide) rfl ⟨rfl,by decide,by decide⟩ (fun w h Y=>PySem.W.kIn_of Y) ?F ?S ?C
 case F=>
  intro w mg fa h KX G hmg
  have T:∃a,K41.Tx (L2.KOf KX) mg a:=by
   try dsimp only [L2.KOf]
   refine' K41.Ac8 KX G ..
   all_goals first|exact⟨by k_is,_,_,_,_,_,_,_,_,_,by k_is,by k_is,by k_is⟩|exact⟨by k_is,by k_is,_,_,_,_,_,_,_,_,_,by k_is,by k_is,by k_is⟩|(show _=_;k_is)|exact⟨by k_is,by k_is,by k_is,by k_is⟩|exact⟨by k_is,by k_is⟩|(intro x hx;simp only [uD,uU,uM] at hx;rcases hx with rfl|rfl|rfl|rfl|rfl|rfl|rfl|rfl|rfl|rfl|rfl|rfl|rfl|rfl|rfl<;>k_is)|skip
  erw[T,a,T]
  have C:∃g,K41.Fx (L2.KOf KX) w mg g a:=by
   try dsimp only [L2.KOf] at T⊢
   refine' K41.AdT T KX G (kF:= ?kF) (kM:= ?kM) (fF:= ?fF) (fM:= ?fM) (oM:= ?oM) (kk:= ?kk) (b1:= ?b1) (b2:= ?b2) (e3:= ?e3) (e2:= ?e2) (x2:= ?x2) ..
   all_goals try (first|(show _=u_ (u_ _);k_is)|(show _=u_ (Obj.mk _ _ _ _);k_is)|exact⟨_,_,_,_,by k_is,rfl⟩)
   (case kF=>(repeat (first|exact trivial|refine[⟨_,_,rfl,rfl⟩:?_])));(case kM=>(repeat (first|exact trivial|refine[⟨_,_,rfl,rfl⟩:?_])))
   case fF=>
    intro x hx
    unfold FRM at hx
    simp only [uD,uU,uM] at hx
    rcases hx with rfl|rfl|rfl|rfl|rfl|rfl|rfl|rfl|rfl|rfl|rfl|rfl|rfl|rfl|rfl|rfl|rfl|rfl|rfl|rfl<;>exact⟨_,by k_is,_,_,_,_,by k_is,rfl⟩
   case fM=>
    intro x hx
    unfold K41.MKP at hx
    simp only [uD,uU,uM] at hx
    rcases hx with rfl|rfl|rfl|rfl|rfl|rfl|rfl|rfl|rfl|rfl|rfl<;>exact⟨_,by k_is,by k_is⟩
   case oM=>
    intro x hx
    unfold K41.AcD at hx
    simp only [uD,uU,uM] at hx
    rcases hx with rfl|rfl|rfl|rfl|rfl|rfl|rfl|rfl|rfl<;>k_is
   (case kk=>rfl);(case b1=>k_exc);(case b2=>k_exc);(case e3=>kts_exm);(case e2=>kts_exm);(case x2=>exact⟨by k_is,by k_is,by k_is,by k_is,by k_is,by k_is,by k_is⟩)
   all_goals rfl
  erw[C,g,C]
  have e0:=hmg.symm.trans T.BY.m
  cases e0
  exact⟨_,T.BY.law (fun _ _ _ _ _ _ _=>rfl),(by erw[T.BY.F.ex,_,_,_,_,_,_,_,_,_,e,_];rw [e];rfl),fun base kb nb=>K41.AbJ T C⟩
 case S=>exact fun w H a ns hl hO hS=>⟨a,ns,rfl,hS,hl,fun _=>rfl⟩
 case C=>exact fun _ _ _ _ z=>z
