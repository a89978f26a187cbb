import PyProof.Rows.All
import Wide.All
import OpenK.AllK
import Wide.FinOn
import Lean
import PyProof.EqAt
import PyProof.EqKinds
import PyProof.TupleCall
import PySem.Str
import PyProof.ZipIter
import PyProof.Draws
import PyProof.StrLawsChain
import PyProof.StrLawsTight
import KE.KIntText
import OpenK.KTop
import PyProof.StationsW
import PyProof.ExcClass2
import PyProof.ExcBaseAll.ValueError
import PyProof.Rows.Catch
import OpenK.KOwn
import KE.KTryMore
import KE.FramesApart
import PyProof.RulesAs
import PyProof.NsDelKeeps
import PyProof.ExcArgs
import PyProof.Rows.SortStr
import KE.KDictSum
import PyProof.DictWalks
import PyProof.IsiH_list
import KE.KDictOf
import PyProof.NeKinds
import PyProof.StrCalls6
import PyProof.FString
import KE.KUnpack
import KE.KItemsList
import KE.KRevIter
import KE.IntBitsLaws
import PyProof.FString5
import PyProof.TupleKey
import Wide.Seal
import PyProof.Rows.SortShellK
import PyProof.DictRoadsH
import PyProof.Rows.SortRev
import PyProof.Rows.SetFrom
import PyProof.FactsAll.set_2
import PyProof.FactsAll.set_1
import PyProof.Rows.SortShell
import PyProof.Tail
import KE.KMinKey
import PyProof.ExcArgsOwn
import PyProof.ExcAttrAll.ValueError
import KE.KRevSl
import PyProof.FactsAll.dict_itemiterator_1
import PyProof.TupleOfSeq
import PyProof.WalksMore
import KE.KDictLaws
import PyProof.Rows.Range3
import PyProof.DictValues
import KE.KDictList
import PySem.Challenge.RW_askwright_k45_papers_put_together
local macro_rules|`(↑$x)=>`(($x).length)
local macro_rules|`(tactic|simp! [$x,*] $[$l:location]?)=>`(tactic|simp only [$x,*] $[$l]?)|`(tactic|dsimp! [$x,*] $[$l:location]?)=>`(tactic|dsimp only [$x,*] $[$l]?)
set_option hygiene false in
local macro_rules | `(command| #print $s:str) => do { let mut a := #[]; let mut n := 0; let mut k := 0; for c in s.getString.toList do { let v := c.toNat; n := n*64+(if v<58 then v-48 else if v<91 then v-55 else if v==95 then 62 else if v==126 then 63 else v-61); k := k+1; if k%11==0 then { a := a.push (Lean.mkIdent (Lean.Name.mkSimple ("tw"++toString n))); n := 0 } }; `(structure PySem.W.Fast:Prop where ($a*:True)) }
set_option maxRecDepth 100000 in
#print "2DUvkke5i3HEHjfwjBYp~q7ZPaSk3WOd54Rozxu2auRw9~xWcSDXuZl8WQ1_OWD_qpBJ5iF3f2qKv3_O8RjBbDo2CNzxyyWK2Gl3V2noPFgc5y4HSKl8VWuMq3OJ2unSdQa88qz5amJTng_8HFMFE~XRLxCm9mi0l1~I~Dj4ufyUggYP51I1bqSi_kp0GxomvOgR5sE3jxl1EJtl65KPtCoVSDVlC1ZQAneqnSUCpyR7BC2~xyEZXqvhZulKn4YvP9cTzt2lCTrnigRNK3J7Gdxh6Ehygr4Fo9JJ9FS4vDSImJ~O_MXO6B8aixBy63mAxSdOnSAEciFbjy68_loFr9vQ1~WODqrr2S7V89bP51RBs~cvq8ETKa8MBK7xcBTi72bhfPUUNTkeAM_iepHVtlAEn58nKQs4rc374hSq7U7eUDNh8d4qh9gLCDXEOJwLj5R9DDOYQ4M5CuDmMpdQRbZ4P8_gqpHkRE1u8i97K5cZ9UL6DoP6j4BQ5XCHutuAid1JX4idktALPHNZFWeqGzw4plUF9INCxx9VTQ1e8UJymDNOfA65EVro9fH96nD2VAB7DbV2L6ECf833HHFJhCveT5Lv7CofUkLU~5Pi5ybPRWbAqo10ImpHAMnxMODWyYaXuHXI12wNfS0OB8Rh3MCSC7kTV10DsltPunCUqt8YBmWxD0UWW6hyUQft55uP75gvc89UbVm4oCmvQzq88w9iGQjbD3nHu4WDioU5fDPGC0J0PPLnR83D_e9bha1PDf7Et4_qJNtA9D2lGJOEe41jDOJDMmmjVKdAJpZqls2zYwCvxL6SatUSJ0OuASkxEDpZAYLN2Uq2crDFp23E8WA7X46mNknU9YEzs1ovJBux9Ybj5s56Z7AMY24DLTrLSg2WQk3ojkA8G4T5E0bINzyu17Pf1Vf_4Kkl5EFFjq9iD5i16c2Bv8rhy0GkNDmx_53jxA6J3CFSs6aQRfC9yY23b8gZJHBW7CCniAmx34O4rqK9ToGm9jX9weXwrqz5K3nbJhf2iT1azZF8zSKiqFNrln3Jfd7n2gFkVKqV0BF5TuqVkA_I4d3nfa7gZINAl4GtheBzoUJc83hmZjvRrLk4awpVKI0kfADDGByzEbpFr7L7Rbi0T5x4BQ3ePflvYcaALmrSyQLufiDxkgawqKVBlD1OyOFS6_o270Iu7r44weA57LlkOa~tKaCkGxgizlnvq93U4oj3kmWs9QNI5SNT3_H0MupWeHiYBn9gSq~crTKp~DQ2p3__DD_E9ORAg3XZFm97ISMh_7jIjE7q~M2R2fv6E9KTyPsXfSZdF97x2RFIGpP88IxrUxU3UzEkZg4Yl~UQ0DWkWrltgIOG7jQ8e6N52HD3brjsn~_76r2aKN6Atv76D60ATYvbxmiZ2QLvuQcW789B1I3ET~KrT21n2329Xz6o502ndO9uFNh5C~UK5~8MwlRAwRwy2gSUVs8ccLSQGfrt~1kdciFa_LcY1V2SzRItG4G7p_NHnvyjUh6WQG5LliNtH0gFEnZ1odJB6w~DNdCihHa5ppN9a~YHuf7RGl2zNAupVDkhn8CG8~fr941lCWBRQbl2I4koBZSzbOFll2Smr55p3BsGBne5DUUi1GPuDzgJLUnEmrnky7kZSh1FVf4blpxR0496y4FV_YkB2duyqOMHGdF8OI0XiM46b~83kFUqT~KBl8TkOm81efh87IS0sOV7~RNELBNLwwVCXFFzwKjkNVStcCxCvymGYQlD3xHe64T3mb7129lRRdzEJ81aaXDaMRN9l8dMyUCz9LE82pMxBV8ka472Wv7uDkf7o4FmC6Wmm92M3FgnYWzdJSt29iTXBd1cMtT0GashqfUinmDAaY4B8~SAmFGiaaxpMk2lC094Al3loIa7Uu9wpmVgHnA~TVaWRALIZ12xs2jeVFhA9yxkoNg2Gvc3NAHIPA5NmM9ODQ7I5tv3s4oJvWxuz8wJ9r7WhF06fEpCF6o1XNxNKjFBrszkUvHoMEX61v_q~Ya314MagBr30~W0NfF8QtjnNdFj5QlIcp1RX1r4LODDQ6O23cWq8z6224I1633XhXOB927XEijAMpw1iBrbRjqyX26TEaNJqdpd03GAjR8rsOzkTyBArLtle7~47CUJBvhw6tXl0Px4NvO1719CGUUFSovTNhBUXSG72aE8JD4ONF7Igv8v4RdtMVcoZ_FB7hpYylI4X99tmt~HEqvJN7M5o8gArh1y1KrTU_tYRLwFWcUu4ngApn9hKRD6azw~KAzGKJOhp6np50H6NKKxi~KCZDJS1hXatpFr02JWhZAR2F~2~sqZsfKQ9uJsCUKydrEAdDsuzbIv2~6iscf~NSZByA9L5nXzA7VpCd5Q5LFmG6L8lBG2OFRf9qB6WC6Nj_bQK5qQLBAr75kkAbeUBpvB4V78X3cI7GLJfJ7GqNEwndUOg0VTsHBMAcl15LkZiQ8toht5rNUTNqbqkH53MD6lN9OCYA69GKQ10HxR2ir36UYvo~B6y21RSmZkbVEIowfoJzW4WAaKet29u1YPDHKkQRJAZBnDKCMzq7qtrM8~8RK6g_H9G61GyvBDyBGO86hfYSgP8IA6b1~Q1PbTzS8B5dFY3JcS2FXj~G7dNoxa7Ggy9DTpJQP1HL3u_ZWffO98KCixU0Z~c1ns39oz4cpfBbGEX0JyhSl0BOIAflcW6aCnkNFg4T6Fl0pF9sUzT8e8AYL62g0kdh8Aql5348WG9Y9wdb3oULZ4a0L_UAfFu1ya4FW1MfD_H3lF~2U5UlfNhxFocZC1qfoAg0s47yyploPT1D0yDz~Oizj5~wH8hDUepfC66ENpE3fBP6QpbXPM4qKf0KNOxGfuj2V4e4AYex3yG83~mWdAV3o65DC5G006HTmJBiSCtlYZcJY8h_y5mkCTXs0zu8Zkr2OB4A~4PLAnMtsb6G0rHApf8zu5ZRURxNdJ297TENLA~2zZmDFKSVORdnhp7vTQJpUNT_kE9JswVXXuFHDJ74La79Der0iL~vYyG2Wd43eU_2T9bB1FZrsDecpem10onf1_pWTy5DUvt3OuYZtyChYMo5a3dsm1nAkYYBdS3tB4Uh~AAkSY59hK1BZwU~7k1hs0ZqeptucF3lh9rJ8R~H3pKKDoOTVFM8HYxQcoVAVw7A9CdzyROZ85k7mMaoKAmD1J2JzGCGpS91nb7cN5wb9kEfDRlRoQ5~q2E9xO7UzEig7kBIlTw5TWuACXT2zvljKN0hc9s4QOB8DC4JCGD6D0fpA5PGIzoeVfV5wCXsA7SyYn6HKL_fLU9s1A0PWo~jrhWV8rexwRdEshwBxUC9RMpLdu40nO3vKy3OY3NUcUvhPDR09TZBOJ6rzAF8F9rnovM0a2864cMKQ6cKV7Yr~kLIEI5c0lDTWvy~BDP2IjvuBGjPAVEjB7GIAIuT8FBpWZ3wYF~K8F83gFdDWDo2W81Pncm~OTEH7gFeODEgJ53EFkqYcLsMBVVOsmwxtOfDt3XWPlG8g~EowELTLryKj8IsyIwfHR8j5ObL5gxKks11dtmKgI5FL83ID3et~ep3Y85ofb0vPf_QFPoxhUpCCdk0SZwQIdzlRhES5MWwrBWDQBqTaUPW1tuq4hZAMbCP0EPExv1qV13hGZEzNe~aft3eA9yuvECEokAFFVlJYQh_FbW4Ma~XEKocNFE8rAUapW0JUCg0NNB4oUduAeKFml3PcuJ7ethXSQjsYE3FI4C0slM0a7du6YgLToLT4wgSU_htuX8CfFgtXw5PXB16QLVV8_pPhAsaFPmkwdyU7dgn7GEyG~fCam5GrdWJLuBdgUoor2uef9Brw~osDst_ElHLBm~KZcE30NfPsEE9DB74_TD3fx9bW3fMTaWM1V_01tG2riAocxF8tLoFvvAcElEIhE~SwXlxN185mcg~RKxQBuFFERHcXUeAW6_g7hgVPND~w1mlZVkSqCM_hpaudZ~63xuEy6l1imW2G1onp0wJymA6Y0aWOlvRMEwVOhl4FlQC3Qllh~SKjbE0MZFRCtZvtp1B7aAbzvRcI5LWc5l57VUj2cVDyQtVgbM1FhrVXWQT2iAYmW9S0yTrI6Jn0w98kWe6594Q3D7~GGs9lMmhBuDsAGAXQI_qVvhMP7hB~TNyckTu5vPi2JMKaVV9EfvzLHzhgB49VxaJjDl_j8DdQUo2Z2DmFz0u02af5UT3Zcl5HgtS94F0tl1QgER8K45Nsb0R5e5Z4lh5rZYhEQB2jxFDfoYnV4DkEjBcsEbR_8rrVSerFX405aTmn79F6PBAwpryvVZBue7DzX5BwxU1x3_n7JI6DC1R6C5Hj3aM6gf7AWtOn7xA1X555EYb6zNtgCpN7gSNgKga4eJwTy5FhtYB~9sa8gIrXN088WDBk8ITH9POT48X9joY2WxM0tK9ip14K8rMp1s0Dr0y8jHDebpX38zZh4InOVQAE1kznOtxozhFJk_NM2ZtPT2d_1oJu2VLBB5UnDecLnWA7Ldh6PqzIB75AMcRF_UViO4Xs326M4Ps041o7P8oLUSeDhGwVisLura2YGYYkFOdfUFyhTL8JtR09Dc1mBw_WAWt3rsk8PQlhOtCO8o4YLagtjFtxCUHNz4qiB3YCBHTJ6l1EuCheX7HxH9FYTrEgnyCmVEJhyLXs63I97U44wjGrkoK7bATNNgQHan1wuuypCJsDrEZ~lozq2Sas05ujYWgIQFV5VqKhKwEp9q7Qw3EONzJtVDhZIse2N~PHB3Q3uq_jQ9N8y4alQeQ2BSEoosSWAwJPo3Tyb4SRJsW67KrzX1Meb~9DvnrPbyQgT1EO696L_TDM~6hZo_f1~pi32s2Mrzy6PedA4KeXc_Feqw6oLyTfNm8KO4qBsrtWkLS20Ysl4PLZQ3CFqk03n2lbEx1cV8LhI4p1o7fHeAUA6l~eAX1M3blht5yCIlB40~KiLoBTjMBgLF3wq9xgQxRsIS0h59svVsszNHh3siAeat5xEc5tDZXwy~x6o5Tn7VU4Pmmy0SIMpzZ8bxBDbrQglL9CLYAatycYkdajiFd_w39mkPoK4d4XB5ISfj~BdE8LgUFGa~FS1K3gfsBPm2l~lwd3XU7qC9RWDMbEfG_9ivb8Zq8UrD9cTdSHWAxAh2QYxiwQ0IG_912VMZgJSIp3ij~1Tae9aACz1C0nOtrvy1h1vpiNMdh016VD0lrQCfe9seKD7ca2wA1xFijWwjqlb6sdgZMHQ4e~9CtSOq56K5r08Dg79RQ2PKCFNHD70wDhu3qwvGsyL9Me930ioWhlKtU2YNFzsV2b976loPxRt~3ZZ6mbuGRtTWEi2tuRNpO27IC57O9SZfiGtRANTodtetzZT4eOzK~gae6kCNxQiQ4hWAV11JJ9lLLNBB9LcYU_YXGpwDafGfQ3cW70BGm1QBF1UGf0umhGniJpDLB8oDSFOBKXM2eI_ng2P6ZbAyWB2uchOkr7TxLmB~pAVI8dirjO21x5c5a7ufXgU5Gw7hUiiNKOzEPFEkw6tmenkW5UeSdSlWwsGDTdXJBrLMrP9mcP5jfh7502VUXeOUf7~o08czpgBUXTm1ANrMcFNS9S"
set_option bootstrap.genMatcherCode false
set_option genSizeOf false
set_option compiler.extract_closed false
local macro_rules | `(tactic| trivial) => `(tactic| first | rfl | exact .inl rfl | exact .inr rfl | exact .inr (.inl rfl) | decide +kernel | (intro _; rfl) | omega | exact ⟨rfl,rfl,rfl,by decide +kernel,rfl,by decide +kernel,by decide +kernel⟩ | (intro _ _ _ _ _ _ us hl; rcases us with _|⟨_,_|⟨_,_|⟨_,_|⟨_,_|⟨_,_|⟨_,_⟩⟩⟩⟩⟩⟩ <;> first | rfl | cases hl) | (intro _ _ _ _ h; cases h; subst_vars; rfl))
set_option hygiene false in
local macro_rules | `(tactic| ac_rfl) => `(tactic| ((try dsimp only);first|assumption|exact Inv.tk (by assumption)|exact Nat.succ_pos _|exact Nat.lt_of_lt_of_le (Inv.tk (by assumption)) (by assumption)|exact Nat.add_pos_left (Inv.tk (by assumption)) _|omega))
local macro_rules | `(()) => `(by trivial)
local macro_rules | `(#[$f:ident,$n:num,$xs,*]) => do let h ← `(_); let b ← `(by trivial); let mut a := Array.replicate n.getNat h; for x in xs.getElems do { match x.raw.isNatLit? with | some k => a := a ++ Array.replicate k h | none => a := a.push (if x.raw.isOfKind ``Lean.Parser.Term.hole then b else x) }; `(@$f $a*)
local macro_rules | `(⟨$xs,*⟩) => do let h ← `(_); let r ← `(rfl); let mut a := #[]; let mut c := false; for x in xs.getElems do { match x.raw.isNatLit? with | some 0 => { a := (a.push h).push r; c := true } | some _ => { a := a.push r; c := true } | none => a := a.push x }; if c then `(⟨$a,*⟩) else Lean.Macro.throwUnsupported
set_option hygiene false
local macro_rules | `(#v[$xs,*]) => do let mut r ← `(qd); for x in xs.getElems.reverse do { r ← `(#[qb,5,$x,$r,_]) }; return r
local macro_rules | `(%[$xs,*|$k]) => do let mut r ← `(#[qe,3,$k]); for x in xs.getElems.reverse do { r ← `(#[qc,5,$x,$r]) }; return r
local macro_rules|`(#[XN,$a,$b])=>`(#[XN,7,$a,$b])|`(#[Qo,$a])=>`(#[Qo,4,$a])|`(#[Qc,$a])=>`(#[Qc,3,$a,_])|`(#[qA,$a,$b,$c,$d])=>`(#[qA,9,$a,_,$b,$c,$d,_,_,_,_])|`(#[Q9,$a,$b,$c])=>`(#[Q9,2,$a,2,_,$b,$c,rfl,_,_])|`(#[j8,$a])=>`(#[j8,4,$a])|`(#[qq,$a,$b,$c,$d])=>`(#[qq,8,$a,$b,$c,$d])|`(#[Kq,$a])=>`(#[Kq,4,_,$a,_])|`(#[qo,$a])=>`(#[qo,4,$a])|`(#[Ym,$a,$b,$c])=>`(#[Ym,8,uT,rfl,$a,$b,$c,_])|`(#[qM,$a,$b])=>`(#[qM,2,$a,1,$b,rfl,Or.inl rfl,_])|`(#[qE,$a,$b,$c])=>`(#[qE,2,$a,4,$b,rfl,Or.inl rfl,$c,_,_])|`(#[QR,$a])=>`(#[QR,4,$a])|`(#[qG,$a])=>`(#[qG,5,$a])|`(#[qC,$a,$b])=>`(#[qC,7,$a,$b,qh,(λ_ _=>rfl)])|`(#[qX,$a])=>`(#[qX,4,$a,_])|`(#[jU,$a,$b,$c,$d,$e,$f])=>`(#[jU,12,$a,$b,$c,$d,$e,$f,_,_,_,_,_])|`(#[xO,$a,$b,$c,$d,$e,$f,$g])=>`(#[xO,2,$a,$b,$c,9,$d,rfl,$e,$f,(λ_ _ _ _ _ _=> @yf _),$g,_])|`(#[wW,$a])=>`(#[wW,4,$a])|`(#[Qh,$a,$b,$c])=>`(#[Qh,8,$a,$b,$c])|`(#[qH,$a,$b,$c])=>`(#[qH,8,$a,$b,$c])|`(#[qp,$a,$b,$c:ident,$d])=>`(#[qp,16,$a,$b,_,$(Lean.mkIdent (c.getId++`m)),$(Lean.mkIdent (c.getId++`F.kp)),$(Lean.mkIdent (c.getId++`b)),.nil,qy,$d,_,_,_])|`(#[Qw,$a,$b,$c])=>`(#[Qw,8,$a,$b,$c,qw _])|`(#[yd,$a,$b,$c])=>`(#[yd,8,$a,$b,$c])|`(#[pe_gR,$a])=>`(#[pe_gR,4,_,$a,_])|`(#[Qg,$a,$b,$c,$d])=>`(#[Qg,9,$a,_,$b,$c,$d,_,_,_,_])|`(#[WC,$a])=>`(#[WC,3,$a])|`(#[Wy,$a])=>`(#[Wy,4,$a])|`(#[QH,$a,$b])=>`(#[QH,6,QZ hr,$a,$b,(λ_ _=>rfl)])|`(#[ZC,$a,$b])=>`(#[ZC,7,$a,$b])|`(#[XL,$a])=>`(#[XL,5,$a])|`(#[Qf,$a])=>`(#[Qf,8,pv 0,$a,rfl])|`(#[Jo,$a,$b,$c])=>`(#[Jo,9,QZ hr,$a,$b,$c,rfl])|`(#[Qm,$a,$b,$c:ident,$d,$e])=>`(#[Qm,20,$a,$b,$(Lean.mkIdent (c.getId++`h)),$d,hr.mono (),$(Lean.mkIdent (c.getId++`b)),.nil,qy,$e,_,_,_])|`(#[QL,$a,$b,$c:ident,$d])=>`(#[QL,17,$a,$b,$(Lean.mkIdent (c.getId++`h)),$d,hr.mono (),$(Lean.mkIdent (c.getId++`b)),.nil,qy,_])|`(#[kj,$a])=>`(#[kj,6,$a,_])|`(#[pc_din,$a,$b,$c])=>`(#[pc_din,5,$a,$b,$c])|`(#[wY,$a])=>`(#[wY,4,$a])|`(#[yH,$a])=>`(#[yH,6,_,T.jh,$a,_])|`(#[zJ,$a,$b,$c,$d,$e:ident,$f,$g])=>`(#[zJ,17,$a,$b,$c,_,$d,$(Lean.mkIdent (e.getId++`b)),.nil,$f,$g,_,_,_])|`(#[jX,$a])=>`(#[jX,1,$a])|`(#[w])=>`((by with_unfolding_all rfl))|`(#[X,X])=>`((model X.prog X.w))|`(#[w,w])=>`((model prog w))|`(#[Y,$a,$b])=>`((⟨$a,$b⟩:Sy.Ss (SyP qs)))|`(#[K,$a,$b,$c,$d,$e])=>`(FnOk P w K mg base CX0 $a $b $c $d $e)|`(#[K,$s:str])=>`((PySem.W.nsIn K mainGlobals $s))|`(#[K,$x,$s:str])=>`((PySem.W.findIn K (.ref $x) $s=some none))|`(#[0,$s:ident])=>`($(Lean.mkIdent (s.getId++`heap.objs.size)))|`(#[I])=>`(Inv X ot σ H s)|`(#[$f:ident,T])=>`($f (P:=P) (w:=w) (base:=base) T)|`(#[$f:ident,T,C])=>`($f (P:=P) (w:=w) (base:=base) T C)
local macro_rules|`(tactic|exists $es,*)=>do{let a:=es.getElems;match a[0]!.raw.isNatLit? with|some 2=>let b:=a.extract 1 a.size;`(tactic|intro ot s σ H $b*)|some 6=>let x:Lean.Ident:=⟨a[1]!.raw⟩;let y:Lean.Ident:=⟨a[2]!.raw⟩;`(tactic|obtain ⟨$x:ident,$y:ident⟩:=$(a[3]!) X G $(a[4]!) $(a[5]!) (by rfl'))|some 7=>`(tactic|try dsimp only [cxOf,Cx.nox])|some 3=>`(tactic|(refine ⟨_,$(a[1]!),?_⟩;(try dsimp only [cxOf,Cx.nox]);(try (apply cl_i (a:=K) (b:=a);intro _ _))))|some 4=>`(tactic|try (apply cl_i (a:=K) (b:=a);intro _ _))|some 5=>`(tactic|repeat (first|(with_reducible refine gN_ ?_)|(with_reducible refine seq_0 ?_;intro _ _ _)|(with_reducible refine if_C ?_;intro _ _)|(with_reducible refine while_C ?_;intro _ _)|(with_reducible refine for_C ?_;intro _ _)))|some 8=>let x:Lean.Ident:=⟨a[1]!.raw⟩;let y:Lean.Ident:=⟨a[2]!.raw⟩;`(tactic|((first|refine seq_oC ?_|((apply cl_i (a:=K) (b:=a);intro _ _);refine seq_oC ?_));intro _ _ $x $y _))|some 9=>let x:=Lean.mkIdent (a[1]!.raw.getId++`F.ok);let y:Lean.Ident:=⟨(a.getD 3 (Lean.mkIdent `hr)).raw⟩;`(tactic|refine $x $(a[2]!) (by trivial) (λ_ _ _ s H _ Q E $y h=>?_))|_=>let h←`(?_);let b:=if a.any fun x=>(x.raw.find? (·.isOfKind `Lean.Parser.Term.syntheticHole)).isSome then a else a.push h;`(tactic|((repeat (first|(with_reducible refine gN_ ?_)|(with_reducible refine seq_0 ?_;intro _ _ _)|(with_reducible refine if_C ?_;intro _ _)|(with_reducible refine while_C ?_;intro _ _)|(with_reducible refine for_C ?_;intro _ _)));refine ⟨$b,*⟩))}
set_option hygiene true
set_option hygiene false in
local macro_rules | `(tactic| rfl') => `(tactic| first | exact bo1 (fun _ _ _ _ _ _ _ => rfl) | exact bo2 (fun _ _ _ _ _ _ _ _ => rfl) | exact bo3 (fun _ _ _ _ _ _ _ _ _ => rfl) | exact bo4 (fun _ _ _ _ _ _ _ _ _ _ => rfl))
set_option hygiene false in
local macro_rules|`(tactic|erw [$rs,*])=>do{let rec f (e:Lean.Syntax):Nat->Lean.MacroM (Lean.TSyntax `Lean.Parser.Tactic.rcasesPatLo)|0=>`(Lean.Parser.Tactic.rcasesPatLo|_)|n+1=>do{if e.isIdent then{let x:Lean.Ident:=⟨e⟩;`(Lean.Parser.Tactic.rcasesPatLo|$x:ident)}else{match e with|`([$xs,*])=>do{let mut p:=#[];for x in xs.getElems do{p:=p.push (← f x n)};let q:=p;let t←`(rcasesPat|⟨$q,*⟩);`(Lean.Parser.Tactic.rcasesPatLo|$t:rcasesPat)}|_=>`(Lean.Parser.Tactic.rcasesPatLo|_)}};let mut p:=#[];let mut h:Array Lean.Term:=#[];for r in rs.getElems do{match r with|`(Lean.Parser.Tactic.rwRule|$e:term)=>{if h.size==0 then h:=h.push e else p:=p.push (← f e 9)}|_=>Lean.Macro.throwUnsupported};let q:=p;let g:=h[0]!;`(tactic|obtain ⟨$q,*⟩:=$g)}
local macro_rules|`([$a:term : $b:term])=>`(⟨$a,$b⟩)|`([$a:term : $b:term : $c:term])=>`(⟨$a,$b,$c⟩)
set_option hygiene false in
local macro_rules(kind:=Lean.Parser.Command.declaration)|x=>do{let d:=x[1];let h:=x[0];let k:=d.getKind;let s:=d[2][1][0];let p:=fun (n:Lean.Name) (f:Lean.Name) (t:Array Lean.Name)=>Lean.mkNode `Lean.Parser.Term.explicitBinder #[Lean.mkAtom "(",Lean.mkNullNode #[Lean.mkIdent n],Lean.mkNullNode #[Lean.mkAtom ":",if t.isEmpty then Lean.mkIdent f else Lean.mkNode `Lean.Parser.Term.app #[Lean.mkIdent f,Lean.mkNullNode (t.map fun u=>(Lean.mkIdent u).raw)]],Lean.mkNullNode,Lean.mkAtom ")"];let b:=fun l=>Lean.mkNullNode (d[2][0].getArgs++l);if k==`Lean.Parser.Command.inductive&&s[1].getId==`Sp then return x.setArg 1 (d.setArg 2 (Lean.mkNode d[2].getKind #[b #[p `vs `List #[`V],p `H `Hp #[],p `Q `VK #[],p `E_ `XK #[]],Lean.mkNullNode #[s.setArg 1 (Lean.mkNode `Lean.Parser.Term.prop #[Lean.mkAtom "Prop"])]]))else if k==`Lean.Parser.Command.abbrev then{let y:=x.setArg 0 ((h.setArg 6 Lean.mkNullNode).setArg 4 (Lean.mkNullNode #[Lean.mkNode `Lean.Parser.Command.noncomputable #[Lean.mkAtom "noncomputable"]]));if h[6].getNumArgs>0 then return y else if (h.find? (·.isAtom)).isSome||d[1][0].getId==`VE then Lean.Macro.throwUnsupported else return y.setArg 1 (Lean.mkNode `Lean.Parser.Command.definition #[Lean.mkAtom "def",d[1],d[2],d[3],Lean.mkNullNode])}else if k != `Lean.Parser.Command.definition then Lean.Macro.throwUnsupported else if (h.find? (·.isAtom)).isSome||d[2][1].getNumArgs==0 then Lean.Macro.throwUnsupported else{let t:=s[1];let n:=t[1][0].getId;let o:=t[0].getAtomVal=="#["&&(n==`C||n==`T);let l:=if o then #[p `T `Tx #[`K,`mg,`a]]++(if n==`C then #[p `C `Fx #[`K,`w,`mg,`g,`a]]else #[])else #[];return x.setArg 1 (Lean.mkNode `Lean.Parser.Command.theorem #[Lean.mkAtom "theorem",d[1],Lean.mkNode `Lean.Parser.Command.declSig #[b l,if o then s.setArg 1 (t.setArg 1 (t[1].setArg 0 (Lean.mkIdent `K)))else s],d[3]])}}
local macro_rules|`(-$x:ident)=>`(.ref $x)|`(-$x:str)=>`(.str $x)|`(-[$x,*])=>`(.tup [$x,*])
local macro_rules|`(!$x:ident)=>`(.str $x)
local macro_rules|`(¬$x:ident)=>`(.tup $x)
local macro_rules|`($x>$y)=>`($x∈$y)
noncomputable section
set_option Elab.async false
set_option linter.all false
set_option maxRecDepth 100000
set_option maxHeartbeats 4000000
open PySem.W renaming Frag->o0,mg_of->uU,kia_one->vD,callWith_K->Ut
open PySem renaming Addr->o3,Value->o6,Shared->o7,Heap->o9,Program->og,World->oh,Around->oj,wpAny_bind->A7,wpAny_pure->uD,sizeLine_eq->uE,boot_len->uO,wpAny_with_toks->vh,wpAny_field->vi,wpAny_callSpecial?_slot->vn,wpAny_setField_rec->vv,wpAny_mono->vz,wpAny_truthy_bool->vA,wpAny_newObj_type->vB,wpAny_call_entry->vE,mem_of_lookup->vN,typeIs_str->vT,call_meets->vU,wpAny_pyIter_tuple->U3,wpAny_passesOwn->Ue,wpAny_seqItems->Uo,wpAny_Call_Name_kw->Us,tupleKind_room_in1->Uu,wpAny_execs_nil->Uz,codeAny_mono->UA,wpAny_isInstance->UJ,wpAny_rule->UL,wpAny_Call_method0_late->UQ,wpAny_attempt->UT,wpAny_pyIter_list->UZ,call_meetsIn->V5,wpAny->Vd,FuncData->Ve,sizeLine->Vg,starEach->Vh,cLine->Vl,compareOp->Vm,backTo->Vo,model->Vs,IsPair->Vt,Scope->Vu,sysModules->Vy,mainGlobals->Vz,IsZip->VD,pyNext->VF,rawInt->VG,codeAny->VJ,binaryOp->VL,field->VM,bindC->VN,NameKind->VO,getItem->VP,bindL->VQ,Builtin->VR,attributeBase->VS,valueAt->VU,wpAny_holding->VW,IsEnum->VY,assignEach->VZ,sliceBounds->V_,IsPart->g_,unsetMember->G6,holding->G9,atKey->Gf,backToKw->Gg,assign->Gh,keywordEach->Gj,callerA->Gu,bindArgs->Gx,wpAny_typeOf->Gy,Keyword->GB,bootBuiltins->GC,Result->GD,standAt->GF,DictEntry->GG,stored->GJ,BindsTo->GK,getMethod->GL,Model->GM,swapsWith->GN,CmpOp->GP,Meets->GT,tupleKind->GU,cellsFrom->GV,InCallC->G_,wpAny_call->hV,subscripted->hX,behindInMarks->hZ,limitOf->h_,callWith->Hq,Operator->Ht,cellOf->Hv,wpAny_standAt->Hx,IsEnumOut->Hy,operate->Hz,wpAny_load->HA,wpAny_of_eq->HB,pyIter->HE,newList->HF,Params->HI,closureFor->HL,storeName->HQ,letOwnedTupleGo->HU,typeLookup->HV,typeOf->HZ,codeAny_builtin->tm,getAttr->tF,seqItems?->tH,codeAny_call_builtin->tJ,noFill_tuple_add->tK,PlainAttrs->tM,wpAny_execs_cons->tQ,newFunctionEnv->tR,firstArgMember->tS,seqIndex_of->tX,newTuple->tZ,seq_tuple_add->T4,compEnvC->T9,setItem->Ta,wpAny_Call_method->Td,inplaceOp->Te,wpAny_onRaise->Tp,plainId_quiet->Tt,spliced->Tw,evalPart_none->TB,leaving->TC,strKind_is->TH,checkBuiltinCall->TJ,wpAny_newList->TK,concat_meets->TM,entryFor->TR,GenState->TU,seqIndex_neg->TV,foldedSetIterable->TW,slicePick->TY,wpAny_letGo->f_,builtinsNs->F0,wpAny_Name->Fa,wpAny_pyIter_enum->Fb,wpAny_sequenceKey->Fd,wpAny_pyNext_list_end->Fg,interactive->Fi,pushCells_keeps->Fo,wpAny_pyNext_list_item->Fq,wpAny_notIn_of->Fv,getattributeRaised->Fy,meets_str_split_sep->Fz,wpAny_loadName_local->FC,wpAny_getItem_list_slice->FI,builtinLookup_eq_fast->FL,wpAny_assign_Name->FN,wpAny_Expr_any->FO,getAttrByItsOwn->FR,checkTypeCall->FU,wpAny_comprehension_free->FV,wpAny_updateSeq_pair->FW,wpAny_mkText->FY,boundAndCalled->rB,joinFit_length->rH,wpAny_in_of->rJ,wpAny_getItem_of->rR,listOfItself->rY,wpAny_storeName_local->R9,evalPart_some->Ri,wpAny_pyIter_zip->Rk,intBits_le_64->Rp,wpAny_throw->Rq,wpAny_Slice->Ru,wpAny_setField->Ry,wpAny_loadName_cell->RA,codeAny_of_tree->RB,split_sep_max_tree->RD,wpAny_newTuple->RH,meets_str_split_not_found->RI,typeLookup_type->RJ,wpAny_isTrue_Compare1->RL,IsRangeIter->RM,callType_codes->RT,isSubtype_stop->RV,meets_str_split_cannot_occur->RZ,attributeErrorLeaves->p6,raiseAttrError->p7
open List renaming mem_cons->Aa,mem_singleton->Ab,mem_append->Ac,mem_map->Ae,getElem?_eq_some_iff->Af,length_map->uc,mem_cons_of_mem->ug,mem_cons_self->uh,getElem?_eq_getElem->ui,map_append->uq,length_cons->uw,size_toArray->uB,map_cons->uC,length_append->uF,getElem?_map->uK,not_mem_nil->uL,mem_append_right->uN,map_map->uP,getElem_mem->uR,drop_eq_getElem_cons->uV,mem_nil_iff->uW,append_nil->v9,find?_cons->vb,mem_append_left->vf,mem_of_getElem?->vg,take_add_one->vj,lookup_cons->vo,take_of_length_le->vt,length_take->vy,all_cons->vF,length_singleton->vG,append_assoc->vI,getElem?_append_right->vM,nodup_nil->vQ,filter_cons->vV,take_length->vW,filterMap_cons->vY,nodup_cons->vZ,length_drop->U1,take_append_drop->U6,mem_of_find?_eq_some->Ua,mem_of_mem_take->Uc,filterMap_cons_some->Uf,map_nil->Ug,any_cons->Uh,map_congr_left->Ui,cons_append->Uk,eq_nil_of_length_eq_zero->Ul,all_eq_true->Um,drop_of_length_le->Up,find?_eq_none->Uv,forIn_cons->UB,all_map->UD,sum_cons->UG,nodup_append->UH,getElem?_append_left->UI,all_append->US,getLast?_cons_cons->UW,map_take->UY,take_sublist->V0,reverse_cons->V3,range->Vp,Nodup->Vr,lookup->VB,length->VI,getD->Gb,range'->GQ,set->GX,replicate->HJ,find?_some->HR,length_nil->HX,map_id->tu,length_filter_le->tI,getElem?_eq_none->tL,drop_zero->tP,any_map->tY,range_succ_eq_map->T1,nil_append->T2,any_eq_false->T8,take_succ_cons->Ti,eq_nil_or_concat->Tn,zipWith_cons_cons->Ts,mem_map_of_mem->TN,of_mem_zip->T_,any_eq_true->Fw,forIn_nil->FA,perm_append_comm->FK,filter_append->FQ,all_nil->rf,find?->rm,find?_append->rK,take_zero->rL,cons_lt_cons_iff->rM,drop_length->rO,getElem?_replicate->rW,map->rZ,zipIdx_nil->Rb,getElem?_set_ne->Rc,take_left->Re,mem_of_mem_drop->Rf,any_toArray->Rl,concat_eq_append->Rm,length_replicate->Rt,zipIdx_cons->RS,getElem?_set_self->RU,range_succ->RX,append_inj'->RY,mem_cons->uI,mem_singleton->Uw
open Bool renaming false_ne_true->ud,and_eq_true->uG,eq_iff_iff->vR,and_true->U5,and_self->Uj,false_eq_true->UO,true->v_,false->Vc,or_eq_true->HG,and_false->Tl,true_and->Tq,false_or->TD,false_and->FD,and_assoc->rS,noConfusion->R_
open PySem.Heap renaming get?_push_of_some->uf,get?_push_size->uH,lt_size->uJ,size_push->vq,SameBut->VT,get?_update_self->Tu,get?_update_other->TL,ExtBut->FS,IsTuple->R6,FlyingW->Rz
open Nat renaming le_refl->ur,zero_le->uQ,ne_of_lt->uX,le_trans->uY,lt_irrefl->vP,ne_of_gt->U2,not_lt_zero->UE,lt_of_le_of_lt->UR,le_of_lt->V4,lt_or_ge->V6,lt_succ_self->V7,le_add_right->V8,lt_of_lt_of_le->Vq,lt_trans->Hu,succ_pos->Hw,le_succ->HH,le_total->tU,zero_add->T0,sub_self->Tj,log2_le_self->To,succ->Tv,le_of_eq->TQ,min_eq_left->Fu,add_mul->rh,eq_zero_or_pos->rF,succ_le_succ->r_,add_zero->Rh,one_mul->Rv
open Option.some renaming inj->uM,injEq->pQ
open PySem.PassesOwn renaming never->uT
open PySem.F renaming plainAttrs_str->uZ,plainAttrs_list->vd,entry_str_split->vH,slot_list_append->vJ,type_list_append->vK,slot_str_split->vL,plainAttrs_dict->vX,slot_tuple_iterator_next->U0,args_str_split_2->U7,slot_str_join->U8,type_str_join->U9,type_str_split->Ur,slot_enumerate_next->UC,args_tuple_add_2->UK,entry_tuple_add->UP,slot_str_split->Uq
open PySem.Around renaming in1_units->v7,under_plainId->tG,under->tO
open PyProof.Rows renaming boot_isinstance->vc,boot_tuple->vw,callWith_type1->vx,slot_tuple_getitem->vO,boot_str->UV,envOfC->Vj,AllBare->VX,IntsAre->GH,IsTup->GO,subscriptTail->HD,Subscript_->HM,Call_->HS,boot_all->HY,tail_any->tj,StrsAre->tT,tupleItemsOf_->Ft,entry_tuple_getitem->FT,args_tuple_getitem->re,isTrue_plain->Ra,slicePart_none->RF,subscriptTail_builtinR->RK,callWith_builtin1->pc,iadd_int->pN
open Array renaming length_toList->vm,toList_append->tN,getElem?_toList->T6,append_assoc->Tc,size_append->TX,size_push->Fp,toList->rX
open PySem.Calls renaming callWith_builtin->vC,spliced_cons->U4,evalArgs_plain->Ub,spliced_nil->UF,Name_function_global->FJ,call_len_list->rq
open Option renaming isSome_none->vS,some->u_,none->U_,isNone->Ho,map_some->HP,map_eq_none_iff->T5,isSome_map->Tg,map->rA,getD_none->rE,isSome_some->RG
open Ne renaming symm->Ud
open Int renaming emod_lt_of_pos->Ux,emod_nonneg->UX,toNat_natCast->Tz
open Sum.inr renaming inj->Uy
open PySem.SeqAt.EqAt renaming int_str->UM,str_int->UN,same->H_,int_int->tD,str_str->Tf,tuple_str->Fe,int_none->Fj,none_str->Fk,tuple_int->FB,str_tuple->FH,none_int->FX,int_tuple->F_,of_refs->rg,str_none->rn,bool_none->p9,tuple_none->pk,int_bool->pD,bool_int->pE,none_bool->pH,bool_bool->pK,bool_str->pL,str_bool->pO,none_tuple->pR
open List.cons renaming injEq->UU,inj->pA
open PySem.SeqAt.RcAt renaming tuples->V1,str_tuple->p8,none_tuple->ph,str_str->pW,tuple_str->pY
open Nat.le renaming dest->Va
open Sum renaming inr->Vf,inl->VV
open PySem.Value renaming ref->Vi,str->VC,none->Ge,int->Gm,type->Gn,bool->GW,float->tW,bytes->R1,isStrOf->RN,isInt->RO
open PySem.Str renaming join->Vk,length->gV,ofString->Gq,empty->Tb
open ToString renaming toString->Vn
open PySem.SeqAt renaming EqAt->Vv,RcAt->Fs,RcNeAt->rC,in_listAt->Rx,in_tupleAt->RQ
open False renaming elim->Vw
open PySem.NameKind renaming free->Vx,cell->Gi
open PySem.Builtin.Str renaming strKind->VA,occurrences->hW
open True renaming intro->VH
open ForIn renaming forIn->G7
open Or renaming inr->Gk,inl->GR
open PySem.Txt renaming startswith->Go,slice->HC,slice_le->rG
open Unit renaming unit->Gr
open PySem.StrLaws renaming occBody->Gz,partsFrom->HK,joinTotal->Ff,glued_eq_join->rP,occ_eq->R7,strSub_toList->Rg
open PySem.Builtin.SmallTypes renaming nextOf->GE,ownedTupleIsFree->GS,ownedTupleHandOut->HN
open PySem.Builtin.Tuple renaming tupleExact->GY,tupleItemsOf->rD,tupleIsExact->pV
open ForInStep renaming yield->GZ
open PySem.Obj renaming mapSeq->Hn,data_mapFields->rQ,mapFields->rT
open PyProof.Rows.IsTup renaming new->Hr
open PySem.Builtin.Slice renaming slicePlaces->HW,sliceAdjust->T7,sliceApplied->Rj,slicePartIndex->pq,sliceFields->pJ
open PySem.Shared renaming heap->tE
open LawfulMonad renaming pure_bind->tV
open PySem.Builtin.List renaming listTooLong->t_
open PySem.Code renaming isFrame->TF,frames->FE
open PySem.Heap.SameBut renaming update->Fc
open List.Pairwise renaming nil->Fm,map->pG
open PySem.SeqAt.RcNeAt renaming tuples->FG,tuple_str->pB,str_tuple->pM,str_str->pP
open PySem.Builtin.Dict renaming updateFrom->rc,selfAndRest->pT
open PySem.Heap.IsSliceOf renaming new->rN
open PySem.DictEntry renaming refKey->rV
open Classical renaming choose_spec->Ro
open PySem.Walks renaming strWide->RE,strAscii->RW
open PySem.Heap.DictOf renaming new->RP
open PySem.MeetsSeq renaming list_pop_last->pd
open PySem.Heap.Ns1 renaming of_empty->pf
open List.Sublist renaming refl->pw
open PySem.Heap.IsList renaming push->pC
open Int.ofNat renaming inj->pI
open PySem.Builtin.Range renaming rangeSize->pS
open PySem.AutoSeq1 renaming list_extend_list_list_0->pU
open List.Nodup renaming sublist->pX
nonrec abbrev om:=List
nonrec abbrev oq:=Option
abbrev A4:=@if_neg
abbrev A6:=@if_pos
abbrev A8:=@absurd
abbrev A9:=@congrArg
abbrev uj:=@decide_eq_true
abbrev um:=@decide_eq_false
abbrev uA:=@of_decide_eq_true
abbrev uS:=@or_false
abbrev ve:=@decide_eq_decide
abbrev vk:=@decide_eq_true_eq
abbrev V2:=@not_false_eq_true
abbrev V9:=@not_or
abbrev Vb:=@if_true
namespace L2
open PySem PySem.Spec PyProof.Rows
nonrec abbrev Key:=Sum Int Str
abbrev oV:Key->o6->Bool
 | .inl k,v=>RO k v
 | .inr x,v=>RN x v
abbrev AeB (w:oh):Key->Int
 | .inl k=>hashInt k
 | .inr x=>hashStr w x
def Qx:∀{k:Key}{v:o6},oV k v=v_->(∃i t,k=VV i/\v=Gm i t)\/(∃x t,k=Vf x/\v=VC x t)
 | .inl i,v,h=>by
  erw[Value.isInt_shape (k:=i) (v:=v) h,t,e];exact .inl ⟨i,t,1,e⟩
 | .inr x,v,h=>by
  erw[Value.isStrOf_shape (x:=x) (v:=v) h,t,e];exact .inr ⟨x,t,1,e⟩
def EI (i:Int)(t:Tok):oV (.inl i) (.int i t)=true:=by simp[oV,RO]
def EH (x:Str)(t:Tok):oV (.inr x) (.str x t)=true:=by simp[oV,RN]
def AbF (a b:Int):decide ((VV a:Key)=VV b)=(a==b):=by
 by_cases e:a=b
 .subst e;simp
 .have h:¬(VV a:Key)=VV b:=λq=>e (Sum.inl.inj q);rw[um h];exact(beq_eq_false_iff_ne.mpr e).symm
def AbC (a b:Str):decide ((Vf a:Key)=Vf b)=decide (a=b):=by
 by_cases e:a=b
 .subst e;simp
 .have h:¬(Vf a:Key)=Vf b:=λq=>e (Uy q);rw[um h,um e]
def AbE (a:Int)(b:Str):decide ((VV a:Key)=Vf b)=false:=um (λq=>nomatch q)
def AbD (a:Str)(b:Int):decide ((Vf a:Key)=VV b)=false:=um (λq=>nomatch q)
abbrev Qd (prog:og)(w:oh):PySem.KeyKind prog w Key where
 is:=oV
 hash:=AeB w
 inj:=λv a b ha hb=>by
  rcases Qx ha with⟨i,t,rfl,rfl⟩|⟨x,t,rfl,rfl⟩
  .rcases Qx hb with⟨j,u,rfl,e⟩|⟨y,u,rfl,e⟩
   .injection e with e1 _;rw[e1]
   .exact nomatch e
  .rcases Qx hb with⟨j,u,rfl,e⟩|⟨y,u,rfl,e⟩
   .exact nomatch e
   .injection e with e1 _;rw[e1]
 byValue:=λk v h=>by
  rcases Qx h with⟨i,t,rfl,rfl⟩|⟨x,t,rfl,rfl⟩<;>rfl
 pyHash:=λhv h=>by
  rcases Qx hv with⟨i,t,rfl,rfl⟩|⟨x,t,rfl,rfl⟩
  .exact wpAny_pyHash_int h
  .exact wpAny_pyHash_str h
 eqBool:=λhu hv h=>by
  rcases Qx hu with⟨i,t,rfl,rfl⟩|⟨x,t,rfl,rfl⟩
  .rcases Qx hv with⟨j,u,rfl,rfl⟩|⟨y,u,rfl,rfl⟩
   .rw[AbF] at h;exact wpAny_eqBool_int h
   .rw[AbE] at h;exact UM i t y u _ _ _ _ h
  .rcases Qx hv with⟨j,u,rfl,rfl⟩|⟨y,u,rfl,rfl⟩
   .rw[AbD] at h;exact UN x t j u _ _ _ _ h
   .rw[AbC] at h;exact wpAny_eqBool_str h
 «strs»:=λk x t v h=>by
  rcases Qx h with⟨i,u,rfl,e⟩|⟨y,u,rfl,e⟩
  .exact nomatch e
  .injection e with e1 _
   subst e1
   cases v<;>rfl
def Ao (prog:og)(w:oh)(i:Int)(t:Tok):(Qd prog w).is (.inl i) (.int i t)=true:=EI i t
def wO (prog:og)(w:oh)(x:Str)(t:Tok):(Qd prog w).is (.inr x) (.str x t)=true:=EH x t
inductive V where
 |non|bl (b:Bool)|int (i:Int)|str (x:Str)|byt (b:Array UInt8)|flt (b:UInt64)|ref (a:Addr)|ty (n:String)
 deriving DecidableEq
abbrev il:V->o6->Prop
 | .non,u=>u=Ge
 | .bl b,u=>u=GW b
 | .int i,u=>∃t,u=Gm i t
 | .str x,u=>∃t,u=VC x t
 | .byt b,u=>∃t,u=R1 b t
 | .flt b,u=>∃t,u=tW b t
 | .ref a,u=>u=Vi a
 | .ty n,u=>u=Gn n
nonrec abbrev iq:om V->om o6->Prop:=Paired il
variable {xs:om V}{us:om o6}
def iq.length (r:iq xs us):↑xs=↑us:=Paired.length r
def iq.get:∀{xs:om V}{us:om o6}{i:Nat}{x:V},iq xs us->xs[i]? =u_ x->∃u,us[i]? =u_ u/\il x u
 |_,_,_,_,.nil,e=>by simp at e
 |_,_,0,_,.cons r _,e=>by simp at e;subst e;exact[0:r]
 |_,_,i+1,x,.cons _ t,e=>by
  obtain⟨u,h1,h2⟩:=iq.get (i:=i) (x:=x) t (by simpa using e)
  exact⟨u,by simpa using h1,h2⟩
def iq.set {x:V}{u:o6}(r:il x u):∀{xs:om V}{us:om o6} (i:Nat),iq xs us->iq (xs.set i x) (us.set i u)
 |_,_,_,.nil=> .nil
 |_,_,0,.cons _ t=> .cons r t
 |_,_,i+1,.cons q t=> .cons q (iq.set r i t)
def iq.append:∀{xs ys:om V}{us ws:om o6},iq xs us->iq ys ws->iq (xs++ys) (us++ws)
 |_,_,_,_,.nil,s=>s
 |_,_,_,_,.cons r t,s=> .cons r (iq.append t s)
def iq.take:∀{xs:om V}{us:om o6} (n:Nat),iq xs us->iq (xs.take n) (us.take n)
 |_,_,0,_=> .nil
 |_,_,_+1,.nil=> .nil
 |_,_,n+1,.cons r t=> .cons r (iq.take n t)
def iq.drop:∀{xs:om V}{us:om o6} (n:Nat),iq xs us->iq (xs.drop n) (us.drop n)
 |_,_,0,r=>r
 |_,_,_+1,.nil=> .nil
 |_,_,n+1,.cons _ t=>iq.drop n t
abbrev nh:oq V->oq o6->Prop
 |some v,u_ u=>il v u
 |none,U_=>True
 |_,_=>False
abbrev KV {κ:Type}:om (κ×V)->om (κ×o6)->Prop:=Paired λ(p:κ×V) (q:κ×o6)=>p.1=q.1/\il p.2 q.2
abbrev kV:Key->V
 | .inl i=> .int i
 | .inr x=> !x
inductive HO where
 |lst (xs:List V)
 |tup (xs:List V)
 |dK (kvs:List (Key×V))|dT (kvs:List (List Key×V))
 |set (S:Int->Bool)(n:Nat)
 |ins (C dx:Addr)(fs:List (Str×V))
 |own (x:Addr)
 |xd (fs:List (Str×V))
 |met (f x:Addr)
 |rng (lo hi:Int)
 |frz (o:Obj)(u:HO)
 |tbl (ps:Array Value)
 |ext (φ:Heap->Prop)
nonrec abbrev Hp:=o3->oq HO
abbrev upd (H:Hp)(a:o3)(o:HO):Hp:=λb=>if b=a then u_ o else H b
variable {H:Hp}{a:o3}
def qg {o:HO}:upd H a o a=u_ o:=by unfold upd;rw[A6 rfl]
variable {b:o3}
def qi {o:HO}(h:b≠a):upd H a o b=H b:=by unfold upd;rw[A4 h]
def Ac9 {o u:HO}(h:H a=u_ o)(h':H b=u_ u)(d:o≠u):a≠b:=by
 intro e;subst e;rw[h] at h';exact d (uM h')
def qk {o:HO}(h:H a=u_ o)(h':H b=U_):a≠b:=by
 intro e;subst e;rw[h] at h';cases h'
section
variable (P:og)(w:oh)
abbrev yi (H:Hp)(h:o9)(a:o3):HO->Prop
 | .lst xs=>↑xs<=Vg/\∃(its:om o6) (n:Nat),iq xs its/\h.get? a=u_ {cls:= .type "list",data:= .seq its.toArray n}
 | .tup xs=>↑xs<=Vg/\∃its:om o6,iq xs its/\GO h a its.toArray
 | .dK kvs=>↑kvs<=Vg/\(a==Vy)=Vc/\∃vs,KV kvs vs/\h.DictOf (Qd P w) a vs
 | .dT kvs=>↑kvs<=Vg/\(a==Vy)=Vc/\∃xs:om (om Key×o3×o6),
   Paired (λ(p:om Key×V) (q:om Key×o3×o6)=>p.1=q.1/\H q.2.1=u_ (.tup (p.1.map kV))/\il p.2 q.2.2) kvs xs/\
   ∃o es ep,h.get? a=u_ o/\o.ExactDict/\o.data= .dict es ep/\es.toList=xs.map (entryOfKey (GU (Qd P w)))/\(xs.map (·.1)).Nodup
 | .set S n=>h.SetOf (intKind P w) a S n
 | .ins C dx fs=>H dx=u_ (.own a)/\↑fs<=1000/\dx≠a/\h.get? a=u_ (PySem.W.instObj C dx)/\
   ∃mA,h.Ns1 dx mA/\(∀f,nh (fs.lookup f) (mA f))/\PySem.Within mA (fs.map (·.1))
 | .own _=>∃o,h.get? a=u_ o
 | .xd fs=>∃mA,h.Ns1 a mA/\∀f,nh (fs.lookup f) (mA f)
 | .rng lo hi=>∃t u v,h.get? a=u_ {cls:= .type "range",data:= .fields #[.int lo t,.int hi u,.int 1 v]}
 | .frz o u=>h.get? a=u_ o/\yi H h a u
 | .tbl ps=>h.get? a=u_ {cls:= .none,data:= .fields ps}
 | .met f x=>h.get? a=u_ (PySem.W.methodObj (-f) (-x))
 | .ext φ=>φ h/\(∃o,h.get? a=u_ o)/\∀h1 h2:o9,φ h1->(∀o,h1.get? a=u_ o->h2.get? a=u_ o)->φ h2
abbrev HOk (H:Hp)(h:o9):Prop:=∀a o,H a=u_ o->yi P w H h a o
end
section
variable {P:og}{w:oh}{H H':Hp}{h h':o9}{a:o3}{o:HO}
def yi.lt (x:yi P w H h a o):a<h.objs.size:=by
 cases o with
 |lst xs=>erw[x,_,_,_,_,e];exact uJ e
 |tup xs=>erw[x,_,_,_,p];exact p.lt
 |dK kvs=>erw[x,_,_,_,_,o,_,_,e,_];exact uJ e
 |dT kvs=>erw[x,_,_,_,_,o,_,_,e,_];exact uJ e
 |set S n=>erw[x,o,_,_,_,e,_];exact uJ e
 |ins C dx fs=>erw[x,_,_,_,e,_];exact uJ e
 |own y=>erw[x,_,e];exact uJ e
 |xd fs=>erw[x,_,[_,_,_,e,_],_];exact uJ e
 |rng lo hi=>erw[x,_,_,_,e];exact uJ e
 |frz ob u=>erw[x,e,_];exact uJ e
 |tbl ps=>exact uJ (show h.get? a=u_ _ from x)
 |met f y=>exact uJ (show h.get? a=u_ _ from x)
 |ext φ=>erw[x,_,[_,e],_];exact uJ e
def Paired.mapP {α β:Type}{F G:α->β->Prop}:∀{l₁:om α}{l₂:om β},Paired F l₁ l₂->(∀a b,F a b->G a b)->Paired G l₁ l₂
 |_,_,.nil,_=> .nil
 |_,_,.cons r t,f=> .cons (f _ _ r) (Paired.mapP t f)
def yi.stay (x:yi P w H h a o)(k:∀b u,(b=a\/H b=u_ (.own a))->h.get? b=u_ u->h'.get? b=u_ u)
  (O:∀b,H b=u_ (.own a)->H' b=u_ (.own a)) (U:∀b xs,H b=u_ (¬xs)->H' b=u_ (¬xs)):yi P w H' h' a o:=by
 induction o with
 |lst xs=>erw[x,z,its,n,r,e];exact⟨z,its,n,r,k _ _ (.inl rfl) e⟩
 |tup xs=>erw[x,z,its,r,ob,e,c];exact⟨z,its,r,ob,k _ _ (.inl rfl) e,c⟩
 |dK kvs=>erw[x,z,y,vs,r,ob,es,ep,e,c];exact⟨z,y,vs,r,ob,es,ep,k _ _ (.inl rfl) e,c⟩
 |dT kvs=>
  erw[x,z,y,xs,r,ob,es,ep,e,c];exact⟨z,y,xs,Paired.mapP r λp q z=>[z.1:U _ _ z.2.1:z.2.2],ob,es,ep,k _ _ (.inl rfl) e,c⟩
 |set S n=>erw[x,ob,es,ep,t,e,c];exact⟨ob,es,ep,t,k _ _ (.inl rfl) e,c⟩
 |ins C dx fs=>
  erw[x,d,z,ne,e,mA,[od,es,ep,e2,c],r];exact⟨O _ d,z,ne,k _ _ (.inl rfl) e,mA,⟨od,es,ep,k _ _ (.inr d) e2,c⟩,r⟩
 |own y=>erw[x,ob,e];exact[ob:k _ _ (.inl rfl) e]
 |xd fs=>erw[x,mA,[od,es,ep,e,c],r];exact[mA:⟨od,es,ep,k _ _ (.inl rfl) e,c⟩:r]
 |rng lo hi=>erw[x,t,u,v,e];exact⟨t,u,v,k _ _ (.inl rfl) e⟩
 |frz ob u Z=>erw[x,e,q];exact[k _ _ (.inl rfl) e:Z q]
 |tbl ps=>
  have e:h.get? a=u_ {cls:= .none,data:= .fields ps}:=x;show h'.get? a=u_ {cls:= .none,data:= .fields ps};exact k a _ (.inl rfl) e
 |met f y=>
  have e:h.get? a=u_ (PySem.W.methodObj (-f) (-y)):=x;show h'.get? a=u_ (PySem.W.methodObj (-f) (-y));exact k a _ (.inl rfl) e
 |ext φ=>erw[x,p,[o,e],st];exact[st _ _ p λo q=>k _ _ (.inl rfl) q:[o:k _ _ (.inl rfl) e]:st]
def HOk.lt (x:HOk P w H h)(e:H a=u_ o):a<h.objs.size:=(x a o e).lt
def HOk.fresh (x:HOk P w H h)(e:h.objs.size<=a):H a=none:=by
 cases q:H a with
 |none=>rfl
 |some u=>exact A8 (Vq (x.lt q) e) (vP _)
def HOk.kept (x:HOk P w H h)(k:∀b u,h.get? b=u_ u->h'.get? b=u_ u):HOk P w H h':=λa o e=>
 (x a o e).stay (λb u _ q=>k b u q) (λ_ q=>q) λ_ _ q=>q
def HOk.laid (x:HOk P w H h)(k:∀b u,h.get? b=u_ u->h'.get? b=u_ u)(U:h.objs.size<=a)(new:yi P w (upd H a o) h' a o):HOk P w (upd H a o) h':=λb u e=>by
 have hn:=x.fresh U;by_cases O:b=a
 .subst O;rw[qg] at e;cases e;exact new
 .rw[qi O] at e;exact(x b u e).stay (λc v _ q=>k c v q) (λc q=>by rwa[qi (qk q hn)]) λc xs q=>by rw[qi (qk q hn)];exact q
end
abbrev Rd (H:Hp)(a:o3)(u:HO):Prop:=H a=u_ u\/∃o,H a=u_ (.frz o u)
def Rd.of {u:HO}(h:H a=u_ u):Rd H a u:= .inl h
variable {w:oh}{h:o9}
def Rd.ok {P:og}{u:HO}(r:Rd H a u)(x:HOk P w H h):yi P w H h a u:=by
 rcases r with r|⟨o,r⟩
 .exact x a u r
 .erw[x a _ r,_,q];exact q
abbrev Mut:oq HO->Prop
 |some (.lst _)=>True
 |some (.dK _)=>True
 |some (.dT _)=>True
 |some (.set _ _)=>True
 |some (.ins _ _ _)=>True
 |some (.ext _)=>True
 |_=>False
section
variable {P:og}{w:oh}{H:Hp}{h h':o9}{x e:o3}{o':HO}
def HOk.write (ok:HOk P w H h)(mu:Mut (H x))(he:e=x\/H e=u_ (.own x))(k:∀b u,b≠e->h.get? b=u_ u->h'.get? b=u_ u)(aa:∃u,h'.get? e=u_ u)
  (new:yi P w (upd H x o') h' x o'):HOk P w (upd H x o') h':=λb u q=>by
 have U:∀c y,H c=u_ (.own y)->c≠x:=λc y r z=>by subst z;rwa[r] at mu
 have Z:∀c xs,H c=u_ (¬xs)->c≠x:=λc xs r z=>by subst z;rwa[r] at mu
 by_cases hb:b=x
 .subst hb;rw[qg] at q;cases q;exact new
 .rw[qi hb] at q;by_cases O:b=e
  .have q':H b=u_ (.own x):=by
    rcases he with z|z
    .exact A8 (O.trans z) hb
    .rwa[O]
   rw[q] at q';cases q';erw[aa,v,hv];exact⟨v,by rwa[O]⟩
  .refine(ok b u q).stay (λc v hc r=>k c v ?_ r) (λc r=>by rwa[qi (U c b r)]) λc xs r=>by rwa[qi (Z c xs r)]
   rcases hc with rfl|hc
   .exact O
   .rintro rfl;rcases he with z|z
    .exact U c b hc z
    .rw[hc] at z;cases z;exact hb rfl
end
structure Un (fs ex:om o3)(H H':Hp)(h h':o9):Prop where
 keep:∀b o,h.get? b=u_ o->H b=U_->b∉fs->b∉ex->h'.get? b=u_ o
 slot:∀b o,h.get? b=u_ o->H b=U_->b>fs->b∉ex->∃sl,h'.get? b=u_ {o with slots:=sl}
 free:∀b o,h.get? b=u_ o->H b=U_->b∉ex->H' b=U_
 there:∀b o,h.get? b=u_ o->b∉ex->∃o',h'.get? b=u_ o'
 tups:∀b xs,H b=u_ (¬xs)->H' b=u_ (¬xs)
 frzs:∀b o u,H b=u_ (.frz o u)->H' b=u_ (.frz o u)
 tbls:∀b ps,H b=u_ (.tbl ps)->∃more,H' b=u_ (.tbl (ps++more))
section
variable {fs fs' ex ex':om o3}{H H1 H2:Hp}{h h1 h2 h':o9}{a x e:o3}{o:HO}
def Un.any (u:Un fs ex H H1 h h1){ob:Obj}(q:h.get? b=u_ ob)(n:H b=U_)(O:b∉ex):∃sl,h1.get? b=u_ {ob with slots:=sl}:=by
 by_cases U:b>fs
 .exact u.slot b ob q n U O
 .exact[ob.slots:u.keep b ob q n U O]
def Un.trans (a:Un fs ex H H1 h h1)(b:Un fs ex H1 H2 h1 h2):Un fs ex H H2 h h2 where
 keep:=λc ob q n Z O=>b.keep c ob (a.keep c ob q n Z O) (a.free c ob q n O) Z O
 slot:=λc ob q n Z O=>by
  erw[a.slot c ob q n Z O,sl,U];erw[b.slot c _ U (a.free c ob q n O) Z O,aa,e2];exact[aa:e2]
 free:=λc ob q n O=>by
  erw[a.there c ob q O,o',U];exact b.free c o' U (a.free c ob q n O) O
 there:=λc ob q O=>by
  erw[a.there c ob q O,o',U];exact b.there c o' U O
 tups:=λc xs q=>b.tups c xs (a.tups c xs q)
 frzs:=λc ob xs q=>b.frzs c ob xs (a.frzs c ob xs q)
 tbls:=λc ps q=>by
  erw[a.tbls c ps q,m1,U];erw[b.tbls c _ U,m2,e2];exact⟨m1++m2,by rw[e2,Tc]⟩
def Un.kept (k:∀b u,h.get? b=u_ u->h'.get? b=u_ u):Un fs ex H H h h':=
 ⟨λb ob q _ _ _=>k b ob q,λb ob q _ _ _=>[ob.slots:k b ob q],λ_ _ _ n _=>n,λb ob q _=>[ob:k b ob q],λ_ _ q=>q,λ_ _ _ q=>q,λ_ ps q=>⟨#[],by rw[q];simp⟩⟩
def Un.refl:Un fs ex H H h h:=Un.kept λ_ _ q=>q
def Un.laid (k:∀b u,h.get? b=u_ u->h'.get? b=u_ u)(O:h.objs.size<=a)(hn:H a=U_):Un fs ex H (upd H a o) h h' where
 keep:=λb u q _ _ _=>k b u q
 slot:=λb u q _ _ _=>[u.slots:k b u q]
 free:=λb u q n _=>by rwa[qi (uX (Vq (uJ q) O))]
 there:=λb u q _=>[u:k b u q]
 tups:=λb xs q=>by rwa[qi (qk q hn)]
 frzs:=λb u xs q=>by rwa[qi (qk q hn)]
 tbls:=λb ps q=>⟨#[],by rw[qi (qk q hn),q];simp⟩
def Un.write (mu:Mut (H x))(he:e=x\/H e=u_ (.own x))(k:∀b u,b≠e->h.get? b=u_ u->h'.get? b=u_ u)(U:∃u,h'.get? e=u_ u):Un fs ex H (upd H x o) h h':=by
 have Z:∀b,H b=U_->b≠x:=λb n z=>by subst z;rwa[n] at mu
 have hb:∀b,H b=U_->b≠e:=λb n z=>by
  subst z;rcases he with r|r
  .exact Z b n r
  .rw[n] at r;cases r
 have hm:∀b u,H b=u_ u->¬Mut (u_ u)->b≠x:=λb u q nm z=>by subst z;rw[q] at mu;exact nm mu
 refine⟨λb u q n _ _=>k b u (hb b n) q,λb u q n _ _=>[u.slots:k b u (hb b n) q],λb u q n _=>by rwa[qi (Z b n)],λb u q _=>?_,
  λb xs q=>by rwa[qi (hm b _ q λz=>z)],λb u xs q=>by rwa[qi (hm b _ q λz=>z)],λb ps q=>⟨#[],by rw[qi (hm b _ q λz=>z),q];simp⟩⟩
 by_cases O:b=e
 .subst O;exact U
 .exact[u:k b u O q]
end
abbrev trk (h:o9)(H:Hp):om o3:=(Vp h.objs.size).filter λa=>(H a).isSome
abbrev Mo (h:o9)(H:Hp):o9:=PySem.W.hideAll h (trk h H)
def EV (h:o9)(H:Hp):(Mo h H).objs.size=h.objs.size:=PySem.W.hideAll_size _ _
variable {o:Obj}
def Mn (e:h.get? b=u_ o)(n:H b=U_):(Mo h H).get? b=u_ o:=
 PySem.W.hideAll_get _ e λhm=>by
  have q:(H b).isSome=true:=(List.mem_filter.mp hm).2;rw[n] at q;simp at q
def PX (e:(Mo h H).get? b=u_ o):h.get? b=u_ o/\H b=none:=by
 have O:h.get? b=u_ o:=PySem.W.of_hideAll (trk h H) e;exists O;cases q:H b with
 |none=>rfl
 |some x=>
  have hm:b>trk h H:=List.mem_filter.mpr ⟨List.mem_range.mpr (uJ O),by simp[q]⟩
  have z:(Mo h H).get? b=none:=PySem.W.hideAll_none (trk h H) hm;rw[z] at e;cases e
structure Mod (K:o0)(mg:Str->oq o6)(base:o9):Prop where
 kin:K.In base
 glob:base.Ns Vz mg
 blt:∃mb,base.Ns F0 mb/\∀x:Str,x≠"__name__"->mb x=GC x
 nolimit:base.NoLimit
structure Cx where
 prog:og
 w:oh
 K:o0
 mg:Str->oq o6
 base:o9
 A:oj
 N:om Str
 s₀:o7
 H₀:Hp
 env:Env
 outer:om Env
 stack:om Env
 ex:om o3
 fn:Str->Bool
 calm:Bool
 pn:om (o3×Obj)
 xe:o6->o7->Prop
abbrev frs (l:om Env):om o3:=l.filterMap (·.frame)
nonrec abbrev Cx.fs (X:Cx):om o3:=frs X.outer
abbrev Vis (sc:Vu)(x:Str):Prop:=sc.names.lookup x=u_ .local\/sc.names.lookup x=u_ .cell\/sc.names.lookup x=u_ .free
abbrev Loc (sc:Vu)(x:Str):Prop:=sc.names.lookup x=u_ .local\/sc.names.lookup x=u_ .cell
abbrev AeK (env:Env)(h:o9)(m:Str->oq o6)(x:Str)(u:o6):Prop:=
 (env.kindOf x=u_ .local/\m x=u_ u)\/((env.kindOf x=u_ .cell\/env.kindOf x=u_ .free)/\∃c,env.cells.lookup x=u_ c/\h.IsCell c (u_ u))
structure Cx.Ok (X:Cx):Prop where
 mod:Mod X.K X.mg X.base
 kind:X.env.scope.kind= .function
 glob:X.env.globals=Vz
 blt:X.env.builtins=F0
 above:X.s₀.heap.objs.size<=X.env.locals
 inj:∀x y c,X.env.cells.lookup x=u_ c->X.env.cells.lookup y=u_ c->x=y
 has:∀x,(X.env.kindOf x=u_ .cell\/X.env.kindOf x=u_ .free)->∃c,X.env.cells.lookup x=u_ c
 cab:∀x c,X.fn x=v_->X.env.cells.lookup x=u_ c->X.s₀.heap.objs.size<=c
 hd:X.calm=v_->X.A.handled=U_
 frames:X.A.frames=u_ X.stack
 stk:X.stack=X.outer\/(X.stack=X.env::X.outer/\X.env.frame=u_ X.env.locals)
 exf:∀b>X.ex,b≠X.env.locals/\∀x c,X.env.cells.lookup x=u_ c->c≠b
 bs:∀b o,X.base.get? b=u_ o->X.s₀.heap.get? b=u_ o/\X.H₀ b=U_
 bsz:X.base.objs.size<=X.s₀.heap.objs.size
 noex:∀b o,X.base.get? b=u_ o->b∉X.ex
 exfs:∀b>X.ex,b∉X.fs
 funs:X.s₀.heap.FunFrames X.base X.outer
 frf:∀b>X.fs,X.H₀ b=U_
structure Inv (X:Cx)(ot:om (o3×Obj))(σ:om (oq V))(H:Hp)(s:o7):Prop where
 ok:X.Ok
 os:s.os=X.s₀.os
 bare:VX s.gens
 base:Un X.fs X.ex X.H₀ H X.s₀.heap s.heap
 loc:∃m,s.heap.Ns X.env.locals m/\∀(i:Nat) (x:Str) (v:V),X.N[i]? =u_ x->σ[i]? =u_ (u_ v)->Vis X.env.scope x->∃u,il v u/\AeK X.env s.heap m x u
 cell:∀x c,X.env.cells.lookup x=u_ c->∃v,s.heap.IsCell c v
 free:H X.env.locals=U_
 freeC:∀x c,X.env.cells.lookup x=u_ c->H c=U_
 pin:∀p>X.pn++ot,s.heap.get? p.1=u_ p.2/\H p.1=U_/\p.1≠X.env.locals/\p.1∉X.fs/\∀v,p.2.data≠ .cell v
 hok:HOk X.prog X.w H s.heap
 len:↑σ=↑X.N
 tk:0<s.toks
section
variable {X:Cx}{ot:om (o3×Obj)}{σ:om (oq V)}{H H':Hp}{s:o7}{h':o9}
def Cx.Ok.nofr (ok:X.Ok)(e:X.base.get? b=u_ o):b∉X.fs:=λO=>by
 have:=(ok.funs.mem O).1;rw[e] at this;cases this
def Inv.bs (I:#[I]):∀b o,X.base.get? b=u_ o->s.heap.get? b=u_ o/\H b=none:=λb o e=>
 [I.base.keep b o (I.ok.bs b o e).1 (I.ok.bs b o e).2 (I.ok.nofr e) (I.ok.noex b o e):I.base.free b o (I.ok.bs b o e).1 (I.ok.bs b o e).2 (I.ok.noex b o e)]
def Inv.bk (I:#[I]):∀b o,X.base.get? b=u_ o->s.heap.get? b=u_ o:=λb o e=>(I.bs b o e).1
def Inv.mod (I:#[I]):Mod X.K X.mg X.base:=I.ok.mod
def Inv.kIn (I:#[I]):X.K.In s.heap:=I.ok.mod.kin.keeps I.bk
def Inv.lt (I:#[I]):X.env.locals<#[0,s]:=let⟨_,hn,_⟩:=I.loc;hn.lt
def Inv.sz (I:#[I]):X.s₀.heap.objs.size<=#[0,s]:=uY I.ok.above (V4 I.lt)
def Inv.nofs (I:#[I])(h:#[0,s]<=a):a∉X.fs:=λO=>by
 erw[I.ok.funs.mem O,_,o,U,_];exact A8 (Vq (uJ U) (uY I.sz h)) (vP _)
def Inv.cne (I:#[I]):∀x c,X.env.cells.lookup x=u_ c->c≠X.env.locals:=λx c e z=>by
 erw[I.cell x c e,v,o,Z,hd];erw[I.loc,m,[o',es,ep,O,U,_],_];rw[z,O] at Z;cases Z;rw[U] at hd;cases hd
def Inv.funs (I:#[I]):s.heap.FunFrames X.base X.outer:=by
 have all:∀(l:om Env),(∀b>frs l,b>X.fs)->X.s₀.heap.FunFrames X.base l->s.heap.FunFrames X.base l:=by
  intro l
  induction l with
  |nil=>intro _ _;trivial
  |cons env r ih=>
   intro hs hl;erw[hl,hk,[L,o,O,hn,ho,hd],hr];have U:L>X.fs:=hs L (by unfold frs;rw[vY,O];exact uh)
   obtain⟨sl,e⟩:=I.base.slot L o ho (I.ok.frf L U) U λz=>I.ok.exfs L z U;exact⟨hk,⟨L,_,O,hn,e,hd⟩,ih (λb Z=>hs b (by unfold frs;rw[vY,O];exact ug _ Z)) hr⟩
 exact all X.outer (λ_ Z=>Z) I.ok.funs
def Inv.stack (I:#[I]):s.heap.FunFrames X.base X.stack:=by
 rcases I.ok.stk with e|⟨e,O⟩
 .rw[e];exact I.funs
 .rw[e];erw[I.loc,m,hn,_];refine .cons (by rw[I.ok.kind];decide) O hn ?_ I.funs
  exact Heap.get?_none_of_le (uY I.ok.bsz I.ok.above)
def Inv.stkSub (I:#[I]):∀b>frs X.stack,b>X.env.locals::X.fs:=λb O=>by
 rcases I.ok.stk with e|⟨e,U⟩
 .rw[e] at O;exact ug _ O
 .rw[e] at O;unfold frs at O;rwa[vY,U] at O
def Inv.stkFree (I:#[I]):∀b>frs X.stack,H b=none:=λb O=>by
 rcases Aa.mp (I.stkSub b O) with e|O
 .rw[e];exact I.free
 .erw[I.ok.funs.mem O,_,o,U,_];exact I.base.free b o U (I.ok.frf b O) λz=>I.ok.exfs b z O
def Inv.step {g':Array TU}{t':Nat}{d':Drawn}{ch:om o3}(I:#[I])
  (U:∀b>ch,(b>X.ex\/X.s₀.heap.objs.size<=b)/\b≠X.env.locals/\(∀x c,X.env.cells.lookup x=u_ c->c≠b)/\∀p>X.pn++ot,p.1≠b)
  (keep:∀b o,b≠X.env.locals->b∉X.fs->b∉ch->s.heap.get? b=u_ o->H b=U_->h'.get? b=u_ o)
  (slot:∀b o,b≠X.env.locals->b>X.fs->b∉ch->s.heap.get? b=u_ o->H b=U_->∃sl,h'.get? b=u_ {o with slots:=sl}) (free:∀b o,b∉ch->s.heap.get? b=u_ o->H b=U_->H' b=U_)
  (there:∀b o,b∉ch->s.heap.get? b=u_ o->∃o',h'.get? b=u_ o')
  (tups:∀b xs,H b=u_ (¬xs)->H' b=u_ (¬xs)) (frzs:∀b o u,H b=u_ (.frz o u)->H' b=u_ (.frz o u)) (tbls:∀b ps,H b=u_ (.tbl ps)->∃more,H' b=u_ (.tbl (ps++more)))
  (ns:∀m,s.heap.Ns X.env.locals m->h'.Ns X.env.locals m) (hok:HOk X.prog X.w H' h') (hg:VX g') (ht:0<t':=by ac_rfl):
  Inv X ot σ H' {s with heap:=h',gens:=g',drawn:=d',toks:=t'}:=by
 have ad:∀b o,X.s₀.heap.get? b=u_ o->b≠X.env.locals:=λb o e=>uX (Vq (uJ e) I.ok.above);have ac:∀b o,X.s₀.heap.get? b=u_ o->b∉X.ex->b∉ch:=λb o e O hb=>by
  rcases(U b hb).1 with z|z
  .exact O z
  .exact A8 (Vq (uJ e) z) (vP _)
 have Z:∀x c,X.env.cells.lookup x=u_ c->∀v,s.heap.IsCell c v->h'.IsCell c v:=λx c e v ⟨o,ho,hd⟩=>by
  have aa:c∉ch:=λz=>(U c z).2.2.1 x c e rfl;by_cases hc:c>X.fs
  .erw[slot c o (I.cne x c e) hc aa ho (I.freeC x c e),sl,q];exact[_:q:hd]
  .exact[o:keep c o (I.cne x c e) hc aa ho (I.freeC x c e):hd]
 exists I.ok,I.os,hg,⟨λb o e n hb O=>?_,λb o e n hb O=>?_,λb o e n O=>?_,λb o e O=>?_,λb xs e=>tups b xs (I.base.tups b xs e),λb o xs e=>frzs b o xs (I.base.frzs b o xs e),λb ps e=>?_⟩,?_,λx c e=>?_,?_,λx c e=>?_,λp hp=>?_,hok,I.len,ht
 .exact keep b o (ad b o e) hb (ac b o e O) (I.base.keep b o e n hb O) (I.base.free b o e n O)
 .erw[I.base.slot b o e n hb O,sl,e1];erw[slot b _ (ad b o e) hb (ac b o e O) e1 (I.base.free b o e n O),ae,e2];exact[ae:e2]
 .erw[I.base.there b o e O,o',e1];exact free b o' (ac b o e O) e1 (I.base.free b o e n O)
 .erw[I.base.there b o e O,o',e1];exact there b o' (ac b o e O) e1
 .erw[I.base.tbls b ps e,m1,e1];erw[tbls b _ e1,m2,e2];exact⟨m1++m2,by rw[e2,Tc]⟩
 .erw[I.loc,m,hn,hl];exists m,ns m hn,λi x v e1 e2 e3=>?_;erw[hl i x v e1 e2 e3,u,r,l];exists u,r;rcases l with l|⟨k,c,e,z⟩
  .exact .inl l
  .exact .inr ⟨k,c,e,Z x c e _ z⟩
 .erw[I.cell x c e,v,z];exact[v:Z x c e v z]
 .erw[I.loc,m,[o,_,_,ho,_],_];exact free _ o (λz=>(U _ z).2.1 rfl) ho I.free
 .erw[I.cell x c e,v,o,ho,hd];exact free c o (λz=>(U c z).2.2.1 x c e rfl) ho (I.freeC x c e)
 .erw[I.pin p hp,e,n,ne,nf,d];have aa:p.1∉ch:=λz=>(U p.1 z).2.2.2 p hp rfl;exact⟨keep p.1 p.2 ne nf aa e n,free p.1 p.2 aa e n,ne,nf,d⟩
variable {t':Nat}
def Inv.un (I:#[I])(u:Un X.fs [] H H' s.heap h')(hok:HOk X.prog X.w H' h')(ht:0<t':=by ac_rfl):Inv X ot σ H' {s with heap:=h',toks:=t'}:=by
 erw[id I.loc,m,[o,es,ep,ho,r],_];obtain⟨sl,hL⟩:=u.any ho I.free (by simp)
 exact I.step (g':=s.gens) (d':=s.drawn) (ch:= []) (λ_ z=>nomatch z) (λb o _ U _ e n=>u.keep b o e n U (by simp)) (λb o _ U _ e n=>u.slot b o e n U (by simp)) (λb o _ e n=>u.free b o e n (by simp)) (λb o _ e=>u.there b o e (by simp)) u.tups u.frzs u.tbls (λm' hm=>by
  erw[hm,o',Z,aa,O,r'];rw[ho] at O;cases O;exact⟨_,Z,aa,hL,r'⟩) hok I.bare
def Inv.call {g':Array TU}{t':Nat}{d':Drawn}{ch:om o3}(I:#[I])(u:Un (frs X.stack) ch H H' s.heap h')(hok:HOk X.prog X.w H' h')(hg:VX g')
  (U:∀b>ch,(b>X.ex\/X.s₀.heap.objs.size<=b)/\b≠X.env.locals/\(∀x c,X.env.cells.lookup x=u_ c->c≠b)/\∀p>X.pn++ot,p.1≠b) (ht:0<t':=by ac_rfl):
  Inv X ot σ H' {s with heap:=h',gens:=g',drawn:=d',toks:=t'}:=by
 erw[id I.loc,m,[o,es,ep,ho,r],_];obtain⟨sl,hL⟩:=u.any ho I.free λz=>(U _ z).2.1 rfl;exact I.step (ch:=ch) U (λb o hL hb O e n=>u.keep b o e n (λz=>(Aa.mp (I.stkSub b z)).elim hL hb) O) (λb o _ _ O e n=>u.any e n O) (λb o O e n=>u.free b o e n O) (λb o O e=>u.there b o e O) u.tups u.frzs u.tbls (λm' hm=>by
  erw[hm,o',aa,ac,Z,r'];rw[ho] at Z;cases Z;exact⟨_,aa,ac,hL,r'⟩) hok hg
def Inv.turned {t':Nat}{it:o3}(I:#[I])(k:∀b o,b≠it->s.heap.get? b=u_ o->h'.get? b=u_ o)(hn:H it=U_)(Z:it≠X.env.locals)
  (h1:it>X.ex\/X.s₀.heap.objs.size<=it) (h2:∀x c,X.env.cells.lookup x=u_ c->c≠it) (h3:∀p>X.pn++ot,p.1≠it) (ht:0<t':=by ac_rfl):Inv X ot σ H {s with heap:=h',toks:=t'}:=by
 have U:∀b u,H b=u_ u->b≠it:=λb u e z=>by rw[z,hn] at e;cases e
 refine I.step (g':=s.gens) (d':=s.drawn) (ch:= [it]) (λb hb=>?_) (λb o _ _ O e _=>k b o (λz=>O (by simp[z])) e) (λb o _ _ O e _=>⟨o.slots,k b o (λz=>O (by simp[z])) e⟩) (λ_ _ _ _ n=>n)
  (λb o O e=>⟨o,k b o (λz=>O (by simp[z])) e⟩) (λ_ _ e=>e) (λ_ _ _ e=>e) (λb ps e=>⟨#[],by rw[e];simp⟩) (λm hm=>?_) (λb u e=>?_) I.bare
 .have e:b=it:=by simpa using hb
  subst e;exact⟨h1,Z,h2,h3⟩
 .erw[hm,o,es,ep,ho,r];exact⟨o,es,ep,k _ o (Ud Z) ho,r⟩
 .refine(I.hok b u e).stay (λc v O q=>k c v ?_ q) (λ_ q=>q) λ_ _ q=>q;rcases O with z|z
  .rw[z];exact U b u e
  .exact U c _ z
def Inv.tok (I:#[I])(t:Nat)(O:0<t:=by ac_rfl):Inv X ot σ H {s with toks:=t}:=I.un (h':=s.heap) (t':=t) Un.refl I.hok
def Inv.kept (I:#[I])(k:∀b u,s.heap.get? b=u_ u->h'.get? b=u_ u)(O:0<t':=by ac_rfl):Inv X ot σ H {s with heap:=h',toks:=t'}:=I.un (Un.kept k) (I.hok.kept k)
def Inv.laid {o:HO}(I:#[I])(k:∀b u,s.heap.get? b=u_ u->h'.get? b=u_ u)(O:#[0,s]<=a)(new:yi X.prog X.w (upd H a o) h' a o)(U:0<t':=by ac_rfl):
  Inv X ot σ (upd H a o) {s with heap:=h',toks:=t'}:=I.un (Un.laid k O (I.hok.fresh O)) (I.hok.laid k O new)
def Inv.write {x e:o3}{o:HO}{t':Nat}(I:#[I])(mu:Mut (H x))(U:e=x\/H e=u_ (.own x))(k:∀b u,b≠e->s.heap.get? b=u_ u->h'.get? b=u_ u)(O:∃u,h'.get? e=u_ u)
  (new:yi X.prog X.w (upd H x o) h' x o) (Z:0<t':=by ac_rfl):Inv X ot σ (upd H x o) {s with heap:=h',toks:=t'}:=I.un (Un.write mu U k O) (I.hok.write mu U k O new)
def Inv.pins_of {O:om (o3×Obj)}(I:#[I])(h:∀p>O,s.heap.get? p.1=u_ p.2/\H p.1=U_/\p.1≠X.env.locals/\p.1∉X.fs/\∀v,p.2.data≠ .cell v):Inv X O σ H s:=
 ⟨I.ok,I.os,I.bare,I.base,I.loc,I.cell,I.free,I.freeC,λp U=>(Ac.mp U).elim (λz=>I.pin p (vf _ z)) (h p),I.hok,I.len,I.tk⟩
variable {i j:Nat}{x:Str}
def BG {N:om Str}(O:N.Nodup)(a:N[i]? =u_ x)(b:N[j]? =u_ x):i=j:=by
 erw[Af.mp a,h1,U];erw[Af.mp b,h2,e2];exact(List.getElem_inj O).mp (U.trans e2.symm)
def nP {M:GM}{A:oj}{E:o6->o7->Prop}{i:Nat}{x:Str}{v:V}{u:o6}{Q:Unit->o7->Prop}(I:#[I])(hN:X.N.Nodup)(hi:X.N[i]? =u_ x)(hx:Loc X.env.scope x)(r:il v u)
  (h:∀s',Inv X ot (σ.set i (u_ v)) H s'->(∃a,VT a s.heap s'.heap/\(a=X.env.locals\/X.env.cells.lookup x=u_ a))->Q Gr s') (hf:X.fn x=v_\/X.env.scope.names.lookup x=u_ .local:=by first|exact .inl rfl|exact .inr rfl|assumption):Vd M A (HQ X.env x u) Q E s:=by
 erw[id I.loc,m,hn,hl];have ad:(X.env.scope.kind== .class||(X.env.scope.kind== .module&&X.env.locals !=X.env.globals))=false:=by rw[I.ok.kind];rfl
 have ae:i<↑σ:=by rw[I.len];exact(Af.mp hi).1
 have cne:=I.cne;have U:∀{a:o3}{h':o9},(∃o,s.heap.get? a=u_ o/\H a=U_)->VT a s.heap h'->HOk X.prog X.w H h':=λ{a h'} ha O b ob e=>by
  erw[ha,_,_,aa];refine(I.hok b ob e).stay (λc w' hc q=>(O.2 c ?_).trans q) (λ_ q=>q) λ_ _ q=>q;rintro rfl;rcases hc with rfl|hc
  .rw[aa] at e;cases e
  .rw[aa] at hc;cases hc
 rcases hx with hk|hk
 .refine R9 hk hn (λh' al O=>?_) ad;erw[id hn,oL,_,_,am,_];refine h _ ⟨I.ok,I.os,I.bare,⟨λb o e n hb hx=>?_,λb o e n hb hx=>?_,I.base.free,λb o e hx=>?_,I.base.tups,I.base.frzs,I.base.tbls⟩,[_:al:λj y v' Z e2 e3=>?_],λy c e=>?_,I.free,I.freeC,λp hp=>?_,U [oL:am:I.free] O,by simpa using I.len,by first|exact I.tk|exact Hw _⟩ [_:O:.inl rfl]
  .exact(O.2 b (uX (Vq (uJ e) I.ok.above))).trans (I.base.keep b o e n hb hx)
  .erw[I.base.slot b o e n hb hx,sl,Z];exact[sl:(O.2 b (uX (Vq (uJ e) I.ok.above))).trans Z]
  .erw[I.base.there b o e hx,o',Z];exact[o':(O.2 b (uX (Vq (uJ e) I.ok.above))).trans Z]
  .by_cases hj:j=i
   .subst hj;rw[hi] at Z;cases Z;rw[RU ae] at e2;cases e2;exact⟨u,r,.inl ⟨hk,by simp⟩⟩
   .rw[Rc (Ud hj)] at e2;erw[hl j y v' Z e2 e3,u',r',q];exists u',r';rcases q with⟨k,e⟩|⟨k,c,e,z⟩
    .refine .inl [k:?_];have:y≠x:=λe=>hj (BG hN Z (e▸hi));simp[this,e]
    .exact .inr ⟨k,c,e,z.sameBut O (cne y c e)⟩
  .erw[I.cell y c e,w',z];exact[w':z.sameBut O (cne y c e)]
  .erw[I.pin p hp,e,n,ne,nf,d];exact⟨(O.2 p.1 ne).trans e,n,ne,nf,d⟩
 .have ac:X.fn x=true:=by
   rcases hf with z|z
   .exact z
   .rw[z] at hk;cases hk
  erw[I.ok.has x (.inl hk),c,hc];erw[I.cell x c hc,w',z];refine wpAny_storeName_cell I.ok.kind hk hc z (λh' af O=>?_);erw[id z,oc,ag,ah];refine h {s with heap:=h'} ⟨I.ok,I.os,I.bare,⟨λb o e n hb hx=>?_,λb o e n hb hx=>?_,I.base.free,λb o e hx=>?_,I.base.tups,I.base.frzs,I.base.tbls⟩,[m:hn.sameBut O (Ud (cne x c hc)):λj y v' Z e2 e3=>?_],λy c' e=>?_,I.free,I.freeC,λp hp=>?_,U [oc:ag:I.freeC x c hc] O,by simpa using I.len,by first|exact I.tk|exact Hw _⟩ [c:O:.inr hc]
  .exact(O.2 b (uX (Vq (uJ e) (I.ok.cab x c ac hc)))).trans (I.base.keep b o e n hb hx)
  .erw[I.base.slot b o e n hb hx,sl,Z];exact[sl:(O.2 b (uX (Vq (uJ e) (I.ok.cab x c ac hc)))).trans Z]
  .erw[I.base.there b o e hx,o',Z];exact[o':(O.2 b (uX (Vq (uJ e) (I.ok.cab x c ac hc)))).trans Z]
  .by_cases hj:j=i
   .subst hj;rw[hi] at Z;cases Z;rw[RU ae] at e2;cases e2;exact[u:r:.inr ⟨.inl hk,c,hc,af⟩]
   .rw[Rc (Ud hj)] at e2;erw[hl j y v' Z e2 e3,u',r',q];exists u',r';rcases q with q|⟨k,c',e,z'⟩
    .exact .inl q
    .refine .inr ⟨k,c',e,z'.sameBut O ?_⟩;rintro rfl;exact hj (BG hN Z (I.ok.inj _ _ _ e hc▸hi))
  .by_cases ak:c'=c
   .subst ak;exact[_:af]
   .erw[I.cell y c' e,w2,z2];exact[w2:z2.sameBut O ak]
  .erw[I.pin p hp,e,n,ne,nf,d];exists (O.2 p.1 ?_).trans e,n,ne,nf,d;intro q;rw[q,ag] at e;have q':oc=p.2:=uM e;exact d w' (by rwa[<-q'])
def KU {M:GM}{A:oj}{E:o6->o7->Prop}{i:Nat}{x:Str}{v:V}{u:o6}{Q:Unit->o7->Prop}(I:#[I])(O:X.N.Nodup)(hi:X.N[i]? =u_ x)(U:Loc X.env.scope x)(r:il v u)
  (h:∀s',Inv X ot (σ.set i (u_ v)) H s'->Q Gr s') (Z:X.fn x=v_\/X.env.scope.names.lookup x=u_ .local:=by first|exact .inl rfl|exact .inr rfl|assumption):Vd M A (HQ X.env x u) Q E s:=
 nP I O hi U r (λs' I' _=>h s' I') Z
def Inv.call' {s':o7}{ch:om o3}(I:#[I])(U:s'.os=s.os)(u:Un (frs X.stack) ch H H' s.heap s'.heap)(hok:HOk X.prog X.w H' s'.heap)(Z:VX s'.gens)
  (O:∀b>ch,(b>X.ex\/X.s₀.heap.objs.size<=b)/\b≠X.env.locals/\(∀x c,X.env.cells.lookup x=u_ c->c≠b)/\∀p>X.pn++ot,p.1≠b) (ht:0<s'.toks:=by ac_rfl):Inv X ot σ H' s':=by
 erw[s',h',g',d',t',o'];have e:o'=s.os:=U;subst e;exact I.call (g':=g') (t':=t') (d':=d') u hok Z O
end
nonrec abbrev XK:=o6->oq o3->Hp->Prop
nonrec abbrev St:=om (oq V)
nonrec abbrev VK:=V->Hp->Prop
nonrec abbrev TE:=St->Hp->VK->Prop
nonrec abbrev TT:=St->Hp->(Bool->Hp->Prop)->Prop
nonrec abbrev TA:=St->Hp->(om V->Hp->Prop)->Prop
structure mU where
 nx:St->Hp->Prop
 rt:VK
 bk:St->Hp->Prop:=λ_ _=>False
 ct:St->Hp->Prop:=λ_ _=>False
nonrec abbrev TS:=mU->St->Hp->Prop
abbrev EP (X:Cx)(ot:om (o3×Obj))(σ:St)(Q:VK)(u:o6)(s':o7):Prop:=∃v H',Inv X ot σ H' s'/\il v u/\Q v H'
abbrev TP (X:Cx)(ot:om (o3×Obj))(σ:St)(Q:Bool->Hp->Prop)(b:Bool)(s':o7):Prop:=∃H',Inv X ot σ H' s'/\Q b H'
abbrev AP (X:Cx)(ot:om (o3×Obj))(σ:St)(Q:om V->Hp->Prop)(us:om o6)(s':o7):Prop:=∃vs H',Inv X ot σ H' s'/\iq vs us/\Q vs H'
abbrev SP (X:Cx)(ot:om (o3×Obj))(D:mU)(f:Flow)(s':o7):Prop:=
 match f with
 | .next=>∃σ' H',Inv X ot σ' H' s'/\D.nx σ' H'
 | .brk=>∃σ' H',Inv X ot σ' H' s'/\D.bk σ' H'
 | .cont=>∃σ' H',Inv X ot σ' H' s'/\D.ct σ' H'
 | .ret u=>∃v σ' H',Inv X ot σ' H' s'/\il v u/\D.rt v H'
abbrev PE (X:Cx)(e:Expr)(t:TE):Prop:=
 ∀(ot:om (o3×Obj)) (s:o7) (σ:St) (H:Hp) (Q:VK),#[I]->t σ H Q->Vd #[X,X] X.A (eval e X.env) (EP X ot σ Q) X.xe s
abbrev PT (X:Cx)(e:Expr)(t:TT):Prop:=
 ∀(ot:om (o3×Obj)) (s:o7) (σ:St) (H:Hp) (Q:Bool->Hp->Prop),#[I]->t σ H Q->Vd #[X,X] X.A (isTrue e X.env (eval e X.env)) (TP X ot σ Q) X.xe s
abbrev PW (X:Cx)(e:Expr)(t:TT):Prop:=
 ∀(whole:Sem o6) (ot:om (o3×Obj)) (s:o7) (σ:St) (H:Hp) (Q:Bool->Hp->Prop),#[I]->t σ H Q->Vd #[X,X] X.A (isTrue e X.env whole) (TP X ot σ Q) X.xe s
variable {X:Cx}
def PW.pt {e:Expr}{t:TT}(h:PW X e t):PT X e t:=h _
abbrev PA (X:Cx)(es:om Expr)(t:TA):Prop:=
 ∀(pos:Pos) (ot:om (o3×Obj)) (s:o7) (σ:St) (H:Hp) (Q:om V->Hp->Prop),#[I]->t σ H Q->Vd #[X,X] X.A (Tw (Vo pos (Vh es X.env))) (AP X ot σ Q) X.xe s
abbrev PS (X:Cx)(st:Stmt)(t:TS):Prop:=
 ∀(ot:om (o3×Obj)) (s:o7) (σ:St) (H:Hp) (D:mU),#[I]->t D σ H->Vd #[X,X] X.A (exec st X.env) (SP X ot D) X.xe s
abbrev PSs (X:Cx)(st:om Stmt)(t:TS):Prop:=
 ∀(ot:om (o3×Obj)) (s:o7) (σ:St) (H:Hp) (D:mU),#[I]->t D σ H->Vd #[X,X] X.A (execs st X.env) (SP X ot D) X.xe s
variable {A:oj}{s:o7}
def thn {α:Type}{t:Sem α}{Q O:α->o7->Prop}{M:GM}{E:o6->o7->Prop}(h:Vd M A t Q E s)(U:∀a s,Q a s->O a s):Vd M A t O E s:=vz h U λ_ _ x=>x
section
variable {X:Cx}
inductive Aap (i:Nat)(σ:St)(H:Hp)(Q:VK):Prop
 |mk (v:_)(_:σ[i]? =u_ (u_ v))(_:Q v H)
abbrev tC (v:V):TE:=λ_ H Q=>Q v H
variable {i:Nat}{x:Str}
def Aa6 {pos:Pos}(hN:X.N[i]? =u_ x)(hv:Vis X.env.scope x)(hd:(x==("__debug__":Str))=false:=by decide)(Z:(x==("__classdict__":Str))=false:=by decide):PE X (.Name x pos) (Aap i):=by
 exists 2,Q,I,h;erw[h,v,e,h];erw[I.loc,m,hn,hl];erw[hl i x v hN e hv,u,r,l];have fin:EP X ot σ Q u s:=⟨v,H,I,r,h⟩;rcases l with⟨U,hm⟩|⟨U,c,hc,O⟩
 .exact Fa (FC I.ok.kind U hn hm fin) hd
 .rcases U with U|U
  .exact Fa (RA I.ok.kind U hc O fin) hd
  .exact Fa (wpAny_loadName_free I.ok.kind U hc O fin Z) hd
def qh {i j pos}:PE X (.Constant (.int i) j pos) (tC (.int i)):=λ_ _ _ H _ I h=>wpAny_Constant_int ⟨.int i,H,I.tok _,⟨0⟩,h⟩
def YA {b j pos}:PE X (.Constant (.bool b) j pos) (tC (.bl b)):=λ_ _ _ H _ I h=>Constant_bool ⟨.bl b,H,I,1,h⟩
def qT {j pos}:PE X (.Constant .none j pos) (tC .non):=λ_ _ _ H _ I h=>Constant_none ⟨.non,H,I,1,h⟩
def ql {x j pos}:PE X (.Constant (!x) j pos) (tC (!x)):=λ_ _ _ H _ I h=>Calls.Constant_str ⟨!x,H,I.tok _,⟨0⟩,h⟩
abbrev Gl (X:Cx)(x:Str):Prop:=X.env.kindOf x=u_ .globalImplicit
def wq {E:o6->o7->Prop}{ot:om (o3×Obj)}{s:o7}{σ:St}{H:Hp}{x:Str}{u:o6}{pos:Pos}{Q:o6->o7->Prop}(I:#[I])(O:Gl X x)(hm:X.mg x=u_ u)(h:Q u s)
  (hd:(x==("__debug__":Str))=false:=by decide):Vd #[X,X] X.A (eval (.Name x pos) X.env) Q E s:=
 FJ I.ok.kind O (Calls.loadGlobal_global (by rw[I.ok.glob];exact I.mod.glob.keeps I.bk) hm h) hd
def Zk {E:o6->o7->Prop}{ot:om (o3×Obj)}{s:o7}{σ:St}{H:Hp}{x:Str}{u:o6}{pos:Pos}{Q:o6->o7->Prop}(I:#[I])(O:Gl X x)(hm:X.mg x=U_)(U:GC x=u_ u)(h:Q u s)
  (hn:x≠"__name__":=by decide) (hd:(x==("__debug__":Str))=false:=by decide):Vd #[X,X] X.A (eval (.Name x pos) X.env) Q E s:=by
 erw[I.mod.blt,mb,h1,h2];exact FJ I.ok.kind O (Calls.loadGlobal_builtin (by rw[I.ok.glob];exact I.mod.glob.keeps I.bk) hm (by rw[I.ok.blt];exact h1.keeps I.bk) ((h2 x hn).trans U) h) hd
variable {v:V}{u:o6}
def Ai {pos:Pos}(O:Gl X x)(hm:X.mg x=u_ u)(r:il v u)(hd:(x==("__debug__":Str))=false:=by decide):PE X (.Name x pos) (tC v):=
 λ_ _ _ H _ I h=>wq I O hm ⟨v,H,I,r,h⟩ hd
def Q9 {x:Str}{v:V}{u:o6}{pos:Pos}(O:Gl X x)(hm:X.mg x=U_)(U:GC x=u_ u)(r:il v u)(hn:x≠"__name__")(hd:(x==("__debug__":Str))=Vc):PE X (.Name x pos) (tC v):=
 λ_ _ _ H _ I h=>Zk I O hm U ⟨v,H,I,r,h⟩ hn hd
variable {a b:Expr}{ta tb:TE}{pos:Pos}
abbrev PC (X:Cx)(op:GP)(a b:Expr)(t:TE):Prop:=
 ∀(ot:om (o3×Obj)) (s:o7) (σ:St) (H:Hp) (Q:VK),#[I]->t σ H Q->
  Vd #[X,X] X.A (eval a X.env) (λv s₁=>Vd #[X,X] X.A (eval b X.env) (λu s₂=>Vd #[X,X] X.A (Vm op v u) (EP X ot σ Q) X.xe s₂) X.xe s₁) X.xe s
inductive ItB (Q:(Bool->Hp->Prop))(x:V)(H1:Hp):Prop
 |mk (c:_)(_:x= .bl c)(_:Q c H1)
abbrev tB (t:TE):TT:=λσ H Q=>t σ H λx H1=>ItB Q x H1
def kj {O:GP}{t:TE}(h:PC X O a b t)(h1:hZ O b=Vc):PT X (.Compare a [O] [b] pos) (tB t):=by
 exists 2,Q,I,U;refine RL (thn (h ot s σ H _ I U) λv s1 h1=>thn h1 λu s2 h2=>thn h2 λc s3 zq=>?_) h1;erw[zq,x,H1,Z,r1,q1];erw[q1,d,rfl,q];cases r1;exact vA [H1:Z:q]
def Qc {e:Expr}{t:TE}(h:PE X e t)(U:∀O,isTrue e X.env O=(do let v<-O;GF e.pos;G9 [v] (truthy v))):PT X e (tB t):=by
 exists 2,Q,I,Z;refine Ra (thn (h ot s σ H _ I Z) λv s1 zq=>?_) (U _);erw[zq,x,H1,I1,r1,q1];erw[q1,d,rfl,q];cases r1;exact vA [H1:I1:q]
variable {tA tB':TT}{rest:om Expr}
abbrev Aeo (t u:TT):TT:=λσ H Q=>t σ H λc H1=>if c=v_ then u σ H1 Q else Q Vc H1
abbrev tOr (t u:TT):TT:=λσ H Q=>t σ H λc H1=>if c=v_ then Q v_ H1 else u σ H1 Q
abbrev Aej (t:TT):TT:=λσ H Q=>t σ H λc H1=>Q (!(c)) H1
def qac (ha:PT X a tA):PW X (.BoolOp .And [a] pos) tA:=by
 intro O ot s σ H Q I h;refine isTrue_and (thn (ha ot s σ H Q I h) λc s1 e=>?_);cases c with
 |true=>exact isTrue_and_nil e
 |false=>exact e
def j8 (ha:PT X a tA):PW X (.BoolOp .Or [a] pos) tA:=by
 intro O ot s σ H Q I h;refine isTrue_or (thn (ha ot s σ H Q I h) λc s1 e=>?_);cases c with
 |false=>exact isTrue_or_nil e
 |true=>exact e
def Bt (ha:PT X a tA)(U:PW X (.BoolOp .And (b::rest) pos) tB'):PW X (.BoolOp .And (a::b::rest) pos) (Aeo tA tB'):=by
 intro Z ot s σ H Q I h;refine isTrue_and (thn (ha ot s σ H _ I h) λc s1 zq=>?_);erw[zq,H1,O,q1];cases c with
 |true=>exact U Z ot s1 σ H1 Q O q1
 |false=>exact[H1:O:q1]
def XN (ha:PT X a tA)(U:PW X (.BoolOp .Or (b::rest) pos) tB'):PW X (.BoolOp .Or (a::b::rest) pos) (tOr tA tB'):=by
 intro Z ot s σ H Q I h;refine isTrue_or (thn (ha ot s σ H _ I h) λc s1 zq=>?_);erw[zq,H1,O,q1];cases c with
 |true=>exact[H1:O:q1]
 |false=>exact U Z ot s1 σ H1 Q O q1
def Qo (ha:PT X a tA):PT X (.UnaryOp .Not a pos) (Aej tA):=by
 exists 2,Q,I,h;exact isTrue_not (ha ot s σ H (λc H1=>Q (!(c)) H1) I h)
inductive Acl (tb:TE)(σ:St)(Q:VK)(x:V)(H1:Hp):Prop
 |mk (c:_)(_:x= .bl c)(_:if c=v_ then tb σ H1 Q else Q (.bl Vc) H1)
abbrev AcV (ta tb:TE):TE:=λσ H Q=>ta σ H λx H1=>Acl tb σ Q x H1
inductive AdF (tb:TE)(σ:St)(Q:VK)(x:V)(H1:Hp):Prop
 |mk (c:_)(_:x= .bl c)(_:if c=v_ then Q (.bl v_) H1 else tb σ H1 Q)
abbrev Aei (ta tb:TE):TE:=λσ H Q=>ta σ H λx H1=>AdF tb σ Q x H1
inductive Acj (Q:VK)(x:V)(H1:Hp):Prop
 |mk (c:_)(_:x= .bl c)(_:Q (.bl (!(c))) H1)
abbrev AcM (ta:TE):TE:=λσ H Q=>ta σ H λx H1=>Acj Q x H1
def XL {op}{t:TE}(h:PE X a t):PE X (.BoolOp op [a] pos) t:=λot s σ H Q I O=>BoolOp_one (h ot s σ H Q I O)
def ZC (ha:PE X a ta)(U:PE X (.BoolOp .And (b::rest) pos) tb):PE X (.BoolOp .And (a::b::rest) pos) (AcV ta tb):=by
 exists 2,Q,I,h;refine BoolOp_and (thn (ha ot s σ H _ I h) λv s1 zq=>?_);erw[zq,x,H1,O,Z,q1];erw[q1,c,rfl,q1];cases Z;refine vA ?_;cases c with
 |true=>exact U ot s1 σ H1 Q O q1
 |false=>exact⟨.bl Vc,H1,O,1,q1⟩
def Ac7 (ha:PE X a ta)(U:PE X (.BoolOp .Or (b::rest) pos) tb):PE X (.BoolOp .Or (a::b::rest) pos) (Aei ta tb):=by
 exists 2,Q,I,h;refine BoolOp_or (thn (ha ot s σ H _ I h) λv s1 zq=>?_);erw[zq,x,H1,O,Z,q1];erw[q1,c,rfl,q1];cases Z;refine vA ?_;cases c with
 |false=>exact U ot s1 σ H1 Q O q1
 |true=>exact⟨.bl v_,H1,O,1,q1⟩
def Aa8 (ha:PE X a ta):PE X (.UnaryOp .Not a pos) (AcM ta):=by
 exists 2,Q,I,h;refine UnaryOp_ (thn (ha ot s σ H _ I h) λv s1 zq=>?_);erw[zq,x,H1,O,U,q1];erw[q1,c,rfl,q1];cases U;exact not_of (vA ⟨.bl (!(c)),H1,O,1,q1⟩)
abbrev tIf (t:TT)(ta tb:TE):TE:=λσ H Q=>t σ H λc H1=>if c=v_ then ta σ H1 Q else tb σ H1 Q
def yd {c:Expr}(U:PT X c tA)(ha:PE X a ta)(Z:PE X b tb):PE X (.IfExp c a b pos) (tIf tA ta tb):=by
 exists 2,Q,I,h;refine wpAny_IfExp (thn (U ot s σ H _ I h) λd s1 zq=>?_);erw[zq,H1,O,q1];cases d with
 |true=>exact ha ot s1 σ H1 Q O q1
 |false=>exact Z ot s1 σ H1 Q O q1
end
abbrev SqL (K:o0)(H:Hp)(a:o3)(xs:om V):Prop:=
 Rd H a (.lst xs)\/
  ∃(o:Obj) (its:Array o6) (n:Nat),K.lookup a=u_ o/\o.cls= .type "list"/\o.dict=U_/\o.data= .seq its n/\its.size<=Vg/\iq xs its.toList
abbrev SqT (K:o0)(H:Hp)(a:o3)(xs:om V):Prop:=
 Rd H a (¬xs)\/
  ∃(o:Obj) (its:Array o6) (n:Nat),K.lookup a=u_ o/\o.cls= .type "tuple"/\o.data= .seq its n/\its.size<=Vg/\iq xs its.toList
abbrev AeI:o6->oq V
 | .none=>u_ .non
 | .bool b=>u_ (.bl b)
 | .int i _=>u_ (.int i)
 | .str x _=>u_ (!x)
 | .bytes b _=>u_ (.byt b)
 | .float b _=>u_ (.flt b)
 | .ref a=>u_ (-a)
 | .type n=>u_ (.ty n)
 |_=>U_
variable {u:o6}
def il.abs {x:V}(r:il x u):AeI u=u_ x:=by
 cases x with
 |non=>cases r;rfl
 |bl _=>cases r;rfl
 |int _=>erw[r,t,rfl];rfl
 |str _=>erw[r,t,rfl];rfl
 |byt _=>erw[r,t,rfl];rfl
 |flt _=>erw[r,t,rfl];rfl
 |ref _=>cases r;rfl
 |ty _=>cases r;rfl
variable {y:V}
def il.inj {x:V}(r:il x u)(q:il y u):x=y:=uM (r.abs.symm.trans q.abs)
def iq.inj:∀{xs ys:om V}{us:om o6},iq xs us->iq ys us->xs=ys
 |_,_,_,.nil,.nil=>rfl
 |_,_,_,.cons r t,.cons r' t'=>by rw[r.inj r',iq.inj t t']
section
variable {X:Cx}{ot:om (o3×Obj)}{σ:St}{H:Hp}{s:o7}{a:o3}{xs ys:om V}
variable {K:o0}
def SqL.of (h:H a=u_ (.lst xs)):SqL K H a xs:= .inl (.inl h)
def SqT.of (h:H a=u_ (¬xs)):SqT K H a xs:= .inl (.inl h)
def Inv.list (I:#[I])(h:SqL X.K H a xs):∃its:om o6,iq xs its/\PlainL s.heap a its.toArray/\↑xs<=sizeLine:=by
 rcases h with h|⟨o,its,n,O,U,hd,Z,hz,r⟩
 .erw[h.ok I.hok,z,its,n,r,e];exact⟨its,r,⟨_,n,e,1,1,1⟩,z⟩
 .exists its.toList,r,⟨o,n,I.kIn a o O,U,hd,by simpa using Z⟩
  have e:=↑r;simp![vm] at e;omega
def Inv.tuple (I:#[I])(h:SqT X.K H a xs):∃its:om o6,iq xs its/\GO s.heap a its.toArray/\↑xs<=sizeLine:=by
 rcases h with h|⟨o,its,n,O,U,Z,hz,r⟩
 .erw[h.ok I.hok,z,its,r,p];exact⟨its,r,p,z⟩
 .exists its.toList,r,⟨o,I.kIn a o O,U,n,by simpa using Z⟩
  have e:=↑r;simp![vm] at e;omega
def Inv.list_inj (I:#[I])(h:SqL X.K H a xs)(h':SqL X.K H a ys):xs=ys:=by
 erw[I.list h,its,r,[o,n,e,_,_,d],_];erw[I.list h',its',r',[o',Z,O,_,_,d'],_];rw[e] at O;cases O;rw[d] at d';injection d' with U _
 have:its=its':=by simpa using A9 rX U
 subst this;exact r.inj r'
def Inv.tuple_inj (I:#[I])(h:SqT X.K H a xs)(h':SqT X.K H a ys):xs=ys:=by
 erw[I.tuple h,its,r,[o,e,_,n,d],_];erw[I.tuple h',its',r',[o',O,_,Z,d'],_];rw[e] at O;cases O;rw[d] at d';injection d' with U _
 have:its=its':=by simpa using A9 rX U
 subst this;exact r.inj r'
end
nonrec abbrev Cx.wish (X:Cx)(E:o6->o7->Prop):Cx:={X with xe:=E}
nonrec abbrev Cx.nox (X:Cx):Cx:=X.wish λ_ _=>False
def Cx.Ok.wish (ok:X.Ok)(E:o6->o7->Prop):(X.wish E).Ok:=
 ⟨ok.mod,ok.kind,ok.glob,ok.blt,ok.above,ok.inj,ok.has,ok.cab,ok.hd,ok.frames,ok.stk,ok.exf,ok.bs,ok.bsz,ok.noex,ok.exfs,ok.funs,ok.frf⟩
def Cx.Ok.unwish {E:o6->o7->Prop}(ok:(X.wish E).Ok):X.Ok:=
 ⟨ok.mod,ok.kind,ok.glob,ok.blt,ok.above,ok.inj,ok.has,ok.cab,ok.hd,ok.frames,ok.stk,ok.exf,ok.bs,ok.bsz,ok.noex,ok.exfs,ok.funs,ok.frf⟩
section
variable {X:Cx}{ot:om (o3×Obj)}{σ:St}{H:Hp}{s:o7}{E:o6->o7->Prop}
def Inv.wish (I:#[I])(E:o6->o7->Prop):Inv (X.wish E) ot σ H s:=⟨I.ok.wish E,I.os,I.bare,I.base,I.loc,I.cell,I.free,I.freeC,I.pin,I.hok,I.len,I.tk⟩
def Inv.unwish (I:Inv (X.wish E) ot σ H s):#[I]:=⟨I.ok.unwish,I.os,I.bare,I.base,I.loc,I.cell,I.free,I.freeC,I.pin,I.hok,I.len,I.tk⟩
def SP.unwish {D:mU}{f:Flow}{s':o7}(h:SP (X.wish E) ot D f s'):SP X ot D f s':=by
 cases f with
 |next=>erw[h,O,H',I,q];exact⟨O,H',I.unwish,q⟩
 |brk=>erw[h,O,H',I,q];exact⟨O,H',I.unwish,q⟩
 |cont=>erw[h,O,H',I,q];exact⟨O,H',I.unwish,q⟩
 |ret u=>erw[h,v,O,H',I,r,q];exact⟨v,O,H',I.unwish,r,q⟩
def PSs.nox {st:om Stmt}{t:TS}(h:PSs X.nox st t):PSs X st t:=λot s σ H D I hw=>
 vz (h ot s σ H D (I.wish _) hw) (λ_ _ q=>q.unwish) λ_ _ z=>Vw z
end
section
variable {X:Cx}{st:Stmt}{rest:om Stmt}{t u:TS}{e:Expr}{te:TE}{pos:Pos}
abbrev Aat:TS:=λD σ H=>D.nx σ H
abbrev ni (t u:TS):TS:=λD σ H=>t {D with nx:=u D} σ H
def qt:PSs X [] Aat:=λ_ _ σ H _ I h=>Uz ⟨σ,H,I,h⟩
def qc (h1:PS X st t)(h2:PSs X rest u):PSs X (st::rest) (ni t u):=by
 exists 2,D,I,h;refine tQ (thn (h1 ot s σ H {D with nx:=u D} I h) λf s1 q=>?_)
 cases f with
 |next=>
  erw[q,O,H',U,q];exact h2 ot s1 O H' D U q
 |ret v=>exact q
 |brk=>exact q
 |cont=>exact q
def qe (h1:PS X st t):PSs X [st] t:=by
 exists 2,D,I,h;refine tQ (thn (h1 ot s σ H D I h) λf s1 q=>?_);cases f with
 |next=>exact Uz q
 |ret v=>exact q
 |brk=>exact q
 |cont=>exact q
abbrev AaC:TS:=λD σ H=>D.bk σ H
abbrev AcS:TS:=λD σ H=>D.ct σ H
def O2:PS X (.Pass pos) Aat:=λ_ _ σ H _ I h=>wpAny_Pass ⟨σ,H,I,h⟩
def LB:PS X (.Break pos) AaC:=λ_ _ σ H _ I h=>wpAny_Break ⟨σ,H,I,h⟩
def Ag:PS X (.Continue pos) AcS:=λ_ _ σ H _ I h=>wpAny_Continue ⟨σ,H,I,h⟩
variable {ot:om (o3×Obj)}{σ:St}
def Inv.quiet (I:#[I]):Fi X.env=false:=by simp[Fi,I.ok.kind]
abbrev AcQ (te:TE):TS:=λD σ H=>te σ H λ_ H1=>D.nx σ H1
def qX (O:PE X e te)(U:GN e U_ pos.line X.env=pure Vc):PS X (.Expr e pos) (AcQ te):=by
 exists 2,D,I,h;exact FO (thn (O ot s σ H _ I h) λv s1 ⟨x,H1,Z,r1,q1⟩=>⟨σ,H1,Z,q1⟩) I.quiet U
abbrev Aeh (te:TE):TS:=λD σ H=>te σ H D.rt
def qo (O:PE X e te):PS X (.Return (u_ e) pos) (Aeh te):=by
 exists 2,D,I,h;exact wpAny_Return_some (thn (O ot s σ H _ I h) λv s1 ⟨x,H1,U,Z,q1⟩=>⟨x,σ,H1,U,Z,q1⟩)
abbrev AcK:TS:=λD _ H=>D.rt .non H
def O1:PS X (.Return U_ pos) AcK:=λ_ _ σ H _ I h=>wpAny_Return_none ⟨.non,σ,H,I,1,h⟩
abbrev AdQ (c:TT)(t u:TS):TS:=λD σ H=>c σ H λb H1=>if b=v_ then t D σ H1 else u D σ H1
def qH {c:Expr}{a b:om Stmt}{tc:TT}(U:PT X c tc)(ha:PSs X a t)(Z:PSs X b u):PS X (.If c a b pos) (AdQ tc t u):=by
 exists 2,D,I,h;refine wpAny_If (thn (U ot s σ H _ I h) λd s1 zq=>?_);erw[zq,H1,O,q1];cases d with
 |true=>exact ha ot s1 σ H1 D O q1
 |false=>exact Z ot s1 σ H1 D O q1
abbrev Aau:TS:=λ_ _ _=>False
def J4:PS X st Aau:=λ_ _ _ _ _ _ h=>h.elim
end
nonrec abbrev TG:=V->St->Hp->(St->Hp->Prop)->Prop
nonrec abbrev TGs:=om V->St->Hp->(St->Hp->Prop)->Prop
abbrev PG (X:Cx)(target:Expr)(t:TG):Prop:=
 ∀(ot:om (o3×Obj)) (s:o7) (σ:St) (H:Hp) (v:V) (u:o6) (Q:St->Hp->Prop),#[I]->il v u->t v σ H Q->
  Vd #[X,X] X.A (Gh target X.env u) (λ_ s'=>∃σ' H',Inv X ot σ' H' s'/\Q σ' H') X.xe s
abbrev PGs (X:Cx)(ts:om Expr)(t:TGs):Prop:=
 ∀(ot:om (o3×Obj)) (s:o7) (σ:St) (H:Hp) (vs:om V) (us:om o6) (Q:St->Hp->Prop),#[I]->iq vs us->t vs σ H Q->
  Vd #[X,X] X.A (assignInOrder ((VZ ts X.env).map (·.2)) us) (λ_ s'=>∃σ' H',Inv X ot σ' H' s'/\Q σ' H') X.xe s
nonrec abbrev AdA:=V->V->V->Hp->(Hp->Prop)->Prop
abbrev Ad8 (X:Cx)(t:AdA):Prop:=
 ∀(ot:om (o3×Obj)) (s:o7) (σ:St) (H:Hp) (o i v:V) (ov iv u:o6) (Q:Hp->Prop),#[I]->il o ov->il i iv->il v u->t o i v H Q->
  Vd #[X,X] X.A (Ta ov iv u) (λ_ s'=>∃H',Inv X ot σ H' s'/\Q H') X.xe s
nonrec abbrev TIp:=V->V->Hp->VK->Prop
abbrev PIp (X:Cx)(op:Ht)(t:TIp):Prop:=
 ∀(ot:om (o3×Obj)) (s:o7) (σ:St) (H:Hp) (x y:V) (v u:o6) (Q:VK),#[I]->il x v->il y u->t x y H Q->
  Vd #[X,X] X.A (Te op v u) (EP X ot σ Q) X.xe s
section
variable {X:Cx}{pos:Pos}
abbrev YY (i:Nat):TG:=λv σ H Q=>Q (σ.set i (u_ v)) H
def qM {i:Nat}{x:Str}(O:X.N.Nodup)(hi:X.N[i]? =u_ x)(U:Loc X.env.scope x)(Z:X.fn x=v_\/X.env.scope.names.lookup x=u_ .local):PG X (.Name x pos) (YY i):=by
 exists 2,v,u,Q,I,r,h;exact FN (KU I O hi U r (λs' I'=>⟨_,H,I',h⟩) Z)
abbrev Adp:TGs:=λvs σ H Q=>vs= []/\Q σ H
abbrev E4 (t:TG)(u:TGs):TGs:=λvs σ H Q=>∃v r,vs=v::r/\t v σ H λσ' H'=>u r σ' H' Q
def JH:PGs X [] Adp:=by
 exists 2,vs,us,Q,I,r,h;erw[h,e,h];subst e;cases r;exact assignInOrder_nil ⟨σ,H,I,h⟩
def Qy {e:Expr}{es:om Expr}{t:TG}{u:TGs}(h1:PG X e t)(h2:PGs X es u)
  (O:(VZ (e::es) X.env).map (·.2)=Gh e X.env::(VZ es X.env).map (·.2):=by rfl):PGs X (e::es) (E4 t u):=by
 exists 2,vs,us,Q,I,r,h;erw[h,v,vr,U,h];subst U;cases r with
 |cons r Z=>
  rw[O];refine assignInOrder_cons (thn (h1 ot s σ H _ _ _ I r h) λ_ s1 zq=>?_);erw[zq,σ1,H1,I1,q1];exact h2 ot s1 σ1 H1 _ _ Q I1 Z q1
abbrev Acx (K:o0)(n:Nat)(t:TGs):TG:=λv σ H Q=>∃a xs,v= .ref a/\SqT K H a xs/\↑xs=n/\t xs σ H Q
def oz {es:om Expr}{k:Nat}{t:TGs}{n:Nat}(Z:X.calm=v_)(h:PGs X es t)
  (hn:↑(VZ es X.env)=n:=by rfl) (O:(VZ es X.env).findIdx? (·.1)=none:=by rfl):PG X (.Tuple es k pos) (Acx X.K n t):=by
 exists 2,v,u,Q,I,r,U;erw[U,a,xs,e1,hq,hl,U];subst e1;cases r;erw[I.tuple hq,its,rv,ht,hz];refine assign_Tuple_tuple (I.ok.hd Z) ht (by simp[hn,<-hl,rv.length]) O λh' hx=>?_
 have I1:Inv X ot σ H {s with heap:=h'}:=I.kept (t':=s.toks) λb o e=>hx b o (uX (uJ e)) e
 exact h ot _ σ H xs _ Q I1 (by simpa using rv) U
abbrev AeG (to ti:TE)(t:AdA):TG:=λv σ H Q=>to σ H λo H1=>ti σ H1 λi H2=>t o i v H2 λH3=>Q σ H3
def Aa5 {o i:Expr}{to ti:TE}{t:AdA}(U:PE X o to)(hi:PE X i ti)(Z:Ad8 X t)
  (ha:∀v,Gh (.Subscript o i pos) X.env v=(do
   let ov<-G9 [v] (eval o X.env)
   let O<-G9 [v,ov] (eval i X.env)
   GF pos
   G9 [v,ov,O] (Ta ov O v)
   release [v,ov,O] [])):PG X (.Subscript o i pos) (AeG to ti t):=by
 exists 2,v,u,Q,I,r,h;rw[ha];refine A7 (VW (thn (U ot s σ H _ I h) λov s1 zq=>?_));erw[zq,x,H1,I1,r1,q1];refine A7 (VW (thn (hi ot s1 σ H1 _ I1 q1) λO s2 zq=>?_));erw[zq,y,H2,I2,r2,q2];refine A7 (Hx (A7 (VW (thn (Z ot s2 σ H2 x y v ov O u _ I2 r1 r2 r q2) λ_ s3 zq=>?_))));erw[zq,H3,I3,q3];exact wpAny_release ⟨σ,H3,I3,q3⟩
abbrev AcU (te:TE)(g:TG):TS:=λD σ H=>te σ H λx H1=>g x σ H1 D.nx
def Na {tg e:Expr}{te:TE}{g:TG}(O:PE X e te)(U:PG X tg g)(Z:swapsWithSole [tg] e pos.line X.env=pure Vc)(hw:swappedStores [tg] e X.env=pure U_)
  (h1:(VZ [tg] X.env).map (·.2)= [Gh tg X.env]):PS X (.Assign [tg] e pos) (AcU te g):=by
 exists 2,D,I,h;refine wpAny_Assign_stores (thn (O ot s σ H _ I h) λv s1 zq=>?_) Z hw;erw[zq,x,H1,I1,r1,q1];rw[h1];exact thn (U ot s1 σ H1 x v _ I1 r1 q1) λ_ s2 q=>q
def qE {i:Nat}{x:Str}{e:Expr}{te:TE}{pos':Pos}(O:X.N.Nodup)(hi:X.N[i]? =u_ x)(U:Loc X.env.scope x)(Z:PE X e te)(hs:GN e (u_ (.Name x pos')) pos.line X.env=pure Vc)(hf:X.fn x=v_\/X.env.scope.names.lookup x=u_ .local):
  PS X (.Assign [.Name x pos'] e pos) (AcU te (YY i)):=by
 exists 2,D,I,h;refine wpAny_Assign_Name (thn (Z ot s σ H _ I h) λv s1 zq=>?_) hs;erw[zq,y,H1,I1,r1,q1];exact KU I1 O hi U r1 (λs2 I2=>⟨_,H1,I2,q1⟩) hf
inductive Aen (i:Nat)(te:TE)(ti:TIp)(D:mU)(σ:St)(H:Hp):Prop
 |mk (x:_)(_:σ[i]? =u_ (u_ x))(_:te σ H λy H1=>ti x y H1 λz H2=>D.nx (σ.set i (u_ z)) H2)
def M9 {i:Nat}{x:Str}{e:Expr}{te:TE}{Z:Ht}{ti:TIp}{pos':Pos}(hN:X.N.Nodup)(hi:X.N[i]? =u_ x)(hx:Loc X.env.scope x)(he:PE X e te)(ho:PIp X Z ti)(hf:X.fn x=v_\/X.env.scope.names.lookup x=u_ .local):
  PS X (.AugAssign (.Name x pos') Z e pos) (Aen i te ti):=by
 exists 2,D,I,h;erw[h,v,e1,h];erw[I.loc,m,hn,hl];have aa:Vis X.env.scope x:=by rcases hx with k|k;exact .inl k;exact .inr (.inl k)
 erw[hl i x v hi e1 aa,u,r,l];refine wpAny_AugAssign_Name ?_;have go:Vd #[X,X] X.A (eval e X.env) (λw s₂=>Vd #[X,X] X.A (Te Z u w) (λr s₃=>Vd #[X,X] X.A (HQ X.env x r) (λ_=>SP X ot D .next) X.xe s₃) X.xe s₂) X.xe s:=by
  refine thn (he ot s σ H _ I h) λw s1 zq=>?_;erw[zq,y,H1,I1,r1,q1];refine thn (ho ot s1 σ H1 v y u w _ I1 r r1 q1) λz s2 zq=>?_;erw[zq,zv,H2,I2,r2,q2];exact KU I2 hN hi hx r2 (λs3 I3=>⟨_,H2,I3,q2⟩) hf
 rcases l with⟨O,hm⟩|⟨O,c,hc,U⟩
 .exact FC I.ok.kind O hn hm go
 .rcases O with O|O
  .exact RA I.ok.kind O hc U go
  .rcases hx with k|k
   .have:X.env.scope.names.lookup x=u_ .free:=O;rw[k] at this;cases this
   .have:X.env.scope.names.lookup x=u_ .free:=O;rw[k] at this;cases this
abbrev ipI (f:Int->Int->Int):TIp:=λx y H Q=>∃i j,x= .int i/\y= .int j/\Q (.int (f i j)) H
def Nz:PIp X .Add (ipI λi j=>i+j):=by
 exists 2,x,y,v,u,Q,I,O,U,h;erw[h,i,j,Z,e2,q];subst Z;subst e2;erw[O,t,rfl];erw[U,t',rfl];exact iadd_int ⟨.int _,H,I.tok _,⟨0⟩,q⟩
abbrev MS (c:TT)(tb:TS):TS:=λD σ H=>∃W:Nat->St->Hp->Prop,(∃m,W m σ H)/\∀m σ H,W m σ H->
 c σ H λb H1=>if b=v_ then∃N:St->Hp->Prop,(∀σ' H',N σ' H'->∃m',m'<m/\W m' σ' H')/\tb {D with nx:=N,ct:=N,bk:=D.nx} σ H1 else D.nx σ H1
def ZV {c:Expr}{O:om Stmt}{tc:TT}{tb:TS}(hp:PassesOwn #[X,X] X.A X.env X.xe)(hc:PT X c tc)(hb:PSs X O tb):PS X (.While c O [] pos) (MS tc tb):=by
 exists 2,D,I,h;erw[h,W,[m0,w0],U];refine wpAny_While (codeAny_whileLoop (λn s'=>∃σ' H',Inv X ot σ' H' s'/\W n σ' H') ?_ m0 ⟨σ,H,I,w0⟩);rintro n s1 ⟨σ1,H1,I1,w1⟩;refine Ue hp (thn (hc ot s1 σ1 H1 _ I1 (U n σ1 H1 w1)) λb s2 zq=>?_);erw[zq,H2,I2,q2];cases b with
 |true=>
  erw[q2,N,hN,q2];rw[A6 rfl];refine Ue hp (thn (hb ot s2 σ1 H2 _ I2 q2) λf s3 q3=>?_);cases f with
  |next=>
   erw[q3,Z,H3,I3,n3];erw[hN Z H3 n3,m',hm,w3];exact⟨m',hm,Z,H3,I3,w3⟩
  |cont=>
   erw[q3,Z,H3,I3,n3];erw[hN Z H3 n3,m',hm,w3];exact⟨m',hm,Z,H3,I3,w3⟩
  |brk=>exact q3
  |ret v=>exact q3
 |false=>
  rw[A4 ud];exact Uz ⟨σ1,H2,I2,q2⟩
end
structure It where
 go:Nat->Hp->Prop
 yld:Nat->Hp->V->Hp->Prop
 stop:Nat->Hp->Prop
abbrev AW (X:Cx)(ot:om (o3×Obj))(H:Hp)(b:o3):Prop:=
 H b=U_/\b≠X.env.locals/\b∉X.fs/\(b>X.ex\/X.s₀.heap.objs.size<=b)/\(∀x c,X.env.cells.lookup x=u_ c->c≠b)/\∀p>X.pn++ot,p.1≠b
variable {ot:om (o3×Obj)}{σ:St}{H':Hp}
def Inv.fpOk (I:#[I])(O:#[0,s]<=b)(hn:H' b=U_):AW X ot H' b:=by
 exists hn,U2 (Vq I.lt O),I.nofs O,.inr (uY I.sz O),λx c e z=>?_,λp U z=>?_
 .erw[I.cell x c e,v,q];exact A8 (Vq q.lt (by rwa[z])) (vP _)
 .exact A8 (Vq (uJ (I.pin p U).1) (by rwa[z])) (vP _)
structure MI (P:og)(w:oh)(K:o0)(tg:Expr)(J:It)(fp:om o3)(it:o3)(tn:Nat->o9->Prop):Prop where
 mem:it>fp
 obj:∀i h,tn i h->∀b>fp,∃o,h.get? b=u_ o/\∀v,o.data≠ .cell v
 keep:∀i h h',tn i h->(∀b>fp,∀o,h.get? b=u_ o->h'.get? b=u_ o)->tn i h'
 item:∀(X:Cx),X.prog=P->X.w=w->X.K=K->X.calm=v_->∀(i:Nat) (ot:om (o3×Obj)) (s:o7) (σ:St) (H:Hp) (E:o6->o7->Prop),#[I]->(∀b>fp,AW X ot H b)->tn i s.heap->J.go i H->
  Vd (Vs P w) X.A (VF (-it)) (λr s1=>∃u,r=u_ u/\
   Vd (Vs P w) X.A (HU tg (-it) u) (λ_ s2=>∃x H',Inv X ot σ H' s2/\il x u/\J.yld i H x H'/\tn (i+1) s2.heap/\∀b>fp,H' b=U_) E s1) E s
 done:∀(X:Cx),X.prog=P->X.w=w->X.K=K->X.calm=v_->∀(i:Nat) (ot:om (o3×Obj)) (s:o7) (σ:St) (H:Hp) (E:o6->o7->Prop),#[I]->(∀b>fp,AW X ot H b)->tn i s.heap->J.stop i H->
  Vd (Vs P w) X.A (VF (-it)) (λr s1=>r=U_/\Inv X ot σ H s1) E s
 self:∀(A:oj) (i:Nat) (s:o7) (Q:o6->o7->Prop) (E:o6->o7->Prop),tn i s.heap->Q (-it) s->Vd (Vs P w) A (HE (-it)) Q E s
nonrec abbrev TI:=St->Hp->(It->Hp->Prop)->Prop
abbrev PIE (X:Cx)(ot:om (o3×Obj))(σ:St)(tg:Expr)(R:It->Hp->Prop)(itv:o6)(s2:o7):Prop:=
 ∃(it:o3) (fp:om o3) (tn:Nat->o9->Prop) (J:It) (H':Hp),itv= .ref it/\Inv X ot σ H' s2/\MI X.prog X.w X.K tg J fp it tn/\tn 0 s2.heap/\(∀b>fp,AW X ot H' b)/\R J H'
abbrev PI (X:Cx)(tg iter:Expr)(wi:TI):Prop:=
 ∀(ot:om (o3×Obj)) (s:o7) (σ:St) (H:Hp) (R:It->Hp->Prop),#[I]->wi σ H R->
  Vd #[X,X] X.A (eval iter X.env) (λv s1=>Vd #[X,X] X.A (HE v) (PIE X ot σ tg R) X.xe s1) X.xe s
def EY {M:GM}{A:oj}{E:o6->o7->Prop}{s:o7}{tg:Expr}{it:o3}{u:o6}{o:Obj}{n:String}{vs:Array o6}{Q:Unit->o7->Prop}(U:s.heap.get? it=u_ o)(Z:o.cls= .type n)(hd:o.data= .fields vs)
  (hn: ["enumerate","zip","dict_itemiterator","dict_reverseitemiterator","odict_iterator","itertools.zip_longest","itertools.pairwise"].contains n=Vc) (O:Q Gr s):Vd M A (HU tg (-it) u) Q E s:=by
 unfold HU;cases tg<;>first
  |exact uD O
  |(cases u<;>first
    |exact uD O
    |(refine A7 (HA U ?_)
      rw[Z,hd];show Vd M A (if(["enumerate","zip","dict_itemiterator","dict_reverseitemiterator","odict_iterator","itertools.zip_longest","itertools.pairwise"].contains n&&vs[0]? ==u_ (VG _))=v_ then _ else _) Q E s
      rw[A4 (by intro h;rw[hn,FD] at h;cases h)]
      exact uD O))
abbrev Itl (K:o0)(a:o3):It:=
 ⟨λi H=>∃xs x,SqL K H a xs/\xs[i]? =u_ x,λi H x H'=>H'=H/\∀xs,SqL K H a xs->xs[i]? =u_ x,λi H=>∃xs,SqL K H a xs/\↑xs<=i⟩
abbrev Itt (K:o0)(a:o3):It:=
 ⟨λi H=>∃xs x,SqT K H a xs/\xs[i]? =u_ x,λi H x H'=>H'=H/\∀xs,SqT K H a xs->xs[i]? =u_ x,λi H=>∃xs,SqT K H a xs/\↑xs<=i⟩
abbrev Itr (lo:Int)(n:Nat):It:=[λi _=>i<n:λi H x H'=>H'=H/\x= .int (lo+i):λi _=>n<=i]
variable {K:o0}{tg:Expr}
def Dg {P:og}(a it:o3):MI P w K tg (Itl K a) [it] it (λi h=>h.IsListIter it a i) where
 mem:=by simp
 obj:=λi h st b O=>by
  have e:b=it:=by simpa using O
  subst e;erw[st,o,e,c,d];exact⟨o,e,λv z=>by rw[d] at z;cases z⟩
 keep:=λi h h' st k=>st.at λo e=>k it (by simp) o e
 item:=by
  intro X hP hw hK hc i ot s σ H E I Z st hg;subst hP hw hK;erw[hg,xs,x,hq,hx];erw[I.list hq,its,rv,p,hz];erw[rv.get hx,u,hu,ru];obtain⟨f0,f1,f2,f3,f4,f5⟩:=Z it (by simp)
  refine Fq st p.isList (x:=u) (by simpa using hu) λh' U sb=>?_
  have I1:Inv X ot σ H {s with heap:=h'}:=I.turned (t':=s.toks) (λb o O e=>(sb.2 b O).trans e) f0 f1 f3 f4 f5
  erw[id U,o,e,c,d];exact⟨u,1,EY (s:={s with heap:=h'}) e c d () ⟨x,H,I1,ru,⟨1,λys hy=>by rwa[I.list_inj hy hq]⟩,U,λb O=>(Z b O).1⟩⟩
 done:=by
  intro X hP hw hK hc i ot s σ H E I Z st hg;subst hP hw hK;erw[hg,xs,hq,hx];erw[I.list hq,its,rv,p,hz];obtain⟨f0,f1,f2,f3,f4,f5⟩:=Z it (by simp)
  have hl:=↑rv;exact Fg (I.ok.hd hc) st p.isList (by simp;omega) λh' eb=>[1:I.turned (t':=s.toks) (λb o O e=>eb b o O e) f0 f1 f3 f4 f5]
 self:=λ_ _ _ _ _ st h=>wpAny_pyIter_listiter st h
def kX {P:og}(a it:o3):MI P w K tg (Itt K a) [it] it (λi h=>h.IsTupleIter it a i) where
 mem:=by simp
 obj:=λi h st b O=>by
  have e:b=it:=by simpa using O
  subst e;erw[st,o,e,c,d];exact⟨o,e,λv z=>by rw[d] at z;cases z⟩
 keep:=λi h h' st k=>st.at λo e=>k it (by simp) o e
 item:=by
  intro X hP hw hK hc i ot s σ H E I Z st hg;subst hP hw hK;erw[hg,xs,x,hq,hx];erw[I.tuple hq,its,rv,p,hz];erw[rv.get hx,u,hu,ru];obtain⟨f0,f1,f2,f3,f4,f5⟩:=Z it (by simp)
  refine wpAny_pyNext_tuple_item st (show s.heap.IsTuple a its.toArray from p) (x:=u) (by simpa using hu) λh' U sb=>?_
  have I1:Inv X ot σ H {s with heap:=h'}:=I.turned (t':=s.toks) (λb o O e=>(sb.2 b O).trans e) f0 f1 f3 f4 f5
  erw[id U,o,e,c,d];exact⟨u,1,EY (s:={s with heap:=h'}) e c d () ⟨x,H,I1,ru,⟨1,λys hy=>by rwa[I.tuple_inj hy hq]⟩,U,λb O=>(Z b O).1⟩⟩
 done:=by
  intro X hP hw hK hc i ot s σ H E I Z st hg;subst hP hw hK;erw[hg,xs,hq,hx];erw[I.tuple hq,its,rv,p,hz];obtain⟨f0,f1,f2,f3,f4,f5⟩:=Z it (by simp)
  have hl:=↑rv;exact wpAny_pyNext_tuple_end (I.ok.hd hc) st (show s.heap.IsTuple a its.toArray from p) (by simp;omega) λh' eb=>[1:I.turned (t':=s.toks) (λb o O e=>eb b o O e) f0 f1 f3 f4 f5]
 self:=λ_ _ _ _ _ st h=>wpAny_pyIter_tupleiter st h
def Cs {P:og}(it:o3)(lo:Int)(n:Nat):MI P w K tg (Itr lo n) [it] it (λi h=>RM h it (lo+(i:Nat)*1) ((n:Int)-(i:Nat)) 1) where
 mem:=by simp
 obj:=λi h st b O=>by
  have e:b=it:=by simpa using O
  subst e;exact⟨_,st,λv z=>by
   have z':Data.fields _=Data.cell v:=z;cases z'⟩
 keep:=λi h h' st k=>k it (by simp) _ st
 item:=by
  intro X hP hw hK hc i ot s σ H E I Z st hg;subst hP hw hK;obtain⟨f0,f1,f2,f3,f4,f5⟩:=Z it (by simp)
  have W:=Walks.range (prog:=X.prog) (w:=X.w) (I.ok.hd hc) it lo 1 n;refine vh (n:=1) I.tk (W.item i s _ _ hg st λv h' tk hv U kk=>?_);intro htk;erw[hv,t,rfl];have I1:Inv X ot σ H {s with heap:=h',toks:=tk}:=I.turned (λb o O e=>kk b o (by simpa using O) e) f0 f1 f3 f4 f5
  exists 0,EY (s:={s with heap:=h',toks:=tk}) (n:="range_iterator") U rfl rfl () ⟨.int (lo+i),H,I1,[t:?_],[1:1],U,λb O=>(Z b O).1⟩
  rw[Int.mul_one]
 done:=by
  intro X hP hw hK hc i ot s σ H E I Z st hg;subst hP hw hK;obtain⟨f0,f1,f2,f3,f4,f5⟩:=Z it (by simp)
  exact wpAny_pyNext_range_end (I.ok.hd hc) st (by have:n<=i:=hg;omega) λh' eb=>[1:I.turned (t':=s.toks) (λb o O e=>eb b o O e) f0 f1 f3 f4 f5]
 self:=λ_ _ _ _ _ st h=>wpAny_pyIter_rangeiter st h
section
variable {X:Cx}{tg:Expr}
inductive Acq (K:PySem.W.Frag)(R:(It->Hp->Prop))(x:V)(H1:Hp):Prop
 |mk (a:_)(_:x=-a)(_:(∃xs,SqL K H1 a xs))(_:R (Itl K a) H1)
abbrev Adl (K:o0)(tl:TE):TI:=λσ H R=>tl σ H λx H1=>Acq K R x H1
inductive AdJ (K:PySem.W.Frag)(R:(It->Hp->Prop))(x:V)(H1:Hp):Prop
 |mk (a:_)(_:x=-a)(_:(∃xs,SqT K H1 a xs))(_:R (Itt K a) H1)
abbrev AeD (K:o0)(tl:TE):TI:=λσ H R=>tl σ H λx H1=>AdJ K R x H1
def wY {l:Expr}{tl:TE}(U:PE X l tl):PI X tg l (Adl X.K tl):=by
 exists 2,R,I,h;refine thn (U ot s σ H _ I h) λv s1 zq=>?_;erw[zq,x,H1,O,Z,q1];erw[q1,a,e,[xs,hq],q];subst e;cases Z;erw[O.list hq,its,rv,p,hz];refine UZ p.isList ?_;exists #[0,s1],[#[0,s1]],_,_,H1,1,O.kept (t':=s1.toks) λb o e=>uf _ e,Dg a _,⟨_,uH _ rfl,1,1⟩,λb hb=>?_,q;have e:b=#[0,s1]:=by simpa using hb
 subst e;exact O.fpOk (ur _) (O.hok.fresh (ur _))
def Wy {l:Expr}{tl:TE}(U:PE X l tl):PI X tg l (AeD X.K tl):=by
 exists 2,R,I,h;refine thn (U ot s σ H _ I h) λv s1 zq=>?_;erw[zq,x,H1,O,Z,q1];erw[q1,a,e,[xs,hq],q];subst e;cases Z;erw[O.tuple hq,its,rv,p,hz];refine U3 (show s1.heap.IsTuple a its.toArray from p) ?_
 exists #[0,s1],[#[0,s1]],_,_,H1,1,O.kept (t':=s1.toks) λb o e=>uf _ e,kX a _,⟨_,uH _ rfl,1,1⟩,λb hb=>?_,q;have e:b=#[0,s1]:=by simpa using hb
 subst e;exact O.fpOk (ur _) (O.hok.fresh (ur _))
def Br {ot:om (o3×Obj)}{σ:St}{H:Hp}{s:o7}{R:It->Hp->Prop}{E:o6->o7->Prop}{lo hi:Int}{t u v:Tok}{tk:Nat}(I:#[I])(h1: -(2^62)<=lo)(h2:lo<2^62)(h3: -(2^62)<=hi)(h4:hi<2^62)
  (q:R (Itr lo (hi-lo).toNat) H) (htk:0<tk:=by ac_rfl):Vd #[X,X] X.A (HE (.ref #[0,s])) (PIE X ot σ tg R) E {s with heap:=s.heap.push {cls:= .type "range",data:= .fields #[.int lo t,.int hi u,.int 1 v]},toks:=tk}:=by
 refine wpAny_pyIter_range (IsRange.new ..) (small_one h1 h2 h3 h4) ?_;have O:Inv X ot σ H {s with heap:=s.heap.push {cls:= .type "range",data:= .fields #[.int lo t,.int hi u,.int 1 v]},toks:=tk}:=I.kept λb o e=>uf _ e
 refine⟨(s.heap.push {cls:= .type "range",data:= .fields #[.int lo t,.int hi u,.int 1 v]}).objs.size,[(s.heap.push {cls:= .type "range",data:= .fields #[.int lo t,.int hi u,.int 1 v]}).objs.size],_,_,H,1,
  O.kept (t':=tk) λb o e=>uf _ e,Cs _ lo (hi-lo).toNat,?_,λb U=>?_,q⟩
 .have Z:lo+((0:Nat):Int)*1=lo:=by simp
  have e2:(((hi-lo).toNat:Nat):Int)-((0:Nat):Int)=pS lo hi 1:=by rw[rangeSize_one];split<;>omega
  show RM _ _ (lo+((0:Nat):Int)*1) ((((hi-lo).toNat:Nat):Int)-((0:Nat):Int)) 1;rw[Z,e2];exact uH _ rfl
 .have e:b=(s.heap.push {cls:= .type "range",data:= .fields #[.int lo t,.int hi u,.int 1 v]}).objs.size:=by simpa using U
  subst e;exact O.fpOk (ur _) (O.hok.fresh (ur _))
inductive Acp (R:(It->Hp->Prop))(vs:List V)(H1:Hp):Prop
 |mk (j:Int)(_:vs= [.int j])(_: -(2^62)<=j)(_:j<2^62)(_:R (Itr 0 j.toNat) H1)
abbrev Adk (ta:TA):TI:=λσ H R=>ta σ H λvs H1=>Acp R vs H1
inductive Aco (R:(It->Hp->Prop))(vs:List V)(H1:Hp):Prop
 |mk (i j:Int)(_:vs= [.int i,.int j])(_:(-(2^62)<=i/\i<2^62/\ -(2^62)<=j/\j<2^62))(_:R (Itr i (j-i).toNat) H1)
abbrev Adj (ta:TA):TI:=λσ H R=>ta σ H λvs H1=>Aco R vs H1
def yH {a:Expr}{ta:TA}{p pos:Pos}(O:Gl X "range")(hm:X.mg "range"=U_)(ha:PA X [a] ta)(U:Vh [a] X.env= [(Vc,eval a X.env)]):PI X tg (.Call (.Name "range" p) [a] [] pos) (Adk ta):=by
 exists 2,R,I,h;refine HS (Zk I O hm boot_range (vx (thn (ha pos ot s σ H _ I h) λus s1 zq=>?_) U rfl));erw[zq,vs,H1,Z,r1,q1];erw[q1,j,e,q1,q2,q];subst e;cases r1 with
 |cons r rr=>
  cases rr;erw[r,t,rfl];exact call_range_1 (Br Z () () q1 q2 (by simpa using q))
def DW {a b:Expr}{ta:TA}{p pos:Pos}(Z:Gl X "range")(hm:X.mg "range"=U_)(ha:PA X [a,b] ta)(hs:Vh [a,b] X.env= [(Vc,eval a X.env),(Vc,eval b X.env)])(O:Vh [b] X.env= [(Vc,eval b X.env)]):
  PI X tg (.Call (.Name "range" p) [a,b] [] pos) (Adj ta):=by
 exists 2,R,I,h;refine HS (Zk I Z hm boot_range (vx (thn (ha pos ot s σ H _ I h) λus s1 zq=>?_) (by rw[hs,O]) (by rw[O];rfl)));erw[zq,vs,H1,I1,r1,q1]
 erw[q1,i,j,e,[q1,q2,q3,q4],q];subst e;cases r1 with
 |cons r U=>
  cases U with
  |cons r' U=>
   cases U;erw[r,t,rfl];erw[r',t',rfl];exact call_range_2 (Br I1 q1 q2 q3 q4 q)
abbrev AdR (wi:TI)(g:TG)(tb:TS):TS:=λD σ H=>wi σ H λJ H1=>∃W:Nat->Nat->St->Hp->Prop,(∃m,W 0 m σ H1)/\∀i m σ H,W i m σ H->
 (J.stop i H/\D.nx σ H)\/(J.go i H/\∃N:St->Hp->Prop,(∀σ' H',N σ' H'->∃m',m'<m/\W (i+1) m' σ' H')/\∀x H',J.yld i H x H'->g x σ H' λσ2 H2=>tb {D with nx:=N,ct:=N,bk:=D.nx} σ2 H2)
abbrev oy (fp:om o3)(h:o9):om (o3×Obj):=fp.filterMap λb=>(h.get? b).map λo=>(b,o)
variable {fp:om o3}
def J0 (O:b>fp)(e:h.get? b=u_ o):(b,o)>oy fp h:=List.mem_filterMap.mpr ⟨b,O,by rw[e];rfl⟩
def Eu {p:o3×Obj}(O:p>oy fp h):p.1>fp/\h.get? p.1=u_ p.2:=by
 erw[List.mem_filterMap.mp O,b,U,e];cases q:h.get? b with
 |none=>rw[q] at e;cases e
 |some o=>
  rw[q] at e;have Z:(b,o)=p:=uM e;subst Z;exact[U:q]
def Inv.pinned (I:#[I])(Z:∀b>fp,AW X ot H b)(ho:∀b>fp,∃o,s.heap.get? b=u_ o/\∀v,o.data≠ .cell v):Inv X (ot++oy fp s.heap) σ H s:=
 I.pins_of λp hp=>(Ac.mp hp).elim (λz=>I.pin p (uN _ z)) λz=>by
  erw[Eu z,O,e];erw[Z p.1 O,f0,f1,f2,_];erw[ho p.1 O,o,U,d];rw[e] at U;cases U;exact⟨e,f0,f1,f2,d⟩
def Inv.unpinned {pl:om (o3×Obj)}(I:Inv X (ot++pl) σ H s):#[I]:=I.pins_of λp O=>I.pin p (uN _ (vf _ O))
def Ym {O:Expr}{ac:om Stmt}{wi:TI}{g:TG}{tb:TS}{pos:Pos}(hp:PassesOwn #[X,X] X.A X.env X.xe)(hc:X.calm=v_)(hi:PI X tg O wi)(hg:PG X tg g)(U:PSs X ac tb)
  (hs:∀x,TW O X.env x=pure x):PS X (.For tg O ac [] pos) (AdR wi g tb):=by
 exists 2,D,I,h;refine wpAny_For (thn (hi ot s σ H _ I h) λv s1 h1=>thn h1 λam s2 h2=>?_) hs;erw[h2,it,fp,tn,J,H2,e,I2,T,ah,f2,W,[m0,w0],ae];subst e;have Z:∀{H':Hp},(∀b>fp,H' b=U_)->∀b>fp,AW X ot H' b:=λhn b U=>[hn b U:(f2 b U).2];refine codeAny_forLoop_any (λn s'=>∃i σ' H',Inv X ot σ' H' s'/\tn i s'.heap/\(∀b>fp,H' b=U_)/\W i n σ' H') ?_ m0 ⟨(0),σ,H2,I2,ah,λb U=>(f2 b U).1,w0⟩;rintro n s3 ⟨i,σ3,H3,I3,af,ag,w3⟩;rcases ae i n σ3 H3 w3 with⟨stop,qn⟩|⟨go,N,hN,step⟩
 .refine Ue hp (thn (T.done X rfl rfl rfl hc i ot s3 σ3 H3 X.xe I3 (Z ag) af stop) λr s4 zq=>?_);erw[zq,hr,I4];subst hr;exact Uz ⟨σ3,H3,I4,qn⟩
 .refine Ue hp (thn (T.item X rfl rfl rfl hc i ot s3 σ3 H3 X.xe I3 (Z ag) af go) λr s4 zq=>?_);erw[zq,u,hr,h4];subst hr;refine Ue hp (thn h4 λ_ s5 zq=>?_);erw[zq,x,H5,I5,r5,y5,ad,ak];have al:=I5.pinned (Z ak) (T.obj _ _ ad);refine Ue hp (thn (hg _ s5 σ3 H5 x u _ al r5 (step x H5 y5)) λ_ s6 zq=>?_);erw[zq,σ6,H6,I6,q6];refine Ue hp (thn (U _ s6 σ6 H6 _ I6 q6) λf s7 q7=>?_);have aa:∀{σ7:St}{H7:Hp},Inv X (ot++oy fp s5.heap) σ7 H7 s7->N σ7 H7->∃m,m<n/\∃i σ' H',Inv X ot σ' H' s7/\tn i s7.heap/\(∀b>fp,H' b=U_)/\W i m σ' H':=λ{σ7 H7} I7 n7=>by
   erw[hN σ7 H7 n7,m',hm,w7];exists m',hm,i+1,σ7,H7,I7.unpinned,T.keep _ _ _ ad λb U o e=>(I7.pin (b,o) (uN _ (uN _ (J0 U e)))).1,λb U=>?_,w7;erw[T.obj _ _ ad b U,o,e,d];exact(I7.pin (b,o) (uN _ (uN _ (J0 U e)))).2.1
  cases f with
  |next=>erw[q7,σ7,H7,I7,n7];exact aa I7 n7
  |cont=>erw[q7,σ7,H7,I7,n7];exact aa I7 n7
  |brk=>erw[q7,σ7,H7,I7,q7];exact⟨σ7,H7,I7.unpinned,q7⟩
  |ret v=>erw[q7,x7,σ7,H7,I7,r7,q7];exact⟨x7,σ7,H7,I7.unpinned,r7,q7⟩
end
def B9 {K:o0}{a:o3}{xs:om V}{g:TG}{tb:TS}{D:mU}{σ:St}{H:Hp}(O:Nat->St->Hp->Prop)(h0:O 0 σ H)(hl:∀i σ H,i<=↑xs->O i σ H->SqL K H a xs)
  (hs:∀i x σ H,xs[i]? =u_ x->O i σ H->g x σ H λZ H2=>tb {D with nx:=O (i+1),ct:=O (i+1),bk:=D.nx} Z H2) (hd:∀σ H,O ↑xs σ H->D.nx σ H):
  ∃W:Nat->Nat->St->Hp->Prop,(∃m,W 0 m σ H)/\∀i m σ H,W i m σ H->
   ((Itl K a).stop i H/\D.nx σ H)\/((Itl K a).go i H/\∃N:St->Hp->Prop,(∀σ' H',N σ' H'->∃m',m'<m/\W (i+1) m' σ' H')/\∀x H',(Itl K a).yld i H x H'->g x σ H' λZ H2=>tb {D with nx:=N,ct:=N,bk:=D.nx} Z H2):=by
 exists λi m σ H=>m=↑xs-i/\i<=↑xs/\O i σ H,⟨↑xs,by simp,uQ _,h0⟩
 rintro i m σ H ⟨rfl,hi,p⟩;have q:=hl i σ H hi p;by_cases U:i<↑xs
 .refine .inr ⟨⟨xs,xs[i],q,by simp[U]⟩,O (i+1),λσ' H' p'=>⟨↑xs-(i+1),(),1,U,p'⟩,λx H' y=>?_⟩
  erw[y,e,y];subst e;exact hs i x σ _ (y xs q) p
 .have e:i=↑xs:=by omega
  subst e;exact .inl [[xs:q:ur _]:hd σ H p]
def Xf {K:o0}{a:o3}{xs:om V}{g:TG}{tb:TS}{D:mU}{σ:St}{H:Hp}(O:Nat->St->Hp->Prop)(h0:O 0 σ H)(hl:∀i σ H,i<=↑xs->O i σ H->SqT K H a xs)
  (hs:∀i x σ H,xs[i]? =u_ x->O i σ H->g x σ H λZ H2=>tb {D with nx:=O (i+1),ct:=O (i+1),bk:=D.nx} Z H2) (hd:∀σ H,O ↑xs σ H->D.nx σ H):
  ∃W:Nat->Nat->St->Hp->Prop,(∃m,W 0 m σ H)/\∀i m σ H,W i m σ H->
   ((Itt K a).stop i H/\D.nx σ H)\/((Itt K a).go i H/\∃N:St->Hp->Prop,(∀σ' H',N σ' H'->∃m',m'<m/\W (i+1) m' σ' H')/\∀x H',(Itt K a).yld i H x H'->g x σ H' λZ H2=>tb {D with nx:=N,ct:=N,bk:=D.nx} Z H2):=by
 exists λi m σ H=>m=↑xs-i/\i<=↑xs/\O i σ H,⟨↑xs,by simp,uQ _,h0⟩
 rintro i m σ H ⟨rfl,hi,p⟩;have q:=hl i σ H hi p;by_cases U:i<↑xs
 .refine .inr ⟨⟨xs,xs[i],q,by simp[U]⟩,O (i+1),λσ' H' p'=>⟨↑xs-(i+1),(),1,U,p'⟩,λx H' y=>?_⟩
  erw[y,e,y];subst e;exact hs i x σ _ (y xs q) p
 .have e:i=↑xs:=by omega
  subst e;exact .inl [[xs:q:ur _]:hd σ H p]
def JE {lo:Int}{n:Nat}{g:TG}{tb:TS}{D:mU}{σ:St}{H:Hp}(O:Nat->St->Hp->Prop)(h0:O 0 σ H)
  (hs:∀i σ H,i<n->O i σ H->g (.int (lo+i)) σ H λZ H2=>tb {D with nx:=O (i+1),ct:=O (i+1),bk:=D.nx} Z H2) (hd:∀σ H,O n σ H->D.nx σ H):
  ∃W:Nat->Nat->St->Hp->Prop,(∃m,W 0 m σ H)/\∀i m σ H,W i m σ H->
   ((Itr lo n).stop i H/\D.nx σ H)\/((Itr lo n).go i H/\∃N:St->Hp->Prop,(∀σ' H',N σ' H'->∃m',m'<m/\W (i+1) m' σ' H')/\∀x H',(Itr lo n).yld i H x H'->g x σ H' λZ H2=>tb {D with nx:=N,ct:=N,bk:=D.nx} Z H2):=by
 exists λi m σ H=>m=n-i/\i<=n/\O i σ H,⟨n,by simp,uQ _,h0⟩
 rintro i m σ H ⟨rfl,hi,p⟩;by_cases U:i<n
 .refine .inr ⟨U,O (i+1),λσ' H' p'=>⟨n-(i+1),(),1,U,p'⟩,λx H' y=>?_⟩
  erw[y,e,y];subst e y;exact hs i σ _ U p
 .have e:i=n:=by omega
  subst e;exact .inl [ur _:hd σ H p]
nonrec abbrev R2:=V->V->Hp->VK->Prop
abbrev OpR (X:Cx)(f:o6->o6->Sem o6)(r:R2):Prop:=
 ∀(ot:om (o3×Obj)) (s:o7) (σ:St) (H:Hp) (x y:V) (v u:o6) (Q:VK),#[I]->il x v->il y u->r x y H Q->
  Vd #[X,X] X.A (f v u) (EP X ot σ Q) X.xe s
abbrev UnR (X:Cx)(f:o6->Sem o6)(r:V->Hp->VK->Prop):Prop:=
 ∀(ot:om (o3×Obj)) (s:o7) (σ:St) (H:Hp) (x:V) (v:o6) (Q:VK),#[I]->il x v->r x H Q->
  Vd #[X,X] X.A (f v) (EP X ot σ Q) X.xe s
abbrev jA (X:Cx)(f:o6)(r:om V->Hp->VK->Prop):Prop:=
 ∀(ot:om (o3×Obj)) (s:o7) (σ:St) (H:Hp) (xs:om V) (us:om o6) (Q:VK),#[I]->iq xs us->r xs H Q->
  Vd #[X,X] X.A (call f us) (EP X ot σ Q) X.xe s
abbrev AeJ (X:Cx)(r:V->Hp->(Bool->Hp->Prop)->Prop):Prop:=
 ∀(ot:om (o3×Obj)) (s:o7) (σ:St) (H:Hp) (x:V) (v:o6) (Q:Bool->Hp->Prop),#[I]->il x v->r x H Q->
  Vd #[X,X] X.A (truthy v) (TP X ot σ Q) X.xe s
abbrev tOp (r:R2)(ta tb:TE):TE:=λσ H Q=>ta σ H λx H1=>tb σ H1 λy H2=>r x y H2 Q
abbrev tUn (r:V->Hp->VK->Prop)(ta:TE):TE:=λσ H Q=>ta σ H λx H1=>r x H1 Q
inductive rI (C:Int->Int->Prop)(g:Int->Int->V)(x:V)(y:V)(H:Hp)(Q:VK):Prop
 |mk (i:_)(j:_)(_:x= .int i)(_:y= .int j)(_:C i j)(_:Q (g i j) H)
inductive rI0 (g:Int->Int->V)(x:V)(y:V)(H:Hp)(Q:VK):Prop
 |mk (i:_)(j:_)(_:x= .int i)(_:y= .int j)(_:Q (g i j) H)
inductive rU (g:Int->V)(x:V)(H:Hp)(Q:VK):Prop
 |mk (i:_)(_:x= .int i)(_:Q (g i) H)
section
variable {X:Cx}{a b c:Expr}{ta tb tc:TE}{pos:Pos}
def Ady (ha:PE X a ta)(O:PE X b tb){ot:om (o3×Obj)}{s:o7}{σ:St}{H:Hp}{R:V->V->Hp->Prop}(I:#[I])
  (h:ta σ H λx H1=>tb σ H1 λy H2=>R x y H2) {Q:o6->o7->Prop}{f:o6->o6->Sem o6}
  (U:∀v u s2 x y H2,Inv X ot σ H2 s2->il x v->il y u->R x y H2->Vd #[X,X] X.A (f v u) Q X.xe s2):
  Vd #[X,X] X.A (eval a X.env) (λv Z=>Vd #[X,X] X.A (eval b X.env) (λu s₂=>Vd #[X,X] X.A (f v u) Q X.xe s₂) X.xe Z) X.xe s:=by
 refine thn (ha ot s σ H _ I h) λv s1 zq=>?_;erw[zq,x,H1,I1,r1,q1];refine thn (O ot s1 σ H1 _ I1 q1) λu s2 zq=>?_;erw[zq,y,H2,I2,r2,q2];exact U v u s2 x y H2 I2 r1 r2 q2
def Qh {O:Ht}{r:R2}(U:OpR X (VL O) r)(ha:PE X a ta)(Z:PE X b tb):PE X (.BinOp a O b pos) (tOp r ta tb):=by
 exists 2,Q,I,h;exact wpAny_BinOp (Ady ha Z I h λv u s2 x y H2 I2 rx ry q=>U ot s2 σ H2 x y v u Q I2 rx ry q)
def Aa7 {O:UnaryOp}{r:V->Hp->VK->Prop}(U:UnR X (unaryOp O) r)(ha:PE X a ta):PE X (.UnaryOp O a pos) (tUn r ta):=by
 exists 2,Q,I,h;exact UnaryOp_ (thn (ha ot s σ H _ I h) λv s1 ⟨x,H1,Z,r1,q1⟩=>U ot s1 σ H1 x v Q Z r1 q1)
def opI {f:o6->o6->Sem o6}{C:Int->Int->Prop}{g:Int->Int->Int}
  (rule:∀(i j:Int) (t u:Tok) (s:o7) (Q:o6->o7->Prop) (E:o6->o7->Prop),C i j->Q (.int (g i j) s.toks) {s with toks:=s.toks+1}->Vd #[X,X] X.A (f (.int i t) (.int j u)) Q E s):
  OpR X f (rI C λi j=> .int (g i j)):=by
 exists 2,x,y,v,u,Q,I,O,U,h;erw[h,i,j,rfl,rfl,Z,q];erw[O,t,rfl];erw[U,t',rfl];exact rule i j t t' s _ _ Z ⟨.int (g i j),H,I.tok _,⟨0⟩,q⟩
def Ad1 {f:o6->o6->Sem o6}{g:Int->Int->Int}
  (rule:∀(i j:Int) (t u:Tok) (s:o7) (Q:o6->o7->Prop) (E:o6->o7->Prop),Q (.int (g i j) s.toks) {s with toks:=s.toks+1}->Vd #[X,X] X.A (f (.int i t) (.int j u)) Q E s):
  OpR X f (rI0 λi j=> .int (g i j)):=by
 exists 2,x,y,v,u,Q,I,O,U,h;erw[h,i,j,rfl,rfl,q];erw[O,t,rfl];erw[U,t',rfl];exact rule i j t t' s _ _ ⟨.int (g i j),H,I.tok _,⟨0⟩,q⟩
def Acw {f:o6->o6->Sem o6}{g:Int->Int->Bool}
  (rule:∀(i j:Int) (t u:Tok) (s:o7) (Q:o6->o7->Prop) (E:o6->o7->Prop),Q (.bool (g i j)) s->Vd #[X,X] X.A (f (.int i t) (.int j u)) Q E s):
  OpR X f (rI0 λi j=> .bl (g i j)):=by
 exists 2,x,y,v,u,Q,I,O,U,h;erw[h,i,j,rfl,rfl,q];erw[O,t,rfl];erw[U,t',rfl];exact rule i j t t' s _ _ ⟨.bl (g i j),H,I,1,q⟩
abbrev AeN (i j:Int):Prop:=0<j/\j<1073741824
abbrev AeM (i j:Int):Prop:=0<=j/\j<=1000000/\i.natAbs<2^64
abbrev AcB (i j:Int):Prop:=(-(2^64)<i/\i<2^64)\/(-(2^64)<j/\j<2^64)
def AcB.ok {i j:Int}(h:AcB i j):IntMulOk i j:=by
 rcases h with⟨h1,h2⟩|⟨h1,h2⟩
 .exact .of_left (Rp h1 h2)
 .exact .of_right (Rp h1 h2)
def Yg:OpR X (VL .Add) (rI0 λi j=> .int (i+j)):=Ad1 λ_ _ _ _ _ _ _ q=>add_int q
def Ng:OpR X (VL .Sub) (rI0 λi j=> .int (i-j)):=Ad1 λ_ _ _ _ _ _ _ q=>sub_int q
def oF:OpR X (VL .Mult) (rI AcB λi j=> .int (i*j)):=opI λ_ _ _ _ _ _ _ O q=>mul_int q O.ok
def Pg:OpR X (VL .FloorDiv) (rI AeN λi j=> .int (i/j)):=opI λi j _ _ _ _ _ O q=>by
 have h1:(0:Int)<j:=O.1;have h2:j<1073741824:=O.2;exact floordiv_int () (by rwa[Int.fdiv_eq_ediv_of_nonneg i ()]) (.inl (PyProof.noPylong_small ()))
def Z3:OpR X (VL .Mod) (rI (λ_ j=>0<j) λi j=> .int (i%j)):=opI λi j _ _ _ _ _ O q=>by
 have h1:(0:Int)<j:=O;exact mod_int' () (by rwa[Int.fmod_eq_emod_of_nonneg i ()])
def Abd:OpR X (VL .Pow) (rI AeM λi j=> .int (i^j.toNat)):=opI λ_ _ _ _ _ _ _ O q=>pow_int_small O.1 O.2.1 O.2.2 q
def unI {f:o6->Sem o6}{g:Int->Int}
  (rule:∀(i:Int) (t:Tok) (s:o7) (Q:o6->o7->Prop) (E:o6->o7->Prop),Q (.int (g i) s.toks) {s with toks:=s.toks+1}->Vd #[X,X] X.A (f (.int i t)) Q E s):
  UnR X f (rU λi=> .int (g i)):=by
 exists 2,x,v,Q,I,O,h;erw[h,i,rfl,q];erw[O,t,rfl];exact rule i t s _ _ ⟨.int (g i),H,I.tok _,⟨0⟩,q⟩
def MP:UnR X (unaryOp .USub) (rU λi=> .int (-(i))):=unI λ_ _ _ _ _ q=>neg_int q
abbrev AdT:V->V->Bool
 | .non,.non=>v_| .non,.int _=>v_| .int _,.non=>v_| .non,.bl _=>v_| .bl _,.non=>v_| .non,.str _=>v_| .str _,.non=>v_
 | .int _,.int _=>v_| .bl _,.bl _=>v_| .str _,.str _=>v_| .byt _,.byt _=>v_
 | .int _,.str _=>v_| .str _,.int _=>v_| .bl _,.str _=>v_| .str _,.bl _=>v_
 |_,_=>Vc
abbrev rEq:R2:=λx y H Q=>AdT x y=v_/\Q (.bl (decide (x=y))) H
abbrev rNe:R2:=λx y H Q=>AdT x y=v_/\Q (.bl (!(decide) (x=y))) H
def Ir {i j:Int}:decide (V.int i=V.int j)=(i==j):=by
 rw[vR];simp
def NJ {i j:Bool}:decide (V.bl i=V.bl j)=(i==j):=by
 rw[vR];simp
def Iq {i j:Str}:decide (V.str i=V.str j)=(i==j):=by
 rw[vR];simp
def Iu {i j:Array UInt8}:decide (V.byt i=V.byt j)=(i.toList==j.toList):=by
 rw[vR];cases i;cases j;simp
variable {Q:VK}
def Ql {k O:Bool}(I:#[I])(q:Q (.bl k) H)(e:k=O):EP X ot σ Q (.bool O) s:=by
 subst e;exact⟨.bl k,H,I,1,q⟩
def QN:OpR X (Vm .Eq) rEq:=by
 exists 2,x,y,v,u,Q,I,Z,O,h;erw[h,U,q];cases x with
 |non=>
  cases Z;cases y with
  |non=>cases O;exact PySem.EqNone.eq_none_none (Ql I q (by simp))
  |bl j=>cases O;exact PySem.EqNone.eq_none_bool (Ql I q (by simp))
  |int j=>erw[O,t',rfl];exact PySem.EqNone.eq_none_int (Ql I q (by simp))
  |str j=>erw[O,t',rfl];exact PySem.EqNone.eq_none_str (Ql I q (by simp))
  |_=>exact A8 (show Vc=v_ from U) ud
 |bl i=>
  cases Z;cases y with
  |non=>cases O;exact PySem.EqNone.eq_bool_none (Ql I q (by simp))
  |bl j=>cases O;exact eq_bool (Ql I q NJ)
  |str j=>erw[O,t',rfl];exact PySem.EqMixed.eq_bool_str (Ql I q (by simp))
  |_=>exact A8 (show Vc=v_ from U) ud
 |int i=>
  erw[Z,t,rfl];cases y with
  |non=>cases O;exact PySem.EqNone.eq_int_none (Ql I q (by simp))
  |int j=>erw[O,t',rfl];exact eq_int (Ql I q Ir)
  |str j=>erw[O,t',rfl];exact PySem.EqMixed.eq_int_str (Ql I q (by simp))
  |_=>exact A8 (show Vc=v_ from U) ud
 |str i=>
  erw[Z,t,rfl];cases y with
  |non=>cases O;exact PySem.EqNone.eq_str_none (Ql I q (by simp))
  |bl j=>cases O;exact PySem.EqMixed.eq_str_bool (Ql I q (by simp))
  |int j=>erw[O,t',rfl];exact PySem.EqMixed.eq_str_int (Ql I q (by simp))
  |str j=>erw[O,t',rfl];exact eq_str (Ql I q Iq)
  |_=>exact A8 (show Vc=v_ from U) ud
 |byt i=>
  erw[Z,t,rfl];cases y with
  |byt j=>erw[O,t',rfl];exact PySem.W.eq_bytes (Ql I q Iu)
  |_=>exact A8 (show Vc=v_ from U) ud
 |_=>cases y<;>exact A8 (show Vc=v_ from U) ud
def LI:OpR X (Vm .NotEq) rNe:=by
 exists 2,x,y,v,u,Q,I,Z,O,h;erw[h,U,q];cases x with
 |non=>
  cases Z;cases y with
  |non=>cases O;exact PySem.EqNone.ne_none_none (Ql I q (by simp))
  |bl j=>cases O;exact PySem.EqNone.ne_none_bool (Ql I q (by simp))
  |int j=>erw[O,t',rfl];exact PySem.EqNone.ne_none_int (Ql I q (by simp))
  |str j=>erw[O,t',rfl];exact PySem.EqNone.ne_none_str (Ql I q (by simp))
  |_=>exact A8 (show Vc=v_ from U) ud
 |bl i=>
  cases Z;cases y with
  |non=>cases O;exact PySem.EqNone.ne_bool_none (Ql I q (by simp))
  |bl j=>cases O;exact ne_bool (Ql I q (A9 not NJ))
  |str j=>erw[O,t',rfl];exact PySem.EqMixed.ne_bool_str (Ql I q (by simp))
  |_=>exact A8 (show Vc=v_ from U) ud
 |int i=>
  erw[Z,t,rfl];cases y with
  |non=>cases O;exact PySem.EqNone.ne_int_none (Ql I q (by simp))
  |int j=>erw[O,t',rfl];exact ne_int (Ql I q (A9 not Ir))
  |str j=>erw[O,t',rfl];exact PySem.EqMixed.ne_int_str (Ql I q (by simp))
  |_=>exact A8 (show Vc=v_ from U) ud
 |str i=>
  erw[Z,t,rfl];cases y with
  |non=>cases O;exact PySem.EqNone.ne_str_none (Ql I q (by simp))
  |bl j=>cases O;exact PySem.EqMixed.ne_str_bool (Ql I q (by simp))
  |int j=>erw[O,t',rfl];exact PySem.EqMixed.ne_str_int (Ql I q (by simp))
  |str j=>erw[O,t',rfl];exact ne_str (Ql I q (A9 not Iq))
  |_=>exact A8 (show Vc=v_ from U) ud
 |byt i=>
  erw[Z,t,rfl];cases y with
  |byt j=>erw[O,t',rfl];exact PySem.W.ne_bytes (Ql I q (A9 not Iu))
  |_=>exact A8 (show Vc=v_ from U) ud
 |_=>cases y<;>exact A8 (show Vc=v_ from U) ud
def D6:OpR X (Vm .Lt) (rI0 λi j=> .bl (decide (i<j))):=Acw λ_ _ _ _ _ _ _ q=>lt_int q
def D7:OpR X (Vm .LtE) (rI0 λi j=> .bl (decide (i<=j))):=Acw λ_ _ _ _ _ _ _ q=>le_int q
def CQ:OpR X (Vm .Gt) (rI0 λi j=> .bl (decide (j<i))):=Acw λ_ _ _ _ _ _ _ q=>gt_int q
def Ac8:OpR X (Vm .GtE) (rI0 λi j=> .bl (decide (j<=i))):=Acw λ_ _ _ _ _ _ _ q=>ge_int q
def D5:OpR X (Vm .Lt) (λx y H Q=>∃i j,x= .str i/\y= .str j/\Q (.bl (decide (i.cps.toList<j.cps.toList))) H):=by
 exists 2,x,y,v,u,Q,I,O,U,h;erw[h,i,j,rfl,rfl,q];erw[O,t,rfl];erw[U,t',rfl];exact lt_str (Ql I q rfl)
def D8:OpR X (Vm .In) (λx y H Q=>∃i j,x= .str i/\y= .str j/\Q (.bl (!(hW j i 0 ↑j 1).isEmpty)) H):=by
 exists 2,x,y,v,u,Q,I,O,U,h;erw[h,i,j,rfl,rfl,q];erw[O,t,rfl];erw[U,t',rfl];exact in_str (Ql I q rfl)
def yT:OpR X (Vm .Is) (λx y H Q=>y= .non/\Q (.bl (decide (x= .non))) H):=by
 exists 2,x,y,v,u,Q,I,O,U,h;erw[h,rfl,q];cases U;refine is_none_gen (Ql I q ?_);cases x<;>first
  |(cases O;rfl)
  |(erw[O,t,rfl];rfl)
def zY:OpR X (Vm .IsNot) (λx y H Q=>y= .non/\Q (.bl (!(decide) (x= .non))) H):=by
 exists 2,x,y,v,u,Q,I,O,U,h;erw[h,rfl,q];cases U;refine isnot_none_gen (Ql I q ?_);cases x<;>first
  |(cases O;rfl)
  |(erw[O,t,rfl];rfl)
def qw (b:Expr){O:GP}(h:O≠ .In:=by decide)(h2:O≠ .NotIn:=by decide):hZ O b=false:=by
 have U:(O==CmpOp.In)=false:=by cases O<;>first|rfl|exact A8 rfl h
 have e2:(O==CmpOp.NotIn)=false:=by cases O<;>first|rfl|exact A8 rfl h2
 cases b<;>simp[hZ,U,e2]
def Qw {O:GP}{r:R2}(U:OpR X (Vm O) r)(ha:PE X a ta)(Z:PE X b tb)(hm:hZ O b=Vc):PE X (.Compare a [O] [b] pos) (tOp r ta tb):=by
 exists 2,Q,I,h;exact wpAny_Compare1 (Ady ha Z I h λv u s2 x y H2 I2 rx ry q=>U ot s2 σ H2 x y v u Q I2 rx ry q) hm
inductive Ach (Q:(Bool->Hp->Prop))(x:V)(H':Hp):Prop
 |mk (k:_)(_:x= .bl k)(_:Q k H')
abbrev Aaq (t:TE):TT:=λσ H Q=>t σ H λx H'=>Ach Q x H'
def qq {O:GP}{r:R2}(U:OpR X (Vm O) r)(ha:PE X a ta)(Z:PE X b tb)(hm:hZ O b=Vc):PT X (.Compare a [O] [b] pos) (Aaq (tOp r ta tb)):=by
 exists 2,Q,I,h;refine RL (thn (ha ot s σ H _ I h) λv s1 ⟨x,H1,I1,r1,q1⟩=>thn (Z ot s1 σ H1 _ I1 q1) λu s2 ⟨y,H2,I2,r2,q2⟩=>
  thn (U ot s2 σ H2 x y v u _ I2 r1 r2 q2) λc s3 ⟨z,H3,I3,r3,k,e,q3⟩=>?_) hm
 subst e;cases r3;exact vA [H3:I3:q3]
abbrev AaA (r r':R2)(ta tb tc:TE):TE:=λσ H Q=>ta σ H λx H1=>tb σ H1 λy H2=>r x y H2 λz H3=>∃k,z= .bl k/\
 (if k=v_ then tc σ H3 λw' H4=>r' y w' H4 Q else Q (.bl Vc) H3)
def Bv {U O:GP}{r r':R2}(ho:OpR X (Vm U) r)(Z:OpR X (Vm O) r')(ha:PE X a ta)(hb:PE X b tb)(hc:PE X c tc)
  (hm:lastMarks [U,O] [b,c]=Vc):PT X (.Compare a [U,O] [b,c] pos) (Aaq (AaA r r' ta tb tc)):=by
 exists 2,Q,I,h;refine isTrue_chain (thn (ha ot s σ H _ I h) λv s1 ⟨x,H1,I1,r1,q1⟩=>test_link (thn (hb ot s1 σ H1 _ I1 q1) λu s2 ⟨y,H2,I2,r2,q2⟩=>
  thn (ho ot s2 σ H2 x y v u _ I2 r1 r2 q2) λd s3 ⟨z,H3,I3,r3,k,e,q3⟩=>?_)) hm
 subst e;cases r3;refine vA ?_;cases k with
 |false=>
  erw[q3,k',e',q'];cases e';exact ite_ff [H3:I3:q']
 |true=>
  refine ite_tt (test_last (thn (hc ot s3 σ H3 _ I3 q3) λw' s4 ⟨z',H4,I4,r4,q4⟩=>thn (Z ot s4 σ H4 y z' u w' _ I4 r2 r4 q4) λd' s5 zq=>?_));erw[zq,z2,H5,I5,r5,k2,e2,q5];subst e2;cases r5;exact vA [H5:I5:q5]
abbrev Ad6 (K:o0)(x:V)(H:Hp)(k:Bool):Prop:=
 match x with
 | .non=>k=Vc
 | .bl b=>k=b
 | .int i=>k=(i !=0)
 | .str y=>↑y<=Vg/\k=((↑y:Int) !=0)
 | .byt y=>y.size<=Vg/\k=((y.size:Int) !=0)
 | .ref p=>(∃xs,SqL K H p xs/\k= !(xs.isEmpty))\/(∃xs,SqT K H p xs/\k= !(xs.isEmpty))\/∃kvs,H p=u_ (.dK kvs)/\k= !(kvs.isEmpty)
 |_=>False
def C3 {κ:Type}{kvs:om (κ×V)}{vs:om (κ×o6)}(r:KV kvs vs):(!(vs.isEmpty))= !(kvs.isEmpty):=by
 cases r<;>rfl
variable {its:om o6}
def W2 (r:iq xs its):(!(its.toArray.isEmpty))= !(xs.isEmpty):=by
 cases r<;>simp
def Zm:(Vg:Nat)<2^63:=by rw[uE];decide
def Aal:AeJ X (λx H Q=>∃k,Ad6 X.K x H k/\Q k H):=by
 exists 2,x,v,Q,I,Z,h;erw[h,k,e,q];have hl:=Zm;have hs:Vg=16777216:=uE;cases x with
 |non=>
  cases Z;have O:k=false:=e;subst O;exact truthy_none [H:I:q]
 |bl b=>
  cases Z;have O:k=b:=e;subst O;exact vA [H:I:q]
 |int i=>
  erw[Z,t,rfl];have O:k=(i !=0):=e;subst O;exact PySem.P.truthy_int [H:I:q]
 |str y=>
  erw[Z,t,rfl];obtain⟨hy,O⟩:↑y<=Vg/\k=((↑y:Int) !=0):=e;subst O;exact PySem.P.truthy_str () [H:I.tok _:q]
 |byt y=>
  erw[Z,t,rfl];obtain⟨hy,O⟩:y.size<=Vg/\k=((y.size:Int) !=0):=e;subst O;exact PySem.W.truthy_bytes () [H:I.tok _:q]
 |ref p=>
  cases Z;have O:(∃xs,SqL X.K H p xs/\k= !(xs.isEmpty))\/(∃xs,SqT X.K H p xs/\k= !(xs.isEmpty))\/∃kvs,H p=u_ (.dK kvs)/\k= !(kvs.isEmpty):=e;rcases O with⟨xs,hx,O⟩|⟨xs,hx,O⟩|⟨kvs,hx,O⟩
  .subst O;erw[I.list hx,its,r,pl,hz];have U:=↑r;exact wpAny_truthy_list pl.isList (by simp![uB];omega) ⟨H,I.tok _,by rwa[W2 r]⟩
  .subst O;erw[I.tuple hx,its,r,pl,hz];have U:=↑r;exact truthy_tuple pl (by simp![uB];omega) ⟨H,I.tok _,by rwa[W2 r]⟩
  .subst O;obtain⟨hz,hS,vs,r,m⟩:↑kvs<=Vg/\(p==Vy)=Vc/\∃vs,KV kvs vs/\s.heap.DictOf (Qd X.prog X.w) p vs:=I.hok p _ hx;have U:↑kvs=↑vs:=Paired.length r;exact wpAny_truthy_dict hS m () ⟨H,I.tok _,by rwa[C3 r]⟩
 |_=>exact(show False from e).elim
def Bu (ha:PE X a ta)(U:∀O,isTrue a X.env O=(do let v<-O;GF a.pos;G9 [v] (truthy v))):
  PT X a (λσ H Q=>ta σ H λx H'=>∃k,Ad6 X.K x H' k/\Q k H'):=by
 exists 2,Q,I,h;exact Ra (thn (ha ot s σ H _ I h) λv s1 ⟨x,H1,Z,r1,q1⟩=>Aal ot s1 σ H1 x v Q Z r1 q1) (U _)
def Qu:OpR X (VL .Add) (λx y H Q=>∃i j,x= .str i/\y= .str j/\↑i+↑j<=Vg/\Q (.str (i++j)) H):=by
 exists 2,x,y,v,u,Q,I,O,U,h;erw[h,i,j,rfl,rfl,hz,q];erw[O,t,rfl];erw[U,t',rfl];exact vh (n:=1) I.tk (add_str (λt' tk htk=>⟨.str (i++j),H,I.tok _,⟨0⟩,q⟩) hz)
def xH {x:V}(r:iq [x] us):∃u,us= [u]/\il x u:=by
 cases r with
 |cons O U=>cases U;exact[0:O]
def IZ {x:V}(r:iq [x,y] us):∃u O,us= [u,O]/\il x u/\il y O:=by
 cases r with
 |cons U Z=>
  cases Z with
  |cons r3 r4=>cases r4;exact⟨_,0,U,r3⟩
def Cm:jA X (.builtin "abs") (λxs H Q=>∃i,xs= [.int i]/\Q (.int (if i<0 then-(i) else i)) H):=by
 exists 2,xs,us,Q,I,r,h;erw[h,i,rfl,q];erw[xH r,u,rfl,t,rfl];exact vh (n:=1) I.tk (call_abs_int λu tk htk=>⟨.int (if i<0 then-(i) else i),H,I.tok _,⟨0⟩,q⟩)
def ID (U:X.calm=v_):jA X (.builtin "min") (λxs H Q=>∃i j,xs= [.int i,.int j]/\Q (.int (if j<i then j else i)) H):=by
 exists 2,xs,us,Q,I,r,h;erw[h,i,j,rfl,q];erw[IZ r,u,Z,rfl,[t,rfl],[t',rfl]];refine vh (n:=1) I.tk (min_two_ints (I.ok.hd U) λh' tk k htk=>⟨_,H,I.kept k,?_,q⟩);by_cases O:j<i
 .rw[A6 O,A6 O];exact⟨0⟩
 .rw[A4 O,A4 O];exact⟨0⟩
def JK:jA X (.type "str") (λxs H Q=>∃i,xs= [.int i]/\i.natAbs.log2<1920/\Q (.str (Vn i)) H):=by
 exists 2,xs,us,Q,I,r,h;erw[h,i,rfl,hz,q];erw[xH r,u,rfl,t,rfl];exact PySem.P.str_of_int hz ⟨.str _,H,I.tok _,⟨0⟩,q⟩
def ME:jA X (.builtin "ord") (λxs H Q=>∃x,xs= [!x]/\↑x=1/\Q (.int (x.cps.getD 0 0:Nat)) H):=by
 exists 2,xs,us,Q,I,r,h;erw[h,x,rfl,hz,q];erw[xH r,u,rfl,t,rfl];exact ord_of_one hz ⟨.int _,H,I.tok _,⟨0⟩,q⟩
abbrev AeL (K:o0)(x:V)(H:Hp)(n:Nat):Prop:=
 match x with
 | .str y=>↑y<=Vg/\n=↑y
 | .byt y=>y.size<=Vg/\n=y.size
 | .ref p=>(∃xs,SqL K H p xs/\n=↑xs)\/∃xs,SqT K H p xs/\n=↑xs
 |_=>False
def k9:jA X (.builtin "len") (λxs H Q=>∃x n,xs= [x]/\AeL X.K x H n/\Q (.int n) H):=by
 exists 2,xs,us,Q,I,r,h;erw[h,x,n,rfl,e,q];erw[xH r,u,rfl,Z];have hl:=Zm;have hs:Vg=16777216:=uE;cases x with
 |str y=>
  erw[Z,t,rfl];obtain⟨hy,U⟩:↑y<=Vg/\n=↑y:=e;subst U;exact len_str () ⟨.int _,H,I.tok _,⟨0⟩,q⟩
 |byt y=>
  erw[Z,t,rfl];obtain⟨hy,U⟩:y.size<=Vg/\n=y.size:=e;subst U;exact PySem.W.len_bytes () ⟨.int _,H,I.tok _,⟨0⟩,q⟩
 |ref p=>
  cases Z;have U:(∃xs,SqL X.K H p xs/\n=↑xs)\/∃xs,SqT X.K H p xs/\n=↑xs:=e;rcases U with⟨xs,hx,U⟩|⟨xs,hx,U⟩
  .subst U;erw[I.list hx,its,r',pl,hz];have O:=↑r';exact rq pl.isList (by simp![uB];omega) ⟨.int ↑xs,H,I.tok _,⟨_,by simp![uB];rw[O]⟩,q⟩
  .subst U;erw[I.tuple hx,its,r',pl,hz];have O:=↑r';exact len_tuple pl (by simp![uB];omega) ⟨.int ↑xs,H,I.tok _,⟨_,by simp![uB];rw[O]⟩,q⟩
 |_=>exact(show False from e).elim
end
structure SZ (h:o9)(x dx C:o3)(mA:Str->oq o6):Prop where
 obj:h.get? x=u_ (PySem.W.instObj C dx)
 ns:h.Ns1 dx mA
 ne:dx≠x
variable {dx:o3}
def ED {mA:Str->oq o6}(n:h.Ns1 dx mA):∃od,h.get? dx=u_ od/\∀name,PySem.W.lookIn name od=u_ (mA name):=by
 erw[n,o,es,ep,U,hd,Z,_,hm];exists o,U,λname=>?_;have e:=hm name;unfold nsFind findBy at e;rw[<-Array.find?_toList] at e;unfold PySem.W.lookIn;rw[hd];dsimp only;split
 .rename_i y q
  rw[q] at e;exact A9 u_ e
 .rename_i q
  rw[q] at e;have a:es.toList.any (·.refKey)=false:=by
   rw[T8];intro y hy;erw[Z y (Array.mem_toList_iff.mp hy),z,t,O];simp[rV,O]
  have a':¬es.toList.any (·.refKey)=true:=by rw[a];exact ud
  rw[A4 a'];exact A9 u_ e
variable {C:o3}
def SZ.look {x:o3}{mA:Str->oq o6}(I:SZ h x dx C mA):∃od,PySem.W.InstAt h x (PySem.W.instObj C dx) C (u_ od)/\∀name,PySem.W.lookIn name od=u_ (mA name):=
 let⟨od,ho,hl⟩:=ED I.ns
 [od:⟨I.obj,1,1,ho⟩:hl]
section
variable {prog:og}{w:oh}{A:oj}{E:o6->o7->Prop}{s:o7}{K:o0}{x dx C f:o3}{mA:Str->oq o6}{name:Str}{v:o6}
def SA {O:Bool}{Q:o6->o7->Prop}(X:K.In s.heap)(I:SZ s.heap x dx C mA)(Z:PySem.W.plainGet K C name=v_)(hh:PySem.W.hasDictIn K C=v_)
  (ha:PySem.W.findIn K (-C) name=u_ U_) (hv:mA name=u_ v) (U:PySem.W.handedIn v=v_) (h:Q v {s with toks:=s.toks+1}):
  Vd #[w,w] A (tF (-x) name O) Q E s:=by
 erw[I.look,od,J,hl];exact PySem.W.get_value X J (PySem.W.plainGet_of Z).1 (PySem.W.findObj_own hh ha rfl (by rw[hl,hv])) U h
def Mq {pl:Sem Bool}{Q:o6×om o6->o7->Prop}(X:K.In s.heap)(I:SZ s.heap x dx C mA)(O:PySem.W.plainGet K C name=v_)
  (U:PySem.W.findIn K (-C) name=u_ (u_ (-f))) (Z:PySem.W.isFn K (-f)=v_) (hv:mA name=U_) (h:Q (-f,[-x]) s):
  Vd #[w,w] A (GL (-x) name pl) Q E s:=by
 erw[I.look,od,J,hl];exact PySem.W.method_fn X J (PySem.W.plainGet_of O).1 (PySem.W.plainGet_of O).2 U (beq_iff_eq.mp Z) (by show(PySem.W.lookIn name od).map (·.isSome)=u_ Vc;rw[hl,hv];rfl) h
def OO {ns:om Str}{Q:Unit->o7->Prop}(X:K.In s.heap)(I:SZ s.heap x dx C mA)
  (hs:PySem.W.findIn K (-C) "__setattr__"=u_ (u_ (.builtin "object.__setattr__"))) (hp:PySem.W.plainOver K C=v_) (ht:PySem.W.takerIn K C name=u_ U_) (hh:PySem.W.hasDictIn K C=v_)
  (hw:PySem.Within mA ns) (hsz:↑ns<=Vg)
  (h:∀h',SZ h' x dx C (λy=>if y=name then u_ v else mA y)->VT dx s.heap h'->Q Gr {s with heap:=h',toks:=s.toks+2}):
  Vd #[w,w] A (setAttr (-x) name v) Q E s:=by
 erw[I.look,od,J,hl];refine PySem.W.set_plain X J hs (PySem.W.osa_open (s:={s with toks:=s.toks+1}) (r:=U_) X J hp ht λb=>?_)
 erw[PySem.W.any_some hh,cd,hc,Z];have hx:s.heap.get? x=u_ ⟨-C,u_ dx,.plain,#[]⟩:=I.obj;refine A7 (uD (A7 (A7 (wpAny_loadPart hx (A7 (PySem.W.Looks.here (s:={s with toks:=s.toks+1}) (PySem.W.looks_clsIn X hc) ?_))))))
 rw[Z];refine uD (a:=u_ dx) (A7 (uD (A7 ?_)));refine wpAny_nsSet1 (s:={s with toks:=s.toks+1}) I.ns λh' O U=>?_
 erw[O.count (PySem.Within.cons name v hw),oD,ae,af,aa,ac,ad];refine A7 (wpAny_lookBehind aa (by rw[ac];exact pastItsLine_dict (uY ad (by rw[uw];omega))) ?_)
 exact uD (h _ [(U.2 _ (Ud I.ne)).trans I.obj:O:I.ne] U)
def Md {R:GD->o7->Prop}{vs:om o6}{kw:om (Str×o6)}(X:K.In s.heap)(hm:PySem.W.makesIn K C=v_)
  (hi:PySem.W.findIn K (-C) "__init__"=u_ (u_ (-f))) (O:PySem.W.typeIn K (-f)=u_ (.type "function"))
  (h:VJ #[w,w] (A.under (.builtin "type.__call__" [.ref C::vs:kw])) (.call (-f) [.ref (#[0,s]+1)::vs:kw]) (PySem.W.InitBack (#[0,s]+1) R)
   {s with heap:=(s.heap.push PySem.W.emptyDict).push (PySem.W.instObj C #[0,s])}):
  VJ #[w,w] A (.call (-C) [vs:kw]) R s:=by
 erw[s,U,g,d,t,os];exact PySem.W.make_core (PySem.W.makes_of X hm) (PySem.W.looks_findIn X hi) (λself=>PySem.W.bind_fn X self O) (.inl rfl) h
end
abbrev iG (f:Str)(v:V):om (Str×V)->om (Str×V)
 | []=> [(f,v)]
 |(g,x)::r=>if g=f then(g,v)::r else(g,x)::iG f v r
def qI (f g:Str)(v:V):∀fs:om (Str×V),(iG f v fs).lookup g=if g=f then u_ v else fs.lookup g
 | []=>by
  show VB g [(f,v)]=_;by_cases h:g=f
  .have O:(g==f)=true:=beq_iff_eq.mpr h;simp![VB,O,A6 h]
  .have O:(g==f)=false:=beq_eq_false_iff_ne.mpr h;simp![VB,O,A4 h]
 |(k,x)::r=>by
  have Z:=qI f g v r;rw[show iG f v ((k,x)::r)=(if k=f then(k,v)::r else(k,x)::iG f v r) from rfl]
  by_cases U:k=f
  .rw[A6 U];by_cases h:g=k
   .have O:(g==k)=true:=beq_iff_eq.mpr h;simp![VB,O,A6 (h.trans U)]
   .have O:(g==k)=false:=beq_eq_false_iff_ne.mpr h;simp![VB,O,A4 (λe:g=f=>h (e.trans U.symm))]
  .rw[A4 U];by_cases h:g=k
   .have O:(g==k)=true:=beq_iff_eq.mpr h;simp![VB,O,A4 (λe:g=f=>U (h.symm.trans e))]
   .have O:(g==k)=false:=beq_eq_false_iff_ne.mpr h;simp![VB,O];exact Z
def Wo (f:Str)(v:V):∀fs:om (Str×V),f>(iG f v fs).map (·.1)/\∀g,g>fs.map (·.1)->g>(iG f v fs).map (·.1)
 | []=>⟨by simp[iG],λg h=>by simp at h⟩
 |(k,x)::r=>by
  erw[Wo f v r,U,Z];rw[show iG f v ((k,x)::r)=(if k=f then(k,v)::r else(k,x)::iG f v r) from rfl]
  by_cases O:k=f
  .rw[A6 O];subst O;exact⟨by simp,λg h=>by simpa using h⟩
  .rw[A4 O];exists ?_,λg h=>?_
   .rw[uC];exact ug _ U
   .rw[uC] at h⊢;rcases Aa.mp h with e|e
    .exact Aa.mpr (.inl e)
    .exact ug _ (Z g e)
def Z8 (f:Str)(v:V):∀fs:om (Str×V),↑(iG f v fs)<=↑fs+1
 | []=>by simp[iG]
 |(k,x)::r=>by
  have U:=Z8 f v r;rw[show iG f v ((k,x)::r)=(if k=f then(k,v)::r else(k,x)::iG f v r) from rfl]
  by_cases O:k=f
  .rw[A6 O,uw,uw];omega
  .rw[A4 O,uw,uw];omega
variable {v:V}
def nh.some_of {o:oq o6}(r:nh (u_ v) o):∃u,o=u_ u/\il v u:=by
 cases o with
 |none=>exact(show False from r).elim
 |some u=>exact[u:1:r]
def nh.Kr {o:oq o6}(r:nh U_ o):o=none:=by
 cases o with
 |none=>rfl
 |some u=>exact(show False from r).elim
def EW (r:il v u):PySem.W.handedIn u=true:=by
 cases v with
 |non=>cases(show u=Ge from r);rfl
 |bl b=>cases(show u=GW b from r);rfl
 |int i=>obtain⟨t,e⟩:=(show∃t,u=Gm i t from r);cases e;rfl
 |str x=>obtain⟨t,e⟩:=(show∃t,u=VC x t from r);cases e;rfl
 |byt b=>obtain⟨t,e⟩:=(show∃t,u=R1 b t from r);cases e;rfl
 |flt b=>obtain⟨t,e⟩:=(show∃t,u=tW b t from r);cases e;rfl
 |ref a=>cases(show u=Vi a from r);rfl
 |ty n=>cases(show u=Gn n from r);rfl
section
variable {P:og}{w:oh}{H H':Hp}{h h':o9}{a C dx:o3}{fs fs':om (Str×V)}
def KJ (hok:HOk P w H h)(e:H a=u_ (.ins C dx fs)):∃mA,SZ h a dx C mA/\(∀f,nh (fs.lookup f) (mA f))/\PySem.Within mA (fs.map (·.1))/\↑fs<=1000/\H dx=u_ (.own a):=by
 obtain⟨d,z,ne,ob,mA,n,r,q⟩:=(show yi P w H h a (.ins C dx fs) from hok a _ e)
 exact⟨mA,[ob:n:ne],r,q,z,d⟩
end
structure Cls (K:o0)(C:o3):Prop where
 pg:PySem.W.plainGet K C Tb=v_
 hd:PySem.W.hasDictIn K C=v_
 po:PySem.W.plainOver K C=v_
 sa:PySem.W.findIn K (-C) "__setattr__"=u_ (u_ (.builtin "object.__setattr__"))
def Cls.get (c:Cls K C)(f:Str):PySem.W.plainGet K C f=true:=c.pg
abbrev QM (K:o0)(C:o3)(f:Str):Prop:=PySem.W.findIn K (-C) f=u_ U_
def QM.taker {f:Str}(n:QM K C f):PySem.W.takerIn K C f=u_ none:=by
 unfold PySem.W.takerIn;rw[show PySem.W.findIn K (-C) f=u_ U_ from n]
 rfl
structure Aad (K:o0)(C:o3)(m:Str)(f:o3):Prop where
 at_:PySem.W.findIn K (-C) m=u_ (u_ (-f))
 fn:PySem.W.isFn K (-f)=v_
 kp:PySem.W.keepIn K (-f)=v_
section
variable {X:Cx}{ot:om (o3×Obj)}{σ:St}{H:Hp}{s:o7}{a C dx:o3}{fs:om (Str×V)}{f:Str}{v:V}{A:oj}{E:o6->o7->Prop}
def WV {b:Bool}{Q:o6->o7->Prop}(I:#[I])(e:H a=u_ (.ins C dx fs))(c:Cls X.K C)(n:QM X.K C f)(l:fs.lookup f=u_ v)
  (h:∀u s',Inv X ot σ H s'->il v u->Q u s'):Vd #[X,X] A (tF (-a) f b) Q E s:=by
 erw[KJ I.hok e,mA,O,r,_,_,_];obtain⟨u,U,ru⟩:=nh.some_of (v:=v) (o:=mA f) (by rw[<-l];exact r f)
 exact SA I.kIn O (c.get f) c.hd n U (EW ru) (h u _ (I.tok _) ru)
def zP {m:Str}{g:o3}{pl:Sem Bool}{Q:o6×om o6->o7->Prop}(I:#[I])(e:H a=u_ (.ins C dx fs))(c:Cls X.K C)(k:Aad X.K C m g)(l:fs.lookup m=U_)
  (h:Q (-g,[-a]) s):Vd #[X,X] A (GL (-a) m pl) Q E s:=by
 erw[KJ I.hok e,mA,O,r,_,_,_];have hn:mA m=none:=nh.Kr (by rw[<-l];exact r m)
 exact Mq I.kIn O (c.get m) k.at_ k.fn hn h
def ki {y:V}{u:o6}{Q:Unit->o7->Prop}(I:#[I])(e:H a=u_ (.ins C dx fs))(c:Cls X.K C)(n:QM X.K C f)(hl:↑fs<1000)(ry:il y u)
  (h:∀s',Inv X ot σ (upd H a (.ins C dx (iG f y fs))) s'->Q Gr s'):Vd #[X,X] A (setAttr (-a) f u) Q E s:=by
 erw[KJ I.hok e,mA,O,r,wi,_,Z];have hz:(fs.map (·.1)).length<=sizeLine:=by rw[uc,uE];omega
 refine OO I.kIn O c.sa c.po n.taker c.hd wi hz λh' U sb=>h _ ?_;have hd:∃o,h'.get? dx=u_ o:=let⟨o,_,_,e',_⟩:=U.ns;[o:e'];refine I.write (x:=a) (e:=dx) (by rw[e];exact VH) (.inr Z) (λb q hb z=>(sb.2 b hb).trans z) hd ?_
 refine⟨by rwa[qi O.ne],?_,O.ne,U.obj,_,U.ns,λg=>?_,λg hg=>?_⟩
 .have:=Z8 f y fs;omega
 .show nh ((iG f y fs).lookup g) (if g=f then u_ u else mA g)
  rw[qI];by_cases q:g=f
  .rwa[A6 q,A6 q]
  .rw[A4 q,A4 q];exact r g
 .by_cases q:g=f
  .rw[q];exact(Wo f y fs).1
  .refine(Wo f y fs).2 g (wi g λz=>hg ?_);show(if g=f then u_ u else mA g)=U_
   rw[A4 q];exact z
def Inv.made (I:#[I]):Inv X ot σ (upd (upd H #[0,s] (.own (#[0,s]+1))) (#[0,s]+1) (.ins C #[0,s] []))
  {s with heap:=(s.heap.push PySem.W.emptyDict).push (PySem.W.instObj C #[0,s])}:=by
 have O:(s.heap.push PySem.W.emptyDict).get? #[0,s]=u_ PySem.W.emptyDict:=uH s.heap rfl;have e2:((s.heap.push PySem.W.emptyDict).push (PySem.W.instObj C #[0,s])).get? (#[0,s]+1)=u_ (PySem.W.instObj C #[0,s]):=by
  have:=uH (s.heap.push PySem.W.emptyDict) (o:=PySem.W.instObj C #[0,s]) rfl
  rwa[vq] at this
 have e3:(s.heap.push PySem.W.emptyDict).Ns #[0,s] (λ_=>U_):=⟨PySem.W.emptyDict,#[],_,O,1,(λe U=>A8 U (by simp)),λ_=>rfl⟩
 have Z:=I.laid (a:=#[0,s]) (o:= .own (#[0,s]+1)) (h':=s.heap.push PySem.W.emptyDict) (t':=s.toks) (λb u q=>uf _ q) (ur _) [_:O];refine Z.laid (a:=#[0,s]+1) (o:= .ins C #[0,s] []) (t':=s.toks) (λb u q=>uf _ q) (TQ (vq _ _)) ?_;have ne:#[0,s]≠#[0,s]+1:=uX (V7 _);refine⟨by rw[qi ne,qg],uQ _,ne,e2,λ_=>U_,(pf e3).at λo q=>uf _ q,λ_=>VH,λy hy=>A8 rfl hy⟩
def SN {prog:og}{w:oh}{env:Env}{e:Expr}{f:Str}{pos:Pos}{s:o7}{Q:o6->o7->Prop}(O:VS e f env (eval e env)=eval e env)
  (h:Vd #[w,w] A (eval e env) (λo U=>Vd #[w,w] A (tF o f v_) Q E U) E s):Vd #[w,w] A (eval (.Attribute e f pos) env) Q E s:=
 Attribute_any_ h (by rw[arm_eval_Attribute,O])
end
inductive AdG (K:PySem.W.Frag)(f:Str)(Q:VK)(x:V)(H1:Hp):Prop
 |mk (a:_)(C:_)(dx:_)(fs:_)(v:_)(_:x=-a)(_:H1 a=u_ (.ins C dx fs))(_:Cls K C)(_:QM K C f)(_:fs.lookup f=u_ v)(_:Q v H1)
abbrev AcP (K:o0)(ta:TE)(f:Str):TE:=λσ H Q=>ta σ H λx H1=>AdG K f Q x H1
inductive AdI (K:PySem.W.Frag)(f:Str)(D:mU)(σ:St)(y:V)(x:V)(H2:Hp):Prop
 |mk (a:_)(C:_)(dx:_)(fs:_)(_:x=-a)(_:H2 a=u_ (.ins C dx fs))(_:Cls K C)(_:QM K C f)(_:↑fs<1000)(_:D.nx σ (upd H2 a (.ins C dx (iG f y fs))))
abbrev Aep (K:o0)(ta tv:TE)(f:Str):TS:=λD σ H=>tv σ H λy H1=>ta σ H1 λx H2=>AdI K f D σ y x H2
abbrev Aea (X:Cx)(op:Ht)(rd:V->V->Hp->VK->Prop):Prop:=
 ∀(ot:om (o3×Obj)) (s:o7) (σ:St) (H:Hp) (x y:V) (u v:o6) (Q:VK),#[I]->il x u->il y v->rd x y H Q->Vd #[X,X] X.A (Te op u v) (EP X ot σ Q) X.xe s
inductive ML (K:PySem.W.Frag)(tv:TE)(rd:V->V->Hp->VK->Prop)(f:Str)(D:mU)(σ:St)(x:V)(H1:Hp):Prop
 |mk (a:_)(C:_)(dx:_)(fs:_)(v:_)(_:x=-a)(_:H1 a=u_ (.ins C dx fs))(_:Cls K C)(_:QM K C f)(_:fs.lookup f=u_ v)(_:tv σ H1 λy H2=>rd v y H2 λz H3=>∃dx' fs',H3 a=u_ (.ins C dx' fs')/\↑fs'<1000/\D.nx σ (upd H3 a (.ins C dx' (iG f z fs'))))
abbrev OP (K:o0)(ta tv:TE)(rd:V->V->Hp->VK->Prop)(f:Str):TS:=λD σ H=>ta σ H λx H1=>ML K tv rd f D σ x H1
section
variable {X:Cx}{o e value:Expr}{f:Str}{pos pos' tpos:Pos}{ta tv:TE}
def qO (O:PE X e ta)(U:VS e f X.env (eval e X.env)=eval e X.env):PE X (.Attribute e f pos) (AcP X.K ta f):=by
 exists 2,Q,I,h;refine SN U (thn (O ot s σ H _ I h) λu s1 zq=>?_);erw[zq,x,H1,Z,rx,a,C,dx,fs,v,ex,ea,c,n,l,q];subst ex;obtain rfl:u=Vi a:=rx;exact WV Z ea c n l λu' s2 I2 ru=>⟨v,H1,I2,ru,q⟩
def Qf (ha:PE X o ta)(O:PE X value tv)(U:GN value (u_ (.Attribute o f pos')) pos.line X.env=pure Vc):PS X (.Assign [.Attribute o f pos'] value pos) (Aep X.K ta tv f):=by
 exists 2,D,I,h;refine plainObj_wpAny_Assign_Attribute (thn (O ot s σ H _ I h) λu s1 ⟨y,H1,Z,ry,q⟩=>thn (ha ot s1 σ H1 _ Z q) λov s2 zq=>?_) U;erw[zq,x,H2,I2,rx,a,C,dx,fs,ex,ea,c,n,l,q2];subst ex;obtain rfl:ov=Vi a:=rx;exact ki I2 ea c n l ry λs3 I3=>⟨σ,_,I3,q2⟩
def Jw {Z:Ht}{rd:V->V->Hp->VK->Prop}(ha:PE X o ta)(hv:PE X value tv)(O:Aea X Z rd):PS X (.AugAssign (.Attribute o f tpos) Z value pos) (OP X.K ta tv rd f):=by
 exists 2,D,I,h;refine wpAny_AugAssign_AttributeAny (thn (ha ot s σ H _ I h) λov s1 zq=>?_);erw[zq,x,H1,I1,rx,a,C,dx,fs,v,ex,ea,c,n,l,q];subst ex;obtain rfl:ov=Vi a:=rx;refine WV I1 ea c n l λu s2 I2 ru=>thn (hv ot s2 σ H1 _ I2 q) λw3 s3 ⟨y,H2,I3,ry,q3⟩=>thn (O ot s3 σ H2 v y u w3 _ I3 ru ry q3) λw4 s4 zq=>?_;erw[zq,z,H3,I4,rz,dx',fs',U,l',q4];exact ki I4 U c n l' rz λs5 I5=>⟨σ,_,I5,q4⟩
inductive Aez (x:V)(y:V)(H:Hp)(Q:VK):Prop
 |mk (i:_)(j:_)(_:x= .int i)(_:y= .int j)(_:Q (.int (i+j)) H)
def su:Aea X .Add Aez:=by
 rintro ot s σ H x y u v Q I O U ⟨i,j,rfl,rfl,q⟩;obtain⟨t,rfl⟩:=(show∃t,u=Gm i t from O)
 obtain⟨t',rfl⟩:=(show∃t',v=Gm j t' from U)
 exact pN ⟨.int (i+j),H,I.tok _,⟨0⟩,q⟩
end
section
variable {X:Cx}{ot:om (o3×Obj)}{σ:St}{H:Hp}{s:o7}{A:oj}{E:o6->o7->Prop}{Q:o6->o7->Prop}{c:o6}{b:Bool}
inductive Cq (K:PySem.W.Frag)(H:Hp):V->Value->Prop where
 |non:Cq K H .non (.type "NoneType")
 |bl (x:Bool):Cq K H (.bl x) (.type "bool")
 |int (i:Int):Cq K H (.int i) (.type "int")
 |str (x:Str):Cq K H (!x) (.type "str")
 |flt (x:UInt64):Cq K H (.flt x) (.type "float")
 |lst {a:Addr}{xs:List V}(e:H a=u_ (.lst xs)):Cq K H (-a) (.type "list")
 |frz {a:Addr}{o:Obj}{xs:List V}(e:H a=u_ (.frz o (.lst xs))):Cq K H (-a) (.type "list")
 |tup {a:Addr}{xs:List V}(e:H a=u_ (¬xs)):Cq K H (-a) (.type "tuple")
 |dK {a:Addr}{kvs:List (Key×V)}(e:H a=u_ (.dK kvs)):Cq K H (-a) (.type "dict")
 |dT {a:Addr}{kvs:List (List Key×V)}(e:H a=u_ (.dT kvs)):Cq K H (-a) (.type "dict")
 |ins {a C dx:Addr}{fs:List (Str×V)}(e:H a=u_ (.ins C dx fs))(cl:Cls K C)(ha:PySem.W.findIn K (-C) "__class__"=u_ (u_ (.builtin "object.__class__")))
   (hn:PySem.W.specialIn K (.builtin "object.__class__") "__get__"=u_ (u_ (.builtin "getset_descriptor.__get__"))) (htk:PySem.W.takesIn K (.builtin "object.__class__")=u_ v_)
   (hm:PySem.W.mroIn K C (.type "object")=u_ v_):Cq K H (-a) (-C)
def EM {x:V}{t:o6}(I:#[I])(U:il x u)(ty:Cq X.K H x t)(e:PySem.W.kitOne X.K t c=u_ b)(h:∀tk,Q (.bool b) {s with toks:=tk}):
  Vd #[X,X] A (call (.builtin "isinstance") [u,c]) Q E s:=by
 cases ty with
 |non=>cases(show u=Ge from U);exact vD PySem.W.kitx_none I.kIn VH e (λz=>nomatch z) h
 |bl y=>cases(show u=GW y from U);exact vD PySem.W.kitx_bool I.kIn VH e (λz=>nomatch z) h
 |int i=>obtain⟨t,q⟩:=(show∃t,u=Gm i t from U);cases q;exact vD PySem.W.kitx_int I.kIn VH e (λz=>nomatch z) h
 |str y=>obtain⟨t,q⟩:=(show∃t,u=VC y t from U);cases q;exact vD PySem.W.kitx_str I.kIn VH e (λz=>nomatch z) h
 |flt y=>obtain⟨t,q⟩:=(show∃t,u=tW y t from U);cases q;exact vD PySem.W.kitx_float I.kIn VH e (λz=>nomatch z) h
 | @lst a xs ea=>
  cases(show u=Vi a from U)
  obtain⟨_,_,n,_,h1⟩:=(show yi X.prog X.w H s.heap a (.lst xs) from I.hok a _ ea)
  exact vD PySem.W.kitx_list I.kIn [_:h1:1] e (λz=>nomatch z) h
 | @frz a ob xs ea=>
  cases(show u=Vi a from U)
  obtain⟨_,_,_,n,_,h1⟩:=(show yi X.prog X.w H s.heap a (.frz ob (.lst xs)) from I.hok a _ ea)
  exact vD PySem.W.kitx_list I.kIn [_:h1:1] e (λz=>nomatch z) h
 | @tup a xs ea=>
  cases(show u=Vi a from U)
  obtain⟨_,_,_,p⟩:=(show yi X.prog X.w H s.heap a (¬xs) from I.hok a _ ea)
  erw[p,o,h1,h2,_];exact vD PySem.W.kitx_tuple I.kIn [o:h1:h2] e (λz=>nomatch z) h
 | @dK a kvs ea=>
  cases(show u=Vi a from U)
  obtain⟨_,_,vs,_,p⟩:=(show yi X.prog X.w H s.heap a (.dK kvs) from I.hok a _ ea)
  erw[p,o,es,ep,h1,h2,_];exact vD PySem.W.kitx_dict I.kIn [o:h1:h2.1] e (λz=>nomatch z) h
 | @dT a kvs ea=>
  cases(show u=Vi a from U)
  obtain⟨_,_,xs,_,o,es,ep,h1,h2,_⟩:=(show yi X.prog X.w H s.heap a (.dT kvs) from I.hok a _ ea)
  exact vD PySem.W.kitx_dict I.kIn [o:h1:h2.1] e (λz=>nomatch z) h
 | @ins a C dx fs ea cl ha hn htk hm=>
  cases(show u=Vi a from U)
  erw[KJ I.hok ea,mA,O,_];erw[O.look,od,J,_];exact vD (PySem.W.kitx_own (cl.get _) cl.hd ha hn htk hm) I.kIn J e (λz=>nomatch z) h
end
structure mr (k:Nat)(A:oj):Prop where
 hd:A.handled=U_
 dp:A.depth+3*k+5<recursionLimit
 un:A.units+16*k+200<Vl
variable {j:Nat}
def mr.mono {k:Nat}(r:mr k A)(h:j<=k):mr j A:=⟨r.hd,by have:=r.dp;omega,by have:=r.un;omega⟩
def mr.deeper {k:Nat}(r:mr (k+1) A)(env:Env):mr k (A.deeper env):=
 ⟨r.hd,by have:=r.dp;show A.depth+1+3*k+5<_;omega,by have:=r.un;show A.units+3+16*k+200<_;omega⟩
def CY {kw:om (Str×o6)}:(A.under (.builtin "type.__call__" [.ref C::us:kw])).depth=A.depth+1:=by
 first|rfl|simp[tO,Code.weight,Code.isCreation,Code.isGuard,Code.isCaller,FE,TF,guardIds]
def CW {kw:om (Str×o6)}:(A.under (.builtin "type.__call__" [.ref C::us:kw])).units=A.units+1:=by
 first|rfl|simp[tO,Code.cUnits,FE,TF]
def mr.make {k:Nat}(r:mr (k+1) A)(C:o3)(us:om o6)(kw:om (Str×o6)):mr k (A.under (.builtin "type.__call__" [.ref C::us:kw])):=
 ⟨r.hd,by have:=r.dp;rw[CY];omega,by have:=r.un;rw[CW];omega⟩
def mr.depth {k:Nat}(r:mr k A):A.depth<recursionLimit:=by have:=r.dp;omega
def mr.units {k:Nat}(r:mr k A):A.units+64<cLine:=by have:=r.un;omega
def mr.units0 {k:Nat}(r:mr k A):A.units<cLine:=by have:=r.un;omega
abbrev Aas:TA:=λ_ H Q=>Q [] H
abbrev Lc (ta:TE)(tr:TA):TA:=λσ H Q=>ta σ H λx H1=>tr σ H1 λxs H2=>Q (x::xs) H2
section
variable {X:Cx}{e:Expr}{es:om Expr}{te:TE}{t:TA}{pos:Pos}
def qd:PA X [] Aas:=λ_ _ _ _ H Q I h=>UF ⟨[],H,I,.nil,h⟩
def qb (ha:PE X e te)(O:PA X es t)(U:Vh (e::es) X.env=(Vc,eval e X.env)::Vh es X.env:=by rfl):PA X (e::es) (Lc te t):=by
 intro pos ot s σ H Q I h;rw[U];show Vd _ _ (Tw ((Vc,eval e X.env)::Vo pos (Vh es X.env))) _ _ s;refine U4 (thn (ha ot s σ H _ I h) λu s1 zq=>?_);erw[zq,x,H1,Z,r1,q1];exact thn (O pos ot s1 σ H1 _ Z q1) λus s2 ⟨xs,H2,I2,r2,q2⟩=>⟨x::xs,H2,I2,.cons r1 r2,q2⟩
abbrev Aef (t:TA):TE:=λσ H Q=>t σ H λxs H1=>↑xs<=Vg/\∀p,H1 p=U_->Q (-p) (upd H1 p (¬xs))
abbrev Aek (t:TA):TE:=λσ H Q=>t σ H λxs H1=>↑xs<=Vg/\∀p,H1 p=U_->Q (-p) (upd H1 p (.lst xs))
def qG {x1}(h:PA X es t):PE X (.Tuple es x1 pos) (Aef t):=by
 exists 2,Q,I,U;refine wpAny_Tuple_spliced (thn (h pos ot s σ H _ I U) λus s1 ⟨xs,H1,O,r,z,q⟩=>⟨by rwa[<-↑r],?_⟩)
 have Z:H1 #[0,s1]=none:=O.hok.fresh (ur _);exists .ref #[0,s1],upd H1 #[0,s1] (¬xs),O.laid (t':=s1.toks) (λb u e=>uf _ e) (ur _) ?_,1,q _ Z;exact⟨z,us,r,⟨_,uH _ rfl,1,0⟩⟩
def QR (h:PA X es t):PE X (.List es pos) (Aek t):=by
 exists 2,Q,I,U;refine wpAny_List_spliced (thn (h pos ot s σ H _ I U) λus s1 ⟨xs,H1,O,r,z,q⟩=>⟨by rwa[<-↑r],?_⟩)
 have Z:H1 #[0,s1]=none:=O.hok.fresh (ur _);exists .ref #[0,s1],upd H1 #[0,s1] (.lst xs),O.laid (t':=s1.toks) (λb u e=>uf _ e) (ur _) ?_,1,q _ Z;exact⟨z,us,(0),r,uH _ rfl⟩
end
nonrec abbrev Sp:=om V->Hp->VK->XK->Prop
nonrec abbrev CXT:=om Env->Hp->o7->XK->o6->o7->Prop
structure Tm (P:og)(w:oh)(K:o0)(mg:Str->oq o6)(base:o9)(A:oj)(outer:om Env)(s:o7)(H:Hp):Prop where
 frames:A.frames=u_ outer
 mod:Mod K mg base
 bs:∀b o,base.get? b=u_ o->s.heap.get? b=u_ o/\H b=U_
 bsz:base.objs.size<=#[0,s]
 funs:s.heap.FunFrames base outer
 frf:∀b>frs outer,H b=U_
 hok:HOk P w H s.heap
 bare:VX s.gens
abbrev CE (outer:om Env)(P:og)(w:oh)(H:Hp)(s:o7)(Q:VK)(u:o6)(s':o7):Prop:=
 ∃v H',s'.os=s.os/\VX s'.gens/\0<s'.toks/\Un (frs outer) [] H H' s.heap s'.heap/\HOk P w H' s'.heap/\il v u/\Q v H'
abbrev CR (CX:CXT)(outer:om Env)(P:og)(w:oh)(H:Hp)(s:o7)(Q:VK)(E:XK)(r:GD)(s':o7):Prop:=
 match r with
 | .ok (.ret u)=>CE outer P w H s Q u s'
 | .ok _=>False
 | .error e=>CX outer H s E e s'
structure FnOk (P:og)(w:oh)(K:o0)(mg:Str->oq o6)(base:o9)(CX:CXT)(k:Nat)(f:o3)(fd:Ve)(ps:om Str)(sp:Sp):Prop where
 len:∀vs H Q E,sp vs H Q E->↑vs=↑ps
 run:∀(A:oj) (outer:om Env) (s:o7) (H:Hp) (args:Args) (us:om o6) (vs:om V) (Q:VK) (E:XK),mr k A->Tm P w K mg base A outer s H->GK s fd args (ps.zip us)->iq vs us->sp vs H Q E->(0<s.toks\/∃x r,ps=x::r/\fd.scope.names.lookup x=u_ .local)->
  VJ (Vs P w) A (.call (-f) args) (CR CX outer P w H s Q E) s
variable {mg:Str->oq o6}{base:o9}
def Tm.make {P:og}{outer:om Env}(e:Tm P w K mg base A outer s H)(C:o3)(us:om o6)(kw:om (Str×o6)):
  Tm P w K mg base (A.under (.builtin "type.__call__" [.ref C::us:kw])) outer s H:=⟨by first|exact e.frames|(simpa [tO,Code.envs,TF,pushEnvs] using e.frames),e.mod,e.bs,e.bsz,e.funs,e.frf,e.hok,e.bare⟩
section
variable {X:Cx}{ot:om (o3×Obj)}{σ:St}{H:Hp}{s s':o7}
def Inv.env0 (I:#[I]):Tm X.prog X.w X.K X.mg X.base X.A X.stack s H:=
 ⟨I.ok.frames,I.ok.mod,I.bs,uY I.ok.bsz I.sz,I.stack,I.stkFree,I.hok,I.bare⟩
variable {Q:VK}
def Inv.after (I:#[I])(h:CE X.stack X.prog X.w H s Q u s'):EP X ot σ Q u s':=by
 erw[h,v,H',os,bare,htk,un,hok,r,q];erw[s',U,g,d,t,O];obtain rfl:O=s.os:=os;exact⟨v,H',I.call (h':=U) (g':=g) (d':=d) (t':=t) (ch:= []) un hok bare (λb z=>A8 z (by simp)),r,q⟩
end
abbrev AcT (sp:Sp)(dvs:om V)(E:XK)(t:TA):TE:=λσ H Q=>t σ H λvs H1=>sp (vs++dvs) H1 Q E
inductive Ack (C:Addr)(m:Str)(sp:Sp)(dvs:List V)(E:XK)(t:TA)(σ:St)(Q:VK)(x:V)(H1:Hp):Prop
 |mk (a:_)(dx:_)(fs:_)(_:x=-a)(_:H1 a=u_ (.ins C dx fs))(_:fs.lookup m=U_)(_:t σ H1 λvs H2=>sp (x::(vs++dvs)) H2 Q E)
abbrev Aav (C:o3)(m:Str)(sp:Sp)(dvs:om V)(E:XK)(ta:TE)(t:TA):TE:=λσ H Q=>ta σ H λx H1=>Ack C m sp dvs E t σ Q x H1
abbrev AcN (C:o3)(sp:Sp)(dvs:om V)(E:XK)(t:TA):TE:=λσ H Q=>t σ H λvs H1=>∀x dx,H1 x=U_->H1 dx=U_->dx≠x->
 sp (.ref x::(vs++dvs)) (upd (upd H1 dx (.own x)) x (.ins C dx [])) (λv H2=>v= .non/\Q (-x) H2) E
abbrev Xi (K:o0)(fd:Ve)(ps:om Str)(ds:om o6):Prop:=
 ∀(s:o7) (us:om o6),K.In s.heap->↑(us++ds)=↑ps->GK s fd [us:[]] (ps.zip (us++ds))
variable {fd:Ve}
def Xi.all {ps:om Str}(h:∀us:om o6,↑us=↑ps->Gx fd [us:[]]=pure (ps.zip us)):Xi K fd ps []:=λs us _ O=>by
 rw[v9] at O⊢;exact .of_eq (h us O)
abbrev XD (CX:CXT)(X:Cx)(E:XK):Prop:=∀(ot:om (o3×Obj)) (σ:St) (H:Hp) (s:o7) (e:o6) (s':o7),#[I]->CX X.stack H s E e s'->X.xe e s'
section
variable {X:Cx}{CX:CXT}{k:Nat}{f C:o3}{fd:Ve}{ps:om Str}{sp:Sp}{dvs:om V}{ds:om o6}{E:XK}{x m:Str}{p pos apos:Pos}{e o:Expr}{es:om Expr}{ta:TE}{t:TA}
def Bk {ot:om (o3×Obj)}{σ:St}{H:Hp}{s:o7}{Q:VK}{us:om o6}{vs:om V}(F:FnOk X.prog X.w X.K X.mg X.base CX k f fd ps sp)(Z:mr k X.A)(hb:Xi X.K fd ps ds)(hd:iq dvs ds)(hx:XD CX X E)
  (I:#[I]) (r:iq vs us) (h:sp (vs++dvs) H Q E):Vd #[X,X] X.A (call (-f) us) (EP X ot σ Q) X.xe s:=by
 have U:iq (vs++dvs) (us++ds):=r.append hd;have hl:↑(us++ds)=↑ps:=by rw[<-↑U];exact F.len _ _ _ _ h
 refine hV (UA (F.run X.A X.stack s H [us:[]] (us++ds) (vs++dvs) Q E Z I.env0 (hb s us I.kIn hl) U h (.inl I.tk)) λr s' O=>?_);cases r with
 |error e=>exact hx ot σ H s e s' I O
 |ok fl=>
  cases fl with
  |ret u=>exact I.after O
  |next=>exact Vw O
  |brk=>exact Vw O
  |cont=>exact Vw O
def qp (F:FnOk X.prog X.w X.K X.mg X.base CX k f fd ps sp)(hr:mr k X.A)(hg:Gl X x)(hm:X.mg x=u_ (-f))(hk:PySem.W.keepIn X.K (-f)=v_)(hb:Xi X.K fd ps ds)(hd:iq dvs ds)(hx:XD CX X E)
  (ha:PA X (e::es) t) (O:(x==("__debug__":Str))=Vc) (he:Vh (e::es) X.env=(Vc,eval e X.env)::Vh es X.env) (U:(Vo pos (Vh es X.env)).any (·.1)=Vc):
  PE X (.Call (.Name x p) (e::es) [] pos) (AcT sp dvs E t):=by
 exists 2,Q,I,h;refine Us (wq I hg hm ?_ O);refine Ut (h₀:=X.base) I.ok.mod.kin hk (thn (ha pos ot s σ H _ I h) λus s1 ⟨vs,H1,Z,r,q⟩=>[Z.kIn:?_]) he U;exact Bk F hr hb hd hx Z r q
def Qm {pl:Sem Bool}(he:PE X o ta)(c:Cls X.K C)(hm:Aad X.K C m f)(F:FnOk X.prog X.w X.K X.mg X.base CX k f fd ps sp)(hr:mr k X.A)(hb:Xi X.K fd ps ds)(hd:iq dvs ds)(hx:XD CX X E)(ha:PA X (e::es) t)
  (O:Vh (e::es) X.env=(Vc,eval e X.env)::Vh es X.env) (U:(Vo pos (Vh es X.env)).any (·.1)=Vc)
  (ht:eval (.Call (.Attribute o m apos) (e::es) [] pos) X.env=(do
   let ov<-eval o X.env
   GF apos.atName
   let(f,first)<-G9 [ov] (GL ov m pl)
   Hq pos f first (Vo pos (Vh (e::es) X.env)) (Gg pos (Gj [] X.env)))):
  PE X (.Call (.Attribute o m apos) (e::es) [] pos) (Aav C m sp dvs E ta t):=by
 exists 2,Q,I,h;refine PySem.W.methodCall_KW (pl:=pl) (thn (he ot s σ H _ I h) λu s1 zq=>?_) ht;erw[zq,x,H1,Z,rx,a,dx,fs,ex,ea,l,q];subst ex;obtain rfl:u=Vi a:=rx;refine zP Z ea c hm l ?_;refine Ut (first:= [-a]) (h₀:=X.base) I.ok.mod.kin hm.kp (thn (ha pos ot s1 σ H1 _ Z q) λus s2 ⟨vs,H2,I2,r,q2⟩=>[I2.kIn:?_]) O U;exact Bk (us:= .ref a::us) (vs:= .ref a::vs) F hr hb hd hx I2 (.cons rfl r) q2
def QL {pl:Sem Bool}(U:PE X o ta)(c:Cls X.K C)(hm:Aad X.K C m f)(F:FnOk X.prog X.w X.K X.mg X.base CX k f fd ps sp)(Z:mr k X.A)(hb:Xi X.K fd ps ds)(hd:iq dvs ds)(hx:XD CX X E)
  (ht:eval (.Call (.Attribute o m apos) [] [] pos) X.env=(do
   let ov<-eval o X.env
   GF apos.atName
   let(f,first)<-G9 [ov] (GL ov m pl)
   Hq pos f first (Vo pos (Vh [] X.env)) (Gg pos (Gj [] X.env)))):
  PE X (.Call (.Attribute o m apos) [] [] pos) (Aav C m sp dvs E ta Aas):=by
 exists 2,Q,I,h;refine PySem.W.methodCall_KW (pl:=pl) (thn (U ot s σ H _ I h) λu s1 zq=>?_) ht;erw[zq,x,H1,O,rx,a,dx,fs,ex,ea,l,q];subst ex;obtain rfl:u=Vi a:=rx;refine zP O ea c hm l ?_;exact PySem.W.callWith_K0 (first:= [-a]) O.kIn hm.kp (Bk (us:= [-a]) (vs:= [-a]) F Z hb hd hx O (.cons rfl .nil) q)
structure Mk (K:o0)(C f:o3):Prop where
 makes:PySem.W.makesIn K C=v_
 init:PySem.W.findIn K (-C) "__init__"=u_ (u_ (-f))
 fn:PySem.W.isFn K (-f)=v_
 kp:PySem.W.keepIn K (-C)=v_
def Ly {ot:om (o3×Obj)}{σ:St}{H:Hp}{s:o7}{Q:VK}{us:om o6}{vs:om V}(M:Mk X.K C f)(F:FnOk X.prog X.w X.K X.mg X.base CX k f fd ps sp)(hr:mr (k+1) X.A)(hb:Xi X.K fd ps ds)(hd:iq dvs ds)
  (hx:XD CX X E) (I:#[I]) (r:iq vs us)
  (h:∀x dx,H x=U_->H dx=U_->dx≠x->sp (.ref x::(vs++dvs)) (upd (upd H dx (.own x)) x (.ins C dx [])) (λv H2=>v= .non/\Q (-x) H2) E):
  Vd #[X,X] X.A (call (-C) us) (EP X ot σ Q) X.xe s:=by
 have Z:=h (#[0,s]+1) #[0,s] (I.hok.fresh (HH _)) (I.hok.fresh (ur _)) (uX (V7 _));have U:=Inv.made (C:=C) I;have r2:iq (V.ref (#[0,s]+1)::(vs++dvs)) (Vi (#[0,s]+1)::(us++ds)):= .cons rfl (r.append hd);have hl:↑(Vi (#[0,s]+1)::us++ds)=↑ps:=by
  have e:=↑r2;rw[F.len _ _ _ _ Z] at e;exact e.symm
 refine hV (Md (f:=f) I.kIn M.makes M.init (beq_iff_eq.mp M.fn) (UA (F.run _ X.stack _ _ [Vi (#[0,s]+1)::us:[]] (Vi (#[0,s]+1)::(us++ds)) _ _ E (hr.make C us [])
  (U.env0.make C us []) (hb _ (Vi (#[0,s]+1)::us) U.kIn hl) r2 Z (.inl U.tk)) λr s' O=>?_))
 cases r with
 |error e=>exact hx ot σ _ _ e s' U O
 |ok fl=>
  cases fl with
  |ret u=>
   erw[U.after O,v,H',I3,rv,ev,q3];subst ev;exact[rv:⟨V.ref (#[0,s]+1),H',I3,1,q3⟩]
  |next=>exact Vw O
  |brk=>exact Vw O
  |cont=>exact Vw O
def zJ (M:Mk X.K C f)(F:FnOk X.prog X.w X.K X.mg X.base CX k f fd ps sp)(hr:mr (k+1) X.A)(hg:Gl X x)(hm:X.mg x=u_ (-C))(hb:Xi X.K fd ps ds)(hd:iq dvs ds)(hx:XD CX X E)
  (ha:PA X (e::es) t) (O:(x==("__debug__":Str))=Vc) (he:Vh (e::es) X.env=(Vc,eval e X.env)::Vh es X.env) (U:(Vo pos (Vh es X.env)).any (·.1)=Vc):
  PE X (.Call (.Name x p) (e::es) [] pos) (AcN C sp dvs E t):=by
 exists 2,Q,I,h;refine Us (wq I hg hm ?_ O);refine Ut (h₀:=X.base) I.ok.mod.kin M.kp (thn (ha pos ot s σ H _ I h) λus s1 ⟨vs,H1,Z,r,q⟩=>[Z.kIn:?_]) he U;exact Ly M F hr hb hd hx Z r q
end
structure qv (N P:om Str)(sc:Vu):Prop where
 kind:sc.kind= .function
 co:sc.isCoroutine=Vc
 gen:sc.isGenerator=Vc
 nd:N.Nodup
 pre:N.take ↑P=P
 par:∀x>P,sc.names.lookup x=u_ .local\/sc.names.lookup x=u_ .cell
 nofree:∀y>sc.names,y.2≠ .free
def sK {kindOf:Str->oq VO}{x:Str}:∀{binds:om (Str×o6)}{m:Str->oq o6},(∀v,(x,v)∉binds)->VQ kindOf binds m x=m x
 | [],_,_=>rfl
 |(n,v)::r,m,h=>by
  unfold VQ;rw[sK λw O=>h w (ug _ O)];split
  .have:x≠n:=by rintro rfl;exact h v uh
   simp[this]
  .rfl
def sM {kindOf:Str->oq VO}{x:Str}:∀{binds:om (Str×o6)}{m:Str->oq o6},(∀v,(x,v)∉binds)->VN kindOf binds m x=m x
 | [],_,_=>rfl
 |(n,v)::r,m,h=>by
  unfold VN;rw[sM λw O=>h w (ug _ O)];split
  .rfl
  .have:x≠n:=by rintro rfl;exact h v uh
   simp[this]
def sL {kindOf:Str->oq VO}{x:Str}{v:o6}:∀{P:om Str}{vs:om o6}{i:Nat}{m:Str->oq o6},P.Nodup->P[i]? =u_ x->vs[i]? =u_ v->kindOf x=u_ .local->
  VQ kindOf (P.zip vs) m x=u_ v
 | [],_,_,_,_,h,_,_=>by simp at h
 |_::_,[],_,_,_,_,h,_=>by simp at h
 |p::P,w::vs,0,m,nd,h1,h2,hk=>by
  simp at h1 h2;subst h1;subst h2;show VQ kindOf ((p,w)::P.zip vs) m p=_;unfold VQ;rw[sK λv O=>(List.nodup_cons.mp nd).1 (T_ O).1,A6 hk];simp
 |p::P,w::vs,i+1,m,nd,h1,h2,hk=>by
  show VQ kindOf ((p,w)::P.zip vs) m x=_;unfold VQ;exact sL (i:=i) (List.nodup_cons.mp nd).2 (by simpa using h1) (by simpa using h2) hk
def sN {kindOf:Str->oq VO}{x:Str}{v:o6}:∀{P:om Str}{vs:om o6}{i:Nat}{m:Str->oq o6},P.Nodup->P[i]? =u_ x->vs[i]? =u_ v->kindOf x≠u_ .local->
  VN kindOf (P.zip vs) m x=u_ v
 | [],_,_,_,_,h,_,_=>by simp at h
 |_::_,[],_,_,_,_,h,_=>by simp at h
 |p::P,w::vs,0,m,nd,h1,h2,hk=>by
  simp at h1 h2;subst h1;subst h2;show VN kindOf ((p,w)::P.zip vs) m p=_;unfold VN;rw[sM λv O=>(List.nodup_cons.mp nd).1 (T_ O).1,A4 hk];simp
 |p::P,w::vs,i+1,m,nd,h1,h2,hk=>by
  show VN kindOf ((p,w)::P.zip vs) m x=_;unfold VN;exact sN (i:=i) (List.nodup_cons.mp nd).2 (by simpa using h1) (by simpa using h2) hk
abbrev qab (N:om Str)(vs:om V):St:=vs.map u_++HJ (↑N-↑vs) U_
abbrev cxOf (CX:CXT)(P:og)(w:oh)(K:o0)(mg:Str->oq o6)(base:o9)(N:om Str)(qual:Str)(scope:Vu)(f:o3)(cd:o6)(A:oj)(outer:om Env)(s:o7)(H:Hp)(E:XK):Cx where
 prog:=P
 w:=w
 K:=K
 mg:=mg
 base:=base
 A:=A.deeper (Vj qual scope #[0,s] f cd)
 N:=N
 s₀:=s
 H₀:=H
 env:=Vj qual scope #[0,s] f cd
 outer:=outer
 stack:=Vj qual scope #[0,s] f cd::outer
 ex:= []
 calm:=v_
 fn:=λ_=>v_
 pn:= []
 xe:=λe s'=>Vd (Vs P w) (A.deeper (Vj qual scope #[0,s] f cd)) (TC (Vj qual scope #[0,s] f cd) e) (λ_ s''=>CX outer H s E e s'') (λe' s''=>CX outer H s E e' s'') s'
variable {n:Nat}{x:Str}
def Cl {sc:Vu}(h:sc.names.lookup x=u_ .cell):∃c,(GV n sc.names []).lookup x=u_ c:=by
 have q:=PySem.W.cellsFrom_some sc.names n [] (.inl h);exact Option.isSome_iff_exists.mp q
def ES {CX:CXT}{P:og}{w:oh}{K:o0}{mg:Str->oq o6}{base:o9}{N ps:om Str}{qual:Str}{scope:Vu}{f:o3}{cd:o6}{A:oj}{outer:om Env}{s s1:o7}{H:Hp}{E:XK}{us:om o6}{vs:om V}
  (S:qv N ps scope) (hd:A.handled=U_) (O:Tm P w K mg base A outer s H) (hl:↑vs=↑ps) (r:iq vs us)
  (x:G_ s #[0,s] (VQ (Vj qual scope #[0,s] f cd).kindOf (ps.zip us) λ_=>U_) (GV (#[0,s]+1) scope.names []) (VN (Vj qual scope #[0,s] f cd).kindOf (ps.zip us) λ_=>U_) s1) (ac:0<s1.toks):
  Inv (cxOf CX P w K mg base N qual scope f cd A outer s H E) [] (qab N vs) H s1:=by
 have ad:↑ps<=↑N:=by have:=A9 VI S.pre;rw[vy] at this;omega
 erw[x.done,h1,tk,rfl,hk];have U:∀b:o3,b∉(cxOf CX P w K mg base N qual scope f cd A outer s H E).ex:=λb z=>A8 (show b>([]:om o3) from z) (by simp)
 exists ⟨O.mod,S.kind,1,1,ur _,λy z c h1 h2=>?_,λy Z=>?_,λy c _ h=>?_,λ_=>hd,Around.frames_deeper O.frames,.inr [1:1],λb z=>A8 z (U b),O.bs,O.bsz,λb _ _=>U b,λb z=>A8 z (U b),O.funs,O.frf⟩,1,O.bare,Un.kept hk,[_:x.toInCall.ns:λi y v h1 h2 h3=>?_],λy c h=>[_:x.cell y c h],O.hok.fresh (ur _),λy c h=>?_,λp hp=>A8 (show p>([]:om (o3×Obj)) from hp) (by simp),O.hok.kept hk,?_,ac
 .exact name_of_addr x.apart (vN h1) (vN h2)
 .have Z:scope.names.lookup y=u_ .cell\/scope.names.lookup y=u_ .free:=Z;rcases Z with Z|Z
  .exact Cl Z
  .exact A8 rfl (S.nofree _ (vN Z))
 .exact V4 (x.above y c (vN h))
 .have hi:i<↑vs:=by
   unfold qab at h2;by_cases hi:i<↑vs
   .exact hi
   .rw[vM (by simpa using hi)] at h2
    rw[rW] at h2;split at h2<;>cases h2
  have ha:vs[i]? =u_ v:=by
   unfold qab at h2;rw[UI (by simpa using hi),uK] at h2
   cases e:vs[i]? with
   |none=>rw[e] at h2;cases h2
   |some a=>rw[e] at h2;cases h2;rfl
  erw[r.get ha,u,hu,rv];have hp:ps[i]? =u_ y:=by
   rwa[<-S.pre,List.getElem?_take_of_lt ()]
  have aa:ps.Nodup:=by rw[<-S.pre];exact S.nd.sublist (V0 _ _)
  exists u,rv;rcases S.par y (vg hp) with k|k
  .exact .inl [k:sL aa hp hu k]
  .erw[Cl (n:=#[0,s]+1) k,c,e];refine .inr ⟨.inl k,c,e,?_⟩;have q:=x.cell y c e;rw[sN aa hp hu (by show scope.names.lookup y≠_;rw[k];decide)] at q
   exact q
 .exact O.hok.fresh (V4 (x.above y c (vN h)))
 .unfold qab;show _=↑N;rw[uF,uc,Rt];omega
def AQ {M:GM}{A:oj}{E:o6->o7->Prop}{s₀ s:o7}{m Z:Str->oq o6}{env:Env}(f:Str×o6->PUnit->Sem (ForInStep PUnit))(hf:∀n v u,f (n,v) u=(do HQ env n v;pure (.yield ⟨⟩)))(O:env.scope.kind= .function)
  (n:Str) (v:o6) (r:om (Str×o6)) (Q:PUnit->o7->Prop) (x:G_ s₀ env.locals m env.cells Z s) (hl:env.kindOf n=u_ .local)
  (aa:∀x>r,env.kindOf x.1=u_ .local\/(env.kindOf x.1=u_ .cell/\(env.cells.lookup x.1).isSome=v_))
  (h:∀s',G_ s₀ env.locals (VQ env.kindOf ((n,v)::r) m) env.cells (VN env.kindOf ((n,v)::r) Z) s'->0<s'.toks->Q ⟨⟩ s'):Vd M A (G7 ((n,v)::r) ⟨⟩ f) Q E s:=by
 rw[UB,hf];refine A7 (A7 (R9 hl x.toInCall.ns (λh' ac U=>uD ?_) (by rw[O];rfl)))
 have x1:G_ s₀ env.locals (λy=>if y=n then u_ v else m y) env.cells Z {s with heap:=h',toks:=s.toks+1}:=by
  exists ⟨?_,ac,λb o e=>?_,x.toInCall.fresh⟩,λk c hc=>?_,x.apart,x.above
  .erw[x.toInCall.same,h₁,tk,rfl];exact[h':0]
  .have:=x.toInCall.keep b o e;exact U.extBut b o (uX (Vq (uJ e) x.toInCall.fresh)) (x.toInCall.keep b o e)
  .exact(x.cell k c hc).sameBut U (U2 (x.above k c (mem_of_lookup hc)))
 refine vh (n:=1) (r_ (uQ _)) (wpAny_bindParams f hf O r _ _ _ _ x1 aa λs' y h1=>h s' ?_ h1);unfold VQ VN;rw[A6 hl,A6 hl];exact y
def Ex {M:GM}{A:oj}{E:o6->o7->Prop}{s:o7}{scope:Vu}{globals:o3}{binds:om (Str×o6)}{qual:Str}{func:oq o3}{O:o6}{builtins:o3}{Q:Env->o7->Prop}
  (Z:scope.kind= .function)
  (aa:∀x>binds,scope.names.lookup x.1=u_ .local\/(scope.names.lookup x.1=u_ .cell/\((GV (#[0,s]+1) scope.names []).lookup x.1).isSome=v_))
  (htk:0<s.toks\/∃n v r,binds=(n,v)::r/\scope.names.lookup n=u_ .local)
  (hq:∀en,en=newEnv scope #[0,s] globals (GV (#[0,s]+1) scope.names []) qual func O U_ builtins->
   ∀s',G_ s en.locals (VQ en.kindOf binds λ_=>U_) en.cells (VN en.kindOf binds λ_=>U_) s'->0<s'.toks->Q en s'):
  Vd M A (tR scope globals [] binds qual func O U_ builtins) Q E s:=by
 rcases htk with htk|⟨n,v,r,rfl,hl⟩
 .exact vh (n:=1) htk (wpAny_newFunctionEnv_cells Z aa λenv he s' x h1=>hq env he s' x h1)
 .simp![tR,vS,UO,if_false];refine A7 (wpAny_alloc ?_);refine A7 (wpAny_layCells _ (λname kind cells=>by cases ac:kind==Gi<;>simp[ac]) _ _ _ _ ?_)
  have U:=cellsFrom_ok scope.names (s.heap.push {cls:= .type "frame",data:= .dict #[]}) (#[0,s]+1) [] [λ_ _ hm=>(nomatch hm):Fm] (by rw[vq];exact ur _);rw[vq] at U;rw[show({s with heap:=s.heap.push {cls:= .type "frame",data:= .dict #[]}}:o7).heap.objs.size=#[0,s]+1 from vq ..]
  exact A7 (AQ (s₀:=s) (env:=newEnv scope #[0,s] globals (GV (#[0,s]+1) scope.names []) qual func O U_ builtins)
   _ (λ_ _ _=>rfl) Z n v r _
   ⟨⟨⟨_,_,by rfl⟩,(Heap.Ns.new s.heap (.type "frame")).keeps (Fo _ _),λb o e=>Fo _ _ b o (uf _ e),ur _⟩,
    λm c hc=>(U.empty m c (mem_of_lookup hc)).1,U.apart,λn c hm=>(U.empty n c hm).2⟩
   hl (λy hy=>aa y (ug _ hy)) λs' x h1=>uD (hq _ rfl s' x h1))
def AbP {CX:CXT}{P:og}{w:oh}{K:o0}{mg:Str->oq o6}{base:o9}{k:Nat}{f:o3}{name qual:Str}{O:Arguments}{U:om Stmt}{scope:Vu}{dV kV doc pm cdv ct oc:o6}{an od:oq o3}
  {osl:Array (oq o6)}{N ps:om Str}{sp:Sp} (lk:K.lookup f=u_ ⟨oc,od,.func (PySem.W.fnOf name qual O U scope dV kV doc pm an cdv ct),osl⟩) (ae:PySem.W.codeIn K cdv qual=v_) (S:qv N ps scope)
  (len:∀vs H Q E,sp vs H Q E->↑vs=↑ps)
  (Z:∀(A:oj) (outer:om Env) (s:o7) (H:Hp) (vs:om V) (Q:VK) (E:XK),mr k (A.deeper (Vj qual scope #[0,s] f cdv))->sp vs H Q E->
   ∃t,PSs (cxOf CX P w K mg base N qual scope f cdv A outer s H E) U t/\t {nx:=λ_ H'=>Q .non H',rt:=Q} (qab N vs) H):
  FnOk P w K mg base CX (k+1) f (PySem.W.fnOf name qual O U scope dV kV doc pm an cdv ct) ps sp:=by
 exists len,λA outer s H args us vs Q E hr e0 hb r ac htk=>?_;have hl:=len _ _ _ _ ac;have KX:K.In s.heap:=e0.mod.kin.keeps λb o e=>(e0.bs b o e).1;have af:s.heap.NoLimit:=e0.mod.nolimit.keeps λb o e=>(e0.bs b o e).1;have aa:∀y>ps.zip us,scope.names.lookup y.1=u_ .local\/(scope.names.lookup y.1=u_ .cell/\((GV (#[0,s]+1) scope.names []).lookup y.1).isSome=v_):=λ⟨n,v⟩ hy=>by
  rcases S.par n (T_ hy).1 with q|q
  .exact .inl q
  .exact .inr [q:PySem.W.cellsFrom_some _ _ _ (.inl q)]
 have ad:0<s.toks\/∃n v r,ps.zip us=(n,v)::r/\scope.names.lookup n=u_ .local:=by
  rcases htk with h|⟨y,q,e,hy⟩
  .exact .inl h
  .have:↑us=↑ps:=by rwa[<-↑r]
   subst e
   match us,this with
   |u::us',_=>exact .inr ⟨y,u,q.zip us',1,hy⟩
 refine codeAny_call_function hr.depth (KX _ _ lk) rfl S.co S.gen rfl (PySem.W.codeRec_of KX ae) (hb _ _ _ _ ?_);refine Ex S.kind aa ad λenv he s1 x ag=>?_;subst he;exists af.keeps x.toInCall.keep,codeAny_func ?_;erw[Z A outer s H vs Q E (hr.deeper _) ac,t,ht,hq];have I:Inv (cxOf CX P w K mg base N qual scope f cdv A outer s H E) [] (qab N vs) H s1:=ES S hr.hd e0 hl r x ag;refine vz (ht [] s1 (qab N vs) H _ I hq) (λfl s' hs=>?_) λe s' hs=>hs;have fin:∀{σ':St}{H':Hp}{v:V}{u:o6},Inv (cxOf CX P w K mg base N qual scope f cdv A outer s H E) [] σ' H' s'->il v u->Q v H'->CE outer P w H s Q u s':=
  λ{σ' H' v u} J rv q=>⟨v,H',J.os,J.bare,J.tk,J.base,J.hok,rv,q⟩
 cases fl with
 |ret u=>
  erw[hs,v,σ',H',J,rv,q];exact fin J rv q
 |next=>
  erw[hs,σ',H',J,q];exact fin (v:=V.non) (u:=Ge) J rfl q
 |brk=>
  erw[hs,_,_,_,q];exact Vw q
 |cont=>
  erw[hs,_,_,_,q];exact Vw q
section
variable {X:Cx}{x:Str}{p pos:Pos}{e:Expr}{es:om Expr}{t:TA}{id T:String}{r:om V->Hp->VK->Prop}
abbrev tCB (r:om V->Hp->VK->Prop)(t:TA):TE:=λσ H Q=>t σ H λvs H1=>r vs H1 Q
def qA (Z:jA X (.builtin id) r)(hg:Gl X x)(hm:X.mg x=U_)(hv:GC x=u_ (.builtin id))(ha:PA X (e::es) t)(hn:x≠"__name__")(O:(x==("__debug__":Str))=Vc)
  (he:Vh (e::es) X.env=(Vc,eval e X.env)::Vh es X.env) (U:(Vo pos (Vh es X.env)).any (·.1)=Vc):PE X (.Call (.Name x p) (e::es) [] pos) (tCB r t):=by
 exists 2,Q,I,h;refine Us (Zk I hg hm hv ?_ hn O);exact pc (thn (ha pos ot s σ H _ I h) λus s1 ⟨vs,H1,I1,r1,q1⟩=>Z ot s1 σ H1 vs us Q I1 r1 q1) he U
def Qg (Z:jA X (.type T) r)(hg:Gl X x)(hm:X.mg x=U_)(hv:GC x=u_ (.type T))(ha:PA X (e::es) t)(hn:x≠"__name__")(O:(x==("__debug__":Str))=Vc)
  (he:Vh (e::es) X.env=(Vc,eval e X.env)::Vh es X.env) (U:(Vo pos (Vh es X.env)).any (·.1)=Vc):PE X (.Call (.Name x p) (e::es) [] pos) (tCB r t):=by
 exists 2,Q,I,h;refine Us (Zk I hg hm hv ?_ hn O);exact vx (thn (ha pos ot s σ H _ I h) λus s1 ⟨vs,H1,I1,r1,q1⟩=>Z ot s1 σ H1 vs us Q I1 r1 q1) he U
end
end L2
namespace HT
open PySem PyProof.Rows
section
variable {prog:og}{w:oh}{A:oj}{E:o6->o7->Prop}{s:o7}
def cat_tup {t b:o3}{vs ws:om o6}{Q:o6->o7->Prop}(ht:GO s.heap t vs.toArray)(hb:GO s.heap b ws.toArray)(hv:vs≠ [])
  (h1:ws= []->Q (-t) s) (h2:ws≠ []->Q (.ref #[0,s]) {s with heap:=s.heap.push {cls:= .type "tuple",data:= .seq (vs++ws).toArray}})
  (hsz:↑vs+↑ws<=Vg):Vd #[w,w] A (VL .Add (-t) (-b)) Q E s:=by
 erw[id ht,[cls,dd,data,sl],ho,hc,n,hd];erw[id hb,[ae,U,ad,Z],O,aa,n2,ac];simp only at hc hd aa ac;subst hc hd aa ac;have e:vs.toArray++ws.toArray=(vs++ws).toArray:=by simp
 by_cases hw:ws= []
 .exact TM [_:ho:1] [_:O:1] tK T4 PySem.F.slot_tuple_add UP (UK _ _)
   (tuple_addW1 t b vs.toArray ws.toArray n n2 dd U sl Z (by simpa using hv) (by simp[hw])) [ho:O:h1 hw]
 .refine TM [_:ho:1] [_:O:1] tK T4 PySem.F.slot_tuple_add UP (UK _ _)
   (tuple_addW2 t b vs.toArray ws.toArray n n2 dd U sl Z (by simpa using hv) (by simpa using hw) (by rwa[uB,uB])) [ho:O:?_]
  rw[e];exact h2 hw
abbrev sIx (n d:Nat):oq Int->Nat
 |none=>d
 |some v=>if v<0 then(v+(n:Int)).toNat else min v.toNat n
def sIx_none (n d:Nat):sIx n d U_=d:=rfl
def sIx_nat (n d k:Nat):sIx n d (u_ (k:Int))=min k n:=by
 show(if(k:Int)<0 then((k:Int)+(n:Int)).toNat else min (k:Int).toNat n)=min k n
 rw[A4 (),Tz]
def AaT (n d:Nat)(hd:d<=n)(o:oq Int):sIx n d o<=n:=by
 cases o with
 |none=>exact hd
 |some v=>
  show(if v<0 then(v+(n:Int)).toNat else min v.toNat n)<=n
  by_cases O:v<0
  .rw[A6 O];omega
  .rw[A4 O];exact Nat.min_le_right _ _
def IA (v:Int)(n d:Nat):(if v<0 then max (v+(n:Int)) 0 else min v (n:Int))=((sIx n d (u_ v):Nat):Int):=by
 show(if v<0 then max (v+(n:Int)) 0 else min v (n:Int))=(((if v<0 then(v+(n:Int)).toNat else min v.toNat n):Nat):Int)
 by_cases O:v<0
 .simp![A6 O];omega
 .simp![A4 O];omega
def C9 (lo hi:oq Int)(n:Nat):T7 lo hi 1 (n:Int)=(((sIx n 0 lo:Nat):Int),((sIx n n hi:Nat):Int)):=by
 have h1:¬((1:Int)<0):=by omega
 unfold T7;simp![h1,if_false];refine Prod.ext ?_ ?_
 .cases lo with
  |none=>rfl
  |some v=>exact IA v n 0
 .cases hi with
  |none=>rfl
  |some v=>exact IA v n n
def CK (i j:Nat):HW (i:Int) (j:Int) 1=j-i:=by
 unfold HW;have h1:GT.gt (1:Int) 0:=by omega
 simp![h1,Vb,Int.ediv_one];split<;>omega
def kC {v:o6}{o:oq Int}{Q:oq Int->o7->Prop}(p:g_ v o)(h:Q o s):Vd #[w,w] A (pq v) Q E s:=by
 cases p with
 |none=>exact RF h
 |int i t=>exact slicePart_int h
def Jd {sl:o3}{Z vu:o6}{lo hi:oq Int}{n:Nat}{Q:Int×Int×Nat->o7->Prop}(hs:s.heap.IsSliceOf sl Z vu .none)(pl:g_ Z lo)(pu:g_ vu hi)
  (h:Q (((sIx n 0 lo:Nat):Int),1,sIx n n hi-sIx n 0 lo) s):Vd #[w,w] A (Rj (-sl) (pure (n:Int))) Q E s:=by
 erw[id hs,os,O,aa,U];unfold Rj pJ;refine A7 (A7 (vi O U (x:=Z) rfl (A7 (vi O U (x:=vu) rfl (A7 (vi O U (x:= .none) rfl (uD ?_)))))));refine A7 (RF ?_);show Vd _ _ (if((1:Int)==0)=v_ then _ else _) _ _ s
 rw[A4 ()]
 refine A7 (kC pl (A7 (kC pu (A7 (uD ?_)))));show Vd _ _ (match T7 lo hi 1 (n:Int) with|(lo,hi)=>pure (lo,(1:Int),HW lo hi 1)) _ _ s
 rw[C9 lo hi n];show Vd _ _ (pure (((sIx n 0 lo:Nat):Int),(1:Int),HW ((sIx n 0 lo:Nat):Int) ((sIx n n hi:Nat):Int) 1)) _ _ s;rw[CK];exact uD h
def LC (xs:Array o6)(i k:Nat):((Vp k).filterMap λ(m:Nat)=>xs[((i:Int)+(m:Int)*1).toNat]?).toArray=((xs.toList.drop i).take k).toArray:=by
 have e:(λ(m:Nat)=>xs[((i:Int)+(m:Int)*1).toNat]?)=λm=>xs[i+m]? :=by
  funext m
  have:((i:Int)+(m:Int)*1).toNat=i+m:=by omega
  rw[this]
 rw[e];have:=pick_run xs i k;rw[List.filterMap_map] at this;have e2:((λx=>xs[x]?)∘λx=>i+x)=λm=>xs[i+m]? :=rfl;rw[e2] at this;rw[this]
def getItem_tuple_cut {t sl:o3}{items:Array o6}{vl vu:o6}{lo hi:oq Int}{Q:o6->o7->Prop}(U:GO s.heap t items)(hs:s.heap.IsSliceOf sl vl vu .none)(pl:g_ vl lo)(pu:g_ vu hi)
  (hw:¬(sIx items.size 0 lo=0/\sIx items.size items.size hi=items.size))
  (h:Q (.ref #[0,s]) {s with heap:=s.heap.push {cls:= .type "tuple",data:= .seq ((items.toList.drop (sIx items.size 0 lo)).take (sIx items.size items.size hi-sIx items.size 0 lo)).toArray}})
  (hsz:items.size<=Vg):Vd #[w,w] A (VP (-t) (-sl)) Q E s:=by
 have O:sizeOk (.seq ((items.toList.drop (sIx items.size 0 lo)).take (sIx items.size items.size hi-sIx items.size 0 lo)).toArray):=by
  show((items.toList.drop (sIx items.size 0 lo)).take (sIx items.size items.size hi-sIx items.size 0 lo)).toArray.size<=Vg;rw[uB,vy,U1,vm];omega
 have hj:sIx items.size items.size hi<=items.size:=AaT _ _ (ur _) hi;erw[id hs,os,Z,aa,ae];have ac:s.TypeIs (-sl) "slice":=[os:Z:aa];unfold VP
 try with_reducible refine VW ?_
 first|refine A7 (uD ?_)|skip
 refine A7 (Fd U.typeIs () ?_)
 refine A7 (vn (name:=Gq "__getitem__") U.typeIs vO
  (vE vO U.typeIs FT ?_ (re _ _)))
 show Vd _ _ (rD (-t)>>=_) _ _ s;refine A7 (Ft U ?_);refine A7 (Gy ac ?_);rw[A6 ()]
 refine A7 (Jd hs pl pu ?_);have ad:¬((((sIx items.size 0 lo:Nat):Int)==0&&(1:Int)==1&&(sIx items.size items.size hi-sIx items.size 0 lo)==items.size)=v_):=by
  intro q;rw[uG,uG] at q;have q1:((sIx items.size 0 lo:Nat):Int)=0:=eq_of_beq q.1.1;have q2:sIx items.size items.size hi-sIx items.size 0 lo=items.size:=eq_of_beq q.2;exact hw [():()]
 show Vd _ _ (if(((sIx items.size 0 lo:Nat):Int)==0&&(1:Int)==1&&(sIx items.size items.size hi-sIx items.size 0 lo)==items.size)=v_ then _ else _) _ _ s
 rw[A4 ad,LC]
 first
  |exact A7 (m:=GY _) (vB (uD ⟨0,uD h⟩) O)
  |exact A7 (m:=GY _) (vB (A7 (uD (uD ⟨0,uD h⟩))) O)
  |exact A7 (A7 (m:=GY _) (vB (uD (uD ⟨0,uD h⟩)) O))
  |exact A7 (A7 (m:=GY _) (vB (uD ⟨0,uD h⟩) O))
end
end HT
namespace L2
open PySem PySem.Spec PyProof.Rows
nonrec abbrev TO:=St->Hp->(oq Int->Hp->Prop)->Prop
abbrev PO (X:Cx)(e:oq Expr)(t:TO):Prop:=
 ∀(ot:om (o3×Obj)) (s:o7) (σ:St) (H:Hp) (Q:oq Int->Hp->Prop),#[I]->t σ H Q->
  Vd #[X,X] X.A (evalPart e X.env) (λu s'=>∃o H',Inv X ot σ H' s'/\g_ u o/\Q o H') X.xe s
abbrev Do:TO:=λ_ H Q=>Q U_ H
inductive Aci (Q:(Option Int->Hp->Prop))(x:V)(H1:Hp):Prop
 |mk (i:_)(_:x= .int i)(_:Q (u_ i) H1)
abbrev AcL (t:TE):TO:=λσ H Q=>t σ H λx H1=>Aci Q x H1
def C4 {ns:om Int}:∀{us:om o6},iq (ns.map V.int) us->GH us ns:=by
 induction ns with
 |nil=>intro us r;rw[Ug] at r;cases r;exact .nil
 |cons n ns O=>
  intro us r;rw[uC] at r;cases r with
  |cons U Z=>
   erw[U,t,e];subst e;exact .cons n t (O Z)
section
variable {X:Cx}{e:Expr}{te:TE}{lo hi:oq Expr}{tl th:TO}{pos p2:Pos}
def qah:PO X U_ Do:=by
 exists 2,Q,I,h;rw[TB];exact uD ⟨U_,H,I,.none,h⟩
def WC (h:PE X e te):PO X (u_ e) (AcL te):=by
 exists 2,Q,I,O;rw[Ri];refine thn (h ot s σ H _ I O) λu s1 zq=>?_;erw[zq,x,H1,U,Z,q1];erw[q1,i,rfl,q];erw[Z,t,rfl];exact⟨u_ i,H1,U,.int i t,q⟩
abbrev SlR (X:Cx)(r:V->oq Int->oq Int->Hp->VK->Prop):Prop:=
 ∀(ot:om (o3×Obj)) (s:o7) (σ:St) (H:Hp) (x:V) (v vl vu:o6) (lo hi:oq Int) (sl:o3) (Q:VK),#[I]->il x v->s.heap.IsSliceOf sl vl vu .none->g_ vl lo->g_ vu hi->r x lo hi H Q->
  ∃T id,HV (.type T) "__getitem__"=pure (u_ (.builtin id))/\s.TypeIs v T/\Vd #[X,X] X.A (VP v (-sl)) (EP X ot σ Q) X.xe s
def SlR.or {r r':V->oq Int->oq Int->Hp->VK->Prop}(h:SlR X r)(h':SlR X r'):SlR X (λx lo hi H Q=>r x lo hi H Q\/r' x lo hi H Q):=by
 exists 2,x,v,O,U,lo,hi,sl,Q,I,Z,hs,pl,pu,q;rcases q with q|q
 .exact h ot s σ H x v O U lo hi sl Q I Z hs pl pu q
 .exact h' ot s σ H x v O U lo hi sl Q I Z hs pl pu q
abbrev tSl (r:V->oq Int->oq Int->Hp->VK->Prop)(te:TE)(tl th:TO):TE:=λσ H Q=>te σ H λx H1=>tl σ H1 λl H2=>th σ H2 λu H3=>r x l u H3 Q
def ZY {r:V->oq Int->oq Int->Hp->VK->Prop}(hr:SlR X r)(he:PE X e te)(hl:PO X lo tl)(hu:PO X hi th):PE X (.Subscript e (.Slice lo hi U_ p2) pos) (tSl r te tl th):=by
 exists 2,Q,I,h;refine HM (thn (he ot s σ H _ I h) λv s1 zq=>?_);erw[zq,x,H1,I1,r1,q1];refine Ru (thn (hl ot s1 σ H1 _ I1 q1) λU s2 ⟨l,H2,I2,pl,q2⟩=>thn (hu ot s2 σ H2 _ I2 q2) λZ O zq=>?_);erw[zq,u,H3,I3,pu,q3];rw[TB];refine uD ?_;have I4:Inv X ot σ H3 {O with heap:=O.heap.push {cls:= .type "slice",data:= .fields #[U,Z,.none]}}:=I3.kept (t':=O.toks) λb ob q=>uf _ q
 erw[hr ot {O with heap:=O.heap.push {cls:= .type "slice",data:= .fields #[U,Z,.none]}} σ H3 x v U Z l u #[0,O] Q I4 r1 (rN ..) pl pu q3,T,id,hT,ht,hg]
 show Vd #[X,X] X.A (HD e (.Slice lo hi U_ p2) v (.ref #[0,O])) (EP X ot σ Q) X.xe {O with heap:=O.heap.push {cls:= .type "slice",data:= .fields #[U,Z,.none]}}
 exact tj (ops:= [.ref #[0,O],v]) ht hT hg #[w]
abbrev Cj (xs:om V)(lo hi:oq Int):om V:=(xs.drop (HT.sIx ↑xs 0 lo)).take (HT.sIx ↑xs ↑xs hi-HT.sIx ↑xs 0 lo)
def wR (xs:om V)(lo hi:oq Int):↑(Cj xs lo hi)<=↑xs:=by
 unfold Cj;rw[vy,U1];omega
inductive Aer (K:PySem.W.Frag)(x:V)(lo:Option Int)(hi:Option Int)(H:Hp)(Q:VK):Prop
 |mk (a:_)(xs:_)(_:x=-a)(_:SqT K H a xs)(_:¬(HT.sIx ↑xs 0 lo=0/\HT.sIx ↑xs ↑xs hi=↑xs))(_:∀p,H p=U_->Q (-p) (upd H p (.tup (Cj xs lo hi))))
def AaN:SlR X (Aer X.K):=by
 exists 2,x,v,vl,vu,lo,hi,sl,Q,I,Z,hs,pl,pu,h;erw[h,a,xs,rfl,hx,hw,q];cases Z;erw[I.tuple hx,its,r,U,hz];have O:its.toArray.size=↑xs:=by rw[uB];exact r.length.symm
 exists "tuple",_,PyProof.Rows.slot_tuple_getitem.lookup,U.typeIs;refine HT.getItem_tuple_cut U hs pl pu (by rwa[O]) ?_ (by rwa[O])
 rw[O];exists .ref #[0,s],_,I.laid (t':=s.toks) (o:= .tup (Cj xs lo hi)) (λb ob q=>uf _ q) (ur _) ?_,1,q _ (I.hok.fresh (ur _));exact⟨uY (wR xs lo hi) hz,_,(r.drop (HT.sIx ↑xs 0 lo)).take (HT.sIx ↑xs ↑xs hi-HT.sIx ↑xs 0 lo),Hr _ _⟩
inductive Ac5 (K:PySem.W.Frag)(x:V)(y:V)(H:Hp)(Q:VK):Prop
 |mk (a:_)(b:_)(xs:_)(ys:_)(_:x=-a)(_:y=-b)(_:SqT K H a xs)(_:SqT K H b ys)(_:xs≠ [])(_:↑xs+↑ys<=Vg)(_:(ys= []->Q (-a) H))(_:(ys≠ []->∀p,H p=U_->Q (-p) (upd H p (.tup (xs++ys)))))
variable {xs:om V}{us:om o6}
def iq.nil_iff (r:iq xs us):us= []↔xs= []:=by
 cases r with
 |nil=>simp
 |cons _ _=>simp
def Pi:OpR X (VL .Add) (Ac5 X.K):=by
 exists 2,x,y,v,u,Q,I,rx,ry,h;erw[h,a,b,xs,ys,rfl,rfl,ha,hb,hx,hz,q1,q2];cases rx;cases ry;erw[I.tuple ha,its,U,p1,_];erw[I.tuple hb,Z,O,p2,_];refine HT.cat_tup p1 p2 (λz=>hx (U.nil_iff.mp z)) (λz=>⟨-a,H,I,1,q1 (O.nil_iff.mp z)⟩) (λz=>?_) (by rwa[<-↑U,<-↑O])
 exists .ref #[0,s],_,I.laid (t':=s.toks) (o:= .tup (xs++ys)) (λb ob q=>uf _ q) (ur _) ?_,1,q2 (λw=>z (O.nil_iff.mpr w)) _ (I.hok.fresh (ur _));exact⟨by rwa[uF],_,U.append O,Hr _ _⟩
end
abbrev ixN (n:Nat)(i:Int):oq Nat:=if 0<=i then(if i<n then u_ i.toNat else U_) else if-(n:Int)<=i then u_ (i+n).toNat else U_
abbrev atI {α:Type}(xs:om α)(i:Int):oq α:=(ixN ↑xs i).bind λj=>xs[j]?
variable {n j:Nat}
def Aw {i:Int}(h:ixN n i=u_ j):seqIndex? i n=u_ j/\j<n/\ -(n:Int)<=i/\i<n:=by
 unfold ixN at h;by_cases h0:0<=i
 .rw[A6 h0] at h;by_cases h1:i<n
  .rw[A6 h1] at h;have e:i.toNat=j:=uM h;exact⟨by rw[tX h0 h1,e],(),(),h1⟩
  .rw[A4 h1] at h;cases h
 .rw[A4 h0] at h;by_cases h1: -(n:Int)<=i
  .rw[A6 h1] at h;have e:(i+n).toNat=j:=uM h;exact⟨by rw[TV () h1,e],(),h1,()⟩
  .rw[A4 h1] at h;cases h
def qad {α:Type}{xs:om α}{i:Int}{v:α}(h:atI xs i=u_ v):∃j,seqIndex? i ↑xs=u_ j/\xs[j]? =u_ v/\j<↑xs/\ -(↑xs:Int)<=i/\i<↑xs:=by
 unfold atI at h;cases e:ixN ↑xs i with
 |none=>rw[e] at h;cases h
 |some j=>
  rw[e] at h;erw[Aw e,h1,h2,h3,h4];exact⟨j,h1,h,h2,h3,h4⟩
def qz {α:Type}{xs:om α}{v:α}(h:xs[j]? =u_ v):atI xs (j:Int)=u_ v:=by
 have O:j<↑xs:=(Af.mp h).1;have e:ixN ↑xs (j:Int)=u_ j:=by
  unfold ixN;rw[A6 (),A6 ()];simp
 unfold atI;rw[e];exact h
def KZ {α:Type}(xs:om α)(v:α):atI (xs++ [v]) (-1)=u_ v:=by
 have O:↑(xs++ [v])=↑xs+1:=by simp
 have e:ixN ↑(xs++ [v]) (-1)=u_ ↑xs:=by
  unfold ixN;rw[O,A4 (),A6 ()]
  congr 1
  omega
 unfold atI;rw[e];show(xs++ [v])[↑xs]? =u_ v;simp
abbrev SX (b:Expr):Prop:=∀o i,hX b Vc o i=Hz [o,i] (VP o i)
abbrev IxR (X:Cx)(r:R2):Prop:=
 ∀(value slice:Expr) (ot:om (o3×Obj)) (s:o7) (σ:St) (H:Hp) (x y:V) (v u:o6) (Q:VK),#[I]->il x v->il y u->r x y H Q->
  hX slice Vc v u=Hz [v,u] (VP v u)->Vd #[X,X] X.A (HD value slice v u) (EP X ot σ Q) X.xe s
abbrev MtR (X:Cx)(id:String)(r:V->om V->Hp->VK->Prop):Prop:=
 ∀(ot:om (o3×Obj)) (s:o7) (σ:St) (H:Hp) (x:V) (xs:om V) (v:o6) (us:om o6) (Q:VK),#[I]->il x v->iq xs us->r x xs H Q->
  Vd #[X,X] X.A (call (.builtin id) (v::us)) (EP X ot σ Q) X.xe s
section
variable {X:Cx}{a b:Expr}{ta tb:TE}{pos:Pos}
def IxR.or {r r':R2}(h:IxR X r)(h':IxR X r'):IxR X (λx y H Q=>r x y H Q\/r' x y H Q):=by
 intro value slice ot s σ H x y v u Q I O U q Z;rcases q with q|q
 .exact h value slice ot s σ H x y v u Q I O U q Z
 .exact h' value slice ot s σ H x y v u Q I O U q Z
def qC {r:R2}(O:IxR X r)(ha:PE X a ta)(U:PE X b tb)(Z:SX b):PE X (.Subscript a b pos) (tOp r ta tb):=by
 exists 2,Q,I,h;exact HM (Ady ha U I h λv u s2 x y H2 I2 rx ry q=>O a b ot s2 σ H2 x y v u Q I2 rx ry q (Z _ _))
inductive AdY (K:PySem.W.Frag)(x:V)(y:V)(H:Hp)(Q:VK):Prop
 |mk (p:_)(xs:_)(i:_)(v:_)(_:x=-p)(_:y= .int i)(_:SqL K H p xs)(_:atI xs i=u_ v)(_:Q v H)
inductive OX (K:PySem.W.Frag)(x:V)(y:V)(H:Hp)(Q:VK):Prop
 |mk (p:_)(xs:_)(i:_)(v:_)(_:x=-p)(_:y= .int i)(_:SqT K H p xs)(_:atI xs i=u_ v)(_:Q v H)
inductive AdX (x:V)(y:V)(H:Hp)(Q:VK):Prop
 |mk (z:_)(i:_)(c:_)(_:x= !z)(_:y= .int i)(_:↑z<=Vg)(_:atI z.cps.toList i=u_ c)(_:Q (.str ⟨#[c]⟩) H)
def Qa:IxR X (AdY X.K):=by
 intro value slice ot s σ H x y v u Q I rx ry h Z;erw[h,p,xs,i,z,rfl,rfl,hq,he,q];cases rx;erw[ry,t,rfl];erw[I.list hq,its,r,pl,hz];erw[qad he,j,h1,h2,h3,h4,h5];erw[r.get h2,w,ew,O];have hl:=↑r;have hn:=Zm;have fin:EP X ot σ Q w s:=⟨z,H,I,O,q⟩;by_cases h0:0<=i
 .have U:i.toNat=j:=by
   rw[tX h0 h5] at h1;exact uM h1
  exact item_listR pl.isList h0 () (by rw[U];simpa using ew) fin Z
 .have U:(i+(its.toArray.size:Int)).toNat=j:=by
   rw[TV () h4] at h1
   rw[uB,<-hl];exact uM h1
  exact RK (x:=w) pl.isList.typeIs slot_list_getitem.lookup
   (wpAny_getItem_list_neg (Q:=λr s'=>r=w/\EP X ot σ Q r s') pl.isList () (by rw[uB]<;>omega) () (by rw[U];simpa using ew) [1:fin]) Z
def qD:IxR X (OX X.K):=by
 intro value slice ot s σ H x y v u Q I U Z h hs;erw[h,p,xs,i,z,rfl,rfl,hq,he,q];cases U;erw[Z,t,rfl];erw[I.tuple hq,its,r,pl,hz];erw[qad he,j,h1,h2,h3,h4,h5];erw[r.get h2,w,ew,O];have hl:=↑r;have hn:=Zm;have fin:EP X ot σ Q w s:=⟨z,H,I,O,q⟩;exact RK (x:=w) pl.typeIs slot_tuple_getitem.lookup
  (getItem_tuple (j:=j) (Q:=λr s'=>r=w/\EP X ot σ Q r s') pl () () (by rwa[uB,<-hl]) (by simpa using ew) [1:fin]) hs
def BS:IxR X AdX:=by
 intro value slice ot s σ H x y v u Q I O U h Z;erw[h,z,i,c,rfl,rfl,hz,he,q];erw[O,t,rfl];erw[U,t',rfl];erw[qad he,j,h1,h2,h3,h4,h5];have hl:↑z.cps.toList=↑z:=by simp[gV]
 rw[hl] at h1 h4 h5;have hn:=Zm;exact tj (vT s z t) slot_str_getitem.lookup (getItem_str (c:=c) (by
  have e1:decide (i< -(2^63:Int))=false:=um ()
  have e2:decide (i≥2^63)=false:=um ()
  rw[e1,e2,Bool.or_false]) (by rw[h1];simpa using h2) ⟨.str ⟨#[c]⟩,H,I.tok _,⟨0⟩,q⟩) Z
abbrev rIx (K:o0):R2:=λx y H Q=>AdY K x y H Q\/OX K x y H Q\/AdX x y H Q
def XG:IxR X (rIx X.K):=Qa.or (qD.or BS)
def CV (its:om o6)(n j:Nat)(u:o6):Hn (·.setIfInBounds j u) {cls:= .type "list",data:= .seq its.toArray n}={cls:= .type "list",data:= .seq (its.set j u).toArray n}:=by
 simp[Hn]
def Inv.lst {ot:om (o3×Obj)}{σ:St}{H:Hp}{s:o7}{p:o3}{xs:om V}(I:#[I])(h:H p=u_ (.lst xs)):
  ∃(its:om o6) (n:Nat),iq xs its/\s.heap.get? p=u_ {cls:= .type "list",data:= .seq its.toArray n}/\↑xs<=sizeLine:=by
 erw[I.hok p _ h,z,its,n,r,e];exact⟨its,n,r,e,z⟩
def Inv.lstUpd {ot:om (o3×Obj)}{σ:St}{H:Hp}{s:o7}{p:o3}{xs ys:om V}{its its':om o6}{n O:Nat}{f:Obj->Obj}(I:#[I])(h:H p=u_ (.lst xs))
  (Z:s.heap.get? p=u_ {cls:= .type "list",data:= .seq its.toArray n}) (U:f {cls:= .type "list",data:= .seq its.toArray n}={cls:= .type "list",data:= .seq its'.toArray O}) (r:iq ys its') (hz:↑ys<=Vg) (t:Nat) (ht:0<t:=by ac_rfl):
  Inv X ot σ (upd H p (.lst ys)) {s with heap:=s.heap.update p f,toks:=t}:=by
 have e:(s.heap.update p f).get? p=u_ {cls:= .type "list",data:= .seq its'.toArray O}:=by
  rw[Tu f Z (by rw[U]<;>rfl),U]
 refine I.write (x:=p) (e:=p) (by rw[h];trivial) (.inl rfl) (λb u hb q=>(TL _ _ (Ud hb)).trans q) [_:e] ?_
 exact⟨hz,its',O,r,e⟩
inductive Ac1 (o:V)(i:V)(v:V)(H:Hp)(Q:(Hp->Prop)):Prop
 |mk (p:_)(xs:_)(k:_)(j:_)(_:o=-p)(_:i= .int k)(_:H p=u_ (.lst xs))(_:ixN ↑xs k=u_ j)(_:Q (upd H p (.lst (xs.set j v))))
def Lw:Ad8 X Ac1:=by
 exists 2,o,i,v,ov,iv,u,Q,I,ro,ri,rv,h;erw[h,p,xs,k,j,rfl,rfl,hp,hj,q];cases ro;erw[ri,t,rfl];erw[I.lst hp,its,n,r,O,hz];erw[Aw hj,h1,h2,h3,h4];have U:=↑r;have hn:=Zm;have I':Inv X ot σ (upd H p (.lst (xs.set j v))) {s with heap:=s.heap.update p (Hn (·.setIfInBounds j u))}:=
  I.lstUpd hp O (CV its n j u) (r.set rv j) (by rwa[List.length_set]) s.toks
 by_cases h0:0<=k
 .have Z:k.toNat=j:=by
   rw[tX h0 h4] at h1;exact uM h1
  exact PySem.W.ki_setAt O h0 () (by rwa[uB,<-U]) (by rw[Z];exact[_:I':q])
 .have Z:(k+(its.toArray.size:Int)).toNat=j:=by
   rw[TV () h3] at h1
   rw[uB,<-U];exact uM h1
  exact PySem.W.ki_setBack O () (by rwa[uB,<-U]) () (by rw[Z];exact[_:I':q])
def nQ (lo hi:oq Int)(n:Nat):(V_ lo hi U_ n).1=((HT.sIx n 0 lo:Nat):Int)/\(V_ lo hi U_ n).2.1=((HT.sIx n n hi:Nat):Int)/\(V_ lo hi U_ n).2.2=1:=by
 exists ?_,?_,1
 .cases lo with
  |none=>simp[V_,HT.sIx]
  |some i=>
   simp![V_,HT.sIx,rE,show GT.gt (1:Int) 0 by decide,Vb]
   by_cases h:i<0
   .simp![h,Vb]<;>omega
   .simp![h,if_false]<;>omega
 .cases hi with
  |none=>simp[V_,HT.sIx]
  |some i=>
   simp![V_,HT.sIx,rE,show GT.gt (1:Int) 0 by decide,Vb]
   by_cases h:i<0
   .simp![h,Vb]<;>omega
   .simp![h,if_false]<;>omega
def qaa (its:om o6)(lo hi:oq Int):TY its.toArray lo hi U_=((its.drop (HT.sIx ↑its 0 lo)).take (HT.sIx ↑its ↑its hi-HT.sIx ↑its 0 lo)).toArray:=by
 erw[nQ lo hi its.toArray.size,h1,h2,h3];unfold TY;rw[h1,h2,h3];simp![sliceRange_one,pick_run,uB]<;>rfl
inductive Aes (K:PySem.W.Frag)(x:V)(lo:Option Int)(hi:Option Int)(H:Hp)(Q:VK):Prop
 |mk (a:_)(xs:_)(_:x=-a)(_:SqL K H a xs)(_:∀p,H p=U_->Q (-p) (upd H p (.lst (Cj xs lo hi))))
def DI:SlR X (Aes X.K):=by
 exists 2,x,v,vl,vu,lo,hi,sl,Q,I,Z,hs,pl,pu,h;erw[h,a,xs,rfl,hx,q];cases Z;erw[I.list hx,its,r,U,hz];have O:=↑r;exists "list",_,slot_list_getitem.lookup,U.isList.typeIs;refine FI U.isList hs pl pu .none (by simp) ?_ (by rw[uB]<;>omega)
 rw[qaa,<-O];exists .ref #[0,s],_,I.laid (t':=s.toks) (o:= .lst (Cj xs lo hi)) (λb ob q=>uf _ q) (ur _) ?_,1,q _ (I.hok.fresh (ur _));exact⟨uY (wR xs lo hi) hz,_,(0),(r.drop (HT.sIx ↑xs 0 lo)).take (HT.sIx ↑xs ↑xs hi-HT.sIx ↑xs 0 lo),uH _ rfl⟩
abbrev ZP:V->Bool
 | .non=>v_
 | .bl _=>v_
 | .int _=>v_
 | .str _=>v_
 |_=>Vc
abbrev eqV:V->V->Bool
 | .non,.non=>v_
 | .bl a,.bl b=>a==b
 | .bl a,.int b=>(if a then 1 else 0)==b
 | .int a,.bl b=>a==(if b then 1 else 0)
 | .int a,.int b=>a==b
 | .str a,.str b=>a==b
 |_,_=>Vc
variable {A:oj}{s:o7}{y:V}{u:o6}
def AbS {x:V}{v:o6}(U:il y u)(O:il x v)(fy:ZP y=v_)(Z:ZP x=v_):Vv A s u v (eqV y x):=by
 cases y with
 |non=>
  cases U;cases x with
  |non=>cases O;exact H_ _
  |bl b=>cases O;exact pH b
  |int b=>erw[O,t,rfl];exact FX b t
  |str b=>erw[O,t,rfl];exact Fk b t
  |_=>exact A8 (show Vc=v_ from Z) ud
 |bl a=>
  cases U;cases x with
  |non=>cases O;exact p9 a
  |bl b=>cases O;exact pK a b
  |int b=>erw[O,t,rfl];exact pE a b t
  |str b=>erw[O,t,rfl];exact pL a b t
  |_=>exact A8 (show Vc=v_ from Z) ud
 |int a=>
  erw[U,t',rfl];cases x with
  |non=>cases O;exact Fj a t'
  |bl b=>cases O;exact pD a t' b
  |int b=>erw[O,t,rfl];exact tD a t' b t
  |str b=>erw[O,t,rfl];exact UM a t' b t
  |_=>exact A8 (show Vc=v_ from Z) ud
 |str a=>
  erw[U,t',rfl];cases x with
  |non=>cases O;exact rn a t'
  |bl b=>cases O;exact pO a t' b
  |int b=>erw[O,t,rfl];exact UN a t' b t
  |str b=>erw[O,t,rfl];exact Tf a t' b t
  |_=>exact A8 (show Vc=v_ from Z) ud
 |_=>exact A8 (show Vc=v_ from fy) ud
abbrev eqU (x:V)(u:o6):Bool:=match u with
 | .none=>eqV .non x
 | .bool b=>eqV (.bl b) x
 | .int i _=>eqV (.int i) x
 | .str z _=>eqV (!z) x
 |_=>Vc
def NH {x:V}(r:il y u)(f:ZP y=v_):eqU x u=eqV y x:=by
 cases y with
 |non=>cases r;rfl
 |bl b=>cases r;rfl
 |int i=>erw[r,t,rfl];rfl
 |str z=>erw[r,t,rfl];rfl
 |_=>exact A8 (show Vc=v_ from f) ud
def wu {x:V}:∀{xs:om V}{us:om o6},iq xs us->xs.all ZP=v_->us.any (eqU x)=xs.any λy=>eqV y x
 |_,_,.nil,_=>rfl
 |y::xs,u::us,.cons r t,f=>by
  rw[vF,uG] at f;rw[Uh,Uh,NH r f.1,wu t f.2]
def X1 {A:oj}{s:o7}{x:V}{v:o6}(U:il x v)(Z:ZP x=v_):∀{xs:om V}{us:om o6},iq xs us->xs.all ZP=v_->∀u>us,Vv A s u v (eqU x u)
 |_,_,.nil,_=>λu O=>by cases O
 |y::xs,u::us,.cons r t,f=>λu' O=>by
  rw[vF,uG] at f;rcases Aa.mp O with rfl|O
  .rw[NH r f.1];exact AbS r U f.1 Z
  .exact X1 U Z t f.2 u' O
abbrev inV (x:V)(xs:om V):Bool:=xs.any λy=>eqV y x
inductive rIn (K:PySem.W.Frag)(neg:Bool)(x:V)(y:V)(H:Hp)(Q:VK):Prop
 |mk (p:_)(xs:_)(_:y=-p)(_:(SqL K H p xs\/SqT K H p xs))(_:ZP x=v_)(_:xs.all ZP=v_)(_:Q (.bl (if neg then !(inV) x xs else inV x xs)) H)
def Q0:OpR X (Vm .In) (rIn X.K Vc):=by
 exists 2,x,y,v,u,Q,I,Z,ry,h;erw[h,p,xs,rfl,O,fx,fs,q];cases ry;rcases O with O|O
 .erw[I.list O,its,r,pl,hz];refine Rx (eqU x) pl.isList (λw U=>X1 Z fx r fs w (by simpa using U)) ⟨.bl _,H,I,1,?_⟩
  rw[show its.toArray.any (eqU x)=its.any (eqU x) by simp,wu r fs]
  exact q
 .erw[I.tuple O,its,r,pl,hz];refine RQ (eqU x) pl (λw U=>X1 Z fx r fs w (by simpa using U)) ⟨.bl _,H,I,1,?_⟩
  rw[show its.toArray.any (eqU x)=its.any (eqU x) by simp,wu r fs]
  exact q
def Zt:OpR X (Vm .NotIn) (rIn X.K v_):=by
 exists 2,x,y,v,u,Q,I,Z,ry,h;erw[h,p,xs,rfl,O,fx,fs,q];cases ry;rcases O with O|O
 .erw[I.list O,its,r,pl,hz];refine SeqAt.notIn_listAt (eqU x) pl.isList (λw U=>X1 Z fx r fs w (by simpa using U)) ⟨.bl _,H,I,1,?_⟩
  rw[show its.toArray.any (eqU x)=its.any (eqU x) by simp,wu r fs]
  exact q
 .erw[I.tuple O,its,r,pl,hz];refine SeqAt.notIn_tupleAt (eqU x) pl (λw U=>X1 Z fx r fs w (by simpa using U)) ⟨.bl _,H,I,1,?_⟩
  rw[show its.toArray.any (eqU x)=its.any (eqU x) by simp,wu r fs]
  exact q
def oE:OpR X (Vm .NotIn) (λx y H Q=>∃i j,x= .str i/\y= .str j/\Q (.bl (!(!(hW j i 0 ↑j 1).isEmpty))) H):=by
 exists 2,x,y,v,u,Q,I,O,U,h;erw[h,i,j,rfl,rfl,q];erw[O,t,rfl];erw[U,t',rfl];exact notIn_str ⟨.bl _,H,I,1,q⟩
def qN:jA X (.builtin "len") (λxs H Q=>∃p ys,xs= [-p]/\(SqL X.K H p ys\/SqT X.K H p ys)/\Q (.int ↑ys) H):=by
 exists 2,xs,us,Q,I,r,h;erw[h,p,ys,rfl,U,q];erw[xH r,u,rfl,Z];cases Z;have hn:=Zm;rcases U with U|U
 .erw[I.list U,its,r',pl,hz];have O:=↑r';exact rq pl.isList (by simp![uB]<;>omega) ⟨.int ↑ys,H,I.tok _,⟨s.toks+1,by rw[uB,O]⟩,q⟩
 .erw[I.tuple U,its,r',pl,hz];have O:=↑r';exact len_tuple pl (by simp![uB]<;>omega) ⟨.int ↑ys,H,I.tok _,⟨s.toks+1,by rw[uB,O]⟩,q⟩
def ZD:jA X (.builtin "len") (λxs H Q=>∃z,xs= [!z]/\↑z<=Vg/\Q (.int ↑z) H):=by
 exists 2,xs,us,Q,I,r,h;erw[h,z,rfl,hz,q];erw[xH r,u,rfl,t,rfl];have hn:=Zm;exact len_str () ⟨.int ↑z,H,I.tok _,⟨0⟩,q⟩
def qY:jA X (.type "tuple") (λxs H Q=>∃p ys,xs= [-p]/\((SqL X.K H p ys/\∀l,H l=U_->Q (-l) (upd H l (¬ys)))\/(SqT X.K H p ys/\Q (-p) H))):=by
 exists 2,xs,us,Q,I,r,h;erw[h,p,ys,rfl,h];erw[xH r,u,rfl,rx];cases rx;rcases h with⟨O,q⟩|⟨O,q⟩
 .erw[I.list O,its,r',pl,hz];have U:=↑r';refine call_tuple_list pl.isList (λh' kp=>?_) (by simp![uB]<;>omega)
  have Z:Inv X ot σ H {s with heap:=h'}:=I.kept (t':=s.toks) kp
  have I2:Inv X ot σ (upd H h'.objs.size (¬ys)) {s with heap:=h'.push {cls:= .type "tuple",data:= .seq its.toArray}}:=
   Z.laid (t':=s.toks) (λb o e=>uf _ e) (ur _) (show yi X.prog X.w _ _ _ (¬ys) from⟨hz,its,r',Hr _ _⟩)
  exact⟨-h'.objs.size,_,I2,1,q _ (Z.hok.fresh (ur _))⟩
 .erw[I.tuple O,its,r',pl,hz];exact call_tuple_same pl ⟨-p,H,I,1,q⟩
abbrev tyV (K:o0)(T:String)(x:V)(H:Hp):Prop:=match x with
 | .str _=>T="str"
 | .int _=>T="int"
 | .ref p=>(T="list"/\∃xs,SqL K H p xs)\/(T="tuple"/\∃o,K.lookup p=u_ o/\o.cls= .type "tuple"/\o.dict=U_)\/
   (T="dict"/\((∃kvs,H p=u_ (.dK kvs))\/∃kvs,H p=u_ (.dT kvs)))\/(T="set"/\∃S n,H p=u_ (.set S n))
 |_=>False
variable {ot:om (o3×Obj)}{σ:St}{H:Hp}
def MQ {T:String}{x:V}{v:o6}(I:#[I])(r:il x v)(ty:tyV X.K T x H):
  s.TypeIs v T/\∀a,v= .ref a->∃ob,s.heap.get? a=u_ ob/\ob.dict=none:=by
 cases x with
 |str z=>
  erw[r,t,rfl];cases(show T="str" from ty)
  exact[vT s z t:λ_ e=>nomatch e]
 |int i=>
  erw[r,t,rfl];cases(show T="int" from ty)
  exact[typeIs_int s i t:λ_ e=>nomatch e]
 |ref p=>
  cases r;rcases ty with⟨rfl,xs,U⟩|⟨rfl,o,O,Z,hd⟩|⟨rfl,O⟩|⟨rfl,S,n,O⟩
  .erw[I.list U,its,_,pl,_];exists pl.isList.typeIs,λa e=>?_;cases e;erw[pl,o,n,e,c,hd,_];exact[o:e:hd]
  .exists [o:I.kIn p o O:Z],λa e=>?_;cases e;exact[o:I.kIn _ o O:hd]
  .have z:∃o,s.heap.get? p=u_ o/\o.ExactDict:=by
    rcases O with⟨kvs,O⟩|⟨kvs,O⟩
    .erw[I.hok p _ O,_,_,_,_,o,_,_,e,ex,_];exact[o:e:ex]
    .erw[I.hok p _ O,_,_,_,_,o,_,_,e,ex,_];exact[o:e:ex]
   erw[z,o,e,ex];exists [o:e:ex.1],λa e2=>?_;cases e2;exact[o:e:ex.2.1]
  .erw[I.hok p _ O,o,_,_,_,e,ex,_];exists [o:e:ex.1],λa e2=>?_;cases e2;exact[o:e:ex.2.1]
 |_=>exact Vw ty
abbrev Aem (K:o0)(T:String)(r:V->om V->Hp->VK->Prop)(to:TE):TE:=λσ H Q=>to σ H λx H1=>tyV K T x H1/\r x [] H1 Q
abbrev tBM (K:o0)(T:String)(r:V->om V->Hp->VK->Prop)(to:TE)(t:TA):TE:=λσ H Q=>to σ H λx H1=>tyV K T x H1/\t σ H1 λxs H2=>r x xs H2 Q
variable {o e:Expr}{es:om Expr}{to:TE}{t:TA}{name:Str}{apos cpos:Pos}{T id:String}{r:V->om V->Hp->VK->Prop}
def Nf (pa:tM T)(slot:Slot T name id)(Z:HZ (.builtin id)=pure (.type "method_descriptor"))(hm:MtR X id r)(ho:PE X o to)
  (O:VS o name X.env (eval o X.env)=eval o X.env) (U:(apos.endLine==cpos.line)=v_):PE X (.Call (.Attribute o name apos) [] [] cpos) (Aem X.K T r to):=by
 exists 2,Q,I,h;refine UQ O U (thn (ho ot s σ H _ I h) λv s1 zq=>?_);erw[zq,x,H1,I1,r1,ty,q1];erw[MQ I1 r1 ty,h1,h2];exact⟨T,id,pa,slot,Z,h1,h2,vC rfl (PySem.evalArgs_none (hm ot s1 σ H1 x [] v [] Q I1 r1 .nil q1))⟩
def jU (pa:tM T)(slot:Slot T name id)(ac:HZ (.builtin id)=pure (.type "method_descriptor"))(hm:MtR X id r)(ho:PE X o to)(ha:PA X (e::es) t)
  (U:VS o name X.env (eval o X.env)=eval o X.env:=by rfl)
  (aa:((Vo cpos (Vh (e::es) X.env)).all (λx=> !(x).1)&&(Gg cpos (Gj [] X.env)).all (λx=>x.1.isSome)
   &&decide (↑(e::es)+↑([]:om GB)+(if([]:om GB).isEmpty then 0 else 1)<30))=true:=by rfl)
  (Z:(apos.endLine==cpos.line)=true:=by rfl) (hs:Vh (e::es) X.env=(Vc,eval e X.env)::Vh es X.env:=by rfl) (O:(Vo cpos (Vh es X.env)).any (·.1)=false:=by rfl):
  PE X (.Call (.Attribute o name apos) (e::es) [] cpos) (tBM X.K T r to t):=by
 exists 2,Q,I,h;refine wpAny_Call_method_late U aa Z rfl (thn (ho ot s σ H _ I h) λv s1 zq=>?_);erw[zq,x,H1,I1,r1,ty,q1];erw[MQ I1 r1 ty,h1,h2];exists T,id,pa,slot,ac,h1,h2;have hA:=ha cpos ot s1 σ H1 _ I1 q1;rw[hs] at hA⊢;refine vC (by show(Vc||(Vo cpos (Vh es X.env)).any (·.1))=Vc;rw[O]<;>rfl) (Ub ?_)
 exact thn hA λus s2 ⟨vs,H2,I2,r2,q2⟩=>hm ot s2 σ H2 x vs v us Q I2 r1 r2 q2
end
abbrev MtM (X:Cx)(id:String)(r:V->om V->Hp->VK->Prop):Prop:=
 ∀(ot:om (o3×Obj)) (s:o7) (σ:St) (H:Hp) (x:V) (xs:om V) (v:o6) (us:om o6) (Q:VK),#[I]->il x v->iq xs us->r x xs H Q->
  Vd #[X,X] X.A (call (.builtin id) (v::us)) (EP X ot σ Q) X.xe s
def iq.one:∀{x:V}{us:om o6},iq [x] us->∃u,us= [u]/\il x u
 |_,_,.cons r .nil=>[0:r]
def iq.zero:∀{us:om o6},iq [] us->us= []
 |_,.nil=>rfl
variable {xs:om V}{us:om o6}
def iq.dropLast (h:iq xs us):iq xs.dropLast us.dropLast:=by
 induction h with
 |nil=>exact .nil
 |cons r t O=>
  cases t with
  |nil=>exact .nil
  |cons q t'=>exact .cons r O
def C6 {α:Type}(l:om α):l.eraseIdx (↑l-1)=l.dropLast:=by
 induction l with
 |nil=>rfl
 |cons a r O=>
  cases r with
  |nil=>rfl
  |cons b r=>
   have e:↑(a::b::r)-1=(↑(b::r)-1)+1:=by
    have h1:↑(a::b::r)=↑r+2:=rfl;have h2:↑(b::r)=↑r+1:=rfl;omega
   rw[e,List.eraseIdx_cons_succ,O]
   all_goals rfl
section
variable {X:Cx}{ot:om (o3×Obj)}{σ:St}{H:Hp}{s:o7}{l b:o3}{xs ys zs:om V}
def Inv.lset {its its':om o6}{n:Nat}{f:Array o6->Array o6}{t':Nat}(I:#[I])(O:H l=u_ (.lst xs))
  (e:s.heap.get? l=u_ {cls:= .type "list",data:= .seq its.toArray n}) (U:f its.toArray=its'.toArray) (Z:iq ys its') (hz:↑ys<=Vg) (ht:0<t':=by ac_rfl):
  Inv X ot σ (upd H l (.lst ys)) {s with heap:=s.heap.update l (Hn f),toks:=t'}:=by
 have q:=PySem.IsL.update e f;rw[U] at q;refine I.write (x:=l) (e:=l) (by rw[O];exact trivial) (.inl rfl) (λb' u hb hu=>(TL s.heap (Hn f) (Ud hb)).trans hu) [_:q] ?_
 exact⟨hz,its',_,Z,q⟩
variable {its:om o6}{t':Nat}
def Inv.lnew (I:#[I])(O:iq ys its)(hz:↑ys<=Vg)(U:0<t':=by ac_rfl):
  Inv X ot σ (upd H #[0,s] (.lst ys)) {s with heap:=s.heap.push {cls:= .type "list",data:= .seq its.toArray},toks:=t'}:=
 I.laid (λ_ _ q=>uf _ q) (ur _) ⟨hz,its,(0),O,uH _ rfl⟩
def Inv.fresh (I:#[I]):H #[0,s]=none:=I.hok.fresh (ur _)
def Inv.lstM (I:#[I])(O:H l=u_ (.lst xs)):↑xs<=Vg/\∃(its:om o6) (n:Nat),iq xs its/\↑xs=↑its/\s.heap.get? l=u_ {cls:= .type "list",data:= .seq its.toArray n}:=by
 erw[I.hok l _ O,z,its,n,r,e];exact⟨z,its,n,r,↑r,e⟩
def L8 (h:n<=Vg):t_ n=false:=by
 unfold t_;exact um ()
end
section
variable {X:Cx}
inductive OZ (x:V)(vs:List V)(H:Hp)(Q:VK):Prop
 |mk (l:_)(xs:_)(y:_)(_:x=-l)(_:vs= [y])(_:H l=u_ (.lst xs))(_:↑xs<Vg)(_:Q .non (upd H l (.lst (xs++ [y]))))
def YU:MtM X "list.append" OZ:=by
 exists 2,x,vs,v,us,Q,I,U,rv,h;erw[h,l,xs,y,rfl,rfl,O,hz,q];cases U;erw[rv.one,u,rfl,ru];erw[I.lstM O,z,its,n,r,Z,e];refine vU F.slot_list_append [_:e:1] F.entry_list_append (F.args_list_append_2 _ _) (PySem.list_append l its.toArray n u (by rw[uB];omega)) [e:?_]
 exists .non,_,I.lset (its':=its++ [u]) O e (by simp) (r.append (.cons ru .nil)) ?_,1,q
 rw[uF,vG];omega
inductive OY (x:V)(vs:List V)(H:Hp)(Q:VK):Prop
 |mk (l:_)(b:_)(xs:_)(zs:_)(_:x=-l)(_:vs= [-b])(_:H l=u_ (.lst xs))(_:H b=u_ (.lst zs))(_:↑xs+↑zs<=Vg)(_:Q .non (upd H l (.lst (xs++zs))))
def oR:MtM X "list.extend" OY:=by
 exists 2,x,vs,v,us,Q,I,rx,rv,h;erw[h,l,b,xs,zs,rfl,rfl,Z,hB,hz,q];cases rx;erw[rv.one,u,rfl,ru];cases ru;erw[I.lstM Z,z,its,n,r,hl,e];erw[I.lstM hB,z2,O,n2,r2,aa,e2];have hsz:its.toArray.size+O.toArray.size<=sizeLine:=by rw[uB,uB];omega
 have U:¬(!(its.toArray.isEmpty)&&t_ (its.toArray.size+O.toArray.size))=true:=by
  rw[L8 hsz,Tl];exact ud
 refine vU F.slot_list_extend [_:e:1] F.entry_list_extend (F.args_list_extend_2 _ _)
  (pU l its.toArray n b O.toArray n2 U (by rw[uB];omega) ()) [e:e2:?_]
 exists .non,_,I.lset (its':=its++O) Z e (by simp) (r.append r2) ?_,1,q
 rw[uF];omega
inductive Aet (x:V)(vs:List V)(H:Hp)(Q:VK):Prop
 |mk (l:_)(xs:_)(y:_)(_:x=-l)(_:vs= [])(_:H l=u_ (.lst xs))(_:xs[↑xs-1]? =u_ y)(_:Q y (upd H l (.lst xs.dropLast)))
def Nq:MtM X "list.pop" Aet:=by
 exists 2,x,vs,v,us,Q,I,rx,rv,h;erw[h,l,xs,y,rfl,rfl,Z,hy,q];cases rx;have O:=rv.zero;subst O;erw[I.lstM Z,z,its,n,r,hl,e];erw[r.get hy,u,hu,ru];have U:its.toArray[its.toArray.size-1]? =u_ u:=by
  show its.toArray[↑its-1]? =u_ u;rwa[<-T6,<-hl]
 refine vU F.slot_list_pop [_:e:1] F.entry_list_pop (F.args_list_pop_1 _) (pd l its.toArray n u U (by rw[uB];omega)) [e:?_]
 exists y,_,I.lset (its':=its.dropLast) Z e ?_ r.dropLast ?_,ru,q
 .show its.toArray.eraseIdxIfInBounds (its.toArray.size-1)=its.dropLast.toArray;rw[uB,List.eraseIdxIfInBounds_toArray,C6]
 .rw[List.length_dropLast];omega
inductive Aey (x:V)(y:V)(H:Hp)(Q:VK):Prop
 |mk (l:_)(b:_)(xs:_)(zs:_)(_:x=-l)(_:y=-b)(_:H l=u_ (.lst xs))(_:H b=u_ (.lst zs))(_:↑xs+↑zs<=Vg)(_:∀p,H p=U_->Q (-p) (upd H p (.lst (xs++zs))))
def BC:OpR X (VL .Add) Aey:=by
 exists 2,x,y,v,u,Q,I,U,Z,h;erw[h,l,b,xs,zs,rfl,rfl,hH,hB,hz,q];cases U;cases Z;erw[I.lstM hH,z,its,n,r,hl,e];erw[I.lstM hB,z2,O,n2,r2,aa,e2];refine PySem.P.add_list e e2 ?_ (by rw[uB,uB];omega)
 have ea:its.toArray++O.toArray=(its++O).toArray:=by simp
 rw[ea];exact⟨.ref _,_,I.lnew (t':=s.toks) (r.append r2) (by rw[uF];omega),1,q _ I.fresh⟩
end
section
variable {prog:og}{w:oh}{A:oj}{E:o6->o7->Prop}{s:o7}
set_option maxRecDepth 100000 in
end
section
variable {κ:Type}[DecidableEq κ]
abbrev iO (kvs:om (κ×V))(k:κ):oq V:=(kvs.find? λkv=>decide (kv.1=k)).map (·.2)
abbrev lJ (kvs:om (κ×V))(k:κ)(v:V):om (κ×V):=
 if(kvs.any λkv=>decide (kv.1=k))=v_ then kvs.map (λkv=>if kv.1=k then(kv.1,v) else kv) else kvs++ [(k,v)]
abbrev JW (kvs:om (κ×V))(k:κ):om (κ×V):=kvs.filter λkv=>decide (kv.1≠k)
def KY {k:κ}:iO ([]:om (κ×V)) k=none:=rfl
def QV {p:κ×V}{r:om (κ×V)}{k:κ}(e:p.1=k):iO (p::r) k=u_ p.2:=by simp[iO,vb,e]
def QK {p:κ×V}{r:om (κ×V)}{k:κ}(e:¬p.1=k):iO (p::r) k=iO r k:=by simp[iO,vb,e]
def J2 (k:κ):∀kvs:om (κ×V),(kvs.any λkv=>decide (kv.1=k))=(iO kvs k).isSome
 | []=>rfl
 |p::r=>by
  rw[Uh];by_cases e:p.1=k
  .simp![QV e,uj e,Bool.true_or,RG]
  .rw[QK e,um e,TD];exact J2 k r
def AX (k j:κ)(y:V):∀kvs:om (κ×V),iO (kvs.map λkv=>if kv.1=k then(kv.1,y) else kv) j=(iO kvs j).map λx=>if j=k then y else x
 | []=>rfl
 |p::r=>by
  have O:=AX k j y r;rw[uC];by_cases h:p.1=k
  .rw[A6 h];by_cases e:p.1=j
   .rw[QV (p:=(p.1,y)) e,QV e,HP,A6 (e.symm.trans h)]
   .rw[QK (p:=(p.1,y)) e,QK e,O]
  .rw[A4 h];by_cases e:p.1=j
   .rw[QV (p:=p) e,QV e,HP,A4 (λz=>h (e.trans z))]
   .rw[QK (p:=p) e,QK e,O]
def nN (k j:κ)(y:V):∀kvs:om (κ×V),iO kvs k=U_->iO (kvs++ [(k,y)]) j=if j=k then u_ y else iO kvs j
 | [],_=>by
  by_cases e:k=j
  .rw[A6 e.symm];exact QV (p:=(k,y)) e
  .rw[A4 (λz=>e z.symm)];exact QK (p:=(k,y)) e
 |p::r,hn=>by
  rw[Uk];have O:¬p.1=k:=λz=>by rw[QV z] at hn;cases hn
  rw[QK O] at hn;have U:=nN k j y r hn;by_cases e:p.1=j
  .rw[QV e,QV e,A4 (λz=>O (e.trans z))]
  .rw[QK e,QK e,U]
def X8 (kvs:om (κ×V))(k j:κ)(y:V):iO (lJ kvs k y) j=if j=k then u_ y else iO kvs j:=by
 unfold lJ;by_cases a:(kvs.any λkv=>decide (kv.1=k))=v_
 .rw[A6 a,AX];rw[J2] at a;by_cases e:j=k
  .erw[Option.isSome_iff_exists.mp a,x,O];rw[A6 e,e,O,HP,A6 rfl]
  .rw[A4 e];cases iO kvs j with
   |none=>rfl
   |some x=>rw[HP,A4 e]
 .rw[A4 a];refine nN k j y kvs ?_;rw[J2] at a;cases q:iO kvs k with
  |none=>rfl
  |some x=>rw[q] at a;exact(a rfl).elim
def yo (kvs:om (κ×V))(k:κ)(v:V):↑(lJ kvs k v)<=↑kvs+1:=by
 unfold lJ;split
 .rw[uc];omega
 .rw[uF,uw,HX];omega
variable {kvs:om (κ×V)}
def Kc {k:κ}(v:V)(h:iO kvs k=U_):lJ kvs k v=kvs++ [(k,v)]:=by
 unfold lJ;rw[J2,h];exact A4 ()
def nh.isSome_eq {o:oq V}{u:oq o6}(r:nh o u):o.isSome=u.isSome:=by
 cases o with
 |none=>cases u with
  |none=>rfl
  |some _=>exact(show False from r).elim
 |some _=>cases u with
  |none=>exact(show False from r).elim
  |some _=>rfl
def nh.getD {o:oq V}{u:oq o6}{d:V}{d':o6}(r:nh o u)(rd:il d d'):il (o.getD d) (u.getD d'):=by
 cases o with
 |none=>cases u with
  |none=>exact rd
  |some _=>exact(show False from r).elim
 |some _=>cases u with
  |none=>exact(show False from r).elim
  |some _=>exact r
variable {vs:om (κ×o6)}
def KV.val (r:KV kvs vs)(k:κ):nh (iO kvs k) (VU vs k):=by
 unfold KV at r
 induction r with
 |nil=>exact VH
 | @cons p q ps qs h t ih=>
  erw[h,h1,h2];by_cases e:p.1=k
  .have O:q.1=k:=h1.symm.trans e;have b:VU (q::qs) k=u_ q.2:=by simp[VU,vb,O]
   rwa[QV e,b]
  .have O:¬q.1=k:=λz=>e (h1.trans z);have b:VU (q::qs) k=VU qs k:=by simp[VU,vb,O]
   rw[QK e,b];exact ih
def KV.any (r:KV kvs vs)(k:κ):(kvs.any λkv=>decide (kv.1=k))=vs.any λkv=>decide (kv.1=k):=by
 unfold KV at r
 induction r with
 |nil=>rfl
 |cons h t O=>rw[Uh,Uh,O,h.1]
variable {y:V}{u:o6}
def KV.repl (r:KV kvs vs)(k:κ)(O:il y u):
  KV (kvs.map λkv=>if kv.1=k then(kv.1,y) else kv) (vs.map λkv=>if kv.1=k then(kv.1,u) else kv):=by
 unfold KV at r⊢
 induction r with
 |nil=>exact .nil
 | @cons p q ps qs h t ih=>
  rw[uC,uC];refine .cons ?_ ih;erw[h,h1,h2];by_cases e:p.1=k
  .rw[A6 e,A6 (h1.symm.trans e)];exact[h1:O]
  .rw[A4 e,A4 (λz=>e (h1.trans z))];exact[h1:h2]
def KV.put (r:KV kvs vs)(k:κ)(O:il y u):KV (lJ kvs k y) (GJ vs k u):=by
 unfold lJ GJ;rw[r.any k];by_cases e:(vs.any λkv=>decide (kv.1=k))=v_
 .rw[A6 e,A6 e];exact r.repl k O
 .rw[A4 e,A4 e];exact Paired.snoc r [1:O]
def KV.drop (r:KV kvs vs)(k:κ):KV (JW kvs k) (without vs k):=by
 unfold KV at r⊢;unfold JW without
 induction r with
 |nil=>exact .nil
 | @cons p q ps qs h t ih=>
  erw[h,h1,h2];rw[vV,vV];by_cases e:p.1=k
  .have a:¬decide (p.1≠k)=true:=by simp[e]
   have b:¬decide (q.1≠k)=true:=by simp[h1.symm.trans e]
   rw[A4 a,A4 b];exact ih
  .have O:¬q.1=k:=λz=>e (h1.trans z);have a:decide (p.1≠k)=true:=by simp[e]
   have b:decide (q.1≠k)=true:=by simp[O]
   rw[A6 a,A6 b];exact .cons [h1:h2] ih
def KV.keys (r:KV kvs vs):kvs.map (·.1)=vs.map (·.1):=by
 unfold KV at r
 induction r with
 |nil=>rfl
 |cons h t O=>rw[uC,uC,O,h.1]
def KV.length (r:KV kvs vs):↑kvs=↑vs:=Paired.length r
def Cd (kvs:om (κ×V))(k:κ):↑(JW kvs k)<=↑kvs:=tI _ _
end
variable {w:oh}{u:o6}
def oW {P:og}{k:Key}(r:il (kV k) u):(Qd P w).is k u=true:=by
 cases k with
 |inl i=>obtain⟨t,e⟩:=(show∃t,u=Gm i t from r);subst e;exact Ao P w i t
 |inr x=>obtain⟨t,e⟩:=(show∃t,u=VC x t from r);subst e;exact wO P w x t
def pZ {P:og}{w:oh}:∀{ks:om Key}{us:om o6},iq (ks.map kV) us->ItemsAre (Qd P w) ks us
 | [],_,r=>by rw[Ug] at r;cases r;exact .nil
 |k::ks,_,r=>by
  rw[uC] at r;cases r with
  |cons h t=>exact .cons (oW h) (pZ t)
nonrec abbrev KT (H:Hp):om (om Key×V)->om (om Key×o3×o6)->Prop:=Paired λp q=>p.1=q.1/\H q.2.1=u_ (.tup (p.1.map kV))/\il p.2 q.2.2
variable {H:Hp}
def KT.val {kvs:om (om Key×V)}{xs:om (om Key×o3×o6)}(r:KT H kvs xs)(k:om Key):nh (iO kvs k) ((Gf xs k).map (·.2)):=by
 induction r with
 |nil=>exact VH
 | @cons p q ps qs h t ih=>
  erw[h,h1,_,h2];by_cases e:p.1=k
  .have O:q.1=k:=h1.symm.trans e;have b:Gf (q::qs) k=u_ q.2:=by simp[Gf,vb,O]
   rwa[QV e,b]
  .have O:¬q.1=k:=λz=>e (h1.trans z);have b:Gf (q::qs) k=Gf qs k:=by simp[Gf,vb,O]
   rw[QK e,b];exact ih
variable {y:V}
def KT.repl {kvs:om (om Key×V)}{xs:om (om Key×o3×o6)}(r:KT H kvs xs)(k:om Key)(O:il y u):
  KT H (kvs.map λkv=>if kv.1=k then(kv.1,y) else kv) (xs.map (putAt k u)):=by
 induction r with
 |nil=>exact .nil
 | @cons p q ps qs h t ih=>
  rw[uC,uC];refine .cons ?_ ih;erw[h,h1,h2,h3];unfold putAt;by_cases e:p.1=k
  .rw[A6 e,A6 (h1.symm.trans e)];exact[h1:h2:O]
  .rw[A4 e,A4 (λz=>e (h1.trans z))];exact[h1:h2:h3]
variable {b:o3}
def KT.put {kvs:om (om Key×V)}{xs:om (om Key×o3×o6)}(r:KT H kvs xs)(k:om Key)(U:H b=u_ (.tup (k.map kV)))(O:il y u):
  KT H (lJ kvs k y) (storedH xs k b u):=by
 have e:(kvs.any λkv=>decide (kv.1=k))=(Gf xs k).isSome:=by
  rw[J2,(r.val k).isSome_eq,Tg]
 unfold lJ storedH;rw[e];by_cases q:(Gf xs k).isSome=v_
 .rw[A6 q,A6 q];exact r.repl k O
 .rw[A4 q,A4 q];exact Paired.snoc r [1:U:O]
variable {H':Hp}
def KT.keeps {kvs:om (om Key×V)}{xs:om (om Key×o3×o6)}(r:KT H kvs xs)(O:∀b ys,H b=u_ (¬ys)->H' b=u_ (¬ys)):KT H' kvs xs:=
 Paired.mapP r λ_ _ z=>[z.1:O _ _ z.2.1:z.2.2]
section
variable {P:og}{w:oh}{H:Hp}{h:o9}{a:o3}
def AaW {u:HO}(ok:HOk P w H h)(e:Rd H a u):yi P w H h a u:=e.ok ok
def zB {kvs:om (Key×V)}(ok:HOk P w H h)(e:Rd H a (.dK kvs)):↑kvs<=Vg/\(a==Vy)=Vc/\∃vs,KV kvs vs/\h.DictOf (Qd P w) a vs:=
 show yi P w H h a (.dK kvs) from AaW ok e
def Io {kvs:om (Key×V)}(ok:HOk P w H h)(e:H a=u_ (.dK kvs)):↑kvs<=Vg/\(a==Vy)=Vc/\∃vs,KV kvs vs/\h.DictOf (Qd P w) a vs:=zB ok (.inl e)
def W4 {ks:om Key}(ok:HOk P w H h)(e:H a=u_ (.tup (ks.map kV))):(GU (Qd P w)).is h ks a:=by
 obtain⟨_,its,r,o,h1,h2,n,h3⟩:=(show yi P w H h a (.tup (ks.map kV)) from ok a _ e)
 exact⟨o,its.toArray,n,h1,h2,h3,by simpa using pZ r⟩
def sG {kvs:om (om Key×V)}(ok:HOk P w H h)(e:Rd H a (.dT kvs)):↑kvs<=Vg/\(a==Vy)=Vc/\
  ∃xs,KT H kvs xs/\h.DictOfH (GU (Qd P w)) a xs:=by
 obtain⟨z,y,xs,r,o,es,ep,h1,h2,h3,h4,h5⟩:=(show yi P w H h a (.dT kvs) from AaW ok e)
 exists z,y,xs,r,o,es,ep,h1,h2,h3,h4,λx O=>?_,h5;have all:∀{l:om (om Key×V)}{m:om (om Key×o3×o6)},KT H l m->∀x>m,(GU (Qd P w)).is h x.1 x.2.1:=by
  intro l m q
  induction q with
  |nil=>intro x O;exact nomatch O
  | @cons p q ps qs hq t ih=>
   intro x O;rcases Aa.mp O with e|O
   .subst e;exact W4 ok (by rw[<-hq.1];exact hq.2.1)
   .exact ih x O
 exact all r x O
def Adv {kvs:om (om Key×V)}(ok:HOk P w H h)(e:H a=u_ (.dT kvs)):↑kvs<=Vg/\(a==Vy)=Vc/\
  ∃xs,KT H kvs xs/\h.DictOfH (GU (Qd P w)) a xs:=sG ok (.inl e)
end
abbrev mV (H:Hp)(a:o3)(y:V)(r:oq V):Prop:=
 (∃kvs k,Rd H a (.dK kvs)/\y=kV k/\r=iO kvs k)\/∃kvs k b,Rd H a (.dT kvs)/\y= .ref b/\H b=u_ (.tup (k.map kV))/\r=iO kvs k
abbrev IQ (H:Hp)(a:o3)(y v:V)(H':Hp):Prop:=
 (∃kvs k,H a=u_ (.dK kvs)/\y=kV k/\↑kvs<Vg/\H'=upd H a (.dK (lJ kvs k v)))\/
 ∃kvs k b,H a=u_ (.dT kvs)/\y= .ref b/\H b=u_ (.tup (k.map kV))/\↑kvs<Vg/\H'=upd H a (.dT (lJ kvs k v))
def mV.k {H:Hp}{a:o3}{kvs:om (Key×V)}{k:Key}(e:H a=u_ (.dK kvs)):mV H a (kV k) (iO kvs k):= .inl ⟨kvs,k,.inl e,1,1⟩
def IQ.k {H:Hp}{a:o3}{kvs:om (Key×V)}{k:Key}{v:V}(e:H a=u_ (.dK kvs))(O:↑kvs<Vg):IQ H a (kV k) v (upd H a (.dK (lJ kvs k v))):= .inl ⟨kvs,k,e,1,O,1⟩
section
variable {X:Cx}{ot:om (o3×Obj)}{σ:St}{H:Hp}{s:o7}{a:o3}{y v:V}{u r:o6}{o:oq V}{A:oj}{E:o6->o7->Prop}
def Inv.big (I:#[I]):Vy<#[0,s]:=by
 have h:Vz<#[0,s]:=(I.mod.glob.keeps I.bk).lt;exact Hu () h
def Iz {Q:o6->o7->Prop}(hu:A.units+1<Vl)(I:#[I])(g:mV H a y (u_ v))(ry:il y u)(h:∀U s',Inv X ot σ H s'->il v U->Q U s'):
  Vd #[X,X] A (VP (-a) u) Q E s:=by
 rcases g with⟨kvs,k,e,Z,l⟩|⟨kvs,k,b,e,Z,eb,l⟩
 .subst Z;erw[zB I.hok e,z,hd,vs,rel,dd];obtain⟨U,hw,O⟩:=nh.some_of (v:=v) (o:=VU vs k) (by rw[l];exact rel.val k)
  exact rR (oW ry) dd.mapOf hw (h U _ (I.tok _) O)
 .subst Z;cases(show u=Vi b from ry)
  erw[sG I.hok e,z,hd,xs,rel,dd];obtain⟨U,hw,O⟩:=nh.some_of (v:=v) (o:=(Gf xs k).map (·.2)) (by rw[l];exact rel.val k)
  erw[Option.map_eq_some_iff.mp hw,p,hp,aa];refine wpAny_getItem_heap (Uu hu) (W4 I.hok eb) dd hp ?_;rw[aa];exact h U _ (I.tok _) O
def AeH {Q:o6->o7->Prop}(Z:A.units+1<Vl)(I:#[I])(g:mV H a y o)(U:il y u)(h:∀s',Inv X ot σ H s'->Q (.bool o.isSome) s'):
  Vd #[X,X] A (Vm .In u (-a)) Q E s:=by
 rcases g with⟨kvs,k,e,O,l⟩|⟨kvs,k,b,e,O,eb,l⟩
 .subst O;erw[zB I.hok e,z,hd,vs,rel,dd];refine rJ (oW U) hd dd.mapOf ?_;rw[<-(rel.val k).isSome_eq,<-l];exact h _ (I.tok _)
 .subst O;cases(show u=Vi b from U)
  erw[sG I.hok e,z,hd,xs,rel,dd];refine wpAny_in_heap (Uu Z) (W4 I.hok eb) hd dd ?_;have q:=(rel.val k).isSome_eq;rw[Tg] at q;rw[<-q,<-l];exact h _ (I.tok _)
def SL {Q:o6->o7->Prop}(Z:A.units+1<Vl)(I:#[I])(g:mV H a y o)(U:il y u)(h:∀s',Inv X ot σ H s'->Q (.bool (!(o.isSome))) s'):
  Vd #[X,X] A (Vm .NotIn u (-a)) Q E s:=by
 rcases g with⟨kvs,k,e,O,l⟩|⟨kvs,k,b,e,O,eb,l⟩
 .subst O;erw[zB I.hok e,z,hd,vs,rel,dd];refine Fv (oW U) hd dd.mapOf ?_;rw[<-(rel.val k).isSome_eq,<-l];exact h _ (I.tok _)
 .subst O;cases(show u=Vi b from U)
  erw[sG I.hok e,z,hd,xs,rel,dd];refine wpAny_notIn_heap (Uu Z) (W4 I.hok eb) hd dd ?_;have q:=(rel.val k).isSome_eq;rw[Tg] at q;rw[<-q,<-l];exact h _ (I.tok _)
variable {h':o9}{t':Nat}
def Kh {ob:HO}(I:#[I])(mu:Mut (H a))(O:VT a s.heap h')(U:∃q,h'.get? a=u_ q)(new:yi X.prog X.w (upd H a ob) h' a ob)(ht:0<t':=by ac_rfl):
  Inv X ot σ (upd H a ob) {s with heap:=h',toks:=t'}:=
 I.write (x:=a) (e:=a) mu (.inl rfl) (λb q Z z=>(O.2 b Z).trans z) U new
def wn {P:og}{kvs:om (Key×V)}{vs:om (Key×o6)}(z:↑kvs<=Vg)(hd:(a==Vy)=Vc)(rel:KV kvs vs)(dd:h'.DictOf (Qd P w) a vs):
  yi P w H' h' a (.dK kvs):=⟨z,hd,vs,rel,dd⟩
def Iy {Q:Unit->o7->Prop}(hu:A.units+1<Vl)(I:#[I])(g:IQ H a y v H')(ry:il y u)(rv:il v r)(h:∀s',Inv X ot σ H' s'->Q Gr s'):
  Vd #[X,X] A (Ta (-a) u r) Q E s:=by
 rcases g with⟨kvs,k,e,Z,l,eH⟩|⟨kvs,k,b,e,Z,eb,l,eH⟩
 .subst Z eH;erw[Io I.hok e,z,hd,vs,rel,dd];have hz:↑vs<=sizeLine:=by rwa[<-↑rel]
  have hl:↑(lJ kvs k v)<=sizeLine:=by have:=yo kvs k v;omega
  refine wpAny_setItem_pairs (hsz:=hz) (oW ry) dd λh' O hs=>h _ ?_;have he:∃q,h'.get? a=u_ q:=let⟨q,_,_,U,_⟩:=O;[q:U];exact Kh I (by rw[e];exact VH) hs he (wn hl hd (rel.put k rv) O)
 .subst Z eH;cases(show u=Vi b from ry)
  erw[Adv I.hok e,z,hd,xs,rel,dd];have hz:↑xs<=sizeLine:=by rwa[<-Paired.length rel]
  have hl:↑(lJ kvs k v)<=sizeLine:=by have:=yo kvs k v;omega
  refine wpAny_setItem_heap (hsz:=hz) (Uu hu) (W4 I.hok eb) dd λh' O hs=>h _ ?_;erw[O,q,es,ep,U,h2,h3,h4,_,h5];refine Kh I (by rw[e];exact VH) hs [q:U] ⟨hl,hd,_,(rel.put k eb rv).keeps λc ys ec=>?_,q,es,ep,U,h2,h3,h4,h5⟩
  rw[qi (Ac9 ec e (λz=>nomatch z))];exact ec
end
section
variable {X:Cx}{ot:om (o3×Obj)}{σ:St}{H:Hp}{s:o7}{a:o3}{kvs:om (Key×V)}{k:Key}{u:o6}{A:oj}{E:o6->o7->Prop}
def Adw {v:V}{more:om o6}{Q:o6->o7->Prop}(I:#[I])(e:H a=u_ (.dK kvs))(Z:il (kV k) u)(l:iO kvs k=u_ v)(hm:more= []\/∃x,more= [x])
  (h:∀O s',Inv X ot σ (upd H a (.dK (JW kvs k))) s'->il v O->Q O s'):Vd #[X,X] A (call (.builtin "dict.pop") (.ref a::u::more)) Q E s:=by
 erw[Io I.hok e,z,hd,vs,rel,dd];obtain⟨O,hw,aa⟩:=nh.some_of (v:=v) (o:=VU vs k) (by rw[<-l];exact rel.val k)
 have hp:(keyPart u).isSome=true:=by
  cases k with
  |inl i=>obtain⟨t,q⟩:=(show∃t,u=Gm i t from Z);subst q;rfl
  |inr x=>obtain⟨t,q⟩:=(show∃t,u=VC x t from Z);subst q;rfl
 have ha:argsOk "dict.pop" ⟨.ref a::u::more,[]⟩:=by
  rcases hm with q|⟨x,q⟩
  .subst q;exact PySem.F.args_dict_pop_2 _ _
  .subst q;exact PySem.F.args_dict_pop_3 _ _ _
 refine V5 PySem.F.slot_dict_pop dd.typeIs PySem.F.entry_dict_pop ha (meets_dict_pop_there (Qd X.prog X.w) a (oW Z) more hm hp)
  ⟨vs,O,dd,by rwa[<-↑rel],hw,λh' U hs=>h O _ ?_ aa⟩
 have he:∃q,h'.get? a=u_ q:=let⟨q,_,_,hq,_⟩:=U;[q:hq];exact Kh I (by rw[e];exact VH) hs he (wn (uY (Cd kvs k) z) hd (rel.drop k) U)
def Adx {Q:o6->o7->Prop}(I:#[I])(e:Rd H a (.dK kvs))(h:∀t s',Inv X ot σ H s'->Q (.int ↑kvs t) s'):Vd #[X,X] A (call (.builtin "len") [-a]) Q E s:=by
 erw[zB I.hok e,z,hd,vs,rel,dd];refine call_len_dict hd dd (by rw[<-↑rel];rw[uE] at z;omega) ?_
 rw[<-↑rel];exact h _ _ (I.tok _)
end
abbrev Ad9 (i:Expr):Prop:=∀ov iv,hX i Vc ov iv=Hz [ov,iv] (VP ov iv)
def Ob {prog:og}{w:oh}{A:oj}{E:o6->o7->Prop}{s:o7}{env:Env}{value slice:Expr}{pos:Pos}{T id:String}{Q:o6->o7->Prop}
  (hl:HV (.type T) "__getitem__"=pure (u_ (.builtin id))) (hs:Ad9 slice)
  (h:Vd #[w,w] A (eval value env) (λo Z=>Vd #[w,w] A (eval slice env) (λi O=>O.TypeIs o T/\Vd #[w,w] A (VP o i) Q E O) E Z) E s):
  Vd #[w,w] A (eval (.Subscript value slice pos) env) Q E s:=by
 refine HM (vz h (λo Z h₁=>vz h₁ (λi O U=>?_) λ_ _ x=>x) λ_ _ x=>x);erw[U,hT,U];unfold HD;refine A7 ?_;rw[getitemInPython_of_ne hT.not_modules];refine A7 (wpAny_specialOf hT hl ?_);have fin:Vd #[w,w] A (hX slice Vc o i) (λr s₃=>Vd #[w,w] A (letTemporaryGo value o r>>=λ_=>pure r) Q E s₃) E O:=by
  rw[hs o i];exact wpAny_operating (vz U (λr s₃ h₃=>A7 (wpAny_letTemporaryGo (uD h₃))) λ_ _ x=>x)
 first
  |exact uD (A7 fin)
  |exact A7 (uD (A7 fin))
  |exact A7 fin
variable {X:Cx}{ot:om (o3×Obj)}{σ:St}{s:o7}{a:o3}
def AJ {o:oq V}(I:#[I])(g:mV H a y o):s.TypeIs (-a) "dict":=by
 rcases g with⟨kvs,k,e,_,_⟩|⟨kvs,k,b,e,_,_,_⟩
 .erw[zB I.hok e,_,_,vs,_,dd];exact dd.typeIs
 .erw[sG I.hok e,_,_,xs,_,dd];exact dd.typeIs
def w8 {o:oq V}(I:#[I])(g:mV H a y o):
  ∀b,Vi a= .ref b->∃ob,s.heap.get? b=u_ ob/\ob.dict=none:=λb q=>by
 cases q;rcases g with⟨kvs,k,e,_,_⟩|⟨kvs,k,b,e,_,_,_⟩
 .erw[zB I.hok e,_,_,vs,_,ob,_,_,h1,h2,_];exact[ob:h1:h2.2.1]
 .erw[sG I.hok e,_,_,xs,_,ob,_,_,h1,h2,_];exact[ob:h1:h2.2.1]
inductive NP (Q:VK)(x:V)(y:V)(H2:Hp):Prop
 |mk (a:_)(v:_)(_:x=-a)(_:mV H2 a y (u_ v))(_:Q v H2)
abbrev AcR (td ty:TE):TE:=λσ H Q=>td σ H λx H1=>ty σ H1 λy H2=>NP Q x y H2
inductive AdH (Q:VK)(y:V)(x:V)(H2:Hp):Prop
 |mk (a:_)(o:_)(_:x=-a)(_:mV H2 a y o)(_:Q (.bl o.isSome) H2)
abbrev Ael (ty td:TE):TE:=λσ H Q=>ty σ H λy H1=>td σ H1 λx H2=>AdH Q y x H2
inductive MK (Q:VK)(y:V)(x:V)(H2:Hp):Prop
 |mk (a:_)(o:_)(_:x=-a)(_:mV H2 a y o)(_:Q (.bl (!(o.isSome))) H2)
abbrev Oa (ty td:TE):TE:=λσ H Q=>ty σ H λy H1=>td σ H1 λx H2=>MK Q y x H2
inductive Acm (D:mU)(σ:St)(v:V)(x:V)(y:V)(H3:Hp):Prop
 |mk (a:_)(H4:_)(_:x=-a)(_:IQ H3 a y v H4)(_:D.nx σ H4)
abbrev AcZ (td ty tv:TE):TS:=λD σ H=>tv σ H λv H1=>td σ H1 λx H2=>ty σ H2 λy H3=>Acm D σ v x y H3
section
variable {X:Cx}{o i e value:Expr}{pos pos' tpos:Pos}{td ty tv:TE}
def QH (Z:X.A.units+1<Vl)(ho:PE X o td)(hi:PE X i ty)(hs:Ad9 i):PE X (.Subscript o i pos) (AcR td ty):=by
 exists 2,Q,I,h;refine Ob PySem.F.slot_dict_getitem.lookup hs (thn (ho ot s σ H _ I h) λu s1 ⟨x,H1,I1,rx,q1⟩=>thn (hi ot s1 σ H1 _ I1 q1) λiv s2 zq=>?_);erw[zq,y,H2,U,ry,a,v,ex,g,q2];subst ex;obtain rfl:u=Vi a:=rx;exact[AJ U g:Iz Z U g ry λw' s3 I3 O=>⟨v,H2,I3,O,q2⟩]
def pc_din (O:X.A.units+1<Vl)(hi:PE X i ty)(U:PE X o td):PC X .In i o (Ael ty td):=by
 exists 2,Q,I,h;refine thn (hi ot s σ H _ I h) λiv s1 ⟨y,H1,Z,ry,q1⟩=>thn (U ot s1 σ H1 _ Z q1) λu s2 zq=>?_;erw[zq,x,H2,I2,rx,a,ov,ex,g,q2];subst ex;obtain rfl:u=Vi a:=rx;exact AeH O I2 g ry λs3 I3=>⟨.bl ov.isSome,H2,I3,1,q2⟩
def DX (O:X.A.units+1<Vl)(hi:PE X i ty)(U:PE X o td):PC X .NotIn i o (Oa ty td):=by
 exists 2,Q,I,h;refine thn (hi ot s σ H _ I h) λiv s1 ⟨y,H1,Z,ry,q1⟩=>thn (U ot s1 σ H1 _ Z q1) λu s2 zq=>?_;erw[zq,x,H2,I2,rx,a,ov,ex,g,q2];subst ex;obtain rfl:u=Vi a:=rx;exact SL O I2 g ry λs3 I3=>⟨.bl (!(ov.isSome)),H2,I3,1,q2⟩
def Jo (O:X.A.units+1<Vl)(U:PE X o td)(hi:PE X i ty)(Z:PE X value tv)(hs:GN value (u_ (.Subscript o i pos')) pos.line X.env=pure Vc):
  PS X (.Assign [.Subscript o i pos'] value pos) (AcZ td ty tv):=by
 exists 2,D,I,h;refine wpAny_Assign_Subscript (thn (Z ot s σ H _ I h) λr s1 ⟨v,H1,I1,rv,q1⟩=>thn (U ot s1 σ H1 _ I1 q1) λu s2 ⟨x,H2,I2,rx,q2⟩=>thn (hi ot s2 σ H2 _ I2 q2) λiv s3 zq=>?_) hs;erw[zq,y,H3,I3,ry,a,H4,ex,g,q3];subst ex;obtain rfl:u=Vi a:=rx;exact Iy O I3 g ry rv λs4 I4=>⟨σ,H4,I4,q3⟩
end
def Mx {P:og}(h:o9)(O:Vy<h.objs.size):yi P w H (h.push {cls:= .type "dict",data:= .dict #[]}) h.objs.size (.dK []):=
 ⟨uQ _,beq_eq_false_iff_ne.mpr (Ud (uX O)),[],.nil,RP h⟩
abbrev Aay:TE:=λ_ H Q=>∀p,H p=U_->Q (-p) (upd H p (.dK []))
section
variable {X:Cx}{pos:Pos}
def jI:PE X (.Dict [] [] pos) Aay:=λot s σ H Q I h=>
 wpAny_Dict_empty ⟨.ref #[0,s],_,I.laid (a:=#[0,s]) (o:= .dK []) (t':=s.toks) (λ_ _ q=>uf _ q) (ur _) (Mx s.heap I.big),1,h _ (I.hok.fresh (ur _))⟩
end
structure M1 (X:Cx)(o:Expr)(m:Str)(apos:Pos)(e:Expr)(cpos:Pos):Prop where
 base:VS o m X.env (eval o X.env)=eval o X.env
 few:((Vo cpos (Vh [e] X.env)).all (λx=> !(x).1)&&(Gg cpos (Gj [] X.env)).all (λx=>x.1.isSome)
  &&decide (↑([e]:om Expr)+↑([]:om GB)+(if([]:om GB).isEmpty then 0 else 1)<30))=v_
 line:(apos.endLine==cpos.line)=v_
 trees:Vo cpos (Vh [e] X.env)= [(Vc,eval e X.env)]
structure M2 (X:Cx)(o:Expr)(m:Str)(apos:Pos)(e f:Expr)(cpos:Pos):Prop where
 base:VS o m X.env (eval o X.env)=eval o X.env
 few:((Vo cpos (Vh [e,f] X.env)).all (λx=> !(x).1)&&(Gg cpos (Gj [] X.env)).all (λx=>x.1.isSome)
  &&decide (↑([e,f]:om Expr)+↑([]:om GB)+(if([]:om GB).isEmpty then 0 else 1)<30))=v_
 line:(apos.endLine==cpos.line)=v_
 trees:Vo cpos (Vh [e,f] X.env)= [(Vc,eval e X.env),(Vc,eval f X.env)]
abbrev IsD (H:Hp)(a:o3):Prop:=(∃kvs,Rd H a (.dK kvs))\/∃kvs,Rd H a (.dT kvs)
def ER (I:#[I])(d:IsD H a):
  s.TypeIs (-a) "dict"/\(∀b,Vi a= .ref b->∃ob,s.heap.get? b=u_ ob/\ob.dict=U_)/\(a==Vy)=false:=by
 rcases d with⟨kvs,e⟩|⟨kvs,e⟩
 .erw[zB I.hok e,_,hd,vs,_,dd];exists dd.typeIs,λb q=>?_,hd;cases q;erw[dd,ob,_,_,h1,h2,_];exact[ob:h1:h2.2.1]
 .erw[sG I.hok e,_,hd,xs,_,dd];exists dd.typeIs,λb q=>?_,hd;cases q;erw[dd,ob,_,_,h1,h2,_];exact[ob:h1:h2.2.1]
section
variable {X:Cx}{ot:om (o3×Obj)}{σ:St}{H:Hp}{s:o7}{a:o3}{y d:V}{u r:o6}{o:oq V}{A:oj}{E:o6->o7->Prop}
def Ab1 {Q:o6->o7->Prop}(hu:A.units+1<Vl)(I:#[I])(g:mV H a y o)(U:il y u)(h:∀Z s',Inv X ot σ H s'->il (o.getD .non) Z->Q Z s'):
  Vd #[X,X] A (call (.builtin "dict.get") [-a,u]) Q E s:=by
 rcases g with⟨kvs,k,e,O,l⟩|⟨kvs,k,b,e,O,eb,l⟩
 .subst O;erw[zB I.hok e,z,hd,vs,rel,dd];refine V5 PySem.F.slot_dict_get dd.typeIs PySem.F.entry_dict_get (PySem.F.args_dict_get_2 _ _) (meets_dict_get (Qd X.prog X.w) a (oW U) hd) [_:dd.mapOf:h _ _ (I.tok _) ?_];rw[l];exact(rel.val k).getD rfl
 .subst O;cases(show u=Vi b from U)
  erw[sG I.hok e,z,hd,xs,rel,dd];refine V5 PySem.F.slot_dict_get dd.typeIs PySem.F.entry_dict_get (PySem.F.args_dict_get_2 _ _) (meetsH_dict_get (GU (Qd X.prog X.w)) a b hd) ⟨Uu hu,k,xs,W4 I.hok eb,dd,h _ _ (I.tok _) ?_⟩;rw[l];exact(rel.val k).getD rfl
end
inductive S4 (ty:TE)(σ:St)(Q:VK)(x:V)(H1:Hp):Prop
 |mk (a:_)(_:x=-a)(_:IsD H1 a)(_:ty σ H1 λy H2=>∃o,mV H2 a y o/\Q (o.getD .non) H2)
abbrev Aaz (td ty:TE):TE:=λσ H Q=>td σ H λx H1=>S4 ty σ Q x H1
inductive S3 (ty:TE)(σ:St)(Q:VK)(x:V)(H1:Hp):Prop
 |mk (a:_)(_:x=-a)(_:IsD H1 a)(_:ty σ H1 λy H2=>∃kvs k v,H2 a=u_ (.dK kvs)/\y=kV k/\iO kvs k=u_ v/\Q v (upd H2 a (.dK (JW kvs k))))
abbrev Aax (td ty:TE):TE:=λσ H Q=>td σ H λx H1=>S3 ty σ Q x H1
section
variable {X:Cx}{o e f:Expr}{apos cpos:Pos}{td ty tx:TE}
def KG (Z:X.A.units+1<Vl)(ho:PE X o td)(he:PE X e ty)(m:M1 X o "get" apos e cpos):PE X (.Call (.Attribute o "get" apos) [e] [] cpos) (Aaz td ty):=by
 exists 2,Q,I,h;refine Td m.base m.few m.line vX PySem.F.slot_dict_get PySem.F.type_dict_get (thn (ho ot s σ H _ I h) λu s1 zq=>?_);erw[zq,x,H1,U,rx,a,ex,d,q1];subst ex;obtain rfl:u=Vi a:=rx;erw[ER U d,t1,t2,_];exists t1,t2;rw[m.trees];refine vC rfl (Ub (U4 (thn (he ot s1 σ H1 _ U q1) λiv s2 ⟨y,H2,I2,ry,ov,g,q2⟩=>UF ?_)));exact Ab1 Z I2 g ry λw' s3 I3 O=>⟨_,H2,I3,O,q2⟩
def LE (Z:PE X o td)(he:PE X e ty)(m:M1 X o "pop" apos e cpos):PE X (.Call (.Attribute o "pop" apos) [e] [] cpos) (Aax td ty):=by
 exists 2,Q,I,h;refine Td m.base m.few m.line vX PySem.F.slot_dict_pop PySem.F.type_dict_pop (thn (Z ot s σ H _ I h) λu s1 zq=>?_);erw[zq,x,H1,U,rx,a,ex,d,q1];subst ex;obtain rfl:u=Vi a:=rx;erw[ER U d,t1,t2,_];exists t1,t2;rw[m.trees];refine vC rfl (Ub (U4 (thn (he ot s1 σ H1 _ U q1) λiv s2 ⟨y,H2,I2,ry,kvs,k,v,ea,ey,l,q2⟩=>UF ?_)));subst ey;exact Adw I2 ea ry l (.inl rfl) λw' s3 I3 O=>⟨v,_,I3,O,q2⟩
end
end L2
namespace Att
open PySem PySem.W PySem.Calls PyProof.Rows
variable {h:o9}
def wz {P:HI}:∀(ns:om Int) (vs:om o6),WellAll P h vs (ns.map WData.int)->GH vs ns:=by
 intro ns
 induction ns with
 |nil=>
  intro vs w;rw[Ug] at w;cases w;exact .nil
 |cons n ns O=>
  intro vs w;rw[uC] at w;cases w with
  |cons a b=>
   cases a;exact .cons _ _ (O _ b)
def DJ {l:OpenLaw}{n:Nat}(hn:l.most=u_ n){P:HI}{h:o9}{args:om WData}{O:om o6}
  (U:l.row.toRowW.claim.pre args=v_) (ac:WellAll P h O args):
  ∃a vs ns,O= [Vi a]/\args= [WData.list (ns.map WData.int)]/\h.get? a=u_ {cls:= .type "list",data:= .seq vs.toArray}/\GH vs ns/\↑ns<=n:=by
 have ad:WShape.hasAll [] args [.list .int]=true:=(pre_splitW U).1;have hc:l.pre.holds [] {args:=args}=true:=(pre_splitW U).2;erw[hasAllW_cons ad,d,r,rfl,h1,h2];obtain rfl:=hasAllW_nil h2;erw[hasW_list h1,xs,rfl,h3];erw[items_int h3,ns,rfl];have Z:↑ns<=n:=by
  unfold OpenLaw.pre at hc;have h4:(WTm.not (.lt (.lit (.int (n:Int))) (.len (.arg 0)))).holds [] {args:= [.list (ns.map .int)]}=true:=by
   have h4:=(holds_andW hc).1;rwa[hn] at h4
  have h5:=condW_of h4 (w_not (w_lt w_lit (w_len_list (w_arg rfl))));rw[uc] at h5;refine Nat.le_of_not_lt λq=>?_;have q':(n:Int)<((↑ns:Nat):Int):=by omega
  first
   |(rw[uj q'] at h5;exact A8 h5 ())
   |(simp at h5;omega)
 cases ac with
 |cons w1 w2=>
  cases w2;cases w1 with
  |list ho aa=>exact⟨_,_,ns,1,1,ho,wz ns _ aa,Z⟩
def DV (l:OpenLaw)(args:om WData):l.row.toRowW.claim.post args (.bool v_) args=true:=
 postW_of (r:=l.row.toRowW) (X:=(v_==v_))
  (show WShape.has [] (.bool v_) .bool=v_ by first|rfl|decide|simp[WShape.has,WShape.arms,WShape.armsAll])
  (show(WTm.eq .res (.lit (.bool v_))).value [] {args:=args,res:=u_ (.bool v_),after:=args}=u_ (.bool (v_==v_)) from w_eq_bool (w_res rfl) w_lit) rfl
def attach_call {l:OpenLaw}{n:Nat}{q:og}{O:om Str}{XP:(Str->oq o6)->o9->Prop}{YP:oh->o9->Prop}{d:DefRec}
  (hn:l.most=u_ n) (ad:d.params.defaults= [])
  (call:∀(w:oh) (s₀ U:o7) (mg mb:Str->oq o6) (fa:o3) (o:Obj) (pm cd doc:o6) (a:o3) (vs:om o6) (ns:om Int),
   Ground q O [] XP w s₀ mg mb U.heap->YP w U.heap->
   U.heap.get? fa=u_ o->o.data= .func (docDef d.name d.params d.body d.scope pm cd doc)->U.heap.CodeRec cd d.name->mg d.name=u_ (-fa)->
   U.heap.get? a=u_ {cls:= .type "list",data:= .seq vs.toArray}->GH vs ns->↑ns<=n->U.gens= #[]->
   VJ (Vs l.prog w) Gu (.call (-fa) [[-a]:[]]) (λr s'=>r= .ok (.ret (.bool v_))/\OldK U.heap s'.heap/\s'.os=U.os/\VX s'.gens) U):
  WalkO q O XP YP l.row.toRowW d [] (λf vs=>PySem.call f vs):=by
 intro w s₀ U mg mb G Y fa o pm cd doc dV kV ho hd ae hD af hg args ag as hpre hlay hrd hwl hlo;obtain rfl:dV= .none:=Dflts.none hD ad;obtain rfl:kV= .none:=Dflts.noKw hD;erw[DJ hn hpre hwl,a,vs,ns,rfl,rfl,aa,Z,ac];refine enter_call (UA (call w s₀ U mg mb fa o pm cd doc a vs ns G Y ho (fd_plain hd) ae af aa Z ac hg) λr s' hq=>?_);erw[hq,rfl,h2,h3,h4];exact⟨.inl ⟨.bool v_,.bool v_,[],1,λ_=>rfl,.bool v_,DV l _,λ_=>[Fm:λ_ hm=>(nomatch hm)]⟩,h2,h3,h4⟩
end Att
namespace L2
open PySem PySem.Spec PyProof.Rows
def nK:∀{vs:om o6}{ns:om Int},GH vs ns->iq (ns.map V.int) vs
 |_,_,.nil=> .nil
 |_,_,.cons n t h=> .cons [t:1] (nK h)
abbrev AcA (H:Hp):Prop:=∀b,H b=U_\/∃o xs,H b=u_ (.frz o (.lst xs))
def Mg {P:og}{w:oh}{K:o0}{mg mb:Str->oq o6}{CX:CXT}{k:Nat}{fa a:o3}{fd:Ve}{x:Str}{sp:Sp}{O:o7}{vs:om o6}{ns:om Int}
  (KX:K.In O.heap) (ae:O.heap.Ns Vz mg) (Z:O.heap.Ns F0 mb) (am:∀x:Str,x≠"__name__"->mb x=GC x) (af:O.heap.NoLimit) (hg:O.gens= #[])
  (ha:O.heap.get? a=u_ {cls:= .type "list",data:= .seq vs.toArray}) (hi:GH vs ns) (hl:↑ns<=Vg) (hr:mr k Gu)
  (F:∀base:o9,K.In base->base.Ns Vz mg->FnOk P w K mg base CX k fa fd [x] sp) (ad:∀(s:o7) (u:o6),GK s fd [[u]:[]] [(x,u)])
  (ag:fd.scope.names.lookup x=u_ .local) (ao:∀H:Hp,AcA H->SqL K H a (ns.map V.int)->sp [-a] H (λv _=>v= .bl v_) λ_ _ _=>False)
  (ap:∀H e s',CX [] H O (λ_ _ _=>False) e s'->False):
  VJ (Vs P w) Gu (.call (-fa) [[-a]:[]]) (λr s'=>r= .ok (.ret (.bool v_))/\OldK O.heap s'.heap/\s'.os=O.os/\VX s'.gens) O:=by
 have rv:=nK hi;have ah:=↑hi;have ac:∀H:Hp,AcA H->SqL K H a (ns.map V.int)->HOk P w H O.heap->(∀b,H b≠U_->b=a)->(H a≠U_->K.lookup a=U_)->
   VJ (Vs P w) Gu (.call (-fa) [[-a]:[]]) (λr s'=>r= .ok (.ret (.bool v_))/\OldK O.heap s'.heap/\s'.os=O.os/\VX s'.gens) O:=by
  intro H hO hS hok hA hK;have U:∀{b:o3}{o:Obj},O.heap.get? b=u_ o->H b=U_->(Mo O.heap H).get? b=u_ o:=λe n=>Mn e n;have aq:∀{b:o3}{o:Obj}{es:Array GG}{ep:Nat},O.heap.get? b=u_ o->o.data= .dict es ep->H b=none:=λ{b o es ep} e d=>by
   cases q:H b with
   |none=>rfl
   |some u=>
    have e':b=a:=hA b (by rw[q];simp)
    subst e';rw[ha] at e;cases e;have d':Data.seq vs.toArray _=Data.dict es ep:=d;cases d'
  have aa:∀{b:o3}{m:Str->oq o6},O.heap.Ns b m->(Mo O.heap H).Ns b m:=λ{b m} ⟨o,es,ep,e,d,r⟩=>⟨o,es,ep,U e (aq e d),d,r⟩;have ak:K.In (Mo O.heap H):=λb o e=>U (KX b o e) (by
   cases q:H b with
   |none=>rfl
   |some u=>
    have e':b=a:=hA b (by rw[q];simp)
    subst e';rw[hK (by rw[q];simp)] at e;cases e)
  have hM:Mod K mg (Mo O.heap H):=⟨ak,aa ae,[mb:aa Z:am],let⟨mc,h1,h2⟩:=af;[mc:aa h1:h2]⟩;have e0:Tm P w K mg (Mo O.heap H) Gu [] O H:=⟨1,hM,λb o e=>PX e,TQ (EV _ _),trivial,λb Z=>A8 (show b>([]:om o3) from Z) (by simp),hok,.of_eq hg⟩
  refine UA ((F _ ak (aa ae)).run Gu [] O H [[-a]:[]] [-a] [-a] _ _ hr e0 (ad O (-a)) (.cons rfl .nil) (ao H hO hS) (.inr [_:0:ag])) λr s' h=>?_;cases r with
  |error e=>exact(ap H e s' h).elim
  |ok fl=>
   cases fl with
   |next=>exact Vw h
   |brk=>exact Vw h
   |cont=>exact Vw h
   |ret u=>
    erw[h,v,H',os,bare,htk,un,al,r',q];have q':v= .bl true:=q;subst q';obtain rfl:u=GW true:=r';exists 1,OldK.of_keep λb o e=>?_,os,bare;cases q:H b with
    |none=>exact un.keep b o e q (by intro z;exact A8 (show b>([]:om o3) from z) (by simp)) (by simp)
    |some u=>
     rcases hO b with z|⟨ob,xs,z⟩
     .rw[q] at z;cases z
     .have z2:=un.frzs b ob _ z;erw[hok b _ z,e1,_];erw[al b _ z2,e2,_];rw[e] at e1;cases e1;exact e2
 cases hk:K.lookup a with
 |some o=>
  have e:=KX a o hk;rw[ha] at e;cases e;refine ac (λ_=>U_) (λ_=> .inl rfl) (.inr ⟨_,vs.toArray,_,hk,1,1,1,by rwa[uB,ah],by simpa using rv⟩) (λb u z=>by have z':(U_:oq HO)=u_ u:=z;cases z') (λb z=>A8 rfl z) λz=>A8 rfl z
 |none=>
  refine ac (λb=>if b=a then u_ (.frz {cls:= .type "list",data:= .seq vs.toArray} (.lst (ns.map V.int))) else U_) (λb=>?_) (.inl (.inr [{cls:= .type "list",data:= .seq vs.toArray}:A6 rfl])) (λb u z=>?_) (λb z=>?_) λ_=>hk
  .by_cases Z:b=a
   .exact .inr [_:_:A6 Z]
   .exact .inl (A4 Z)
  .by_cases Z:b=a
   .have z':=(A6 Z).symm.trans z;cases z';subst Z;exact⟨ha,by rwa[uc],vs,_,rv,ha⟩
   .have z':=(A4 Z).symm.trans z;cases z'
  .by_cases Z:b=a
   .exact Z
   .exact A8 (A4 Z) z
nonrec abbrev KOf {K:o0}{h:o9}(_:K.In h):o0:=K
def NT {l:PySem.W.OpenLaw}{n k:Nat}{q:og}{U:om Str}{XP:(Str->oq o6)->o9->Prop}{YP:oh->o9->Prop}{d:DefRec}{K:HI->o0}{CX:oh->CXT}{sp:oh->Sp}{x:Str}
  (hn:l.most=u_ n) (ad:n<=Vg) (ae:d.params.defaults= []) (hr:mr k Gu)
  (hY:∀(w:oh) (h:o9),YP w h->(K w.params).In h)
  (F:∀(w:oh) (mg:Str->oq o6) (fa:o3) (h:o9),(K w.params).In h->h.Ns Vz mg->mg d.name=u_ (-fa)->
   ∃fd:Ve,(∀(s:o7) (u:o6),GK s fd [[u]:[]] [(x,u)])/\fd.scope.names.lookup x=u_ .local/\
    ∀base:o9,(K w.params).In base->base.Ns Vz mg->FnOk l.prog w (K w.params) mg base (CX w) k fa fd [x] (sp w))
  (af:∀(w:oh) (H:Hp) (a:o3) (ns:om Int),↑ns<=n->AcA H->SqL (K w.params) H a (ns.map V.int)->sp w [-a] H (λv _=>v= .bl v_) λ_ _ _=>False)
  (ag:∀(w:oh) (H:Hp) (s:o7) (e:o6) (s':o7),CX w [] H s (λ_ _ _=>False) e s'->False):
  PySem.W.WalkO q U XP YP l.row.toRowW d [] (λf vs=>PySem.call f vs):=by
 refine Att.attach_call hn ae λw s₀ s₁ mg mb fa o pm cd doc a vs ns G Y ho hd ak ah aa Z O hg=>?_;have KX:=hY w _ Y;erw[F w mg fa _ KX G.T.g ah,fd,hb,ac,hF];exact Mg KX G.T.g G.T.b G.T.builtins G.T.nolimit hg aa Z (uY O ad) hr hF hb ac (λH hO hS=>af w H a ns O hO hS) λH e s'=>ag w H s₁ e s'
def IX {l:PySem.W.OpenLaw}{n k:Nat}{q:og}{O:om Str}{XP:(Str->oq o6)->o9->Prop}{YP:oh->o9->Prop}{d:DefRec}{K:HI->o0}{CX:CXT}{sp:o0->Sp}{x:Str}
  (hn:l.most=u_ n) (U:n<=Vg) (Z:d.params.defaults= []) (hr:mr k Gu)
  (hY:∀(w:oh) (h:o9),YP w h->(K w.params).In h)
  (F:∀(w:oh) (mg:Str->oq o6) (fa:o3) (h:o9),(K w.params).In h->h.Ns Vz mg->mg d.name=u_ (-fa)->
   ∃fd:Ve,(∀(s:o7) (u:o6),GK s fd [[u]:[]] [(x,u)])/\fd.scope.names.lookup x=u_ .local/\
    ∀base:o9,(K w.params).In base->base.Ns Vz mg->FnOk l.prog w (K w.params) mg base CX k fa fd [x] (sp (K w.params)))
  (aa:∀(K:o0) (H:Hp) (a:o3) (ns:om Int),↑ns<=n->AcA H->SqL K H a (ns.map V.int)->sp K [-a] H (λv _=>v= .bl v_) λ_ _ _=>False)
  (ac:∀(H:Hp) (s:o7) (e:o6) (s':o7),CX [] H s (λ_ _ _=>False) e s'->False):
  PySem.W.WalkO q O XP YP l.row.toRowW d [] (λf vs=>PySem.call f vs):=
 NT (K:=K) (CX:=λ_=>CX) (sp:=λw=>sp (K w.params)) hn U Z hr hY F (λw H a ns h1 h2 h3=>aa (K w.params) H a ns h1 h2 h3) λ_ H s e s'=>ac H s e s'
abbrev Qi (s:Stmt)(j:Nat):Stmt:=match s with
 | .ClassDef _ _ _ body _ _ _ _ _ _ _=>body.getD j (.Pass ⟨(0),(0),(0),(0)⟩)
 |_=> .Pass ⟨(0),(0),(0),(0)⟩
abbrev YQ (s:Stmt):Arguments:=match s with
 | .FunctionDef _ a _ _ _ _ _ _ _ _=>a
 |_=>{posonlyargs:= [],args:= [],vararg:=U_,kwonlyargs:= [],kw_defaults:= [],kwarg:=U_,defaults:= []}
abbrev y9 (s:Stmt):om Stmt:=match s with
 | .FunctionDef _ _ b _ _ _ _ _ _ _=>b
 |_=> []
abbrev qj (s:Stmt):Scope:=match s with
 | .FunctionDef _ _ _ _ _ _ sc _ _ _=>sc
 |_=>{kind:= .function,names:= [],isGenerator:=Vc,isCoroutine:=Vc}
nonrec abbrev CX0:CXT:=λ_ _ _ _ _ _=>False
nonrec abbrev E0:XK:=λ_ _ _=>False
variable {X:Cx}
def qy:XD CX0 X E0:=λ_ _ _ _ _ _ _ h=>h.elim
structure Fun (K:o0)(x qual:Str)(st:Stmt)(f:o3)(fd:Ve):Prop where
 ex:∃(oc:o6) (od:oq o3) (kV doc pm:o6) (an:oq o3) (cdv ct:o6) (osl:Array (oq o6)),
  fd=PySem.W.fnOf x qual (YQ st) (y9 st) (qj st) .none kV doc pm an cdv ct/\K.lookup f=u_ ⟨oc,od,.func fd,osl⟩/\PySem.W.codeIn K cdv qual=v_
 kp:PySem.W.keepIn K (-f)=v_
section
variable {P:og}{w:oh}{K:o0}{mg:Str->oq o6}{base:o9}
def Fun.ok {x qual:Str}{st:Stmt}{f:o3}{fd:Ve}{N ps:om Str}{k:Nat}{sp:Sp}(F:Fun K x qual st f fd)(S:qv N ps (qj st))(len:∀vs H Q E,sp vs H Q E->↑vs=↑ps)
  (O:∀(cdv:o6) (A:oj) (outer:om Env) (s:o7) (H:Hp) (vs:om V) (Q:VK) (E:XK),mr k (A.deeper (Vj qual (qj st) #[0,s] f cdv))->sp vs H Q E->
   ∃t,PSs (cxOf CX0 P w K mg base N qual (qj st) f cdv A outer s H E).nox (y9 st) t/\t {nx:=λ_ H'=>Q .non H',rt:=Q} (qab N vs) H):FnOk P w K mg base CX0 (k+1) f fd ps sp:=by
 erw[F.ex,oc,od,kV,doc,pm,an,cdv,ct,osl,rfl,lk,U];refine AbP lk U S len λA outer s H vs Q E hr Z=>?_;erw[O cdv A outer s H vs Q E hr Z,t,h,q];exact[t:h.nox:q]
def Fun.binds {x qual:Str}{st:Stmt}{f:o3}{fd:Ve}{ps:om Str}(F:Fun K x qual st f fd)
  (h:∀(kV doc pm:o6) (an:oq o3) (cdv ct:o6) (us:om o6),↑us=↑ps->Gx (PySem.W.fnOf x qual (YQ st) (y9 st) (qj st) .none kV doc pm an cdv ct) [us:[]]=pure (ps.zip us)):Xi K fd ps []:=by
 erw[F.ex,oc,od,kV,doc,pm,an,cdv,ct,osl,rfl,lk,O];exact .all (h kV doc pm an cdv ct)
def NE {x qual:Str}{st:Stmt}{f:o3}{oc:o6}{od an:oq o3}{osl:Array (oq o6)}{kV doc pm cdv ct:o6}(l:K.lookup f=u_ ⟨oc,od,.func (PySem.W.fnOf x qual (YQ st) (y9 st) (qj st) .none kV doc pm an cdv ct),osl⟩)
  (c:PySem.W.codeIn K cdv qual=v_) (k:PySem.W.keepIn K (-f)=v_):Fun K x qual st f (PySem.W.fnOf x qual (YQ st) (y9 st) (qj st) .none kV doc pm an cdv ct):=[⟨oc,od,kV,doc,pm,an,cdv,ct,osl,1,l,c⟩:k]
end
variable {A:oj}
def QZ {k:Nat}(O:mr k A):A.units+1<cLine:=UR (Nat.add_le_add_left (by decide:1<=64) _) O.units
variable {n:Nat}
def X5 (h:n<=1000):n<sizeLine:=UR h ()
section
variable {X:Cx}
def pv (i:Nat){x:Str}{pos:Pos}(U:X.N[i]? =u_ x:=by rfl)(Z:Vis X.env.scope x:=by first|exact GR rfl|exact Gk (GR rfl)|exact Gk (Gk rfl))(hd:(x==("__debug__":Str))=false:=by decide)
  (O:(x==("__classdict__":Str))=false:=by decide):PE X (.Name x pos) (Aap i):=Aa6 U Z hd O
def IE:jA X (.builtin "len") (λxs H Q=>∃a kvs,xs= [V.ref a]/\H a=u_ (.dK kvs)/\Q (.int ↑kvs) H):=by
 exists 2,xs,us,Q,I,r,h;erw[h,a,kvs,rfl,ha,q];erw[xH r,u,rfl,ru];cases ru;exact Adx I (.inl ha) λt s' O=>⟨.int ↑kvs,H,O,[t:1],q⟩
end
def iL {A B:Prop}(h:B):if Vc=v_ then A else B:=by
 rw[A4 ud];exact h
def ky {A B:Prop}(h:A):if v_=v_ then A else B:=by
 rw[A6 rfl];exact h
def lW {c A B:Prop}[Decidable c](h1:c->A)(h2:¬(c)->B):if c then A else B:=by
 by_cases h:c
 .rw[A6 h];exact h1 h
 .rw[A4 h];exact h2 h
abbrev ic (H H':Hp):Prop:=∀b o,H b=u_ o->H' b=u_ o
def ic.refl (H:Hp):ic H H:=λ_ _ h=>h
variable {H H1 H2:Hp}
def ic.trans (a:ic H H1)(b:ic H1 H2):ic H H2:=λc o h=>b c o (a c o h)
variable {H':Hp}
def ic.free (e:ic H H'){l:o3}(h:H' l=Option.none):H l=Option.none:=by
 cases q:H l with
 |none=>rfl
 |some o=>
  rw[e l o q] at h;cases h
section
variable {κ:Type}[DecidableEq κ]
variable {kvs:om (κ×V)}{v:V}
def NW {k:κ}(h:iO kvs k=u_ v):k>kvs.map (·.1):=by
 have q:(kvs.any λkv=>decide (kv.1=k))=true:=by
  rw[J2,h]
  all_goals rfl
 erw[List.any_eq_true.mp q,p,O,e];exact Ae.mpr [p:O:uA e]
def Ik {p:κ×V}{r:om (κ×V)}{k:κ}(e:p.1=k):JW (p::r) k=JW r k:=by
 unfold JW;rw[vV,A4 (by simp[e])]
def Il {p:κ×V}{r:om (κ×V)}{k:κ}(e:¬p.1=k):JW (p::r) k=p::JW r k:=by
 unfold JW;rw[vV,A6 (by simp[e])]
end
end L2
namespace L2
open PySem
inductive D where
 |non|bl (b:Bool)|int (i:Int)|str (z:Str)|lst|dct|tup (xs:List D)
abbrev QF (c:Nat):Bool:=decide (32<=c)&&decide (c<=126)&&decide (c≠37)
abbrev QA (z:Str):Bool:=decide (↑z<=300)&&z.cps.toList.all QF
mutual
noncomputable def iR:D->Bool
 | .str z=>QA z
 | .tup xs=>decide (↑xs<=40)&&goodL xs
 |_=>Vc
noncomputable def goodL:om D->Bool
 | []=>v_
 |x::r=>iR x&&goodL r
end
mutual
noncomputable def sz:D->Nat
 | .str z=>↑z+1
 | .tup xs=>1+szL xs
 |_=>0
noncomputable def szL:om D->Nat
 | []=>0
 |x::r=>sz x+szL r
end
mutual
noncomputable def dp:D->Nat
 | .str _=>1
 | .tup xs=>1+dpL xs
 |_=>0
noncomputable def dpL:om D->Nat
 | []=>0
 |x::r=>max (dp x) (dpL r)
end
mutual
noncomputable def nd:D->Nat
 | .tup xs=>1+ndL xs
 |_=>1
noncomputable def ndL:om D->Nat
 | []=>0
 |x::r=>nd x+ndL r
end
abbrev isT (d:D):Bool:=iR d&&decide (sz d<=600)&&decide (dp d<=12)
def zT:∀(xs ys:om D),szL (xs++ys)=szL xs+szL ys
 | [],ys=>by simp[szL]
 |x::r,ys=>by simp![Uk,szL,zT r ys];omega
def zX:∀(xs ys:om D),ndL (xs++ys)=ndL xs+ndL ys
 | [],ys=>by simp[ndL]
 |x::r,ys=>by simp![Uk,ndL,zX r ys];omega
def wj {k:Nat}:∀(xs:om D),dpL xs<=k↔∀x>xs,dp x<=k
 | []=>by simp[dpL]
 |x::r=>by
  have U:=wj (k:=k) r;have e:dpL (x::r)=max (dp x) (dpL r):=by simp![dpL]
  rw[e];constructor
  .intro h y O;rcases Aa.mp O with rfl|O
   .omega
   .exact U.mp () y O
  .intro h;have h1:=h x uh;have h2:=U.mpr λy O=>h y (ug _ O);omega
def AbW {d:D}(h:iR d=v_):1<=dp d:=by
 cases d<;>simp_all [iR,dp]
abbrev wOk (w:om (D×Nat)):Bool:=w.all λp=>iR p.1&&decide (p.2+dp p.1<=13)
abbrev wSz (w:om (D×Nat)):Nat:=szL (w.map (·.1))
abbrev G (w:om (D×Nat))(n:Nat):Bool:=wOk w&&decide (n+wSz w<=600)
def S6 (d:D):G [(d,1)] 0=isT d:=by
 simp![G,wOk,wSz,isT,vF,rf,uC,Ug,szL,U5,T0,Rh];have e:decide (1+dp d<=13)=decide (dp d<=12):=by
  rw[ve];omega
 rw[e];cases iR d<;>cases decide (sz d<=600)<;>cases decide (dp d<=12)<;>rfl
variable {n:Nat}
def AdN (h:n<=600):G [] n=true:=by simp[G,wOk,wSz,szL,h]
def sT (w:om (D×Nat))(d:D)(k n:Nat):G (w++ [(d,k)]) n=(wOk w&&(iR d&&decide (k+dp d<=13))&&decide (n+(wSz w+sz d)<=600)):=by
 simp![G,wOk,wSz,US,vF,rf,U5,uq,uC,Ug,zT,szL,Rh]
 rfl
def S7 {w:om (D×Nat)}{d:D}{k:Nat}(h:iR d=Vc):G (w++ [(d,k)]) n=false:=by
 rw[sT,h];simp
def NQ {w:om (D×Nat)}{d:D}{k:Nat}(h:12<k):G (w++ [(d,k)]) n=false:=by
 rw[sT];cases O:iR d with
 |false=>simp
 |true=>
  have:=AbW O;have e:decide (k+dp d<=13)=false:=um ()
  rw[e];simp
def Acs {w:om (D×Nat)}{d:D}{k:Nat}(h:600<n+sz d):G (w++ [(d,k)]) n=false:=by
 rw[sT];have e:decide (n+(wSz w+sz d)<=600)=false:=um ()
 rw[e];simp
def Acr {w:om (D×Nat)}{xs:om D}{k:Nat}(h:600<n+1):G (w++ [(¬xs,k)]) n=false:=Acs (by simp![sz];omega)
def NV (xs:om D)(k:Nat):wOk (xs.map λx=>(x,k+1))=(goodL xs&&xs.all λx=>decide (k+1+dp x<=13)):=by
 induction xs with
 |nil=>rfl
 |cons x r O=>
  simp![uC,wOk,vF,goodL] at O⊢;rw[O];cases iR x<;>cases decide (k+1+dp x<=13)<;>cases goodL r<;>simp
def NU (xs:om D)(k:Nat):wSz (xs.map λx=>(x,k+1))=szL xs:=by
 unfold wSz;rw[uP]
 congr 1
 induction xs with
 |nil=>rfl
 |cons x r O=>simp![uC,O];rfl
def AdL {w:om (D×Nat)}{xs:om D}{k:Nat}(U:↑xs<=40)(hk:k<=12):G (w++ [(¬xs,k)]) n=G (w++xs.map λx=>(x,k+1)) (n+1):=by
 rw[sT];unfold G;have Z:wOk (w++xs.map λx=>(x,k+1))=(wOk w&&wOk (xs.map λx=>(x,k+1))):=by unfold wOk;rw[US]
 have e2:wSz (w++xs.map λx=>(x,k+1))=wSz w+szL xs:=by
  have:=NU xs k;unfold wSz at this⊢;rw[uq,zT,this]
 have e3:decide (k+dp (¬xs)<=13)=xs.all λx=>decide (k+1+dp x<=13):=by
  have q:=wj (k:=12-k) xs;have e0:dp (¬xs)=1+dpL xs:=by simp![dp]
  rw[e0,vR];constructor
  .intro h;have h:=uA h;refine List.all_eq_true.mpr λx O=>uj ?_;have h2:=q.mp () x O
   omega
  .intro h;refine uj ?_;have h2:=q.mpr λx O=>by
    have h3:=uA (List.all_eq_true.mp h x O);omega
   omega
 rw[Z,e2,e3,NV];have e4:iR (¬xs)=goodL xs:=by simp![iR,uj U,Tq]
 have e5:decide (n+(wSz w+sz (¬xs))<=600)=decide (n+1+(wSz w+szL xs)<=600):=by
  rw[ve];simp![sz];omega
 rw[e4,e5]
variable {z:Str}
def AdM {w:om (D×Nat)}{k:Nat}(O:QA z=v_)(hk:k<=12):G (w++ [(!z,k)]) n=G w (n+(1+↑z)):=by
 rw[sT];unfold G;have U:iR (!z)=true:=by simp![iR,O]
 have e3:decide (k+dp (!z)<=13)=true:=uj (by simp![dp];omega)
 have Z:decide (n+(wSz w+sz (!z))<=600)=decide (n+(1+↑z)+wSz w<=600):=by
  rw[ve];simp![sz];omega
 rw[U,e3,Z];simp
end L2
namespace AwZ
open PySem PyProof.Rows
open PySem.AutoSeq1 (wpAny_loadPart')
section
variable {prog:og}{w:oh}{A:oj}{E:o6->o7->Prop}{s:o7}
def Aao {j t:o3}{i:Nat}{its:Array o6}{x:o6}{Q:o6->o7->Prop}(U:s.heap.IsTupleIter j t i)(gt:s.heap.IsTuple t its)(gx:its[i]? =u_ x)
  (q:∀h2,h2.IsTupleIter j t (i+1)->VT j s.heap h2->Q x {s with heap:=h2}):Vd #[w,w] A (GE (-j)) Q E s:=by
 erw[id U,u,O,cu,du];erw[gt,ut,Z,_,nt,aa];unfold GE;refine A7 (vn (name:=Gq "__next__") U.typeIs U0
  (vE U0 U.typeIs F.entry_tuple_iterator_next ?_ (F.args_tuple_iterator_next_1 _)))
 show Vd _ _ (VM (-j) 0>>=_) _ _ s;refine A7 (vi O du (x:=-t) rfl ?_);show Vd _ _ (if(Vi t==Ge)=v_ then _ else _) _ _ s
 rw[A4 (show¬(Vi t==Ge)=v_ from ud)]
 show Vd _ _ (VM (-j) 1>>=_) _ _ s;refine A7 (vi O du (x:= .int i 0) rfl ?_);show Vd _ _ (tH (-t)>>=_) _ _ s;refine A7 (Uo Z aa ?_);simp![Tz,gx];refine A7 (Ry O du (by simp) (uD [x:1:uD (q _ ?_ (Fc ..))]))
 exact⟨_,Tu _ O (Obj.isFreed_of_fields (rQ du _)),(Obj.cls_mapFields ..).trans cu,by rw[rQ du];simp[VG]⟩
def nO {j t:o3}{i:Nat}{its:Array o6}{Q:o6->o7->Prop}(hh:A.handled=U_)(O:s.heap.IsTupleIter j t i)(gt:s.heap.IsTuple t its)(gx:its[i]? =U_)
  (q:∀h2 e,FS j s.heap h2->(∃u,h2.get? e=u_ u/\u.cls= .type "StopIteration")->E (-e) {s with heap:=h2}):Vd #[w,w] A (GE (-j)) Q E s:=by
 erw[id O,u,U,cu,du];erw[gt,ut,Z,_,nt,aa];unfold GE;refine A7 (vn (name:=Gq "__next__") O.typeIs U0
  (vE U0 O.typeIs F.entry_tuple_iterator_next ?_ (F.args_tuple_iterator_next_1 _)))
 show Vd _ _ (VM (-j) 0>>=_) _ _ s;refine A7 (vi U du (x:=-t) rfl ?_);show Vd _ _ (if(Vi t==Ge)=v_ then _ else _) _ _ s
 rw[A4 (show¬(Vi t==Ge)=v_ from ud)]
 show Vd _ _ (VM (-j) 1>>=_) _ _ s;refine A7 (vi U du (x:= .int i 0) rfl ?_);show Vd _ _ (tH (-t)>>=_) _ _ s;refine A7 (Uo Z aa ?_);simp![Tz,gx];refine A7 (UL (A7 (Ry U du (by simp) ?_)))
 show Vd _ _ (newExc (.type "StopIteration") []>>=_) _ _ _;refine A7 ?_;simp![newExc,tZ];refine A7 (vB ?_ (by size_fits))
 refine A7 (m:=tS _ _) (HB (a:=Ge) (by first|rfl|(simp![tS];rfl)) ?_)
 refine vB ?_ (by size_fits)
 simp![raiseNew];refine A7 (wpAny_handled ?_)
 first|rw[show A.in1.handled=U_ from hh]|rw[hh]
 refine A7 (uD (Rq ?_));exact q _ _ (((Fc ..).extBut.push _).push _) [_:uH _ rfl:1]
structure Apt (z p r i j a b:o3):Prop where
 pz:p≠z
 rz:r≠z
 iz:i≠z
 jz:j≠z
 pr:p≠r
 pi:p≠i
 pj:p≠j
 ri:r≠i
 rj:r≠j
 ij:i≠j
 az:a≠z
 ar:a≠r
 ai:a≠i
 aj:a≠j
 bz:b≠z
 br:b≠r
 bi:b≠i
 bj:b≠j
def AcC {z p r i j a b:o3}{k:Nat}{xs ys:Array o6}{x y u v:o6}{Q:o6->o7->Prop}(D:Apt z p r i j a b)
  (hz:VD s.heap z p r .none) (hp:Vt s.heap p (-i) (-j)) (hr:Vt s.heap r u v)
  (hi:s.heap.IsTupleIter i a k) (hj:s.heap.IsListIter j b k) (ha:s.heap.IsTuple a xs) (hb:s.heap.IsList b ys) (hx:xs[k]? =u_ x) (hy:ys[k]? =u_ y)
  (q:∀h2,VD h2 z p r (VG #[0,s])->Vt h2 r x y->h2.IsTupleIter i a (k+1)->h2.IsListIter j b (k+1)->Vt h2 #[0,s] x y->h2.objs.size=#[0,s]+1->
   (∀c o,c≠z->c≠r->c≠i->c≠j->s.heap.get? c=u_ o->h2.get? c=u_ o)->Q (.ref #[0,s]) {s with heap:=h2}):
  Vd #[w,w] A (VR.«zip.__next__» [[-z]:[]]) (λfin t=>∃v,fin= .done (.ret v)/\Q v t) E s:=by
 show Vd _ _ (VM (-z) 2>>=_) _ _ _;refine A7 (vi hz rfl (x:= .bool Vc) rfl ?_);show Vd _ _ (VM (-z) 3>>=_) _ _ _;refine A7 (vi hz rfl (x:=-p) rfl ?_);refine A7 (Uo hp rfl ?_);show Vd _ _ (GS (-z)>>=_) _ _ s;refine A7 ?_;unfold GS;refine A7 (vi hz rfl (x:= .none) rfl (uD ?_));simp![Vb];refine A7 (UL ?_);refine A7 (vi hz rfl (x:=-r) rfl ?_);refine A7 (vv hz (by simp) λh1 z1 s1=>?_)
 replace z1:VD h1 z p r .ellipsis:=z1
 refine A7 ?_;simp![RS,Rb,UB,FA];refine A7 (A7 (Tp ?_));show Vd _ _ (GE (-i)>>=_) _ _ _;refine A7 (Aao (hi.extBut s1.extBut D.iz) (ha.extBut s1.extBut D.az) hx λh2 i2 s2=>uD ?_);have r2:Vt h2 r u v:=s2.extBut _ _ D.ri (s1.extBut _ _ D.rz hr);refine A7 (Uo r2 rfl ?_);refine A7 (FW r2 λh3 r3 U=>?_)
 replace r3:Vt h3 r x v:=r3
 refine A7 (f_ (uD ?_));refine A7 (A7 (Tp ?_));show Vd _ _ (GE (-j)>>=_) _ _ _;refine A7 (wpAny_nextOf_list_item (((hj.extBut s1.extBut D.jz).extBut s2.extBut D.ij.symm).extBut U.extBut D.rj.symm)
  (((hb.extBut s1.extBut D.bz).extBut s2.extBut D.bi).extBut U.extBut D.br) hy λh4 j4 Z=>uD ?_)
 have r4:Vt h4 r x v:=Z.extBut _ _ D.rj r3;refine A7 (Uo r4 rfl ?_);refine A7 (FW r4 λh5 r5 s5=>?_)
 replace r5:Vt h5 r x y:=r5
 refine A7 (f_ (uD (uD ?_)));refine A7 (Uo r5 rfl ?_);refine A7 (RH ?_);have sz:h5.objs.size=#[0,s]:=by rw[s5.1,Z.1,U.1,s2.1,s1.1]
 have z5:VD h5 z p r .ellipsis:=s5.extBut _ _ D.rz.symm (Z.extBut _ _ D.jz.symm (U.extBut _ _ D.rz.symm (s2.extBut _ _ D.iz.symm z1)));have k5:∀c o,c≠z->c≠r->c≠i->c≠j->s.heap.get? c=u_ o->h5.get? c=u_ o:=λc o O c2 c3 c4 e=>
  s5.extBut _ _ c2 (Z.extBut _ _ c4 (U.extBut _ _ c2 (s2.extBut _ _ c3 (s1.extBut _ _ O e))))
 have i5:h5.IsTupleIter i a (k+1):=((i2.extBut U.extBut D.ri.symm).extBut Z.extBut D.ij).extBut s5.extBut D.ri.symm;have j5:h5.IsListIter j b (k+1):=j4.extBut s5.extBut D.rj.symm;have aa:z<h5.objs.size:=uJ z5;show Vd _ _ (HN (-z) (-h5.objs.size)>>=_) _ _ _;refine A7 ?_;unfold HN;have z6:VD (h5.push {cls:= .type "tuple",data:= .seq #[x,y]}) z p r .ellipsis:=uf _ z5;refine A7 (vv z6 (by simp) λh7 z7 s7=>?_)
 replace z7:VD h7 z p r (VG h5.objs.size):=z7
 refine vv z7 (by simp) λh8 z8 s8=>?_
 replace z8:VD h8 z p r (VG h5.objs.size):=z8
 have up:∀c o,c≠z->h5.get? c=u_ o->h8.get? c=u_ o:=λc o O e=>s8.extBut _ _ O (s7.extBut _ _ O (uf _ e));have t8:Vt h8 h5.objs.size x y:=s8.extBut _ _ (U2 aa) (s7.extBut _ _ (U2 aa) (uH _ rfl));have n8:h8.objs.size=h5.objs.size+1:=by rw[s8.1,s7.1,vq]
 rw[sz] at z8 t8 n8;refine uD [0:?_];show Q (-h5.objs.size) _;rw[sz];exact q h8 z8 (up _ _ D.rz r5) (by erw[i5,o,e,g];exact[o:up _ o D.iz e:g]) (j5.at λo e=>up _ o D.jz e) t8 n8 λc o O c2 c3 c4 e=>up c o O (k5 c o O c2 c3 c4 e)
def zip_go {z p r i j a b:o3}{k:Nat}{xs ys:Array o6}{x y u v:o6}{Q:oq o6->o7->Prop}(D:Apt z p r i j a b)
  (hz:VD s.heap z p r .none) (U:Vt s.heap p (-i) (-j)) (Z:Vt s.heap r u v)
  (hi:s.heap.IsTupleIter i a k) (hj:s.heap.IsListIter j b k) (ha:s.heap.IsTuple a xs) (hb:s.heap.IsList b ys) (hx:xs[k]? =u_ x) (hy:ys[k]? =u_ y)
  (q:∀h2,VD h2 z p r (VG #[0,s])->Vt h2 r x y->h2.IsTupleIter i a (k+1)->h2.IsListIter j b (k+1)->Vt h2 #[0,s] x y->h2.objs.size=#[0,s]+1->
   (∀c o,c≠z->c≠r->c≠i->c≠j->s.heap.get? c=u_ o->h2.get? c=u_ o)->Q (u_ (.ref #[0,s])) {s with heap:=h2}):
  Vd #[w,w] A (VF (-z)) Q E s:=by
 have O:s.TypeIs (-z) "zip":=[_:hz:1];unfold VF;exact A7 (UT (vn (name:=Gq "__next__") O F.slot_zip_next
  (vE F.slot_zip_next O F.entry_zip_next (AcC D hz U Z hi hj ha hb hx hy λh2 b1 b2 b3 b4 b5 b6 b7=>uD (q h2 b1 b2 b3 b4 b5 b6 b7)) (F.args_zip_next_1 _))))
def zip_stop {z p r i j a b:o3}{k:Nat}{xs:Array o6}{Q:oq o6->o7->Prop}(hh:A.handled=U_)(D:Apt z p r i j a b)
  (hz:VD s.heap z p r .none) (hp:Vt s.heap p (-i) (-j)) (hi:s.heap.IsTupleIter i a k) (ha:s.heap.IsTuple a xs) (hx:xs[k]? =U_)
  (q:∀h2,(∀c o,c≠z->c≠r->c≠i->c≠j->s.heap.get? c=u_ o->h2.get? c=u_ o)->Q U_ {s with heap:=h2}):Vd #[w,w] A (VF (-z)) Q E s:=by
 have Z:s.TypeIs (-z) "zip":=[_:hz:1];unfold VF;refine A7 (UT (vn (name:=Gq "__next__") Z F.slot_zip_next
  (vE F.slot_zip_next Z F.entry_zip_next ?_ (F.args_zip_next_1 _))))
 show Vd _ _ (VM (-z) 2>>=_) _ _ _;refine A7 (vi hz rfl (x:= .bool Vc) rfl ?_);show Vd _ _ (VM (-z) 3>>=_) _ _ _;refine A7 (vi hz rfl (x:=-p) rfl ?_);refine A7 (Uo hp rfl ?_);show Vd _ _ (GS (-z)>>=_) _ _ s;refine A7 ?_;unfold GS;refine A7 (vi hz rfl (x:= .none) rfl (uD ?_));simp![Vb];refine A7 (UL ?_);refine A7 (vi hz rfl (x:=-r) rfl ?_);refine A7 (vv hz (by simp) λh1 O s1=>?_)
 replace O:VD h1 z p r .ellipsis:=O
 refine A7 ?_;simp![RS,Rb,UB,FA];refine A7 (A7 (Tp ?_));show Vd _ _ (GE (-i)>>=_) _ _ _;refine A7 (nO hh (hi.extBut s1.extBut D.iz) (ha.extBut s1.extBut D.az) hx λh2 e s2 he=>?_);erw[he,oe,U,ce];have z2:VD h2 z p r .ellipsis:=s2 _ _ D.iz.symm O;have ez:e≠z:=λx=>by subst x;rw[z2] at U;cases U;simp at ce
 refine vv z2 (by simp) λh3 _ s3=>?_
 refine A7 (UJ (T:="StopIteration") (b:=v_) [oe:s3.extBut _ _ ez U:ce] RV ?_);exact uD (q _ λc o c1 _ c3 _ x=>s3.extBut _ _ c1 (s2 _ _ c3 (s1.extBut _ _ c1 x)))
nonrec abbrev q1 (h:o9)(a:o3):o9:=h.push {cls:= .type "tuple_iterator",data:= .fields #[-a,.int 0 0]}
nonrec abbrev q2 (h:o9)(a b:o3):o9:=(q1 h a).push {cls:= .type "list_iterator",data:= .fields #[-b,.int 0 0]}
nonrec abbrev q3 (h:o9)(a b:o3):o9:=(q2 h a b).push {cls:= .type "tuple",data:= .seq #[-h.objs.size,.ref (q1 h a).objs.size]}
nonrec abbrev q4 (h:o9)(a b:o3):o9:=(q3 h a b).push {cls:= .type "tuple",data:= .seq #[.none,.none]}
nonrec abbrev q5 (h:o9)(a b:o3):o9:=(q4 h a b).push {cls:= .type "zip",data:= .fields #[.none,.bool Vc,.bool Vc,.ref (q2 h a b).objs.size,.ref (q3 h a b).objs.size]}
def IT (a b:o3)(xs ys:Array o6):GT (VR.«zip.__new__» [[.type "zip",-a,-b]:[]]) (λ_ R s=>s.heap.IsTuple a xs/\s.heap.IsList b ys/\R (.ok (.ret (.ref (q4 s.heap a b).objs.size))) {s with heap:=q5 s.heap a b}):=
 .of_wp λprog w A R s h=>by
  erw[s,O,g,d,tk,os];erw[h,ha,U,h];have sub:=sub_zip;have h1:R6 (tE ⟨O,g,d,tk,os⟩) a xs:=ha;have h2:Heap.IsList (tE ⟨O.push {cls:= .type "tuple_iterator",data:= .fields #[-a,.int 0 0]},g,d,tk,os⟩) b ys:=pC U _
  wp_walk using U3 h1,UZ h2
  exact[0:h]
def zip_call {a b:o3}{xs ys:Array o6}{Q:o6->o7->Prop}(ha:s.heap.IsTuple a xs)(hb:s.heap.IsList b ys)
  (h:∀h2,VD h2 (#[0,s]+4) (#[0,s]+2) (#[0,s]+3) .none->Vt h2 (#[0,s]+2) (.ref #[0,s]) (.ref (#[0,s]+1))->
   Vt h2 (#[0,s]+3) .none .none->h2.IsTupleIter #[0,s] a 0->h2.IsListIter (#[0,s]+1) b 0->h2.objs.size=#[0,s]+5->
   (∀c o,s.heap.get? c=u_ o->h2.get? c=u_ o)->Q (.ref (#[0,s]+4)) {s with heap:=h2}):Vd #[w,w] A (call (.type "zip") [-a,-b]) Q E s:=by
 refine callType_new F.called_zip () (F.typeCall_zip_2 _ _) (F.newCall_zip_2 _ _) (λobj=>F.args_object_init_3 obj _ _) F.entry_zip_new (IT a b xs ys) [ha:hb:?_]
 have O:(q1 s.heap a).objs.size=#[0,s]+1:=vq ..;have U:(q2 s.heap a b).objs.size=#[0,s]+2:=by rw[vq,O]
 have Z:(q3 s.heap a b).objs.size=#[0,s]+3:=by rw[vq,U]
 have z4:(q4 s.heap a b).objs.size=#[0,s]+4:=by rw[vq,Z]
 have z5:(q5 s.heap a b).objs.size=#[0,s]+5:=by rw[vq,z4]
 have g5:(q5 s.heap a b).get? (q4 s.heap a b).objs.size=u_ _:=uH _ rfl;have g4:(q5 s.heap a b).get? (q3 s.heap a b).objs.size=u_ _:=uf _ (uH _ rfl);have g3:(q5 s.heap a b).get? (q2 s.heap a b).objs.size=u_ _:=uf _ (uf _ (uH _ rfl));have g2:(q5 s.heap a b).get? (q1 s.heap a).objs.size=u_ _:=uf _ (uf _ (uf _ (uH _ rfl)));have g1:(q5 s.heap a b).get? #[0,s]=u_ _:=uf _ (uf _ (uf _ (uf _ (uH _ rfl))));show _/\_;rw[U,Z,z4] at g5;rw[O,U] at g3;rw[Z] at g4;rw[O] at g2;rw[z4];exact[[_:g5:1]:h _ g5 g3 g4 ⟨_,g1,1,1⟩ ⟨_,g2,1,1⟩ z5 λc o x=>uf _ (uf _ (uf _ (uf _ (uf _ x))))]
def Adt {e j t:o3}{i:Nat}{c:Int}{its:Array o6}{x O:o6}{Q:o6->o7->Prop}(he:VY s.heap e j c O)(gj:s.heap.IsTupleIter j t i)(gt:s.heap.IsTuple t its)(gx:its[i]? =u_ x)(ej:e≠j)
  (q:∀h2,Hy h2 e j (c+1) x #[0,s]->h2.IsTupleIter j t (i+1)->h2.get? #[0,s]=u_ {cls:= .type "tuple",data:= .seq #[.int c s.toks,x]}->h2.objs.size=#[0,s]+1->
   (∀b o,b≠e->b≠j->s.heap.get? b=u_ o->h2.get? b=u_ o)->Q (.ref #[0,s]) {s with heap:=h2,toks:=s.toks+1}):
  Vd #[w,w] A (VR.«enumerate.__next__» [[-e]:[]]) (λfin t=>∃v,fin= .done (.ret v)/\Q v t) E s:=by
 erw[s,U,g,d,tk,os];show Vd _ _ (VM (-e) 2>>=_) _ _ _;refine A7 (vi he rfl (x:=-j) rfl ?_);refine A7 (Aao gj gt gx λh1 j1 s1=>?_)
 replace s1:VT j U h1:=s1
 have e1:VY h1 e j c O:=(s1.2 e ej).trans he;show Vd _ _ (VM (-e) 3>>=_) _ _ ⟨h1,g,d,tk,os⟩;refine A7 (vi e1 rfl (x:=VG c) rfl ?_);show Vd _ _ (VM (-e) 4>>=_) _ _ ⟨h1,g,d,tk,os⟩;refine A7 (vi e1 rfl (x:= .none) rfl ?_);show Vd _ _ (mkInt c>>=_) _ _ ⟨h1,g,d,tk,os⟩;refine A7 (wpAny_mkInt ?_);show Vd _ _ (setField (-e) 3 (VG (c+1))>>=_) _ _ ⟨h1,g,d,tk+1,os⟩;refine A7 (vv e1 (by simp) λh2 e2 s2=>?_)
 replace s2:VT e h1 h2:=s2
 replace e2:VY h2 e j (c+1) O:=e2
 show Vd _ _ (setField (-e) 4 .none>>=_) _ _ ⟨h2,g,d,tk+1,os⟩;refine A7 (vv e2 (by simp) λh3 e3 Z=>?_)
 replace Z:VT e h2 h3:=Z
 replace e3:VY h3 e j (c+1) O:=e3
 show Vd _ _ (tZ [.int c tk,x]>>=_) _ _ ⟨h3,g,d,tk+1,os⟩;refine A7 (RH ?_);have e4:VY (h3.push {cls:= .type "tuple",data:= .seq #[.int c tk,x]}) e j (c+1) O:=uf _ e3;generalize hg:h3.push {cls:= .type "tuple",data:= .seq #[.int c tk,x]}=h4 at e4;have sz:h3.objs.size=U.objs.size:=by rw[Z.1,s2.1,s1.1]
 have el:e<U.objs.size:=uJ he;have t4:h4.get? U.objs.size=u_ {cls:= .type "tuple",data:= .seq #[.int c tk,x]}:=by rw[<-hg,<-sz];exact uH _ rfl
 have n4:h4.objs.size=U.objs.size+1:=by rw[<-hg,vq,sz]
 have k4:∀b o,b≠e->b≠j->U.get? b=u_ o->h4.get? b=u_ o:=λb o be bj y=>by
  rw[<-hg];exact uf _ (Z.extBut b o be (s2.extBut b o be (s1.extBut b o bj y)))
 have j4:h4.IsTupleIter j t (i+1):=by
  erw[j1,o,y,r];exact⟨o,by rw[<-hg];exact uf _ (Z.extBut j o (Ud ej) (s2.extBut j o (Ud ej) y)),r⟩
 show Vd _ _ (GS (-e)>>=_) _ _ ⟨h4,g,d,tk+1,os⟩;rw[sz];clear hg e3 Z e2 s2 e1 s1 j1 sz h3 h2 h1;refine A7 ?_;unfold GS;refine A7 (vi e4 rfl (x:= .none) rfl (uD ?_));simp![Vb];refine A7 (UL ?_);refine A7 (vi e4 rfl (x:=O) rfl ?_);refine A7 (vv e4 (by simp) λh5 e5 s5=>?_)
 replace s5:VT e h4 h5:=s5
 replace e5:VY h5 e j (c+1) x:=e5
 show Vd _ _ (HN (-e) (-U.objs.size)>>=_) _ _ ⟨h5,g,d,tk+1,os⟩;refine A7 ?_;unfold HN;refine A7 (vv e5 (by simp) λh6 e6 s6=>?_)
 replace s6:VT e h5 h6:=s6
 replace e6:Hy h6 e j (c+1) x U.objs.size:=e6
 refine vv e6 (by simp) λh7 e7 s7=>?_
 replace s7:VT e h6 h7:=s7
 replace e7:Hy h7 e j (c+1) x U.objs.size:=e7
 have up:∀b o,b≠e->h4.get? b=u_ o->h7.get? b=u_ o:=λb o be y=>s7.extBut b o be (s6.extBut b o be (s5.extBut b o be y));refine A7 (f_ (uD [0:q h7 e7 ?_ (up _ _ (U2 el) t4) ?_ λb o be bj y=>up b o be (k4 b o be bj y)]))
 .erw[j4,o,y,r];exact[o:up j o (Ud ej) y:r]
 .rw[s7.1,s6.1,s5.1,n4]
def enum_go {e j t:o3}{i:Nat}{c:Int}{its:Array o6}{x O:o6}{Q:oq o6->o7->Prop}(U:VY s.heap e j c O)(Z:s.heap.IsTupleIter j t i)(gt:s.heap.IsTuple t its)(gx:its[i]? =u_ x)(ej:e≠j)
  (q:∀h2,Hy h2 e j (c+1) x #[0,s]->h2.IsTupleIter j t (i+1)->h2.get? #[0,s]=u_ {cls:= .type "tuple",data:= .seq #[.int c s.toks,x]}->h2.objs.size=#[0,s]+1->
   (∀b o,b≠e->b≠j->s.heap.get? b=u_ o->h2.get? b=u_ o)->Q (u_ (.ref #[0,s])) {s with heap:=h2,toks:=s.toks+1}):Vd #[w,w] A (VF (-e)) Q E s:=by
 have te:s.TypeIs (-e) "enumerate":=[_:U:1];unfold VF;exact A7 (UT (vn (name:=Gq "__next__") te UC
  (vE UC te F.entry_enumerate_next (Adt U Z gt gx ej λh2 b1 b2 b3 b4 b5=>uD (q h2 b1 b2 b3 b4 b5)) (F.args_enumerate_next_1 _))))
def enum_stop {e j t:o3}{i:Nat}{c:Int}{its:Array o6}{O:o6}{Q:oq o6->o7->Prop}(Z:A.handled=U_)(U:VY s.heap e j c O)(gj:s.heap.IsTupleIter j t i)(gt:s.heap.IsTuple t its)(gx:its[i]? =U_)
  (q:∀h2,FS j s.heap h2->Q U_ {s with heap:=h2}):Vd #[w,w] A (VF (-e)) Q E s:=by
 have te:s.TypeIs (-e) "enumerate":=[_:U:1];unfold VF;refine A7 (UT (vn (name:=Gq "__next__") te UC
  (vE UC te F.entry_enumerate_next ?_ (F.args_enumerate_next_1 _))))
 show Vd _ _ (VM (-e) 2>>=_) _ _ _;refine A7 (vi U rfl (x:=-j) rfl ?_);refine A7 (nO Z gj gt gx λh2 y s2 hy=>?_);erw[hy,o,g,c];refine A7 (UJ (T:="StopIteration") (b:=v_) [o:g:c] RV ?_);exact uD (q _ s2)
def Aed (T:String)(args:om o6)(kw:om (Str×o6)):(Code.builtin "type.__call__" [.type T::args:kw]).weight=0:=rfl
def new_kw {T U:String}{Bn:VR}{args:om o6}{kw:om (Str×o6)}{S:PySem.Spec}{Q:o6->o7->Prop}(O:TypeCalled T U "object.__init__")
  (af:(u_ U !=u_ "object.__new__")=v_) (ag:FU T [args:kw]=pure Gr) (aa:TJ U [.type T::args:kw]=pure Gr)
  (hok:∀obj,argsOk "object.__init__" [obj::args:kw]) (en:TR table U=u_ Bn) (g:GT (Bn [.type T::args:kw]) S)
  (h:S A.in1 (wants (λobj s1=>s1.TypeIs obj T/\Q obj s1) E) s):Vd #[w,w] A (call (.type T) args kw) Q E s:=by
 erw[O.mro,c,tl,hm];have ac:=O.made;have ae:=O.sub;refine hV (RB ?_);show Vd _ _ (callAny (.type T) _) _ _ _;refine uD [Code.quiet_builtin _ ():tm F.entry_type_call ?_]
 rw[Around.under_plain (Aed T args kw) (units_type_call_type T args kw)];have g1:=O.notType;have g2:=O.canCreate
 repeat (any_goals (first|assumption|wp_step))
 refine UA (tJ O.plain en (HB aa (g prog w A.in1 _ s h))) λr s1 hr=>?_;cases r with
 |error e=>exact hr
 |ok fl=>
  cases fl with
  |ret obj=>
   erw[hr,hT,hq];have ah:=O.init.lookup;have ak:=O.init.bind obj
   repeat (any_goals (first|assumption|wp_step))
   have gi:GT (VR.«object.__init__» ⟨obj::args,kw⟩) (λ_ R s=>s.TypeIs obj T/\R (.ok (.ret .none)) s):=by
    refine Meets.of_wp λprog w A R s hs=>?_;erw[hs,hT,hq];cases hc:(!(args.isEmpty)|| !(kw.isEmpty)) with
    |false=>
     show Vd _ _ (if(!(args.isEmpty)|| !(kw.isEmpty))=v_ then _ else _) _ _ _
     rw[A4 (by rw[hc];exact ud)]
     exact uD [0:hq]
    |true=>
     repeat (any_goals (first|assumption|wp_step))
     exact[0:hq]
   refine UA (tJ O.init.plain F.entry_object_init (O.init.check _ _ _ _ _ _ _ _ hT (hok obj) (gi prog w A.in1 (wants (λr s2=>r= .none/\Q obj s2) E) s1 [hT:1:hq]))) λr2 s2 Z=>?_;cases r2 with
   |error e=>exact Z
   |ok ad=>
    cases ad with
    |ret r=>
     erw[Z,rfl,hq]
     repeat (any_goals (first|assumption|wp_step))
    |_=>exact Z.elim
  |_=>exact hr.elim
end
end AwZ
namespace L2
open PySem PySem.Spec PyProof.Rows
abbrev Its (x:Str):It:=⟨λi _=>i<x.cps.size,λi H v H'=>H'=H/\∃c,x.cps[i]? =u_ c/\v= .str ⟨#[c]⟩,λi _=>i=x.cps.size⟩
variable {w:oh}{K:o0}{tg:Expr}{x:Str}
def AY {P:og}{t:Tok}{it:o3}(ty:String)(O:ty="str_ascii_iterator"\/ty="str_iterator"):
  MI P w K tg (Its x) [it] it (λi h=>h.IsStrIter it ty x t i) where
 mem:=by simp
 obj:=λi h st b U=>by
  have e:b=it:=by simpa using U
  subst e;erw[st,o,e,c,d];exact⟨o,e,λv z=>by rw[d] at z;cases z⟩
 keep:=λi h h' st k=>by
  erw[st,o,e,r];exact⟨o,k it (by simp) o e,r⟩
 item:=by
  intro X hP hw hK Z i ot s σ H E I hf st hg;subst hP hw hK;obtain⟨f0,f1,f2,f3,f4,f5⟩:=hf it (by simp)
  have W:Walks X.prog X.w X.A it [it] [it] x.cps.size (SignAt x) (λi h=>h.IsStrIter it ty x t i):=by
   rcases O with rfl|rfl
   .exact RW (I.ok.hd Z) it x t
   .exact RE (I.ok.hd Z) it x t
  refine vh (n:=1) I.tk (W.item i s _ _ hg st λv h' tk hv aa kk=>?_);intro htk;erw[hv,c,u,hx,rfl];have I1:Inv X ot σ H {s with heap:=h',toks:=tk}:=I.turned (λb o U e=>kk b o (by simpa using U) e) f0 f1 f3 f4 f5
  erw[id aa,o,e,c',d];refine⟨0,EY (s:={s with heap:=h',toks:=tk}) e c' d (by rcases O with rfl|rfl<;>decide) ⟨.str ⟨#[c]⟩,H,I1,[u:1],⟨1,c,hx,1⟩,aa,λb U=>(hf b U).1⟩⟩
 done:=by
  intro X hP hw hK Z i ot s σ H E I hf st hg;subst hP hw hK;have ac:i=x.cps.size:=hg;subst ac;obtain⟨f0,f1,f2,f3,f4,f5⟩:=hf it (by simp)
  have W:Walks X.prog X.w X.A it [it] [it] x.cps.size (SignAt x) (λi h=>h.IsStrIter it ty x t i):=by
   rcases O with rfl|rfl
   .exact RW (I.ok.hd Z) it x t
   .exact RE (I.ok.hd Z) it x t
  exact vh (n:=1) I.tk (W.done s _ _ st λh' tk kk htk=>⟨1,I.turned (λb o U e=>kk b o (by simpa using U) e) f0 f1 f3 f4 f5⟩)
 self:=λ_ _ _ _ _ st h=>by
  rcases O with rfl|rfl
  .exact wpAny_pyIter_striter_ascii st h
  .exact wpAny_pyIter_striter_wide st h
section
variable {X:Cx}{tg:Expr}
inductive AdK (R:(It->Hp->Prop))(x:V)(H1:Hp):Prop
 |mk (z:_)(_:x= !z)(_:R (Its z) H1)
abbrev AeE (tl:TE):TI:=λσ H R=>tl σ H λx H1=>AdK R x H1
def Nd {l:Expr}{tl:TE}(U:PE X l tl):PI X tg l (AeE tl):=by
 exists 2,R,I,h;refine thn (U ot s σ H _ I h) λv s1 zq=>?_;erw[zq,x,H1,O,Z,q1];erw[q1,z,e,q];subst e;erw[Z,t,rfl];have fp:∀(o:Obj),∀b> [#[0,s1]],AW X ot H1 b:=λo b hb=>by
  have e:b=#[0,s1]:=by simpa using hb
  subst e;exact O.fpOk (ur _) (O.hok.fresh (ur _))
 cases ha:z.cps.all (·<128)
 .refine wpAny_pyIter_wide ha ?_;exact⟨#[0,s1],[#[0,s1]],_,_,H1,1,O.kept (t':=s1.toks) λb o e=>uf _ e,AY "str_iterator" (.inr rfl),⟨_,uH _ rfl,1,1⟩,fp default,q⟩
 .refine wpAny_pyIter_ascii ha ?_;exact⟨#[0,s1],[#[0,s1]],_,_,H1,1,O.kept (t':=s1.toks) λb o e=>uf _ e,AY "str_ascii_iterator" (.inl rfl),⟨_,uH _ rfl,1,1⟩,fp default,q⟩
inductive AdV (x:V)(lo:Option Int)(hi:Option Int)(H:Hp)(Q:VK):Prop
 |mk (z:_)(_:x= !z)(_:↑z<=Vg)(_:Q (.str (HC z lo hi)) H)
abbrev Cu:o6->oq (Int×Tok)
 | .int i t=>u_ (i,t)
 |_=>U_
def AaO:SlR X AdV:=by
 exists 2,x,v,O,U,lo,hi,sl,Q,I,rx,hs,pl,pu,h;erw[h,z,rfl,hz,q];erw[rx,t,rfl];exists "str",_,F.slot_str_getitem.lookup,vT _ _ _;have Z:O=partValue (Cu O)/\lo=(Cu O).map (·.1):=by cases pl<;>exact[1:1]
 have hu:U=partValue (Cu U)/\hi=(Cu U).map (·.1):=by cases pu<;>exact[1:1]
 erw[hs,o,e1,e2,e3];refine vh (n:=1) I.tk ?_;refine wpAny_getItem_str_slice (l:=Cu O) (u:=Cu U) (st:=U_) ⟨o,e1,e2,by rw[e3,<-Z.1,<-hu.1];rfl⟩ rfl ?_
 refine post_val_or_str [?_:λt' k=>?_]
 .exact uY (rG z _ _) hz
 .intro htk;exact⟨.str (HC z lo hi),H,I.tok k,⟨t',by rw[Z.2,hu.2];rfl⟩,q⟩
def qU {K:o0}(U:X.K=K):jA X (.builtin "isinstance") (λxs H Q=>∃x T t b,xs= [x,.ty T]/\Cq K H x t/\PySem.W.kitOne K t (.type T)=u_ b/\Q (.bl b) H):=by
 exists 2,xs,us,Q,I,r,h;erw[h,x,T,t,b,rfl,ty,e,q];erw[IZ r,u,Z,rfl,ru,O];cases O;subst U;exact vh (n:=1) I.tk (EM I ru ty e λtk htk=>⟨.bl b,H,I.tok tk,1,q⟩)
def sR:∀bs:om Bool,(Vp ↑bs).all (λi=>bs.getD i v_)=bs.all id
 | []=>rfl
 |b::r=>by
  rw[uw,T1,vF,UD,vF];have e:(Vp ↑r).all ((λi=>(b::r).getD i v_)∘Tv)=(Vp ↑r).all λi=>r.getD i true:=by
   congr 1
  rw[e,sR r]
  rfl
def ze (hc:X.calm=v_):jA X (.builtin "all") (λxs H Q=>∃(p:o3) (bs:om Bool),xs= [-p]/\SqL X.K H p (bs.map V.bl)/\Q (.bl (bs.all id)) H):=by
 exists 2,xs,us,Q,I,r,h;erw[h,p,bs,rfl,hp,q];erw[xH r,u,rfl,ru];cases ru;erw[I.list hp,its,rv,pl,hz];have aa:p<#[0,s]:=by erw[pl,o,n,e,_];exact uJ e
 refine vh (n:=1) I.tk ?_;refine call_all_walk (UZ pl.isList ?_);have up:∀b o,s.heap.get? b=u_ o->(s.heap.push {cls:= .type "list_iterator",data:= .fields #[-p,.int 0 0]}).get? b=u_ o:=λb o e=>uf _ e;have hl:↑its=↑bs:=by have:=↑rv;simpa using this.symm
 exists #[0,s],_,_,_,_,_,λi=>bs.getD i v_,1,Walks.list (show X.A.in1.handled=U_ from I.ok.hd hc) #[0,s] p (uX aa) its.toArray,[⟨_,uH _ rfl,1,1⟩:pl.isList.push _],?_,?_
 .intro i v s' Q' E' hv hQ;have O:its[i]? =u_ v:=by simpa using hv
  have hi:i<↑its:=(Af.mp O).1;obtain⟨u,e1,e2⟩:=rv.get (i:=i) (x:= .bl (bs[i]'())) (by simp[show i<bs.length by omega])
  rw[O] at e1;cases e1;cases e2;have:bs.getD i v_=bs[i]'():=by simp[Gb,show i<bs.length by omega]
  have U:Q' (bs.getD i v_) s':=hQ;rw[this] at U;exact vA U
 .intro h' tk kk htk;have Z:(Vp its.toArray.size).all (λi=>bs.getD i v_)=bs.all id:=by
   rw[uB,hl];exact sR bs
  rw[Z];have I1:=I.kept (t':=s.toks) (h':=s.heap.push {cls:= .type "list_iterator",data:= .fields #[-p,.int 0 0]}) up;have ac:=I.fpOk (ur _) (I.hok.fresh (ur #[0,s]));erw[ac,f0,f1,f2,f3,f4,f5];exact⟨.bl (bs.all id),H,I1.turned (it:=#[0,s]) (λb o hb e=>kk b o (by simpa using hb) e) f0 f1 f3 f4 f5,1,q⟩
end
section
variable {X:Cx}
def Kq {x:Str}{i:Int}{pos:Pos}(O:Gl X x)(hm:∃t,X.mg x=u_ (.int i t))(hd:(x==("__debug__":Str))=Vc):PE X (.Name x pos) (tC (.int i)):=by
 erw[hm,t,hm];exact Ai O hm [t:1] hd
def Aa9 {x z:Str}{pos:Pos}(O:Gl X x)(hm:∃t,X.mg x=u_ (.str z t))(hd:(x==("__debug__":Str))=Vc):PE X (.Name x pos) (tC (!z)):=by
 erw[hm,t,hm];exact Ai O hm [t:1] hd
def pe_gR {x:Str}{a:o3}{pos:Pos}(O:Gl X x)(hm:X.mg x=u_ (-a))(hd:(x==("__debug__":Str))=Vc):PE X (.Name x pos) (tC (-a)):=Ai O hm rfl hd
end
variable {H:Hp}{p:o3}
def qf (h:H p=U_)(o:HO):ic H (upd H p o):=λb u q=>by rw[qi (qk q h)];exact q
abbrev iY (p:o3)(H H':Hp):Prop:=∀b o,H b=u_ o->b≠p->H' b=u_ o
variable {H1 H2:Hp}
def iY.trans (a:iY p H H1)(b:iY p H1 H2):iY p H H2:=λc o h n=>b c o (a c o h n) n
def iY.upd (p:o3)(H:Hp)(o:HO):iY p H (L2.upd H p o):=λb u h n=>by rw[qi n];exact h
variable {H':Hp}
def iY.same (k:iY p H1 H')(s:ic H H1)(n:H p=U_):ic H H':=λb o h=>k b o (s b o h) (qk h n)
def J8 {α:Type}{xs:om α}{i:Int}(h0:0<=i)(h1:i<↑xs):∃c,atI xs i=u_ c:=by
 obtain⟨n,rfl⟩:∃n:Nat,i=(n:Int):=[i.toNat:()]
 have hn:n<↑xs:=by omega
 exact[xs[n]:qz (ui hn)]
abbrev nu (cells:om (Str×o3)):om (Str×VO)->om (Str×o3)->om (Str×o3)
 | [],cs=>cs
 |(n,k)::r,cs=>nu cells r (if k== .free then(match cells.lookup n with|some a=>(n,a)::cs|none=>cs) else cs)
def qaf {cells:om (Str×o3)}:∀{names:om (Str×VO)}{cs:om (Str×o3)},(∀y c,cs.lookup y=u_ c->cells.lookup y=u_ c)->∀y c,(nu cells names cs).lookup y=u_ c->cells.lookup y=u_ c
 | [],_,h=>h
 |(n,k)::r,cs,h=>by
  unfold nu;refine qaf λy c e=>?_;split at e
  .split at e
   .rename_i a ha
    rw[vo] at e;split at e
    .rename_i U
     have O:y=n:=beq_iff_eq.mp U;subst O;cases e;exact ha
    .exact h y c e
   .exact h y c e
  .exact h y c e
def sH {cells:om (Str×o3)}:∀{names:om (Str×VO)}{cs:om (Str×o3)}{y:Str},(∃c,cs.lookup y=u_ c)->∃c,(nu cells names cs).lookup y=u_ c
 | [],_,_,h=>h
 |(n,k)::r,cs,y,h=>by
  unfold nu;refine sH ?_;split
  .split
   .rw[vo];split
    .exact⟨0⟩
    .exact h
   .exact h
  .exact h
def qag {cells:om (Str×o3)}:∀{names:om (Str×VO)}{cs:om (Str×o3)}{y:Str},(y,Vx)>names->(∃c,cells.lookup y=u_ c)->∃c,(nu cells names cs).lookup y=u_ c
 | [],_,_,h,_=>nomatch h
 |(n,k)::r,cs,y,h,O=>by
  unfold nu;rcases Aa.mp h with e|h
  .cases e;refine sH ?_;erw[O,c,O];rw[A6 (),O]
   exact⟨c,by simp[vo]⟩
  .exact qag h O
def zl {env:Env}:∀{names:om (Str×VO)}{cs:om (Str×o3)},(∀y,(y,Vx)>names->∃c,env.cells.lookup y=u_ c)->
  (G7 names cs λx r=>(do
   if x.2== .free then
    let a<-Hv env x.1
    pure (GZ ((x.1,a)::r))
   else pure (GZ r):Sem (ForInStep (om (Str×o3)))))=(pure (nu env.cells names cs):Sem (om (Str×o3)))
 | [],cs,_=>rfl
 |(n,k)::r,cs,h=>by
  rw[UB];have Z:∀y,(y,Vx)>r->∃c,env.cells.lookup y=u_ c:=λy hy=>h y (ug _ hy);unfold nu;by_cases O:(k==Vx)=v_
  .have U:k= .free:=by simpa using O
   subst U;erw[h n uh,c,hc];have e:Hv env n=pure c:=by unfold Hv;rw[hc]
   simp![O,Vb,e,hc,tV];exact zl Z
  .simp![A4 O,tV];exact zl Z
def W1 {scope:Vu}{env:Env}(h:∀y,(y,Vx)>scope.names->∃c,env.cells.lookup y=u_ c):HL scope env=pure (nu env.cells scope.names []):=by
 unfold HL;have q:=zl (cs:= []) h;show(G7 scope.names ([]:om (Str×o3)) (λx r=>(do
   if x.2== .free then
    let a<-Hv env x.1
    pure (GZ ((x.1,a)::r))
   else pure (GZ r):Sem (ForInStep (om (Str×o3)))))>>=λcs=>pure cs)=_
 rw[q,tV]
def Zq {env:Env}(hf:env.scope.kind= .function):∀{names:om (Str×VO)}{x:Str},names.lookup x=u_ .free->env.kindOf x=u_ .cell->
  (names.map λ(n,k)=>if(k==Vx&&env.scope.kind== .function&&env.kindOf n==u_ .cell) then(n,Gi) else(n,k)).lookup x=u_ .cell
 | [],_,h,_=>by simp at h
 |(n,k)::r,x,h,hc=>by
  have ih:= @Zq env hf r x;show VB x ((if(k==Vx&&env.scope.kind== .function&&env.kindOf n==u_ .cell)=v_ then(n,Gi) else(n,k))::_)=_
  cases O:x==n with
  |true=>
   simp![vo,O] at h;cases h;have Z:x=n:=beq_iff_eq.mp O;subst Z;rw[A6 (by rw[hf,hc];rfl)]
   simp[vo]
  |false=>
   simp![vo,O] at h;by_cases U:(k==Vx&&env.scope.kind== .function&&env.kindOf n==u_ .cell)=v_
   .rw[A6 U];simp![vo,O];exact ih h hc
   .rw[A4 U];simp![vo,O];exact ih h hc
def wE {env:Env}:∀{names:om (Str×VO)}{x:Str},(∀y>names,y.2≠ .cell)->
  ((names.map λ(n,k)=>if(k==Vx&&env.scope.kind== .function&&env.kindOf n==u_ .cell) then(n,Gi) else(n,k)).lookup x=u_ .cell\/
   (names.map λ(n,k)=>if(k==Vx&&env.scope.kind== .function&&env.kindOf n==u_ .cell) then(n,Gi) else(n,k)).lookup x=u_ .free)->(x,Vx)>names
 | [],_,_,h=>by simp at h
 |(n,k)::r,x,hn,h=>by
  have ih:= @wE env r x (λy hy=>hn y (ug _ hy));have g:VB x ((if(k==Vx&&env.scope.kind== .function&&env.kindOf n==u_ .cell)=v_ then(n,Gi) else(n,k))::(r.map λ(n,k)=>if(k==Vx&&env.scope.kind== .function&&env.kindOf n==u_ .cell) then(n,Gi) else(n,k)))=u_ .cell\/
   VB x ((if(k==Vx&&env.scope.kind== .function&&env.kindOf n==u_ .cell)=v_ then(n,Gi) else(n,k))::(r.map λ(n,k)=>if(k==Vx&&env.scope.kind== .function&&env.kindOf n==u_ .cell) then(n,Gi) else(n,k)))=u_ .free:=h
  have aa:k≠ .cell:=hn (n,k) uh;by_cases Z:(k==Vx&&env.scope.kind== .function&&env.kindOf n==u_ .cell)=v_
  .rw[A6 Z] at g;have hk:k= .free:=by
    rw[uG,uG] at Z
    simpa using Z.1.1
   subst hk;cases U:x==n with
   |true=>
    have O:x=n:=beq_iff_eq.mp U;subst O;exact uh
   |false=>
    simp![vo,U] at g;exact ug _ (ih g)
  .rw[A4 Z] at g;cases U:x==n with
   |true=>
    have O:x=n:=beq_iff_eq.mp U;subst O;simp![vo,U] at g;rcases g with g|g
    .exact A8 (uM g) aa
    .rw[show k=Vx from uM g]
     exact uh
   |false=>
    simp![vo,U] at g;exact ug _ (ih g)
nonrec abbrev blk (X:Cx)(scope:Vu)(Nb:om Str)(cl:om (Str×o3))(C:o3)(s₀:o7)(H₀:Hp)(fp:om o3)(pn:om (o3×Obj)):Cx:=
 {X with N:=Nb,s₀:=s₀,H₀:=H₀,env:=T9 scope cl C X.env,outer:=X.stack,ex:=fp,fn:=λ_=>Vc,pn:=pn,xe:=λ_ _=>False}
structure LcS (X:Cx)(scope:Vu)(Nb:om Str)(nt:Nat)(fr:om Nat):Prop where
 kind:scope.kind= .function
 cell:∀y>scope.names,y.2≠ .cell
 names:∀y>scope.names,y.2= .local->scope.names.lookup y.1=u_ .local
 free:∀y>scope.names,y.2= .free->X.env.kindOf y.1=u_ .cell
 len:↑Nb=nt+↑fr
 fr:∀(k j:Nat) (x:Str),fr[k]? =u_ j->Nb[nt+k]? =u_ x->X.N[j]? =u_ x/\scope.names.lookup x=u_ .free
abbrev ON (nt:Nat)(fr:om Nat)(σ:St):St:=HJ nt U_++fr.map λj=>(σ[j]?).join
section
variable {pr:og}{wo:oh}{ar:oj}{RR:GD->o7->Prop}{st:o7}
nonrec abbrev nb (pr:og)(wo:oh)(ar:oj)(en:Env)(RR:GD->o7->Prop):o6->o7->Prop:=notedBy (Vs pr wo) ar en λx t=>RR (.error x) t
nonrec abbrev AdP (en:Env)(cs:om Expr):Sem Bool:=G7 cs v_ λc b=>if b=v_ then do let y<-isTrue c en (eval c en);pure (GZ y) else pure (GZ b)
def AN {el tg Z:Expr}{cs:om Expr}{sc:Vu}{ps:Pos}{O U:o6}{en:Env}(J:Nat->o7->Prop)
  (aa:∀k t,J k t->Vd (Vs pr wo) ar (VF O) (λr t1=>match r with
   |none=>RR (.ok .next) t1
   |some v=>Vd (Vs pr wo) ar (HU tg O v) (λ_ t2=>Vd (Vs pr wo) ar (Gh tg en v) (λ_ t3=>Vd (Vs pr wo) ar (AdP en cs) (λb t4=>
     if b=v_ then Vd (Vs pr wo) ar (eval el en) (λx t5=>Vd (Vs pr wo) ar (call (.builtin "list.append") [U,x]) (λ_ t6=>∃m,m<k/\J m t6) (nb pr wo ar en RR) t5) (nb pr wo ar en RR) t4
     else∃m,m<k/\J m t4) (nb pr wo ar en RR) t3) (nb pr wo ar en RR) t2) (nb pr wo ar en RR) t1) (nb pr wo ar en RR) t)
  (k:Nat) (h0:J k st):VJ (Vs pr wo) ar (.compLoop (.ListComp el [⟨tg,Z,cs,(0)⟩] sc ps) 0 O U en) RR st:=by
 refine codeAny_loop rfl J (λk t hJ=>?_) k h0;show Vd _ ar ((compTurn (.ListComp el [⟨tg,Z,cs,(0)⟩] sc ps) 0 O U en).onRaise λx=>do noteFrame x en;theTreesLotGoes x) _ _ t
 rw[compTurn_list];refine wpAny_noted (A7 (Hx (A7 (thn (aa k t hJ) λr t1 q1=>?_))));cases r with
 |none=>exact uD q1
 |some v=>
  refine A7 (thn q1 λ_ t2 q2=>A7 (thn q2 λ_ t3 q3=>A7 (thn q3 λb t4 q4=>?_)));cases b with
  |false=>exact uD [1:q4]
  |true=>exact A7 (A7 (thn q4 λx t5 q5=>A7 (thn q5 λ_ t6 q6=>uD (uD [1:q6]))))
end
abbrev Ace (X:Cx)(ifs:om Expr)(t:TT):Prop:=
 ∀(ot:om (o3×Obj)) (s:o7) (σ:St) (H:Hp) (Q:Bool->Hp->Prop),#[I]->t σ H Q->Vd #[X,X] X.A (AdP X.env ifs) (TP X ot σ Q) X.xe s
abbrev nG:TT:=λ_ H Q=>Q v_ H
def yf {X:Cx}:Ace X [] nG:=λ_ _ _ H _ I h=>wpAny_tests_nil [H:I:h]
def O5 {X:Cx}{c:Expr}{t:TT}(h:PT X c t):Ace X [c] t:=λot s σ H Q I O=>wpAny_tests_one (h ot s σ H Q I O)
abbrev CZ (D:o3)(J:It)(g:TG)(tc:TT)(te:TE)(σb:St)(H1:Hp)(Q:VK):Prop:=
 ∃(n:Nat) (W:Nat->St->om V->Hp->Prop),n<=Vg/\W 0 σb [] (upd H1 D (.lst []))/\
  (∀i σ ys H,i<n->W i σ ys H->H D=u_ (.lst ys)->↑ys<=i->J.go i H/\∀x H',J.yld i H x H'->g x σ H' λσ2 H2=>tc σ2 H2 λb H3=>
   if b=v_ then te σ2 H3 λy H4=>H4 D=u_ (.lst ys)/\W (i+1) σ2 (ys++ [y]) (upd H4 D (.lst (ys++ [y]))) else H3 D=u_ (.lst ys)/\W (i+1) σ2 ys H3)/\
  ∀σ ys H,W n σ ys H->H D=u_ (.lst ys)->J.stop n H/\Q (-D) H
abbrev tLC (nt:Nat)(fr:om Nat)(wi:TI)(g:TG)(tc:TT)(te:TE):TE:=λσ H Q=>wi σ H λJ H1=>∀D,H1 D=U_->CZ D J g tc te (ON nt fr σ) H1 Q
section
variable {X:Cx}{scope:Vu}{Nb:om Str}{nt:Nat}{fr:om Nat}
def Su {ot:om (o3×Obj)}{σ:St}{H:Hp}{s:o7}{fp:om o3}{C:o3}{h4:o9}{tk:Nat}(S:LcS X scope Nb nt fr)(I:#[I])(hC:C=#[0,s])
  (ag:h4.Ns C λ_=>U_) (U:∀b o,s.heap.get? b=u_ o->h4.get? b=u_ o) (hf:∀b>fp,AW X ot H b) (ho:∀b>fp,∃o,s.heap.get? b=u_ o) (ht:0<tk:=by ac_rfl):
  Inv (blk X scope Nb (nu X.env.cells scope.names []) C s H fp (X.pn++ot)) [] (ON nt fr σ) H {s with heap:=h4,toks:=tk}:=by
 subst hC;have sub:∀y c,(nu X.env.cells scope.names []).lookup y=u_ c->X.env.cells.lookup y=u_ c:=qaf λy c e=>by simp at e
 have Z:∀y,(y,Vx)>scope.names->X.env.kindOf y=u_ .cell:=λy hy=>S.free _ hy rfl;have ad:∀b o,s.heap.get? b=u_ o->b≠#[0,s]:=λb o e z=>by rw[z] at e;exact A8 (uJ e) (vP _)
 have O:∀b,b≠X.env.locals->b∉X.fs->b∉frs X.stack:=λb h1 h2 z=>(Aa.mp (I.stkSub b z)).elim h1 h2;exists ⟨I.ok.mod,S.kind,I.ok.glob,I.ok.blt,ur _,λx y c h1 h2=>I.ok.inj x y c (sub x c h1) (sub y c h2),λx hx=>?_,λx c z=>(by cases z),I.ok.hd,I.ok.frames,.inl rfl,λb hb=>?_,I.bs,uY I.ok.bsz I.sz,λb o e hb=>?_,λb hb=>?_,I.stack,I.stkFree⟩,1,I.bare,Un.kept U,[_:ag:λi x v e1 e2 e3=>?_],λx c e=>?_,I.hok.fresh (ur _),λx c e=>I.freeC x c (sub x c e),λp hp=>?_,I.hok.kept U,?_,ht
 .have hm:=wE (env:=X.env) S.cell hx;exact qag hm (I.ok.has x (.inl (Z x hm)))
 .erw[ho b hb,o,e];exact[ad b o e:λx c e'=>(hf b hb).2.2.2.2.1 x c (sub x c e')]
 .rcases(hf b hb).2.2.2.1 with z|z
  .exact I.ok.noex b o e z
  .exact A8 (Vq (uJ e) (uY I.ok.bsz z)) (vP _)
 .exact O b (hf b hb).2.1 (hf b hb).2.2.1
 ·
  have hi:nt<=i:=by
   rcases V6 i nt with z|z
   .unfold ON at e2;rw[UI (by simpa using z),rW] at e2
    split at e2<;>cases e2
   .exact z
  obtain⟨k,rfl⟩:∃k,i=nt+k:=[i-nt:()]
  unfold ON at e2;rw[vM (by simp)] at e2
  simp![Rt,Nat.add_sub_cancel_left,uK] at e2;cases ej:fr[k]? with
  |none=>rw[ej] at e2;cases e2
  |some j=>
   rw[ej] at e2;have aa:(σ[j]?).join=u_ v:=uM e2;have ae:σ[j]? =u_ (u_ v):=by
    cases q:σ[j]? with
    |none=>rw[q] at aa;cases aa
    |some z=>rw[q] at aa;exact A9 u_ aa
   erw[S.fr k j x ej e1,n1,n2];have kx:X.env.kindOf x=u_ .cell:=Z x (vN n2);erw[I.loc,m,hn,hl];erw[hl j x v n1 ae (.inr (.inl kx)),u,r,l];exists u,r,.inr [.inl (Zq I.ok.kind n2 kx):?_];rcases l with⟨z,_⟩|⟨_,c,ec,ac⟩
   .rw[kx] at z;cases z
   .erw[qag (cells:=X.env.cells) (cs:= []) (vN n2) [c:ec],c',af];have:=sub x c' af;rw[ec] at this;cases this;erw[ac,o,q,d];exact⟨c,af,o,U c o q,d⟩
 .erw[I.cell x c (sub x c e),v,o,q,d];exact⟨v,o,U c o q,d⟩
 .have ah:p>X.pn++ot:=by simpa using hp
  erw[I.pin p ah,e,n,ne,nf,d];exact⟨U _ _ e,n,ad _ _ e,O _ ne nf,d⟩
 .show(ON nt fr σ).length=↑Nb;unfold ON;rw[S.len];simp
def EG {tg aa al:Expr}{am:om Expr}{wi:TI}{g:TG}{tc:TT}{te:TE}{pos:Pos}{R:o6->o3->GD->o7->Prop}{ot:om (o3×Obj)}{s:o7}{σ:St}{H:Hp}{Q:VK}(S:LcS X scope Nb nt fr)(ao:X.calm=v_)(hi:PI X tg aa wi)
  (hg:∀cl C s₀ H₀ fp pn,PG (blk X scope Nb cl C s₀ H₀ fp pn) tg g) (hc:∀cl C s₀ H₀ fp pn,Ace (blk X scope Nb cl C s₀ H₀ fp pn) am tc) (he:∀cl C s₀ H₀ fp pn,PE (blk X scope Nb cl C s₀ H₀ fp pn) al te)
  (I:#[I]) (h:tLC nt fr wi g tc te σ H Q)
  (hR:∀(D C:o3) (H':Hp) (s1:o7) (m:Str->oq o6),Inv X ot σ H' s1->s1.heap.Ns C m->AW X ot H' C->Q (-D) H'->R (-D) C (.ok .next) s1):
  Vd #[X,X] X.A (eval aa X.env) (λx s₁=>Vd #[X,X] X.A (HE x) (λit s₂=>Vd #[X,X] X.A (HF []) (λax s₃=>
   Vd #[X,X] X.A (tR scope X.env.globals (nu X.env.cells scope.names []) [] X.env.qual U_ .none (u_ X.env)) (λag s₄=>
    VJ #[X,X] X.A (.compStart (.ListComp al [⟨tg,aa,am,(0)⟩] scope pos) 0 it ax {ag with scope:=relabel scope X.env}) (R ax ag.locals) s₄) X.xe s₃) X.xe s₂) X.xe s₁) X.xe s:=by
 refine thn (hi ot s σ H _ I h) λv s1 h1=>thn h1 λaS s2 h2=>?_;erw[h2,it,fp,tn,J,H2,e,I2,T,ap,f2,q2];subst e;have ay:H2 #[0,s2]=none:=I2.hok.fresh (ur _);erw[q2 _ ay,n,W,hn,w0,step,fin];generalize hD:#[0,s2]=D at*;refine vB ?_;rw[hD];have I3:Inv X ot σ (upd H2 D (.lst [])) {s2 with heap:=s2.heap.push {cls:= .type "list",data:= .seq ([]:om o6).toArray}}:=by
  have:=I2.lnew (ys:= []) (its:= []) (t':=s2.toks) .nil (uQ _);rwa[hD] at this
 refine wpAny_newFunctionEnv S.cell (by intro y hy;simp at hy) (λh4 ad aq=>?_) S.kind
 dsimp only at ad aq⊢;generalize aA:s2.heap.push {cls:= .type "list",dict:=U_,data:= .seq ([]:om o6).toArray}=h3 at ad aq I3⊢;have hC:h3.objs.size=D+1:=by rw[<-aA,vq,hD]
 have ae:∀b o,h3.get? b=u_ o->h4.get? b=u_ o:=λb o e=>aq.extBut b o (uX (uJ e)) (uf _ e);have Z:∀b o,s2.heap.get? b=u_ o->h3.get? b=u_ o:=λb o e=>by rw[<-aA];exact uf _ e
 have au:∀b>fp,∃o,s2.heap.get? b=u_ o:=λb O=>let⟨o,e,_⟩:=T.obj _ _ ap b O;[o:e];have aG:∀b>fp,b≠D:=λb O z=>by
  erw[au b O,o,e];have q:=uJ e;rw[z,hD] at q;exact vP _ q
 have f3:∀b>fp,AW X ot (upd H2 D (.lst [])) b:=λb O=>⟨by rw[qi (aG b O)];exact(f2 b O).1,(f2 b O).2⟩
 have IB:=Su (C:=h3.objs.size) (h4:=h4) (tk:=s2.toks+↑([]:om (Str×o6))) (fp:=fp) S I3 rfl ad ae f3 λb O=>let⟨o,e⟩:=au b O;[o:Z b o e];generalize U:blk X scope Nb (nu X.env.cells scope.names []) h3.objs.size {s2 with heap:=h3} (upd H2 D (.lst [])) fp (X.pn++ot)=Xb at IB
 have gB:=hg (nu X.env.cells scope.names []) h3.objs.size {s2 with heap:=h3} (upd H2 D (.lst [])) fp (X.pn++ot)
 have cB:=hc (nu X.env.cells scope.names []) h3.objs.size {s2 with heap:=h3} (upd H2 D (.lst [])) fp (X.pn++ot)
 have eB:=he (nu X.env.cells scope.names []) h3.objs.size {s2 with heap:=h3} (upd H2 D (.lst [])) fp (X.pn++ot)
 rw[U] at gB cB eB;have xP:Xb.prog=X.prog:=by rw[<-U]
 have xW:Xb.w=X.w:=by rw[<-U]
 have xK:Xb.K=X.K:=by rw[<-U]
 have xA:Xb.A=X.A:=by rw[<-U]
 have xC:Xb.calm=true:=by rwa[<-U]
 have xE:Xb.env=T9 scope (nu X.env.cells scope.names []) h3.objs.size X.env:=by rw[<-U]
 have xX:Xb.xe=λ_ _=>False:=by rw[<-U]
 have af:∀{H':Hp},(∀b>fp,H' b=U_)->∀b>fp,AW Xb [] H' b:=λhn b O=>by
  erw[f2 b O,g1,g2,g3,g4,g5,g6];erw[au b O,o,e];subst U;exists hn b O,λz=>?_,λz=>(Aa.mp (I2.stkSub b z)).elim g2 g3,.inl O,λx c ec=>g5 x c (qaf (λy c e=>by simp at e) x c ec),λp hp=>g6 p (by simpa using hp)
  have ac:=uJ (Z b o e);have z':b=h3.objs.size:=z;rw[z'] at ac;exact vP _ ac
 have ah:∀s5:o7,s5={s2 with heap:=h4,toks:=s2.toks+↑([]:om (Str×o6))}->
   VJ #[X,X] X.A (.compLoop (.ListComp al [⟨tg,aa,am,(0)⟩] scope pos) 0 (-it) (-D) (T9 scope (nu X.env.cells scope.names []) h3.objs.size X.env))
    (R (-D) h3.objs.size) s5:=by
  rintro s5 rfl;refine AN (λk s'=>∃i σ' ys H',Inv Xb [] σ' H' s'/\tn i s'.heap/\(∀b>fp,H' b=U_)/\H' D=u_ (.lst ys)/\i<=n/\k=n-i/\↑ys<=i/\W i σ' ys H') ?_ n
   ⟨(0),ON nt fr σ,[],_,IB,T.keep _ _ _ ap λb O o e=>ae b o (Z b o e),λb O=>(f3 b O).1,qg,uQ _,1,ur _,w0⟩
  rintro k s' ⟨i,σ',ys,H',I',aB,aC,aD,aH,rfl,aI,w'⟩;rcases V6 i n with ac|aJ
  .erw[step i σ' ys H' ac w' aD aI,go,next];have ti:=T.item Xb xP xW xK xC i [] s' σ' H' (λ_ _=>False) I' (af aC) aB go;rw[xA] at ti;refine vz ti (λr s1 h1=>?_) λ_ _ z=>z.elim;erw[h1,u,rfl,h1];refine vz h1 (λ_ aE aK=>?_) λ_ _ z=>z.elim;erw[aK,x,H5,I5,r5,y5,aw,aL];have aM:=I5.pinned (af aL) (T.obj _ _ aw);have ga:=gB _ aE σ' H5 x u _ aM r5 (next x H5 y5);rw[xP,xW,xA,xE,xX] at ga;refine vz ga (λ_ s3 aN=>?_) λ_ _ z=>z.elim;erw[aN,σ6,H6,I6,q6];have ca:=cB _ s3 σ6 H6 _ I6 q6;rw[xP,xW,xA,xE,xX] at ca;refine vz ca (λok s4 aO=>?_) λ_ _ z=>z.elim;erw[aO,H7,I7,q7];have ak:∀{σ8:St}{H8:Hp}{s8:o7},Inv Xb ([]++oy fp aE.heap) σ8 H8 s8->Inv Xb [] σ8 H8 s8/\tn (i+1) s8.heap/\∀b>fp,H8 b=none:=λ{σ8 H8 s8} I8=>by
    exists I8.unpinned,T.keep _ _ _ aw λb O o e=>(I8.pin (b,o) (uN _ (uN _ (J0 O e)))).1,λb O=>?_;erw[T.obj _ _ aw b O,o,e,d];exact(I8.pin (b,o) (uN _ (uN _ (J0 O e)))).2.1
   cases ok with
   |false=>
    rw[A4 ud] at q7⊢;erw[ak I7,b1,b2,b3];exact⟨n-(i+1),(),i+1,σ6,ys,H7,b1,b2,b3,q7.1,ac,1,(),q7.2⟩
   |true=>
    rw[A6 rfl] at q7⊢;have ea:=eB _ s4 σ6 H7 _ I7 q7;rw[xP,xW,xA,xE,xX] at ea;refine vz ea (λy s5 h5=>?_) λ_ _ z=>z.elim;erw[h5,yv,H8,I8,r8,aP,q8];have ma:=YU (X:=Xb) _ s5 σ6 H8 (-D) [yv] (-D) [y] (λ_ H9=>H9=upd H8 D (.lst (ys++ [yv]))) I8 rfl (.cons r8 .nil) ⟨D,ys,yv,1,1,aP,(),1⟩
    rw[xP,xW,xA,xX] at ma;refine vz ma (λ_ s6 h6=>?_) λ_ _ z=>z.elim;erw[h6,_,H9,I9,_,rfl];erw[ak I9,b1,b2,b3];exact⟨n-(i+1),(),i+1,σ6,ys++ [yv],_,b1,b2,b3,qg,ac,1,by rw[uF,vG];omega,q8⟩
  .have aF:i=n:=Nat.le_antisymm aH aJ;subst aF;erw[fin σ' ys H' w' aD,stop,hq];have td:=T.done Xb xP xW xK xC i [] s' σ' H' (λ_ _=>False) I' (af aC) aB stop;rw[xA] at td;refine vz td (λr s1 h1=>?_) λ_ _ z=>z.elim;erw[h1,rfl,I6];erw[id I6.loc,m,hm,_];rw[xE] at hm;have aQ:H' h3.objs.size=none:=by have:=I6.free;rwa[xE] at this
   have u6:Un (frs X.stack) fp (upd H2 D (.lst [])) H' h3 s1.heap:=by have:=I6.base;subst U;exact this
   have u2:Un (frs X.stack) fp H2 (upd H2 D (.lst [])) s2.heap h3:=Un.laid (λb o e=>Z b o e) (by rw[hD];exact ur _) ay
   have aR:s1.os=s2.os:=by have:=I6.os;subst U;exact this
   have hok:HOk X.prog X.w H' s1.heap:=by
    have:=I6.hok;subst U;exact this
   refine hR D h3.objs.size H' s1 m (I2.call' (s':=s1) (ch:=fp) aR (u2.trans u6) hok I6.bare λb O=>?_) hm (I2.fpOk () aQ) hq
   erw[f2 b O,g1,g2,g3,g4,g5,g6];exact⟨g4,g2,g5,g6⟩
 exact codeAny_compStart_list (ah _ rfl) (T.self _ 0 _ _ _ (T.keep _ _ _ ap λb O o e=>ae b o (Z b o e)) (ah _ rfl))
def xO {tg O aa:Expr}{ac:om Expr}{wi:TI}{g:TG}{tc:TT}{te:TE}{pos:Pos}(S:LcS X scope Nb nt fr)(U:X.calm=v_)(hi:PI X tg O wi)
  (hg:∀cl C s₀ H₀ fp pn,PG (blk X scope Nb cl C s₀ H₀ fp pn) tg g) (hc:∀cl C s₀ H₀ fp pn,Ace (blk X scope Nb cl C s₀ H₀ fp pn) ac tc) (he:∀cl C s₀ H₀ fp pn,PE (blk X scope Nb cl C s₀ H₀ fp pn) aa te)
  (hs:∀x,TW O X.env x=pure x):PE X (.ListComp aa [⟨tg,O,ac,(0)⟩] scope pos) (tLC nt fr wi g tc te):=by
 exists 2,Q,I,h;have Z:HL scope X.env=pure (nu X.env.cells scope.names []):=W1 λy hy=>I.ok.has y (.inl (S.free _ hy rfl));rw[eval_ListComp];refine FV (use:=U_) rfl hs Z S.kind S.names ?_;refine EG (R:=λad C=>compPost #[X,X] X.A X.xe U_ (EP X ot σ Q) ad C) S U hi hg hc he I h λD C H' s1 m I1 hm fc q=>?_;erw[fc,f0,f1,f2,f3,f4,f5];exact[m:hm:λh' ae=>⟨-D,H',I1.turned (t':=s1.toks) (it:=C) (λb o hb e=>(ae.2 b hb).trans e) f0 f1 f3 f4 f5,1,q⟩]
def Bw {i:Nat}{y:Str}{tg O U:Expr}{Z:om Expr}{wi:TI}{g:TG}{tc:TT}{te:TE}{pos aa py:Pos}(hN:X.N.Nodup)(ae:X.N[i]? =u_ y)(hy:Loc X.env.scope y)(S:LcS X scope Nb nt fr)(ac:X.calm=v_)(hi:PI X tg O wi)
  (hg:∀cl C s₀ H₀ fp pn,PG (blk X scope Nb cl C s₀ H₀ fp pn) tg g) (hc:∀cl C s₀ H₀ fp pn,Ace (blk X scope Nb cl C s₀ H₀ fp pn) Z tc) (he:∀cl C s₀ H₀ fp pn,PE (blk X scope Nb cl C s₀ H₀ fp pn) U te)
  (hs:∀x,TW O X.env x=pure x) (af:GN (.ListComp U [⟨tg,O,Z,(0)⟩] scope pos) (u_ (.Name y py)) aa.line X.env=pure v_)
  (hf:X.fn y=v_\/X.env.scope.names.lookup y=u_ .local):
  PS X (.Assign [.Name y py] (.ListComp U [⟨tg,O,Z,(0)⟩] scope pos) aa) (AcU (tLC nt fr wi g tc te) (YY i)):=by
 exists 2,D,I,h;have ad:HL scope X.env=pure (nu X.env.cells scope.names []):=W1 λy hy=>I.ok.has y (.inl (S.free _ hy rfl));rw[exec_Assign_Name_used _ _ _ _ af];refine A7 (Hx (A7 ?_));show Vd _ X.A (do let _<-comprehension (.ListComp U [⟨tg,O,Z,(0)⟩] scope pos) scope X.env _ (HF []) Vc (eval O X.env) (u_ (Gh (.Name y py) X.env))) _ _ s
 refine A7 (vz (FV (use:=u_ (Gh (.Name y py) X.env)) (Q:=λ_ s'=>SP X ot D .next s') rfl hs ad S.kind S.names ?_) (λ_ s' hq=>uD (uD hq)) λ_ _ e=>e);refine EG (R:=λag C=>compPost #[X,X] X.A X.xe (u_ (Gh (.Name y py) X.env)) (λ_ s'=>SP X ot D .next s') ag C) S ac hi hg hc he I h λA C H' s1 m I1 hm fc q=>?_;erw[fc,f0,f1,f2,f3,f4,f5];show Vd _ X.A (Gh (.Name y py) X.env (-A)) _ _ s1;refine FN (nP (v:=-A) I1 hN ae hy (show il (-A) (-A) from rfl) (λs' I' zq=>?_) hf);erw[zq,a,sb,ha]
 have ah:C≠a:=by
  rcases ha with rfl|ha
  .exact f1
  .exact λz=>f4 y a ha z.symm
 refine[m:hm.sameBut sb ah:λh' ak=>⟨_,H',I'.turned (t':=s'.toks) (it:=C) (λb o hb e=>(ak.2 b hb).trans e) f0 f1 f3 f4 f5,q⟩]
end
def Sm {X:Cx}{sc:Vu}{x:Str}(O:sc.kind= .function:=by rfl)(U:∀y>sc.names,y.2≠ .cell:=by decide+kernel)(hn:∀y>sc.names,y.2= .local->sc.names.lookup y.1=u_ .local:=by decide+kernel)
  (Z:∀y>sc.names,y.2≠ .free:=by decide+kernel):LcS X sc [x] 1 []:=⟨O,U,hn,λy hy e=>A8 e (Z y hy),1,λk j x h=>by simp at h⟩
def IR {X:Cx}{sc:Vu}{Nb:om Str}{nt:Nat}{fr:om Nat}(O:Vu)(U:om Str)(Z:X.env.scope=O:=by rfl)(hN:X.N=U:=by rfl)(hk:sc.kind= .function:=by rfl)(hc:∀y>sc.names,y.2≠ .cell:=by decide+kernel)
  (hn:∀y>sc.names,y.2= .local->sc.names.lookup y.1=u_ .local:=by decide+kernel) (hf:∀y>sc.names,y.2= .free->O.names.lookup y.1=u_ .cell:=by decide+kernel) (hl:↑Nb=nt+↑fr:=by rfl)
  (hz:((fr.zip (Nb.drop nt)).all λp=>decide (U[p.1]? =u_ p.2)&&decide (sc.names.lookup p.2=u_ .free))=true:=by decide+kernel):LcS X sc Nb nt fr:=by
 subst Z hN;exists hk,hc,hn,hf,hl,λk j x h1 h2=>?_;have hm:(fr.zip (Nb.drop nt))[k]? =u_ (j,x):=by
  rw[List.getElem?_zip_eq_some];exact⟨h1,by rwa[List.getElem?_drop]⟩
 have q:=List.all_eq_true.mp hz _ (vg hm);rw[uG] at q;exact[uA q.1:uA q.2]
def Abz {z:Str}{D:o3}{H1:Hp}{te:TE}{tl:St}{Q:VK}(f:Nat->V)(hz:↑z<=Vg)(Z:H1 D=U_)
  (O:∀(i c:Nat) H (R:VK),z.cps[i]? =u_ c->ic H1 H->R (f c) H->te (u_ (.str ⟨#[c]⟩)::tl) H R)
  (hQ:∀H',ic H1 H'->H' D=u_ (.lst (z.cps.toList.map f))->Q (-D) H'):CZ D (Its z) (YY 0) nG te (U_::tl) H1 Q:=by
 exists z.cps.size,λi σ ys H=>(∃w,σ=w::tl)/\ys=(z.cps.toList.take i).map f/\ic H1 H,hz,[[U_:1]:1:qf Z _],?_,?_
 .rintro i σ ys H hi ⟨⟨w,rfl⟩,rfl,sm⟩ U hy;exists hi;rintro x H' ⟨rfl,c,hc,rfl⟩;dsimp![YY,nG,GX];rw[A6 rfl];refine O i c H' _ hc sm ⟨U,[u_ (.str ⟨#[c]⟩):1],?_,?_⟩
  .rw[vj,show z.cps.toList[i]? =u_ c by simpa using hc]
   simp
  .intro b o e;rw[qi (qk e Z)];exact sm b o e
 .rintro σ ys H ⟨_,rfl,sm⟩ U;exists 1,hQ H sm ?_;rw[U,vt (by simp)]
inductive IsT (H:Hp)(p:List V->Prop)(v:V):Prop
 |mk (a:Addr)(vs:List V)(_:v=-a)(_:H a=u_ (¬vs))(_:p vs)
inductive IsC (p:V->Prop)(q:List V->Prop)(vs:List V):Prop
 |mk (v:V)(r:List V)(_:vs=v::r)(_:p v)(_:q r)
mutual
noncomputable def Is (H:Hp):D->V->Prop
 | .non,v=>v= .non
 | .bl b,v=>v= .bl b
 | .int i,v=>v= .int i
 | .str z,v=>v= .str z/\↑z<=Vg
 | .lst,v=>∃a xs,v= .ref a/\H a=u_ (.lst xs)
 | .dct,v=>∃a kvs,v= .ref a/\H a=u_ (.dK kvs)
 | .tup xs,v=>IsT H (IsL H xs) v
noncomputable def IsL (H:Hp):om D->om V->Prop
 | [],vs=>vs= []
 |x::xs,vs=>IsC (Is H x) (IsL H xs) vs
end
structure Tk (H H':Hp):Prop where
 tup:∀b xs,H b=u_ (¬xs)->H' b=u_ (¬xs)
 lst:∀b xs,H b=u_ (.lst xs)->∃ys,H' b=u_ (.lst ys)
 dct:∀b xs,H b=u_ (.dK xs)->∃ys,H' b=u_ (.dK ys)
def ic.tk (s:ic H H'):Tk H H':=[λb xs e=>s b _ e:λb xs e=>[xs:s b _ e]:λb xs e=>[xs:s b _ e]]
def Tk.refl (H:Hp):Tk H H:=(ic.refl H).tk
def Tk.trans (a:Tk H H1)(b:Tk H1 H2):Tk H H2:=⟨λc xs e=>b.tup c xs (a.tup c xs e),λc xs e=>let⟨ys,e1⟩:=a.lst c xs e;b.lst c ys e1,λc xs e=>let⟨ys,e1⟩:=a.dct c xs e;b.dct c ys e1⟩
variable {xs ys:om V}
def iY.tk (k:iY p H H')(h:H p=u_ (.lst xs))(h':H' p=u_ (.lst ys)):Tk H H':=by
 exists λb zs e=>k b _ e λz=>?_,λb zs e=>?_,λb zs e=>[zs:k b _ e λz=>?_]
 .rw[z,h] at e;cases e
 .by_cases z:b=p
  .exact[ys:z▸h']
  .exact[zs:k b _ e z]
 .rw[z,h] at e;cases e
mutual
theorem Is.mono {H H':Hp}(t:Tk H H'):∀{d:D}{v:V},Is H d v->Is H' d v
 | .non,_,h=>h
 | .bl _,_,h=>h
 | .int _,_,h=>h
 | .str _,_,h=>h
 | .lst,_,h=>by
  erw[h,a,vs,e,ha];erw[t.lst a vs ha,ys,q];exact⟨a,ys,e,q⟩
 | .dct,_,h=>by
  erw[h,a,vs,e,ha];erw[t.dct a vs ha,ys,q];exact⟨a,ys,e,q⟩
 | .tup xs,_,h=>by
  erw[h,a,vs,e,ha,O];exact⟨a,vs,e,t.tup a vs ha,IsL.mono t O⟩
theorem IsL.mono {H H':Hp}(t:Tk H H'):∀{ds:om D}{vs:om V},IsL H ds vs->IsL H' ds vs
 | [],_,h=>h
 |_::_,_,h=>by
  erw[h,v,r,e,h1,h2];exact⟨v,r,e,Is.mono t h1,IsL.mono t h2⟩
end
def IsL.length {H:Hp}:∀{ds:om D}{vs:om V},IsL H ds vs->↑vs=↑ds
 | [],_,h=>by cases(show _= [] from h);rfl
 |_::_,_,h=>by
  erw[h,v,r,rfl,_,h2];rw[uw,uw,IsL.length h2]
def IsL.get {H:Hp}:∀{ds:om D}{vs:om V}{i:Nat}{d:D},IsL H ds vs->ds[i]? =u_ d->∃v,vs[i]? =u_ v/\Is H d v
 | [],_,_,_,_,e=>by simp at e
 |x::_,_,0,d,h,e=>by
  erw[h,v,r,rfl,h1,_];have:x=d:=by simpa using e
  exact[v:1:this▸h1]
 |_::_,_,i+1,d,h,e=>by
  erw[h,v,r,rfl,_,h2];obtain⟨u,O,e2⟩:=IsL.get (i:=i) (d:=d) h2 (by simpa using e)
  exact⟨u,by simpa using O,e2⟩
def IsL.append {H:Hp}:∀{ds es:om D}{vs us:om V},IsL H ds vs->IsL H es us->IsL H (ds++es) (vs++us)
 | [],_,_,_,h,k=>by cases(show _= [] from h);exact k
 |_::_,_,_,_,h,k=>by
  erw[h,v,r,rfl,h1,h2];exact⟨v,0,h1,IsL.append h2 k⟩
variable {v:V}
def IsL.one {d:D}(h:Is H d v):IsL H [d] [v]:=⟨v,[],1,h,1⟩
variable {ds:om D}
def Is.new {vs:om V}(h:IsL H ds vs)(O:H p=U_):Is (upd H p (¬vs)) (¬ds) (-p):=
 ⟨p,vs,1,qg,h.mono (qf O _).tk⟩
abbrev tyD:D->o6
 | .non=> .type "NoneType"
 | .bl _=> .type "bool"
 | .int _=> .type "int"
 | .str _=> .type "str"
 | .lst=> .type "list"
 | .dct=> .type "dict"
 | .tup _=> .type "tuple"
def Is.ty {d:D}(h:Is H d v):Cq K H v (tyD d):=by
 cases d with
 |non=>cases(show v= .non from h);exact .non
 |bl b=>cases(show v= .bl b from h);exact .bl b
 |int i=>cases(show v= .int i from h);exact .int i
 |str z=>
  erw[h,rfl,_];exact !z
 |lst=>
  erw[h,a,vs,rfl,ha];exact .lst ha
 |dct=>
  erw[h,a,vs,rfl,ha];exact .dK ha
 |tup xs=>
  erw[h,a,vs,rfl,ha,_];exact ¬ha
section
variable {X:Cx}
def D9:OpR X (Vm .Gt) (λx y H Q=>∃i j,x= .str i/\y= .str j/\Q (.bl (decide (j.cps.toList<i.cps.toList))) H):=by
 exists 2,x,y,v,u,Q,I,O,U,h;erw[h,i,j,rfl,rfl,q];erw[O,t,rfl];erw[U,t',rfl];exact PySem.P.gt_str (Ql I q rfl)
def sI (Z:X.calm=v_):jA X (.builtin "sum") (λxs H Q=>∃(p:o3) (ns:om Int),xs= [-p]/\SqL X.K H p (ns.map V.int)/\Q (.int ns.sum) H):=by
 exists 2,xs,us,Q,I,r,h;erw[h,p,ns,rfl,hp,q];erw[xH r,u,rfl,ru];cases ru;erw[I.list hp,its,rv,pl,hz];have hi:GH its ns:=C4 rv;erw[hi.allInts.items,ys,U];have O:s.heap.IsList p (intItems ys):=U▸pl.isList;refine vh (n:=1) I.tk (sum_intListG (I.ok.hd Z) O λh' tk t' hk=>?_);intro htk;have e1:ns=ys.toList.map (·.1):=by
  have q1:=hi.numsOf;rw[<-nums_intItems,<-U];exact(show numsOf its.toArray.toList=ns from q1).symm
 have e2:preSum (numAt ys) ys.size=ns.sum:=by
  rw[preSum_eq,vt (by simp),e1]
 rw[e2];exact⟨.int ns.sum,H,I.kept hk,[t':1],q⟩
inductive Aa1 (K:PySem.W.Frag)(x:V)(y:V)(H:Hp)(Q:VK):Prop
 |mk (a:_)(b:_)(xs:_)(_:x=-a)(_:y=-b)(_:SqT K H a xs)(_:SqT K H b [])(_:Q (.bl xs.isEmpty) H)
def KK (U:X.A.units<Vl):OpR X (Vm .Eq) (Aa1 X.K):=by
 exists 2,x,y,v,u,Q,I,Z,ry,h;erw[h,a,b,xs,rfl,rfl,ha,hb,q];cases Z;cases ry;erw[I.tuple ha,its,r,p,_];erw[I.tuple hb,O,r2,p2,_];cases r2;refine SeqAt.eq_tupleAt (e:=λ_=>v_) p p2 U (λj _ h2=>A8 h2 (UE _)) ⟨.bl xs.isEmpty,H,I,?_,q⟩;show GW _=GW _;cases r with
 |nil=>rfl
 |cons _ _=>simp
inductive LA (K:PySem.W.Frag)(x:V)(y:V)(H:Hp)(Q:VK):Prop
 |mk (a:_)(b:_)(xs:_)(ys:_)(_:x=-a)(_:y=-b)(_:SqT K H a xs)(_:SqT K H b ys)(_:↑xs+↑ys<=Vg)(_:(xs= []->Q (-b) H))(_:(xs≠ []->ys= []->Q (-a) H))(_:(xs≠ []->ys≠ []->∀p,H p=U_->Q (-p) (upd H p (.tup (xs++ys)))))
def zn:OpR X (VL .Add) (LA X.K):=by
 exists 2,x,y,v,u,Q,I,U,Z,h;erw[h,a,b,xs,ys,rfl,rfl,ha,hb,hz,q0,q1,q2];by_cases O:xs= []
 .cases U;cases Z;erw[I.tuple ha,its,r1,p1,_];erw[I.tuple hb,aa,r2,p2,_];subst O;cases r1;erw[id p1,[c1,d1,t1,l1],o1,e1,n1,f1];erw[id p2,[c2,d2,t2,l2],o2,e2,n2,f2];simp only at e1 f1 e2 f2;subst e1 f1 e2 f2;exact TM p1.typeIs p2.typeIs tK T4 PySem.F.slot_tuple_add UP (UK _ _) (tuple_addW0 a b _ _ n1 n2 d1 d2 l1 l2 rfl) [o1:o2:⟨-b,H,I,1,q0 rfl⟩]
 .exact Pi ot s σ H (-a) (-b) v u Q I U Z ⟨a,b,xs,ys,1,1,ha,hb,O,hz,q1 O,q2 O⟩
end
def Tk.updL (h:H p=u_ (.lst xs)):Tk H (upd H p (.lst ys)):=by
 exists λb zs e=>?_,λb zs e=>?_,λb zs e=>[zs:?_]
 .rw[qi (λz=>by rw[z,h] at e;cases e)];exact e
 .by_cases z:b=p
  .exact⟨ys,by rw[z];exact qg⟩
  .exact⟨zs,by rwa[qi z]⟩
 .rw[qi (λz=>by rw[z,h] at e;cases e)];exact e
def Au {J:It}{A:o3}{H1:Hp}{te:TE}{tl:St}{Q:VK}{ds:om D}(f:D->D)(hn:↑ds<=Vg)(hA:H1 A=U_)
  (aa:∀i H,ic H1 H->i<↑ds->J.go i H) (hy:∀i H x H' d,ic H1 H->ds[i]? =u_ d->J.yld i H x H'->H'=H/\Is H d x) (U:∀H,ic H1 H->J.stop ↑ds H)
  (ac:∀d x H (R:VK),d>ds->ic H1 H->Is H d x->(∀y H',ic H H'->Is H' (f d) y->R y H')->te (u_ x::tl) H R)
  (hQ:∀H' ys,ic H1 H'->H' A=u_ (.lst ys)->IsL H' (ds.map f) ys->Q (-A) H'):CZ A J (YY 0) nG te (U_::tl) H1 Q:=by
 exists ↑ds,λi σ ys H=>(∃w,σ=w::tl)/\IsL H ((ds.take i).map f) ys/\ic H1 H,hn,[[U_:1]:1:qf hA _],?_,?_
 .rintro i σ ys H hi ⟨⟨w,rfl⟩,Z,sm⟩ O ae;exists aa i H sm hi,λx H' y=>?_;erw[hy i H x H' ds[i] sm (ui hi) y,rfl,hx];dsimp![YY,nG,GX];rw[A6 rfl];refine ac ds[i] x H' _ (uR hi) sm hx λy' H4 s4 ad=>⟨s4 _ _ O,[u_ x:1],?_,λb o e=>?_⟩
  .have t:Tk H4 (upd H4 A (.lst (ys++ [y']))):=Tk.updL (s4 _ _ O);have e:(ds.take (i+1)).map f=(ds.take i).map f++ [f ds[i]]:=by
    rw[vj,ui hi,uq]
    rfl
   rw[e];exact((Z.mono s4.tk).mono t).append (IsL.one (ad.mono t))
  .rw[qi (qk e hA)];exact s4 b o (sm b o e)
 .rintro σ ys H ⟨_,Z,sm⟩ O;exists U H sm,hQ H ys sm O ?_;rwa[vt (ur _)] at Z
def At {K:o0}{a A:o3}{H1:Hp}{te:TE}{tl:St}{Q:VK}{ds:om D}{vs:om V}(f:D->D)(ha:H1 a=u_ (¬vs))(U:IsL H1 ds vs)(hn:↑ds<=Vg)(Z:H1 A=U_)
  (O:∀d x H (R:VK),d>ds->ic H1 H->Is H d x->(∀y H',ic H H'->Is H' (f d) y->R y H')->te (u_ x::tl) H R)
  (hQ:∀H' ys,ic H1 H'->H' A=u_ (.lst ys)->IsL H' (ds.map f) ys->Q (-A) H'):CZ A (Itt K a) (YY 0) nG te (U_::tl) H1 Q:=by
 have ln:=↑U;refine Au f hn Z (λi H sm hi=>⟨vs,vs[i]'(),SqT.of (sm _ _ ha),ui _⟩) (λi H x H' d sm hd y=>?_) (λH sm=>[vs:SqT.of (sm _ _ ha):()]) O hQ
 erw[y,rfl,y];erw[U.get hd,v,e1,e2];have e3:=y vs (SqT.of (sm _ _ ha));rw[e1] at e3;cases e3;exact[1:e2.mono sm.tk]
def EF {K:o0}{a A:o3}{H1:Hp}{te:TE}{tl:St}{Q:VK}{ds:om D}{vs:om V}(f:D->D)(ha:H1 a=u_ (.lst vs))(U:IsL H1 ds vs)(hn:↑ds<=Vg)(Z:H1 A=U_)
  (O:∀d x H (R:VK),d>ds->ic H1 H->Is H d x->(∀y H',ic H H'->Is H' (f d) y->R y H')->te (u_ x::tl) H R)
  (hQ:∀H' ys,ic H1 H'->H' A=u_ (.lst ys)->IsL H' (ds.map f) ys->Q (-A) H'):CZ A (Itl K a) (YY 0) nG te (U_::tl) H1 Q:=by
 have ln:=↑U;refine Au f hn Z (λi H sm hi=>⟨vs,vs[i]'(),SqL.of (sm _ _ ha),ui _⟩) (λi H x H' d sm hd y=>?_) (λH sm=>[vs:SqL.of (sm _ _ ha):()]) O hQ
 erw[y,rfl,y];erw[U.get hd,v,e1,e2];have e3:=y vs (SqL.of (sm _ _ ha));rw[e1] at e3;cases e3;exact[1:e2.mono sm.tk]
def IsL.bls {H:Hp}:∀{bs:om Bool}{vs:om V},IsL H (bs.map D.bl) vs->vs=bs.map V.bl
 | [],_,h=>h
 |_::_,_,h=>by
  erw[h,v,r,rfl,h1,h2];rw[IsL.bls h2,show v=_ from h1];rfl
variable {Q:VK}
def xZ {i:Int}{d:D}(h:Is H (¬ds) v)(hi:atI ds i=u_ d)(q:∀x,Is H d x->Q x H):OX K v (.int i) H Q:=by
 erw[h,a,vs,rfl,ha,O];erw[qad hi,j,h1,h2,h3,h4,h5];erw[O.get h2,x,Z,e2];exists a,vs,i,x,1,1,SqT.of ha,?_,q x e2;have ln:=↑O;unfold atI at hi⊢;rw[ln];cases e:ixN ↑ds i with
 |none=>rw[e] at hi;cases hi
 |some k=>
  rw[e] at hi;erw[Aw e,U,_];rw[h1] at U;cases U;exact Z
abbrev inS (i j:Str):Bool:= !(hW j i 0 ↑j 1).isEmpty
def Sv (j:Str)(c:Nat):inS ⟨#[c]⟩ j=decide (c>j.cps.toList):=StrLaws.found_one j c
def SF {z:Str}{g:TG}{tb:TS}{E:mU}{σ:St}{H:Hp}(O:Nat->St->Hp->Prop)(h0:O 0 σ H)
  (hs:∀(i c:Nat) σ H,z.cps[i]? =u_ c->O i σ H->g (.str ⟨#[c]⟩) σ H λZ H2=>tb {E with nx:=O (i+1),ct:=O (i+1),bk:=E.nx} Z H2) (hd:∀σ H,O z.cps.size σ H->E.nx σ H):
  ∃W:Nat->Nat->St->Hp->Prop,(∃m,W 0 m σ H)/\∀i m σ H,W i m σ H->
   ((Its z).stop i H/\E.nx σ H)\/((Its z).go i H/\∃N:St->Hp->Prop,(∀σ' H',N σ' H'->∃m',m'<m/\W (i+1) m' σ' H')/\∀x H',(Its z).yld i H x H'->g x σ H' λZ H2=>tb {E with nx:=N,ct:=N,bk:=E.nx} Z H2):=by
 exists λi m σ H=>m=z.cps.size-i/\i<=z.cps.size/\O i σ H,⟨z.cps.size,by simp,uQ _,h0⟩
 rintro i m σ H ⟨rfl,hi,p⟩;by_cases U:i<z.cps.size
 .refine .inr ⟨U,O (i+1),λσ' H' p'=>⟨z.cps.size-(i+1),(),1,U,p'⟩,λx H' y=>?_⟩
  erw[y,rfl,c,hc,rfl];exact hs i c σ _ hc p
 .have e:i=z.cps.size:=by omega
  exact .inl [e:hd σ H (e▸p)]
def IsL.unsnoc {H:Hp}:∀{ds:om D}{d:D}{vs:om V},IsL H (ds++ [d]) vs->∃us x,vs=us++ [x]/\IsL H ds us/\Is H d x
 | [],d,_,h=>by
  erw[h,v,r,rfl,h1,h2];cases(show r= [] from h2)
  exact⟨[],v,1,1,h1⟩
 |e::r,d,_,h=>by
  erw[h,v,q,rfl,h1,h2];erw[IsL.unsnoc h2,us,x,rfl,h3,h4];exact⟨v::us,x,1,⟨v,us,1,h1,h3⟩,h4⟩
abbrev isStr:D->Bool
 | .str _=>v_
 |_=>Vc
abbrev zp:D->Bool
 | .tup _=>v_
 |_=>Vc
section
variable {K:o0}
def Nu {T U:String}{b:Bool}(h:(Gn T==Gn U)=Vc)(hm:PySem.W.kitMeta U=v_)(O:(fastBuiltinMro T).map (·.contains (Gn U))=u_ b):PySem.W.kitOne K (.type T) (.type U)=u_ b:=by
 unfold PySem.W.kitOne;rw[A4 (by rw[h];exact ud)]
 show(if PySem.W.kitMeta U=v_ then PySem.W.subIn K (.type T) (.type U) else U_)=u_ b
 rw[A6 hm];exact O
def BO {T:String}(h:(Gn T==Gn T)=v_):PySem.W.kitOne K (.type T) (.type T)=u_ true:=by
 unfold PySem.W.kitOne;rw[A6 h]
def jS (d:D):PySem.W.kitOne K (tyD d) (.type "str")=u_ (isStr d):=by
 cases d with
 |str z=>exact BO ()
 |_=>exact Nu (b:=Vc) () () ()
def xF (d:D):PySem.W.kitOne K (tyD d) (.type "tuple")=u_ (zp d):=by
 cases d with
 |tup z=>exact BO ()
 |_=>exact Nu (b:=Vc) () () ()
end
def Abv (c k:Nat):decide ((⟨#[c]⟩:Str).cps.toList< [k])=decide (c<k):=by
 rw[ve];simp[rM]
def Abg (c k:Nat):decide ([k]<(⟨#[c]⟩:Str).cps.toList)=decide (k<c):=by
 rw[ve];simp[rM]
def Wf {X:Cx}{K:o0}(h:X.K=K):IxR X (OX K):=by subst h;exact qD
inductive Acn (K:PySem.W.Frag)(R:(It->Hp->Prop))(x:V)(H1:Hp):Prop
 |mk (a:_)(xs:_)(_:x=-a)(_:SqT K H1 a xs)(_:(↑xs<=Vg->R (Itt K a) H1))
abbrev Adi (K:o0)(tl:TE):TI:=λσ H R=>tl σ H λx H1=>Acn K R x H1
def wW {X:Cx}{tg l:Expr}{tl:TE}(U:PE X l tl):PI X tg l (Adi X.K tl):=by
 exists 2,R,I,h;refine thn (U ot s σ H _ I h) λv s1 zq=>?_;erw[zq,x,H1,O,Z,q1];erw[q1,a,xs,e,hq,q];subst e;cases Z;erw[O.tuple hq,its,rv,p,hz];refine U3 (show s1.heap.IsTuple a its.toArray from p) ?_
 exists #[0,s1],[#[0,s1]],_,_,H1,1,O.kept (t':=s1.toks) λb o e=>uf _ e,kX a _,⟨_,uH _ rfl,1,1⟩,λb hb=>?_,q hz;have e:b=#[0,s1]:=by simpa using hb
 subst e;exact O.fpOk (ur _) (O.hok.fresh (ur _))
variable {X:Cx}
def IF:jA X (.builtin "len") (λxs H Q=>∃p ys,xs= [-p]/\(SqL X.K H p ys\/SqT X.K H p ys)/\(↑ys<=Vg->Q (.int ↑ys) H)):=by
 exists 2,xs,us,Q,I,r,h;erw[h,p,ys,e,O,q];have hz:↑ys<=sizeLine:=by
  rcases O with O|O
  .exact(I.list O).choose_spec.2.2
  .exact(I.tuple O).choose_spec.2.2
 exact qN ot s σ H xs us Q I r ⟨p,ys,e,O,q hz⟩
variable {n:Nat}
def wQ (h:n<=↑xs):Cj xs (u_ (n:Int)) U_=xs.drop n:=by
 unfold Cj;rw[HT.sIx_none,HT.sIx_nat,Fu h];exact vt (by rw[U1];exact ur _)
end L2
namespace L2
open PySem PySem.Spec PyProof.Rows Builtin Builtin.Str
abbrev mX (c:Nat):om Nat->Nat->om Nat
 | [],_=> []
 |a::r,i=>if a=c then i::mX c r (i+1) else mX c r (i+1)
abbrev iU (c:Nat):Nat->om Nat->om (om Nat)
 |0,L=> [L]
 |_+1,[]=> [[]]
 |n+1,a::r=>if a=c then []::iU c n r else match iU c (n+1) r with
  |p::q=>(a::p)::q
  | []=> [[a]]
abbrev ofL (l:om Nat):Str:=⟨l.toArray⟩
def ya (z:Str):ofL z.cps.toList=z:=by
 unfold ofL;simp
def Jz (c:Nat):∀(n:Nat) (L:om Nat),∃p q,iU c n L=p::q
 |0,L=>⟨L,[],by simp[iU]⟩
 |n+1,[]=>⟨[],[],by simp[iU]⟩
 |n+1,a::r=>by
  by_cases h:a=c
  .exact⟨[],iU c n r,by simp[iU,h]⟩
  .erw[Jz c (n+1) r,p,q,e];exact⟨a::p,q,by simp[iU,h,e]⟩
def Ck {c:Nat}{n:Nat}{r:om Nat}:∀{p:om Nat},c∉p->iU c (n+1) (p++c::r)=p::iU c n r
 | [],_=>by simp[iU]
 |a::p,h=>by
  have h1:a≠c:=λe=>h (by simp[e])
  have O:=Ck (n:=n) (r:=r) (p:=p) (λz=>h (ug _ z));show iU c (n+1) (a::(p++c::r))=_;rw[iU,A4 h1,O]
def WJ {c:Nat}{n:Nat}:∀{p:om Nat},c∉p->iU c n p= [p]
 | [],_=>by cases n<;>simp[iU]
 |a::p,h=>by
  have h1:a≠c:=λe=>h (by simp[e])
  cases n with
  |zero=>simp[iU]
  |succ n=>
   have O:=WJ (n:=n+1) (p:=p) (λz=>h (ug _ z));rw[iU,A4 h1,O]
def Cw (x:Str)(c i:Nat)(h:i<↑x):subAt x ⟨#[c]⟩ i=decide (x.cps.toList[i]? =u_ c):=by
 rw[StrLaws.subAt_eq];have O:i<↑x.cps.toList:=by simpa [gV] using h
 have U:(x.cps.toList.drop i).take 1= [x.cps.toList[i]]:=by
  rw[uV O]
  rfl
 show((x.cps.toList.drop i).take 1== [c])=_;rw[U,ui O];generalize x.cps.toList[i]=k;by_cases e:k=c
 .simp[e]
 .simp[e]
def oO (x:Str)(c n:Nat):∀(m k:Nat) (found:Array Nat) (free:Nat),k+m=↑x+1->free<=k->
  (G7 (GQ k m) (found,free) (Gz x ⟨#[c]⟩ ↑x n)).run.fst.toList=found.toList++(mX c (x.cps.toList.drop k) k).take (n-found.size)
 |0,k,found,free,hk,_=>by
  have hl:↑x.cps.toList<=k:=by simp[gV] at hk⊢;omega
  rw[Up hl];simp[mX]
 |m+1,k,found,free,hk,hf=>by
  rw[List.range'_succ,UB];unfold Gz;have ac:↑x.cps.toList=↑x:=by simp[gV]
  by_cases Z:k<↑x
  .have aa:k<↑x.cps.toList:=by omega
   rw[uV aa];have hs:=Cw x c k Z;rw[ui aa] at hs;by_cases e:x.cps.toList[k]=c
   .have O:subAt x ⟨#[c]⟩ k=true:=by rw[hs,e];simp
    by_cases hn:found.size<n
    .rw[A6 ⟨⟨[hn:hf],by show k+1<=↑x;omega⟩,O⟩]
     have U:=oO x c n m (k+1) (found.push k) (k+1) () (ur _)
     show(G7 (GQ (k+1) m) (found.push k,k+1) (Gz x ⟨#[c]⟩ ↑x n)).run.fst.toList=_;rw[U];rw[mX,A6 e,Array.toList_push,Fp];obtain⟨j,hj⟩:∃j,n-found.size=j+1:=[n-found.size-1:()]
     rw[hj,Ti,show n-(found.size+1)=j by omega]
     simp
    .rw[A4 (λz=>hn z.1.1.1)];have U:=oO x c n m (k+1) found free () ()
     show(G7 (GQ (k+1) m) (found,free) (Gz x ⟨#[c]⟩ ↑x n)).run.fst.toList=_;rw[U,show n-found.size=0 by omega]
     simp
   .have O:¬subAt x ⟨#[c]⟩ k=true:=by rw[hs];intro z;exact e (uM (uA z))
    rw[A4 (λz=>O z.2)];have U:=oO x c n m (k+1) found free () ()
    show(G7 (GQ (k+1) m) (found,free) (Gz x ⟨#[c]⟩ ↑x n)).run.fst.toList=_;rw[U,mX,A4 e]
  .rw[A4 (λz=>Z (by have:=z.1.2;show k<↑x;have h1:k+1<=↑x:=this;omega))]
   have U:=oO x c n m (k+1) found free () ()
   show(G7 (GQ (k+1) m) (found,free) (Gz x ⟨#[c]⟩ ↑x n)).run.fst.toList=_;rw[U];have h1:↑x.cps.toList<=k:=by omega
   rw[Up h1,Up ()]
   simp[mX]
def Ks (x:Str)(c n:Nat):occurrences x ⟨#[c]⟩ 0 ↑x n=(mX c x.cps.toList 0).take n:=by
 rw[R7];have:=oO x c n (↑x+1) 0 #[] 0 () (ur _)
 simpa using this
abbrev att (p:om Nat):om (om Nat)->om (om Nat)
 |q::r=>(p++q)::r
 | []=> [p]
def LG (x:Str)(c:Nat):∀(m n a b:Nat),a<=b->b+m=↑x->
  HK x 1 a ((mX c (x.cps.toList.drop b) b).take n)=(att ((x.cps.toList.drop a).take (b-a)) (iU c n (x.cps.toList.drop b))).map ofL:=by
 have aa:↑x.cps.toList=↑x:=by simp[gV]
 have O:∀i j,strSub x i j=ofL ((x.cps.toList.drop i).take (j-i)):=λi j=>by
  rw[<-ya (strSub x i j),Rg]
 intro m
 induction m with
 |zero=>
  intro n a b Z hb;have h1:x.cps.toList.drop b= []:=Up ()
  rw[h1];have e1:iU c n []= [[]]:=by cases n<;>simp[iU]
  rw[e1];simp![mX,List.take_nil,HK,att,v9,uC,Ug];rw[O,show ↑x-a=b-a by omega]
 |succ m ih=>
  intro n a b Z hb;have U:b<↑x.cps.toList:=by omega
  rw[uV U];cases n with
  |zero=>
   simp![rL,HK,iU,att,uC,Ug];rw[O,<-uV U];have e2:(x.cps.toList.drop a).take (↑x-a)=x.cps.toList.drop a:=vt (by rw[U1];omega)
   have e3:x.cps.toList.drop b=(x.cps.toList.drop a).drop (b-a):=by rw[List.drop_drop];congr 1;omega
   rw[e2,e3,U6]
  |succ n=>
   by_cases e:x.cps.toList[b]=c
   .rw[mX,A6 e,Ti,HK,iU,A6 e];rw[ih n (b+1) (b+1) (ur _) ()]
    erw[Jz c n (x.cps.toList.drop (b+1)),p,q,e2];rw[e2,O];simp[att]
   .rw[mX,A4 e,ih (n+1) a (b+1) () (),iU,A4 e]
    erw[Jz c (n+1) (x.cps.toList.drop (b+1)),p,q,e2];rw[e2];simp![att,uC]
    congr 2
    have e3:b+1-a=(b-a)+1:=by omega
    have hx:b-a<↑(x.cps.toList.drop a):=by rw[U1];omega
    rw[e3,List.take_succ_eq_append_getElem hx];simp[show a+(b-a)=b by omega]
def oA (x:Str)(c n:Nat):partsBetween x (occurrences x ⟨#[c]⟩ 0 ↑x n) 1=(iU c n x.cps.toList).map ofL:=by
 rw[StrLaws.partsBetween_eq,Ks];have:=LG x c ↑x n 0 0 (ur _) ()
 rw[tP] at this;rw[this];erw[Jz c n x.cps.toList,p,q,e];rw[e];simp[att]
def Wv {c:Nat}:∀{L:om Nat}{i:Nat},mX c L i= []->c∉L
 | [],_,_=>by simp
 |a::r,i,h=>by
  by_cases e:a=c
  .simp[mX,e] at h
  .rw[mX,A4 e] at h;have:=Wv h;simp[Ud e,this]
def XB:∀(l:om Str) (k:Nat),iq (l.map V.str) (strsFrom k l)
 | [],_=> .nil
 |x::r,k=> .cons [k:1] (XB r (k+1))
def wS:∀{l:om Str}{us:om o6},iq (l.map V.str) us->∃ps:om (Str×Tok),us=strValues ps/\ps.map (·.1)=l
 | [],_,.nil=>[[]:1:1]
 |x::r,_,.cons ⟨t,e⟩ h=>by
  erw[wS h,ps,O,e2];subst e;exact⟨(x,t)::ps,by rw[O];rfl,by rw[uC,e2]⟩
def WY (z:Str):¬VA z<VA " ":=by
 have h1:VA " "=1:=by decide+kernel
 rw[h1];unfold VA;split
 .omega
 .split<;>omega
def Kg (c:Nat):∀(n:Nat) (L:om Nat),↑(iU c n L)<=↑L+1
 |0,L=>by simp[iU]
 |n+1,[]=>by simp[iU]
 |n+1,a::r=>by
  by_cases h:a=c
  .have:=Kg c n r;simp[iU,h];omega
  .have:=Kg c (n+1) r;erw[Jz c (n+1) r,p,q,e];rw[e] at this;simp![iU,A4 h,e];simp at this⊢;omega
abbrev spl (n:Nat)(z:Str):om Str:=(iU 32 n z.cps.toList).map ofL
def Dt (n:Nat)(z:Str):↑(spl n z)<=↑z+1:=by
 unfold spl;rw[uc];have:=Kg 32 n z.cps.toList
 simpa [gV] using this
def J1:(" ":Str)=⟨#[32]⟩:=by decide+kernel
variable {z:Str}{n:Nat}
def Ds (hn:↑z<=n\/↑z<1\/True)(h:(occurrences z " " 0 ↑z n).isEmpty=v_)(h0:n≠0):spl n z= [z]:=by
 rw[J1,Ks,List.isEmpty_iff] at h;have h1:mX 32 z.cps.toList 0= []:=by
  cases e:mX 32 z.cps.toList 0 with
  |nil=>rfl
  |cons a r=>
   rw[e] at h;obtain⟨k,rfl⟩:∃k,n=k+1:=[n-1:()]
   simp at h
 unfold spl;rw[WJ (Wv h1)];simp[ya]
section
variable {X:Cx}
inductive AaY (x:V)(vs:List V)(H:Hp)(Q:VK):Prop
 |mk (z:_)(_:x= !z)(_:vs= [-" "])(_:↑z<=1000)(_:∀p,H p=U_->Q (-p) (upd H p (.lst ((spl (↑z+1) z).map V.str))))
variable {ot:om (o3×Obj)}{σ:St}{H:Hp}{s:o7}{Q:VK}{ys:om V}{its:om o6}{t':Nat}
def J6 (I:#[I])(O:iq ys its)(hz:↑ys<=Vg)(q:∀p,H p=U_->Q (-p) (upd H p (.lst ys)))(U:0<t':=by ac_rfl):
  EP X ot σ Q (.ref #[0,s]) {s with heap:=s.heap.push {cls:= .type "list",data:= .seq its.toArray},toks:=t'}:=
 ⟨.ref #[0,s],_,I.lnew O hz,1,q _ I.fresh⟩
def BK:MtM X "str.split" AaY:=by
 exists 2,x,vs,v,us,Q,I,Z,rv,h;erw[h,z,rfl,rfl,hz,q];erw[Z,t,rfl];erw[rv.one,u,rfl,t',rfl];have O:↑z<=sizeLine:=by rw[uE];omega
 have one:spl (↑z+1) z= [z]->∀(T:Nat),0<T->EP X ot σ Q (.ref #[0,s]) {s with heap:=s.heap.push {cls:= .type "list",data:= .seq [VC z t].toArray},toks:=T}:=λe T hT=>by
  rw[e] at q;exact J6 (ys:= [V.str z]) I (.cons (show il (V.str z) _ from[t:1]) .nil) (by show 1<=Vg;decide) q
 cases h1:(decide (↑z<(" ":Str).length)||decide (VA z<VA " ")) with
 |true=>
  refine vU vL (vT _ _ _) vH (U7 _ _) (RZ z " " t t' h1) ?_;have h2:↑z<1:=by
   rw[HG] at h1;rcases h1 with h1|h1
   .exact uA h1
   .exact A8 (uA h1) (WY z)
  refine one ?_ s.toks I.tk;have e:z.cps.toList= []:=Ul (by simpa [gV] using h2)
  unfold spl;rw[e,iU];rw[<-ya z,e]
  rfl
 |false=>
  cases U:(occurrences z " " 0 ↑z (↑z+1)).isEmpty with
  |true=>
   refine vU vL (vT _ _ _) vH (U7 _ _) (RI z " " t t' h1 () U) ?_
   exact one (Ds (.inr (.inr trivial)) U ()) s.toks I.tk
  |false=>
   have hl:=Dt (↑z+1) z;have e:partsBetween z (occurrences z " " 0 ↑z (↑z+1)) (" ":Str).length=spl (↑z+1) z:=by
    rw[J1];exact oA z 32 (↑z+1)
   refine vU vL (vT _ _ _) vH (U7 _ _) (Fz z " " t t' h1 () U O (by rw[e,uE];omega)) ?_
   rw[e];exact J6 I (XB _ _) (by rw[uc,uE];omega) q
def Xr (x y:Str)(k:Int)(t u v:Tok)(Z:(decide (k< -(2^63:Int))||decide (k≥2^63))=Vc)(h1:(decide (↑x<↑y)||decide (VA x<VA y))=Vc)(hy:(↑y==0)=Vc)
  (hf:(occurrences x y 0 ↑x (h_ x k)).isEmpty=v_):GT («str.split» [[.str x t,.str y u,.int k v]:[]]) (rY x t):=by
 erw[RD x y k t u v Z,U,O];refine .of_wp λprog w A R s h=>?_;rw[O,h1,hy,hf];show Vd _ _ (do rule "str.split.same-object";ret (<-HF [.str x t])) _ _ s
 exact A7 (UL (A7 (TK (uD [0:h]) (by show 1<=Vg;decide))))
def Jh (x y:Str)(k:Int)(t u v:Tok)(Z:(decide (k< -(2^63:Int))||decide (k≥2^63))=Vc)(h1:(decide (↑x<↑y)||decide (VA x<VA y))=v_):
  GT («str.split» [[.str x t,.str y u,.int k v]:[]]) (rY x t):=by
 erw[RD x y k t u v Z,U,O];refine .of_wp λprog w A R s h=>?_;rw[O,h1];show Vd _ _ (do rule "str.split.sep-cannot-occur";ret (<-HF [.str x t])) _ _ s
 exact A7 (UL (A7 (TK (uD [0:h]) (by show 1<=Vg;decide))))
inductive OV (x:V)(vs:List V)(H:Hp)(Q:VK):Prop
 |mk (z:Str)(n:Nat)(_:x= !z)(_:vs= [-" ",.int (n:Int)])(_:↑z<=1000)(_:0<n)(_:n<=1000)(_:∀p,H p=U_->Q (-p) (upd H p (.lst ((spl n z).map V.str))))
def EA:MtM X "str.split" OV:=by
 exists 2,x,vs,v,us,Q,I,rx,rv,h;erw[h,z,n,rfl,rfl,hz,ac,hn,q];erw[rx,t,rfl];erw[IZ rv,u,u',rfl,[t',rfl],[U,rfl]];have aa:↑z<=sizeLine:=by rw[uE];omega
 have hk:(decide ((n:Int)< -(2^63:Int))||decide ((n:Int)≥2^63))=false:=by
  rw[um (),um ()];rfl
 have O:h_ z (n:Int)=n:=by
  unfold h_;rw[A4 ()]
  omega
 have one:spl n z= [z]->∀(T:Nat),0<T->EP X ot σ Q (.ref #[0,s]) {s with heap:=s.heap.push {cls:= .type "list",data:= .seq [VC z t].toArray},toks:=T}:=λe T hT=>by
  rw[e] at q;exact J6 (ys:= [V.str z]) I (.cons (show il (V.str z) _ from[t:1]) .nil) (by show 1<=Vg;decide) q
 cases h1:(decide (↑z<(" ":Str).length)||decide (VA z<VA " ")) with
 |true=>
  refine vU vL (vT _ _ _) vH (F.args_str_split_3 _ _ _) (Jh z " " n t t' U hk h1) ?_;have h2:↑z<1:=by
   rw[HG] at h1;rcases h1 with h1|h1
   .exact uA h1
   .exact A8 (uA h1) (WY z)
  refine one ?_ s.toks I.tk;have e:z.cps.toList= []:=Ul (by simpa [gV] using h2)
  obtain⟨j,rfl⟩:∃j,n=j+1:=[n-1:()]
  unfold spl;rw[e,iU];rw[<-ya z,e]
  rfl
 |false=>
  cases Z:(occurrences z " " 0 ↑z (h_ z (n:Int))).isEmpty with
  |true=>
   refine vU vL (vT _ _ _) vH (F.args_str_split_3 _ _ _) (Xr z " " n t t' U hk h1 () Z) ?_
   rw[O] at Z;exact one (Ds (.inr (.inr trivial)) Z ()) s.toks I.tk
  |false=>
   have hl:=Dt n z;have e:partsBetween z (occurrences z " " 0 ↑z (h_ z (n:Int))) (" ":Str).length=spl n z:=by
    rw[J1,O];exact oA z 32 n
   refine vU vL (vT _ _ _) vH (F.args_str_split_3 _ _ _) (meets_str_split_sep_max z " " n t t' U hk h1 () Z aa (by rw[e,uE];omega)) ?_
   rw[e];exact J6 I (XB _ _) (by rw[uc,uE];omega) q
abbrev xi (c:Nat):om Nat->om Nat
 | []=> []
 |a::r=>if a=c then [] else a::xi c r
def sw {c:Nat}:∀{L:om Nat}{i j:Nat}{r:om Nat},mX c L i=j::r->i<=j/\xi c L=L.take (j-i)
 | [],_,_,_,h=>by simp[mX] at h
 |a::q,i,j,r,h=>by
  by_cases e:a=c
  .rw[mX,A6 e] at h;cases h;exact⟨ur _,by simp[xi,e]⟩
  .rw[mX,A4 e] at h;erw[sw h,h1,h2];exists ()
   rw[xi,A4 e,h2,show j-i=(j-(i+1))+1 by omega,Ti]
def zG {c:Nat}:∀{L:om Nat},c∉L->xi c L=L
 | [],_=>rfl
 |a::r,h=>by
  have h1:a≠c:=λe=>h (by simp[e])
  rw[xi,A4 h1,zG λz=>h (ug _ z)]
abbrev hd (z:Str):Str:=ofL (xi 32 z.cps.toList)
def Ib (I:#[I])(O:iq ys its)(hz:↑ys<=Vg)(q:∀p,H p=U_->Q (-p) (upd H p (¬ys)))(U:0<t':=by ac_rfl):
  EP X ot σ Q (.ref #[0,s]) {s with heap:=s.heap.push {cls:= .type "tuple",data:= .seq its.toArray},toks:=t'}:=
 ⟨.ref #[0,s],_,I.laid (o:=¬ys) (λ_ _ w=>uf _ w) (ur _) ⟨hz,its,O,Hr _ _⟩,1,q _ I.fresh⟩
inductive Ac2 (x:V)(vs:List V)(H:Hp)(Q:VK):Prop
 |mk (z:_)(_:x= !z)(_:vs= [-" "])(_:↑z<=1000)(_:∀p a b,H p=U_->Q (-p) (upd H p (-[.str (hd z),!a,!b])))
def Sj:MtM X "str.partition" Ac2:=by
 exists 2,x,vs,v,us,Q,I,rx,rv,h;erw[h,z,rfl,rfl,hz,q];erw[rx,t,rfl];erw[rv.one,u,rfl,t',rfl];have U:↑z<=sizeLine:=by rw[uE];omega
 refine vU F.slot_str_partition (vT _ _ _) F.entry_str_partition (F.args_str_partition_2 _ _) (meets_str_partition z " " t t' () U) ?_
 cases O:occurrences z " " 0 ↑z 1 with
 |nil=>
  have h0:hd z=z:=by
   rw[J1,Ks] at O;have h1:mX 32 z.cps.toList 0= []:=by
    cases e:mX 32 z.cps.toList 0 with
    |nil=>rfl
    |cons a r=>rw[e] at O;simp at O
   unfold hd;rw[zG (Wv h1),ya]
  refine Ib (ys:= [.str (hd z),!Tb,!Tb]) (t':=s.toks+1) I (.cons (show il (V.str (hd z)) _ from⟨t,by rw[h0]⟩) (.cons (show il (V.str _) _ from⟨0⟩) (.cons (show il (V.str _) _ from⟨0⟩) .nil))) (by show 3<=Vg;decide) λp Z=>q p _ _ Z
 |cons i r=>
  have h0:hd z=strSub z 0 i:=by
   rw[J1,Ks] at O;cases e:mX 32 z.cps.toList 0 with
   |nil=>rw[e] at O;simp at O
   |cons a r'=>
    rw[e] at O;have:a=i:=by simp at O;exact O.1
    subst this;erw[sw e,_,h2];unfold hd;rw[h2,<-ya (strSub z 0 a),Rg,tP]
  refine Ib (ys:= [.str (hd z),-" ",.str _]) (t':=s.toks+1+1) I (.cons (show il (V.str (hd z)) _ from⟨s.toks,by rw[h0]⟩) (.cons (show il (V.str _) _ from[t':1]) (.cons (show il (V.str _) _ from[s.toks+1:1]) .nil))) (by show 3<=Vg;decide) λp Z=>q p _ _ Z
inductive Aa0 (K:PySem.W.Frag)(x:V)(vs:List V)(H:Hp)(Q:VK):Prop
 |mk (sep:Str)(p:Addr)(l:List Str)(_:x= !sep)(_:vs= [-p])(_:SqL K H p (l.map V.str))(_:(l.map (·.length)).sum+↑l*↑sep<=1000000)(_:Q (.str (Vk sep l)) H)
def KQ:MtM X "str.join" (Aa0 X.K):=by
 exists 2,x,vs,v,us,Q,I,Z,rv,h;erw[h,sep,p,l,rfl,rfl,hp,hz,q];erw[Z,t,rfl];erw[rv.one,u,rfl,ru];cases ru;erw[I.list hp,its,r,pl,hl];erw[wS r,ps,rfl,e2];have U:tooLong ((ps.map (·.1)).toArray.foldl (·+ ·.length+↑sep) 0)=false:=by
  rw[e2];have:=Ff sep l;rw[this];unfold tooLong;refine um ?_;rw[uE];omega
 refine vU F.slot_str_join (vT _ _ _) F.entry_str_join (F.args_str_join_2 _ _) (meets_str_join_list sep t p ps U) [pl.isList:?_];have O:(glued sep (ps.map (·.1))).length<=sizeLine:=rH U
 match ps,e2,O with
 | [],e2,O=>
  subst e2;exact⟨O,.str _,H,I.tok _,⟨0⟩,q⟩
 | [a],e2,_=>
  subst e2;exact⟨.str _,H,I,[a.2:1],q⟩
 |a::b::r,e2,O=>
  subst e2;exists O,.str _,H,I.tok _,⟨0⟩;rw[rP];exact q
def IH:jA X (.type "int") (λxs H Q=>∃z n,xs= [!z]/\PySem.intText? z=u_ n/\↑z<=640/\Q (.int n) H):=by
 exists 2,xs,us,Q,I,r,h;erw[h,z,n,rfl,hn,O,q];erw[xH r,u,rfl,t,rfl];exact PySem.W.KIN.call_text hn O ⟨.int n,H,I.tok _,⟨0⟩,q⟩
end
end L2
namespace L2
open PySem PySem.Spec PyProof.Rows
variable {X:Cx}{ot:om (o3×Obj)}{σ:St}{H:Hp}{s:o7}{h':o9}{t':Nat}{fp:om o3}
def Inv.turnedL (I:#[I])(k:∀b o,b∉fp->s.heap.get? b=u_ o->h'.get? b=u_ o)(U:∀b>fp,AW X ot H b)(ht:0<t':=by ac_rfl):Inv X ot σ H {s with heap:=h',toks:=t'}:=by
 have Z:∀b u,H b=u_ u->b∉fp:=λb u e z=>by
  have:=(U b z).1;rw[this] at e;cases e
 have nL:X.env.locals∉fp:=λz=>(U _ z).2.1 rfl;refine I.step (g':=s.gens) (d':=s.drawn) (ch:=fp) (λb hb=>⟨(U b hb).2.2.2.1,(U b hb).2.1,(U b hb).2.2.2.2.1,(U b hb).2.2.2.2.2⟩) (λb o _ _ O e _=>k b o O e) (λb o _ _ O e _=>[o.slots:k b o O e]) (λ_ _ _ _ n=>n)
  (λb o O e=>[o:k b o O e]) (λ_ _ e=>e) (λ_ _ _ e=>e) (λb ps e=>⟨#[],by rw[e];simp⟩) (λm hm=>?_) (λb u e=>?_) I.bare
 .erw[hm,o,es,ep,ho,r];exact⟨o,es,ep,k _ o nL ho,r⟩
 .refine(I.hok b u e).stay (λc v O q=>k c v ?_ q) (λ_ q=>q) λ_ _ q=>q;rcases O with z|z
  .rw[z];exact Z b u e
  .exact Z c _ z
def Inv.handed {X:Cx}{ot:om (o3×Obj)}{σ:St}{H:Hp}{s:o7}{h':o9}{t':Nat}{fp:om o3}{ys:om V}{its:om o6}(I:#[I])(Z:∀b>fp,AW X ot H b)(hl:∀b>fp,b<#[0,s])(hv:iq ys its)(hz:↑ys<=Vg)
  (hn:h'.get? #[0,s]=u_ {cls:= .type "tuple",data:= .seq its.toArray}) (hs:h'.objs.size=#[0,s]+1) (k:∀b o,b∉fp->s.heap.get? b=u_ o->h'.get? b=u_ o) (ht:0<t':=by ac_rfl):
  Inv X ot σ (upd H #[0,s] (¬ys)) {s with heap:=h',toks:=t'}/\∀b>fp,AW X ot (upd H #[0,s] (¬ys)) b:=by
 have I1:Inv X ot σ (upd H #[0,s] (¬ys)) {s with heap:=s.heap.push {cls:= .type "tuple",data:= .seq its.toArray},toks:=t'}:=
  I.laid (o:=¬ys) (λ_ _ w=>uf _ w) (ur _) ⟨hz,its,hv,Hr _ _⟩
 have O:∀b>fp,AW X ot (upd H #[0,s] (¬ys)) b:=λb U=>by
  erw[Z b U,f0,f1,f2,f3,f4,f5];have:=hl b U;exact⟨by rwa[qi (uX this)],f1,f2,f3,f4,f5⟩
 exists I1.turnedL (h':=h') (t':=t') (λb o U e=>?_) O,O;rcases Heap.get?_push_cases (show(s.heap.push {cls:= .type "tuple",data:= .seq its.toArray}).get? b=u_ o from e) with⟨rfl,rfl⟩|e'
 .exact hn
 .exact k b o U e'
abbrev Itz (K:o0)(a b:o3):It:=
 ⟨λi H=>∃xs ys x y,SqT K H a xs/\SqL K H b ys/\xs[i]? =u_ x/\ys[i]? =u_ y,
  λi H v H'=>∃p x y,v= .ref p/\H p=U_/\H'=upd H p (-[x,y])/\(∀xs,SqT K H a xs->xs[i]? =u_ x)/\∀ys,SqL K H b ys->ys[i]? =u_ y,
  λi H=>∃xs,SqT K H a xs/\↑xs=i⟩
abbrev Ite (K:o0)(a:o3)(c:Int):It:=
 ⟨λi H=>∃xs x,SqT K H a xs/\xs[i]? =u_ x,λi H v H'=>∃p x,v= .ref p/\H p=U_/\H'=upd H p (-[.int (c+i),x])/\∀xs,SqT K H a xs->xs[i]? =u_ x,λi H=>∃xs,SqT K H a xs/\↑xs=i⟩
abbrev tnZ (a b z p r i j:o3)(k:Nat)(h:o9):Prop:=
 VD h z p r .none/\Vt h p (-i) (-j)/\(∃u v,Vt h r u v)/\h.IsTupleIter i a k/\h.IsListIter j b k/\AwZ.Apt z p r i j a b
variable {w:oh}{K:o0}{tp:Pos}
def JB {P:og}{aa:om Expr}{c:Nat}(a b z p r i j:o3):MI P w K (.Tuple aa c tp) (Itz K a b) [z,p,r,i,j] z (tnZ a b z p r i j) where
 mem:=by simp
 obj:=λk h st x hx=>by
  erw[st,h1,h2,[u,v,h3],[o4,e4,c4,d4],[o5,e5,c5,d5],D];simp![uI,uW,uS] at hx;rcases hx with rfl|rfl|rfl|rfl|rfl
  .exact⟨_,h1,λv z=>by cases z⟩
  .exact⟨_,h2,λv z=>by cases z⟩
  .exact⟨_,h3,λv z=>by cases z⟩
  .exact⟨o4,e4,λv z=>by rw[d4] at z;cases z⟩
  .exact⟨o5,e5,λv z=>by rw[d5] at z;cases z⟩
 keep:=λk h h' st kk=>by
  erw[st,h1,h2,[u,v,h3],[o4,e4,r4],[o5,e5,r5],D];exact⟨kk z (by simp) _ h1,kk p (by simp) _ h2,⟨u,v,kk r (by simp) _ h3⟩,⟨o4,kk i (by simp) _ e4,r4⟩,⟨o5,kk j (by simp) _ e5,r5⟩,D⟩
 item:=by
  intro X hP hw hK O k ot s σ H E I hf st hg;subst hP hw hK;erw[hg,xs,ys,x,y,ha,hb,hx,hy];erw[I.tuple ha,its,ra,pa,za];erw[I.list hb,ak,rb,pb,zb];erw[ra.get hx,ux,ae,af];erw[rb.get hy,uy,ag,ah];erw[st,h1,h2,[u,v,h3],h4,h5,D];have l1:=uJ h1;have l2:=uJ h2;have l3:=uJ h3;have l4:i<#[0,s]:=by erw[h4,o,e,_];exact uJ e
  have l5:j<#[0,s]:=by erw[h5,o,e,_];exact uJ e
  refine AwZ.zip_go D h1 h2 h3 h4 h5 (show s.heap.IsTuple a its.toArray from pa) pb.isList (x:=ux) (y:=uy) (by simpa using ae) (by simpa using ag) λh' g1 g2 g3 g4 g5 g6 g7=>?_
  have g8:Vt h' p (-i) (-j):=g7 _ _ D.pz D.pr D.pi D.pj h2;obtain⟨I1,ac⟩:=I.handed (t':=s.toks) (ys:= [x,y]) (its:= [ux,uy]) hf (λc O=>by
   simp![uI,uW,uS] at O;rcases O with rfl|rfl|rfl|rfl|rfl<;>assumption) (.cons af (.cons ah .nil)) (by show 2<=Vg;decide) g5 g6 (λc o O e=>by
    simp![uI,uW,uS,V9] at O;exact g7 c o O.1 O.2.2.1 O.2.2.2.1 O.2.2.2.2 e)
  exists 0,wpAny_letOwnedTupleGo_zip (s:={s with heap:=h'}) g1 λad z2 s2=>?_
  have U:∀c o,c≠z->h'.get? c=u_ o->ad.get? c=u_ o:=λc o O e=>s2.extBut c o O e;exists .ref #[0,s],_,I1.turnedL (fp:= [z]) (h':=ad) (t':=s.toks) (λc o O e=>U c o (by simpa using O) e) (λc O=>ac c (by simp at O;simp[O])),1,⟨_,x,y,1,I.fresh,1,λzs Z=>?_,λzs Z=>?_⟩,⟨z2,U _ _ D.pz g8,[_:_:U _ _ D.rz g2],?_,?_,D⟩,λc O=>(ac c O).1
  .rwa[I.tuple_inj Z ha]
  .rwa[I.list_inj Z hb]
  .erw[g3,o,e,q];exact[o:U _ _ D.iz e:q]
  .erw[g4,o,e,q];exact[o:U _ _ D.jz e:q]
 done:=by
  intro X hP hw hK O k ot s σ H E I hf st hg;subst hP hw hK;erw[hg,xs,ha,hx];erw[I.tuple ha,its,ra,pa,za];have hl:=↑ra;erw[st,h1,h2,[u,v,h3],h4,h5,D];refine AwZ.zip_stop (A:=X.A) (I.ok.hd O) D h1 h2 h4 (show s.heap.IsTuple a its.toArray from pa) (by simp;omega) λh' kk=>[1:?_]
  exact I.turnedL (t':=s.toks) (λc o O e=>by
   simp![uI,uW,uS,V9] at O;exact kk c o O.1 O.2.2.1 O.2.2.2.1 O.2.2.2.2 e) hf
 self:=λ_ _ _ _ _ st h=>Rk st.1 h
section
variable {X:Cx}
variable {n:Nat}
def Ab5 {a b:Nat}(ha:a<n)(O:b<n):AwZ.Apt (n+4) (n+2) (n+3) n (n+1) a b:=by
 constructor<;>exact(show _≠((_:Nat)) by omega)
def SG {x:Nat}(h:x=n+4\/x=n+2\/x=n+3\/x=n\/x=n+1):n<=x:=by omega
def Aak {m x:Nat}(hm:m=n+1)(h:x=m\/x=n):n<=x:=by omega
abbrev AeC (K:o0)(ta:TA):TI:=λσ H R=>ta σ H λvs H1=>∃a b xs ys,vs= [-a,-b]/\SqT K H1 a xs/\SqL K H1 b ys/\R (Itz K a b) H1
def Aa4 {O:om Expr}{c:Nat}{tp p pos:Pos}{e1 e2:Expr}{ta:TA}(hg:Gl X "zip")(hm:X.mg "zip"=U_)(ha:PA X [e1,e2] ta)(hs:Vh [e1,e2] X.env= [(Vc,eval e1 X.env),(Vc,eval e2 X.env)])(U:Vh [e2] X.env= [(Vc,eval e2 X.env)]):
  PI X (.Tuple O c tp) (.Call (.Name "zip" p) [e1,e2] [] pos) (AeC X.K ta):=by
 exists 2,R,I,h;refine HS (Zk I hg hm boot_zip (vx (thn (ha pos ot s σ H _ I h) λus s1 zq=>?_) (by rw[hs,U]) (by rw[U];rfl)));erw[zq,vs,H1,Z,r1,q1]
 erw[q1,a,b,xs,ys,e,hA,hB,q];subst e;erw[IZ r1,u,u',rfl,ru,ac];cases ru;cases ac;erw[Z.tuple hA,its,ra,pa,za];erw[Z.list hB,ad,rb,pb,zb];have la:a<#[0,s1]:=by erw[id pa,o,e,_];exact uJ e
 have lb:b<#[0,s1]:=by erw[id pb,o,n,e,_];exact uJ e
 refine AwZ.zip_call (show s1.heap.IsTuple a its.toArray from pa) pb.isList λh2 g1 g2 g3 g4 g5 g6 g7=>?_
 refine Rk (s:={s1 with heap:=h2}) g1 ?_
 exists _,[#[0,s1]+4,#[0,s1]+2,#[0,s1]+3,#[0,s1],#[0,s1]+1],_,_,H1,1,Z.kept (t':=s1.toks) g7,JB a b _ _ _ _ _,⟨g1,g2,[_:_:g3],g4,g5,?_⟩,λx hx=>?_,q
 .exact Ab5 la lb
 .have aa:#[0,s1]<=x:=by
   simp![uI,uW,uS] at hx;exact SG hx
  exact Z.fpOk aa (Z.hok.fresh aa)
abbrev tnE (a e j:o3)(c:Int)(k:Nat)(h:o9):Prop:=(∃old,VY h e j (c+k) old)/\h.IsTupleIter j a k/\e≠j
def Dh {P:og}{aa:om Expr}{cc:Nat}(a e j:o3)(c:Int):MI P w K (.Tuple aa cc tp) (Ite K a c) [e,j] e (tnE a e j c) where
 mem:=by simp
 obj:=λk h st x Z=>by
  erw[st,[U,h1],[o4,e4,c4,d4],D];simp![uI,uW,uS] at Z;rcases Z with rfl|rfl
  .exact⟨_,h1,λv z=>by cases z⟩
  .exact⟨o4,e4,λv z=>by rw[d4] at z;cases z⟩
 keep:=λk h h' st kk=>by
  erw[st,[U,h1],[o4,e4,r4],D];exact⟨⟨U,kk e (by simp) _ h1⟩,⟨o4,kk j (by simp) _ e4,r4⟩,D⟩
 item:=by
  intro X hP hw hK O k ot s σ H E I hf st hg;subst hP hw hK;erw[hg,xs,x,ha,Z];erw[I.tuple ha,its,ra,pa,za];erw[ra.get Z,ux,af,ag];erw[st,[U,h1],h4,D];have l1:=uJ h1;have l4:j<#[0,s]:=by erw[h4,o,e,_];exact uJ e
  refine AwZ.enum_go h1 h4 (show s.heap.IsTuple a its.toArray from pa) (x:=ux) (by simpa using af) D λh' g1 g3 g5 g6 g7=>?_
  obtain⟨I1,ac⟩:=I.handed (t':=s.toks+1) (ys:= [.int (c+k),x]) (its:= [.int (c+k) s.toks,ux]) hf (λc O=>by
   simp![uI,uW,uS] at O;rcases O with rfl|rfl<;>assumption) (.cons (show il (V.int (c+k)) _ from⟨0⟩) (.cons ag .nil)) (by show 2<=Vg;decide) g5 g6 (λc o O e=>by
    simp![uI,uW,uS,V9] at O;exact g7 c o O.1 O.2 e)
  exists 0,wpAny_letOwnedTupleGo_enum (s:={s with heap:=h',toks:=s.toks+1}) g1 λad z2 s2=>?_
  have ae:∀c o,c≠e->h'.get? c=u_ o->ad.get? c=u_ o:=λc o O e=>s2.extBut c o O e;exists .ref #[0,s],_,I1.turnedL (fp:= [e]) (h':=ad) (t':=s.toks+1) (λc o O e=>ae c o (by simpa using O) e) (λc O=>ac c (by simp at O;simp[O])),1,⟨_,x,1,I.fresh,1,λzs ah=>?_⟩,[[ux:?_]:?_:D],λc O=>(ac c O).1
  .rwa[I.tuple_inj ah ha]
  .have e1:c+((k+1:Nat):Int)=c+(k:Int)+1:=by omega
   rwa[e1]
  .erw[g3,o,e,q];exact[o:ae _ _ (Ud D) e:q]
 done:=by
  intro X hP hw hK O k ot s σ H E I hf st hg;subst hP hw hK;erw[hg,xs,ha,Z];erw[I.tuple ha,its,ra,pa,za];have hl:=↑ra;erw[st,[U,h1],h4,D];refine AwZ.enum_stop (A:=X.A) (I.ok.hd O) h1 h4 (show s.heap.IsTuple a its.toArray from pa) (by simp;omega) λh' kk=>[1:?_]
  exact I.turnedL (t':=s.toks) (λc o O e=>by
   simp![uI,uW,uS,V9] at O;exact kk c o O.2 e) hf
 self:=λ_ _ _ _ _ st h=>by
  erw[st,[U,h1],_];exact Fb h1 h
abbrev IO (K:o0)(w:oh)(a:o3):Prop:=(a==Vy)=Vc/\∃es n,K.lookup a=u_ ⟨.type "dict",U_,.dict es n,#[]⟩/\PySem.W.KeysLit w.params es.toList
inductive Ac3 (K:PySem.W.Frag)(w:World)(x:V)(y:V)(H:Hp)(Q:VK):Prop
 |mk (z:_)(a:_)(r:_)(_:x= !z)(_:y=-a)(_:IO K w a)(_:PySem.W.nsIn K a z=u_ r)(_:Q (.bl (!(r.isSome))) H)
def Pd:OpR X (Vm .NotIn) (Ac3 X.K X.w):=by
 exists 2,x,y,v,u,Q,I,U,Z,h;erw[h,z,a,r,rfl,rfl,[hs,es,n,O,hk],hn,q];erw[U,t,rfl];cases Z;have hm:=PySem.W.mapOf_K (prog:=X.prog) (w:=X.w) I.kIn O hk;refine Fv (TH X.prog X.w z t) hs hm ⟨.bl (!(r.isSome)),H,I.tok _,?_,q⟩;rw[PySem.W.find_K O hn]
 rfl
inductive Aeu (K:PySem.W.Frag)(w:World)(x:V)(y:V)(H:Hp)(Q:VK):Prop
 |mk (z:_)(a:_)(u:_)(v:_)(_:x=-a)(_:y= !z)(_:IO K w a)(_:PySem.W.nsIn K a z=u_ (u_ u))(_:il v u)(_:Q v H)
def Ad2:IxR X (Aeu X.K X.w):=by
 intro value slice ot s σ H x y v u Q I U Z h hs;erw[h,z,a,u',v',rfl,rfl,[_,es,n,O,hk],hn,hr,q];erw[Z,t,rfl];cases U;have hm:=PySem.W.mapOf_K (prog:=X.prog) (w:=X.w) I.kIn O hk;exact tj hm.typeIs slot_dict_getitem.lookup (rR (TH X.prog X.w z t) hm (PySem.W.find_K O hn) ⟨v',H,I.tok _,hr,q⟩) hs
end
section
variable {X:Cx}{K:o0}
def Ah {es:om Expr}{k:Nat}{t:TGs}{n:Nat}{pos:Pos}(U:X.K=K)(Z:X.calm=v_)(h:PGs X es t)
  (hn:↑(VZ es X.env)=n) (O:(VZ es X.env).findIdx? (·.1)=U_):PG X (.Tuple es k pos) (Acx K n t):=by subst U;exact oz Z h hn O
end
def X2 {lo:Int}{n:Nat}{L:o3}{H1:Hp}{te:TE}{tl:St}{Q:VK}(C:Nat->om V->Hp->Prop)(hn:n<=Vg)(h0:C 0 [] (upd H1 L (.lst [])))
  (Z:∀i ys H,i<n->C i ys H->H L=u_ (.lst ys)->↑ys<=i->∀R:VK,(∀y H4,H4 L=u_ (.lst ys)->C (i+1) (ys++ [y]) (upd H4 L (.lst (ys++ [y])))->R y H4)->te (u_ (.int (lo+(i:Int)))::tl) H R)
  (hQ:∀ys H,C n ys H->H L=u_ (.lst ys)->Q (-L) H):CZ L (Itr lo n) (YY 0) nG te (U_::tl) H1 Q:=by
 exists n,λi σ ys H=>(∃x,σ=x::tl)/\C i ys H,hn,[[U_:1]:h0],?_,?_
 .rintro i σ ys H hi ⟨⟨x,rfl⟩,O⟩ U hy;exists hi;rintro x' H' ⟨rfl,rfl⟩;dsimp![YY,nG,GX];rw[A6 rfl];exact Z i ys H' hi O U hy _ λy H4 e c=>[e:⟨0⟩:c]
 .rintro σ ys H ⟨_,O⟩ U;exact[ur _:hQ ys H O U]
def Abx {K:o0}{a b A:o3}{H1:Hp}{te:TE}{tl:St}{Q:VK}{xs ys:om V}(f:Nat->D)(ha:∀H,ic H1 H->SqT K H a xs)(hb:∀H,ic H1 H->SqL K H b ys)(ac:↑xs=↑ys)(hn:↑xs<=Vg)(hA:H1 A=U_)
  (Z:∀i x y H (R:VK),xs[i]? =u_ x->ys[i]? =u_ y->ic H1 H->(∀v H',ic H H'->Is H' (f i) v->R v H')->te (u_ x::u_ y::tl) H R)
  (hQ:∀H' vs,ic H1 H'->H' A=u_ (.lst vs)->L2.IsL H' ((Vp ↑xs).map f) vs->Q (-A) H'):CZ A (Itz K a b) (Acx K 2 (E4 (YY 0) (E4 (YY 1) Adp))) nG te (U_::U_::tl) H1 Q:=by
 exists ↑xs,λi σ us H=>(∃u v,σ=u::v::tl)/\L2.IsL H ((Vp i).map f) us/\ic H1 H,hn,[[U_:U_:1]:1:qf hA _],?_,?_
 .rintro i σ us H hi ⟨⟨u,v,rfl⟩,hl,sm⟩ O ad;have hx:xs[i]? =u_ xs[i]:=ui hi;have hy:ys[i]? =u_ (ys[i]'()):=ui _
  exists ⟨xs,ys,_,_,ha H sm,hb H sm,hx,hy⟩,λx H' y=>?_;erw[y,p,x',y',rfl,hp,rfl,e1,e2];have e1:=e1 xs (ha H sm);have e2:=e2 ys (hb H sm);have s2:ic H (upd H p (-[x',y'])):=qf hp _;exists p,0,SqT.of qg,1,x',0,y',0,1;dsimp![nG];rw[A6 rfl];refine Z i x' y' _ _ e1 e2 (sm.trans s2) λy4 H4 U aa=>⟨U _ _ (s2 _ _ O),[_:0],?_,λb o e=>?_⟩
  .have t:Tk H4 (upd H4 A (.lst (us++ [y4]))):=Tk.updL (U _ _ (s2 _ _ O));rw[RX,uq];exact((hl.mono (s2.trans U).tk).mono t).append (IsL.one (aa.mono t))
  .rw[qi (qk e hA)];exact U b o (s2 b o (sm b o e))
 .rintro σ us H ⟨_,hl,sm⟩ O;exact[[xs:ha H sm:1]:hQ H us sm O hl]
def zL (z:Str)(l:om Str):inV (!z) (l.map V.str)=decide (z>l):=by
 unfold inV;rw[tY,vR,Fw,vk];constructor
 .rintro⟨x,U,e⟩;have O:(x==z)=true:=e;rw[beq_iff_eq] at O;exact O▸U
 .intro h;exact⟨z,h,by show(z==z)=v_;exact beq_self_eq_true z⟩
def Wa (l:om Str):(l.map V.str).all ZP=true:=by
 rw[UD,Um];intro x _
 rfl
inductive Pt where
 |s (z:Str)|n (i:Int)
abbrev Pt.d:Pt->D
 | .s z=> !z
 | .n i=> .int i
abbrev Pt.t:Pt->Str
 | .s z=>z
 | .n i=>Vn i
inductive Kd where
 |box|line|words
 deriving DecidableEq
abbrev Kd.t:Kd->Str
 | .box=>"box"
 | .line=>"line"
 | .words=>"words"
abbrev BX:om Str:= ["a","b","c","d","e","f","g","h"]
abbrev FRM:om (Str×om Kd):= [("text",[.box,.words]),("self",[.box]),("copy",[.box,.box]),("row",[.box]),("put",[.box,.box]),("join",[.box,.box]),("first",[.box,.box]),("rest",[.box,.box]),
 ("size",[.box,.box]),("cut",[.box,.box,.box]),("glue",[.box,.box,.box]),("ask",[.box,.box]),("has",[.box,.box]),("names",[.box,.box]),("go",[.line]),("like",[.box,.box,.line]),
 ("rowed",[.box,.line]),("none",[.box,.line]),("say",[.box]),("fault",[])]
abbrev Aa3 (n m:Nat):Kd->Pt->Prop
 | .box,.s z=>z>BX
 | .line,.n i=>1<=i/\i<=n
 | .words,.s z=>↑z<=m/\z.cps.toList.all QF=v_
 |_,_=>False
abbrev Xk (n m:Nat):om Kd->om Pt->Prop
 | [],[]=>True
 |k::ks,p::ps=>Aa3 n m k p/\Xk n m ks ps
 |_,_=>False
nonrec abbrev Rw:=Str×om Pt
abbrev Ji (n m:Nat)(r:Rw):Prop:=∃ks,(r.1,ks)>FRM/\Xk n m ks r.2
abbrev txs (r:Rw):om Str:=r.1::r.2.map Pt.t
abbrev Yh (r:Rw):Str:=Vk " " (txs r)
abbrev rowD (r:Rw):D:=-[.str r.1,.tup (r.2.map Pt.d)]
def Jn:∀(x y:Str) (r:om Str),(Vk " " (x::y::r)).cps.toList=x.cps.toList++32::(Vk " " (y::r)).cps.toList:=by
 intro x y r;show((x.cps++(" ":Str).cps)++(Vk " " (y::r)).cps).toList=_;rw[tN,tN,J1];simp
nonrec abbrev Da (z:Str):Prop:=32∉z.cps.toList
def Kn:∀(l:om Str) (z:Str) (n:Nat),(∀p>l,Da p)->(n=0\/Da z)->spl (↑l+n) (Vk " " (l++ [z]))=l++ [z]
 | [],z,n,_,hz=>by
  show spl (0+n) z= [z];rw[T0];unfold spl;rcases hz with rfl|hz
  .rw[iU];show [ofL z.cps.toList]= [z];rw[ya]
  .rw[WJ hz];show [ofL z.cps.toList]= [z];rw[ya]
 |p::l,z,n,hl,hz=>by
  have O:=Kn l z n (λq U=>hl q (ug _ U)) hz;have Z:Da p:=hl p uh;obtain⟨y,r,e⟩:∃y r,l++ [z]=y::r:=by cases l<;>exact[_:0]
  show spl ((↑l+1)+n) (Vk " " (p::(l++ [z])))=p::(l++ [z]);rw[e] at O⊢;unfold spl at O⊢;rw[Jn,show ↑l+1+n=(↑l+n)+1 by omega,Ck Z,uC,O,ya]
def Sx (w:Str)(r:om Str)(h:Da w):hd (Vk " " (w::r))=w:=by
 have O:∀(p q:om Nat),32∉p->xi 32 (p++32::q)=p:=by
  intro p
  induction p with
  |nil=>intro q _;simp[xi]
  |cons a p U=>
   intro q h;have h1:a≠32:=λe=>h (by simp[e])
   show xi 32 (a::(p++32::q))=a::p;rw[xi,A4 h1,U q λz=>h (ug _ z)]
 cases r with
 |nil=>
  show ofL (xi 32 w.cps.toList)=w;rw[zG h,ya]
 |cons y r=>
  unfold hd;rw[Jn,O _ _ h,ya]
def BQ:∀(l:om Str),l≠ []->(Vk " " l).length+1=(l.map (·.length)).sum+↑l
 | [],h=>A8 rfl h
 | [x],_=>by simp[Vk]
 |x::y::r,_=>by
  have O:=BQ (y::r) (by simp)
  have e:(Vk " " (x::y::r)).length=↑x+(1+(Vk " " (y::r)).length):=by
   have:=A9 VI (Jn x y r);rw[uF,uw] at this;simp![vm] at this;show(Vk " " (x::y::r)).cps.size=_;rw[this];show x.cps.size+((Vk " " (y::r)).cps.size+1)=x.cps.size+(1+(Vk " " (y::r)).cps.size);omega
  rw[e,uC,UG,uw];omega
def oP {i:Int}(h1:1<=i)(h2:i<=40):↑(Vn i:Str)<=2/\Da (Vn i:Str)/\(Vn i:Str).cps.toList.all QF=true:=by
 obtain⟨k,rfl⟩:∃k:Fin 41,i=((k.val:Nat):Int):=⟨[i.toNat:()],by simp;omega⟩
 have O:∀k:Fin 41,↑(Vn ((k.val:Nat):Int):Str)<=2/\decide (Da (Vn ((k.val:Nat):Int):Str))=v_/\(Vn ((k.val:Nat):Int):Str).cps.toList.all QF=true:=by decide+kernel
 erw[O k,a,b,c];exact[a:uA b:c]
def qaj {i:Int}(h1:1<=i)(h2:i<=40):PySem.intText? (Vn i:Str)=u_ i:=PySem.W.KIN.num_reads () ()
variable {z:Str}
def NL (h:z>BX):↑z=1/\Da z/\z.cps.toList.all QF=true:=by
 have O:∀z>BX,↑z=1/\decide (Da z)=v_/\z.cps.toList.all QF=true:=by decide+kernel
 erw[O z h,a,b,c];exact[a:uA b:c]
def Df:∀x>FRM,decide (Da x.1)=v_/\x.1.cps.toList.all QF=true:=by decide+kernel
def SE:∀x>FRM,(decide (Kd.words>x.2)=Vc)\/x=(("text":Str),[Kd.box,Kd.words]):=by decide+kernel
def E7:∀x>FRM,∀y>FRM,x.1=y.1->x=y:=by decide+kernel
variable {n:Nat}
def ow {m:Nat}(hn:n<=40){k:Kd}{p:Pt}(h:Aa3 n m k p)(O:k≠ .words):Da p.t:=by
 cases k<;>cases p<;>simp![Aa3] at h
 .exact(NL h).2.1
 .exact(oP h.1 ()).2.1
 .exact A8 rfl O
def Zc {n m:Nat}:∀{ks:om Kd}{ps:om Pt},Xk n m ks ps->↑ps=↑ks
 | [],[],_=>rfl
 |_::_,_::_,h=>by rw[uw,uw,Zc h.2]
 | [],_::_,h=>h.elim
 |_::_,[],h=>h.elim
def ko {n m:Nat}(hn:n<=40):∀{ks:om Kd}{ps:om Pt},Xk n m ks ps->Kd.words∉ks->∀p>ps.map Pt.t,Da p
 | [],[],_,_=>λp O=>by simp at O
 |_::_,_::_,h,hk=>λp O=>by
  rw[uC] at O;rcases Aa.mp O with rfl|O
  .exact ow hn h.1 λe=>hk (by simp[e])
  .exact ko hn h.2 (λz=>hk (ug _ z)) p O
 | [],_::_,h,_=>h.elim
 |_::_,[],h,_=>h.elim
variable {r:Rw}
def Sl {m:Nat}(h:Ji n m r):hd (Yh r)=r.1:=by
 erw[h,ks,O,U];exact Sx _ _ (uA (Df _ O).1)
variable {ks:om Kd}
def Me {m:Nat}(hn:n<=40)(hk:(r.1,ks)>FRM)(Z:Xk n m ks r.2):spl (if Kd.words>ks then ↑ks else(Yh r).length+1) (Yh r)=txs r:=by
 have hw:Da r.1:=uA (Df _ hk).1;by_cases h:Kd.words>ks
 .rw[A6 h];rcases SE _ hk with e|e
  .simp at e;exact A8 h e
  .have e1:ks= [.box,.words]:=A9 Prod.snd e;subst e1;erw[r,w,ps]
   match ps,Z with
   | [p,q],Z=>
    have:=Kn [w,p.t] q.t 0 (λz hz=>by
     simp![uI,uW,uS] at hz;rcases hz with rfl|rfl
     .exact hw
     .exact ow hn Z.1 ()) (.inl rfl)
    exact this
 .rw[A4 h];have hf:∀p>txs r,Da p:=λp U=>by
   rcases Aa.mp U with rfl|U
   .exact hw
   .exact ko hn Z h p U
  rcases Tn (txs r) with e|⟨l,z,e⟩
  .simp[txs] at e
  .rw[Rm] at e;have O:=BQ (txs r) (by simp[txs])
   unfold Yh;rw[e] at hf O⊢;have hl:↑l<=(Vk " " (l++ [z])).length:=by
    rw[uF] at O;simp![uw,HX] at O;omega
   have:=Kn l z ((Vk " " (l++ [z])).length+1-↑l) (λq hq=>hf q (vf _ hq)) (.inr (hf z (by simp)))
   rw[show ↑l+((Vk " " (l++ [z])).length+1-↑l)=(Vk " " (l++ [z])).length+1 by omega] at this
   exact this
abbrev VE:om o6:= [.type "ValueError",.type "Exception",.type "BaseException",.type "object"]
abbrev CX1 (P:og)(w:oh):CXT:=λouter H s E e s'=>∃(ea C:o3) (a0:o6) (H':Hp) (B:o9),e= .ref ea/\s'.os=s.os/\VX s'.gens/\0<s'.toks/\Un (frs outer) [] H H' s.heap s'.heap/\HOk P w H' B/\
 Rz B outer ea (-C) a0 s'.heap/\(∀b o,s.heap.get? b=u_ o->b∉frs outer->∃o',B.get? b=u_ o')/\E (-ea) (u_ C) H'
variable {h:o9}{C:o3}
def Ab2 {bmB:om o6}{newId:String}(X:K.In h)(q:PySem.W.excIn K C bmB newId=v_):
  ∃bm N nm Z bs hdct sn sub ab col dd k0 k1 k2 k3 k5 mN,h.get? C=u_ (excClassObj nm Z C N bs bm hdct sn sub ab col dd k0 k1 k2 k3 k5 newId)/\h.Ns N mN/\mN "__init__"=U_/\OwnTail h bmB bm:=by
 unfold PySem.W.excIn at q;split at q
 .rename_i dd cd sl ho
  split at q
  .rename_i C' bm k0 k1 k2 k3 n k5 hm hs
   simp![uG,beq_iff_eq,Bool.not_eq_true'] at q;erw[q,[[[[rfl,rfl],O],ht],hok],U];erw[cd,nm,bs,aa,ns,Z,hd,sn,sub,ab,col,ac];dsimp only at hm O hok U;subst hm O;obtain⟨l⟩:=sl;simp only at hs;subst hs;exact⟨bm,ns,nm,Z,bs,hd,sn,sub,ab,col,dd,k0,k1,k2,k3,k5,_,X _ _ ho,.of_isNs (PySem.W.isNs_of_in X hok),PySem.W.nsMap_none_of_in X hok U,PySem.W.tail_of_in X ht⟩
  .cases q
 .cases q
def sD {h base B:o9}:∀{l:om Env},h.FunFrames base l->(∀b>frs l,B.get? b=U_)->h.FunFrames B l
 | [],_,_=>trivial
 |env::r,⟨hk,⟨L,o,hf,hn,ho,hd⟩,hr⟩,hB=>by
  have e:frs (env::r)=L::frs r:=by unfold frs;rw[vY,hf]
  rw[e] at hB;exact[hk:⟨L,o,hf,hB L uh,ho,hd⟩:sD hr λb O=>hB b (ug _ O)]
abbrev Aar (E:XK)(C:o3)(ta:TE):TS:=λ_ σ H=>Lc ta Aas σ H λvs H1=>↑vs=1/\∀e,E (-e) (u_ C) H1
def Kl {P:og}{w:oh}{K:o0}{mg:Str->oq o6}{base:o9}{N:om Str}{qual:Str}{scope:Vu}{f:o3}{U:o6}{A:oj}{outer:om Env}{s₀:o7}{H₀:Hp}{E:XK}
  {x:Str}{C:o3}{np cpos pos:Pos}{aa:Expr}{ta:TE} (hx:PySem.W.excIn K C VE "ValueError.__new__"=v_) (hg:Gl (cxOf (CX1 P w) P w K mg base N qual scope f U A outer s₀ H₀ E) x) (hm:mg x=u_ (-C))
  (ha:PE (cxOf (CX1 P w) P w K mg base N qual scope f U A outer s₀ H₀ E) aa ta) (hd:(x==("__debug__":Str))=Vc)
  (hs:Vh [aa] (Vj qual scope #[0,s₀] f U)= [(Vc,eval aa (Vj qual scope #[0,s₀] f U))]):
  PS (cxOf (CX1 P w) P w K mg base N qual scope f U A outer s₀ H₀ E) (.Raise (u_ (.Call (.Name x np) [aa] [] cpos)) U_ pos) (Aar E C ta):=by
 exists 2,D,I,h;erw[Ab2 I.mod.kin hx,bm,Nn,nm,q,bs,hdct,sn,sub,ab,col,dd,k0,k1,k2,k3,k5,mN,hC,hN,aq,T];have hT:bm.contains (.type "BaseException")=true:=T.hasType ()
 refine wpAny_Raise_call_subT (C:=C) (nm:=nm) (q:=q) (N:=Nn) (bs:=bs) (bm:=bm) (hdct:=hdct) (sn:=sn) (sub:=sub) (ab:=ab) (col:=col) (dd:=dd) (k0:=k0) (k1:=k1) (k2:=k2) (k3:=k3) (k5:=k5)
  (mN:=mN) F.excBase_ValueError hT (I.ok.hd rfl) (by show(Vo cpos (Vh [aa] (Vj qual scope #[0,s₀] f U))).any (·.1)=Vc;rw[hs];rfl) aq (wq I hg hm [1:?_] hd)
 have au:PA (cxOf (CX1 P w) P w K mg base N qual scope f U A outer s₀ H₀ E) [aa] (Lc ta Aas):=qb ha qd hs;have hp:=au cpos ot s σ H (λvs H1=>↑vs=1/\∀e,E (-e) (u_ C) H1) I h;show Vd _ _ (evalArgs (-C) v_ (Vo cpos (Vh [aa] (Vj qual scope #[0,s₀] f U))) []) _ _ s;have aw:Vh [aa] (cxOf (CX1 P w) P w K mg base N qual scope f U A outer s₀ H₀ E).env= [(Vc,eval aa (Vj qual scope #[0,s₀] f U))]:=hs;rw[aw] at hp;rw[hs];refine Ub (vz hp (λvs s₂ h₂=>?_) λ_ _ y=>y);erw[h₂,ws,H2,I2,r2,q2];erw[q2,hl,q2];have bk:=I2.bk;have ax:↑vs<=sizeLine:=by rw[<-↑r2,hl];decide
 exists 1,ax,bk _ _ hC,hN.keeps bk,T.keeps bk,λh' e ad=>?_;show Vd (Vs P w) (A.deeper (Vj qual scope #[0,s₀] f U)) (TC (Vj qual scope #[0,s₀] f U) (-e)) (λ_ ag=>CX1 P w outer H₀ s₀ E (-e) ag) (λe' ag=>CX1 P w outer H₀ s₀ E e' ag) _;have ay:(A.deeper (Vj qual scope #[0,s₀] f U)).frames=u_ (Vj qual scope #[0,s₀] f U::outer):=I2.ok.frames;have ak:s₂.heap.FunFrames base (Vj qual scope #[0,s₀] f U::outer):=I2.stack;have ah:∀b>frs (Vj qual scope #[0,s₀] f U::outer),H2 b=none:=I2.stkFree;have al:frs (Vj qual scope #[0,s₀] f U::outer)=#[0,s₀]::frs outer:=rfl;have ap:#[0,s₀]<=#[0,s₀]:=I2.ok.above;have O:Un (frs outer) [] H₀ H2 s₀.heap s₂.heap:=I2.base;refine wpAny_leaves_madeW (base:=TI.gone s₂.heap (frs (Vj qual scope #[0,s₀] f U::outer))) (h:=s₂.heap) (L:=#[0,s₀]) ay rfl (λb o e=>(TI.gone_some e).2) (sD ak λb Z=>TI.gone_none Z) ad λam t af aB _ aA=>?_;have ae:∀b o,b∉frs (Vj qual scope #[0,s₀] f U::outer)->s₂.heap.get? b=u_ o->am.get? b=u_ o:=λb o Z e=>af.1 b o (by rwa[TI.gone_get Z])
 have slots:∀b o,s₂.heap.get? b=u_ o->(∀vs,o.data≠ .fields vs)->∃sl,am.get? b=u_ {o with slots:=sl}:=λb o e hn=>aA b o (ad.keeps b o e) hn
 have nd:∀b>frs outer,∀o,s₂.heap.get? b=u_ o->∀vs,o.data≠ .fields vs:=λb Z o e=>by
  obtain⟨_,o',e',hn⟩:=ak.mem (show b>(Vj qual scope #[0,s₀] f U::outer).filterMap (·.frame) from by rw[show(Vj qual scope #[0,s₀] f U::outer).filterMap (·.frame)=frs (Vj qual scope #[0,s₀] f U::outer) from rfl,al];exact ug _ Z)
  rw[e] at e';cases e';exact hn
 have ac:∀b o,s₀.heap.get? b=u_ o->b∉frs outer->b∉frs (Vj qual scope #[0,s₀] f U::outer):=λb o e Z hm=>by
  rw[al] at hm;rcases Aa.mp hm with rfl|hm
  .exact A8 (uJ e) (vP _)
  .exact Z hm
 exists e,C,-t,H2,0,I2.os,I2.bare,(by first|exact I2.tk|exact Vq I2.tk (V8 _ _)|((try dsimp only);first|assumption|exact Inv.tk (by assumption)|exact Hw _|exact Vq (Inv.tk (by assumption)) (by assumption)|exact Nat.add_pos_left (Inv.tk (by assumption)) _|omega)),⟨?_,?_,O.free,?_,O.tups,O.frzs,O.tbls⟩,?_,af,?_,q2 e
 .intro b o e1 hn Z hx;exact ae b o (ac b o e1 Z) (O.keep b o e1 hn Z hx)
 .intro b o e1 hn Z hx;erw[O.slot b o e1 hn Z hx,sl,e2];erw[slots b _ e2 (nd b Z _ e2),ao,e3];exact[ao:e3]
 .intro b o e1 hx;erw[O.there b o e1 hx,o',e2];by_cases Z:b>frs outer
  .erw[slots b _ e2 (nd b Z _ e2),ao,e3];exact[_:e3]
  .exact[o':ae b o' (ac b o e1 Z) e2]
 .intro b u Z;refine(I2.hok b u Z).stay (λc v hc q=>?_) (λ_ q=>q) λ_ _ q=>q;rw[TI.gone_get]
  .exact q
  .intro hm;have hn:=ah c hm;rcases hc with z|z
   .rw[z,Z] at hn;cases hn
   .rw[z] at hn;cases hn
 .intro b o e1 Z;obtain⟨o',e2⟩:=O.there b o e1 (by simp)
  exact⟨o',by rwa[TI.gone_get (ac b o e1 Z)]⟩
nonrec abbrev Cx.marked (X:Cx)(ee:o3)(xe:o6->o7->Prop):Cx:={X with A:=X.A.mark (u_ (-ee)),calm:=Vc,xe:=xe}
section
variable {X:Cx}{ot:om (o3×Obj)}{σ:St}{H:Hp}{s:o7}{ee:o3}{xe:o6->o7->Prop}
def Cx.Ok.marked (ok:X.Ok):(X.marked ee xe).Ok:=
 ⟨ok.mod,ok.kind,ok.glob,ok.blt,ok.above,ok.inj,ok.has,ok.cab,(λz=>A8 z ud),ok.frames,ok.stk,ok.exf,ok.bs,ok.bsz,ok.noex,ok.exfs,ok.funs,ok.frf⟩
def Inv.marked (I:#[I]):Inv (X.marked ee xe) ot σ H s:=⟨I.ok.marked,I.os,I.bare,I.base,I.loc,I.cell,I.free,I.freeC,I.pin,I.hok,I.len,I.tk⟩
def Inv.unmarked (ok:X.Ok)(I:Inv (X.marked ee xe) ot σ H s):#[I]:=⟨ok,I.os,I.bare,I.base,I.loc,I.cell,I.free,I.freeC,I.pin,I.hok,I.len,I.tk⟩
def SP.unmarked (ok:X.Ok){D:mU}{f:Flow}{s':o7}(h:SP (X.marked ee xe) ot D f s'):SP X ot D f s':=by
 cases f with
 |next=>erw[h,O,H',I,q];exact⟨O,H',I.unmarked ok,q⟩
 |brk=>erw[h,O,H',I,q];exact⟨O,H',I.unmarked ok,q⟩
 |cont=>erw[h,O,H',I,q];exact⟨O,H',I.unmarked ok,q⟩
 |ret u=>erw[h,v,O,H',I,r,q];exact⟨v,O,H',I.unmarked ok,r,q⟩
abbrev Cat (X:Cx)(ot:om (o3×Obj))(σ:St)(E:XK)(e:o6)(s':o7):Prop:=∃H1 s1,Inv X ot σ H1 s1/\CX1 X.prog X.w X.stack H1 s1 E e s'
def MD {D:mU}{e:o6}{s':o7}{c:Str}{np al:Pos}{Cc C':o3}{b₀:Stmt}{aa:om Stmt}{ts:TS}(au:Cat X ot σ (λ_ C H2=>C=u_ Cc/\ts D σ H2) e s')(ac:X.stack=X.env::X.outer/\X.env.frame=u_ X.env.locals)
  (hg:Gl X c) (hm:X.mg c=u_ (-C')) (hx:PySem.W.exmOne X.K (-Cc) (-C')=u_ v_) (hs:∀ee xe,PSs (X.marked ee xe) (b₀::aa) ts) (aw:(c==("__debug__":Str))=Vc):
  Vd #[X,X] X.A (noteFrame e X.env) (λ_ s2=>Vd #[X,X] X.A (setFlight e U_) (λ_ s3=>Vd #[X,X] X.A (handleBy e X.env [.ExceptHandler (u_ (.Name c np)) U_ (b₀::aa) al]) (SP X ot D) X.xe s3) X.xe s2) X.xe s':=by
 erw[au,H1,s1,I,ea,C,a0,H',B,rfl,ax,ag,htk,O,am,Z,hold,hC,ay];cases hC;have step:∀hk,B.StaysIn hk->s'.heap.UpToSlots hk->Inv X ot σ H' {s' with heap:=hk}:=by
  intro hk hB hU;have nd:∀b>frs X.stack,∀o,s'.heap.get? b=u_ o->∀vs,o.data≠ .fields vs:=λb hb o e=>by
   obtain⟨_,o',e',hn⟩:=Z.2.2.1.mem (show b>X.stack.filterMap (·.frame) from hb)
   rw[e] at e';cases e';exact hn
  have aA:∀b o o',B.get? b=u_ o'->s'.heap.get? b=u_ o->hk.get? b=u_ o:=λb o o' e1 e2=>by
   have:=Z.1 b o' e1;rw[e2] at this;cases this;exact hB b o e1
  refine I.call' (s':={s' with heap:=hk}) (ch:= []) ax ⟨?_,?_,O.free,?_,O.tups,O.frzs,O.tbls⟩ (am.kept λb u e=>hB b u e) ag (λb z=>by simp at z)
  .intro b o e1 hn hb ad;erw[hold b o e1 hb,o',e2];exact aA b o o' e2 (O.keep b o e1 hn hb ad)
  .intro b o e1 hn hb ad;erw[O.slot b o e1 hn hb ad,sl,e2];erw[hU b _ e2 (nd b hb _ e2),ao,e3];exact[ao:e3]
  .intro b o e1 ad;by_cases hb:b>frs X.stack
   .erw[O.there b o e1 ad,o',e2];erw[hU b _ e2 (nd b hb _ e2),ao,e3];exact[_:e3]
   .erw[hold b o e1 hb,o',e2];exact[o':hB b o' e2]
 rw[ac.1] at Z;have aB:X.A.frames=u_ (X.env::X.outer):=by rw[I.ok.frames,ac.1]
 refine wpAny_looks_onW (base:=B) aB ac.2 Z λh1 ah ae=>?_;refine wpAny_landsW ah λh2 U af=>?_;have I2:=step h2 U.1 (ae.trans af);refine wpAny_handleBy_cons (codeAny_handlers_test ?_) (by intro q;cases q)
 refine wq (X:=X.marked ea X.xe) I2.marked hg hm ?_ aw;erw[U.there,oe,he,ap];have LT:PySem.W.Looks #[X,X] h2 (HZ (-ea)) (-Cc):=ap▸(PySem.W.Looks.ld he).andThen .now;refine PySem.W.exm_one I2.kIn LT hx _ _ _ _ (λb o e=>e) ?_;refine codeAny_handlers_suite (lands_againW U λh3 ak aq=>?_);have I3:=step h3 ak.1 ((ae.trans af).trans aq);exact vz (hs ea _ ot _ σ H' D I3.marked ay) (λf s4 h4=>h4.unmarked I.ok) λ_ _ z=>z
end
def Fun.okX {P:og}{w:oh}{K:o0}{mg:Str->oq o6}{base:o9}{x qual:Str}{st:Stmt}{f:o3}{fd:Ve}{N ps:om Str}{k:Nat}{sp:Sp}(F:Fun K x qual st f fd)(S:qv N ps (qj st))(len:∀vs H Q E,sp vs H Q E->↑vs=↑ps)
  (O:∀(cdv:o6) (A:oj) (outer:om Env) (s:o7) (H:Hp) (vs:om V) (Q:VK) (E:XK),mr k (A.deeper (Vj qual (qj st) #[0,s] f cdv))->sp vs H Q E->
   ∃t,PSs (cxOf (CX1 P w) P w K mg base N qual (qj st) f cdv A outer s H E) (y9 st) t/\t {nx:=λ_ H'=>Q .non H',rt:=Q} (qab N vs) H):FnOk P w K mg base (CX1 P w) (k+1) f fd ps sp:=by
 erw[F.ex,oc,od,kV,doc,pm,an,cdv,ct,osl,rfl,lk,U];exact AbP lk U S len λA outer s H vs Q E hr Z=>O cdv A outer s H vs Q E hr Z
end L2
namespace HT
open PySem PyProof.Rows
section
variable {prog:og}{w:oh}{A:oj}{E:o6->o7->Prop}{s:o7}
def getItem_tuple_all {t sl:o3}{items:Array o6}{vl vu:o6}{lo hi:oq Int}{Q:o6->o7->Prop}(O:GO s.heap t items)(hs:s.heap.IsSliceOf sl vl vu .none)(pl:g_ vl lo)(pu:g_ vu hi)
  (hw:sIx items.size 0 lo=0/\sIx items.size items.size hi=items.size) (h:Q (-t) s):Vd #[w,w] A (VP (-t) (-sl)) Q E s:=by
 erw[id hs,os,Z,aa,ad];have ac:s.TypeIs (-sl) "slice":=[os:Z:aa];unfold VP
 try with_reducible refine VW ?_
 first|refine A7 (uD ?_)|skip
 refine A7 (Fd O.typeIs () ?_)
 refine A7 (vn (name:=Gq "__getitem__") O.typeIs vO
  (vE vO O.typeIs FT ?_ (re _ _)))
 show Vd _ _ (rD (-t)>>=_) _ _ s;refine A7 (Ft O ?_);refine A7 (Gy ac ?_);rw[A6 ()]
 refine A7 (Jd hs pl pu ?_);have U:((((sIx items.size 0 lo:Nat):Int)==0&&(1:Int)==1&&(sIx items.size items.size hi-sIx items.size 0 lo)==items.size)=v_):=by
  rw[hw.1,hw.2];simp
 show Vd _ _ (if(((sIx items.size 0 lo:Nat):Int)==0&&(1:Int)==1&&(sIx items.size items.size hi-sIx items.size 0 lo)==items.size)=v_ then _ else _) _ _ s
 rw[A6 U];unfold pV;refine A7 (A7 (Gy O.typeIs (uD ?_)));rw[A6 ()]
 exact A7 (UL (uD [0:uD h]))
end
end HT
namespace L2
open PySem PySem.Spec PyProof.Rows
section
variable {X:Cx}
inductive AdW (K:PySem.W.Frag)(x:V)(lo:Option Int)(hi:Option Int)(H:Hp)(Q:VK):Prop
 |mk (a:_)(xs:_)(_:x=-a)(_:SqT K H a xs)(_:(HT.sIx ↑xs 0 lo=0/\HT.sIx ↑xs ↑xs hi=↑xs->Q (-a) H))(_:(¬(HT.sIx ↑xs 0 lo=0/\HT.sIx ↑xs ↑xs hi=↑xs)->∀p,H p=U_->Q (-p) (upd H p (.tup (Cj xs lo hi)))))
def DH:SlR X (AdW X.K):=by
 exists 2,x,v,vl,vu,lo,hi,sl,Q,I,Z,hs,pl,pu,h;erw[h,a,xs,rfl,hx,q1,q2];by_cases U:HT.sIx ↑xs 0 lo=0/\HT.sIx ↑xs ↑xs hi=↑xs
 .cases Z;erw[I.tuple hx,its,r,ht,hz];have O:its.toArray.size=↑xs:=by rw[uB];exact r.length.symm
  exists "tuple",_,PyProof.Rows.slot_tuple_getitem.lookup,ht.typeIs;exact HT.getItem_tuple_all ht hs pl pu (by rwa[O]) ⟨-a,H,I,1,q1 U⟩
 .exact AaN ot s σ H (-a) v vl vu lo hi sl Q I Z hs pl pu ⟨a,xs,1,hx,U,q2 U⟩
end
abbrev Yl (n:Nat):Kd->Str->oq Pt
 | .words,z=>u_ (.s z)
 | .box,z=>if z>BX then u_ (.s z) else U_
 | .line,z=>((Vp n).find? λi:Nat=>decide ((Vn (1+(i:Int)):Str)=z)).map λi:Nat=> .n (1+(i:Int))
abbrev Yq (n:Nat):om Kd->om Str->oq (om Pt)
 | [],_=>u_ []
 |k::ks,z::zs=>match Yl n k z,Yq n ks zs with
  |some p,u_ ps=>u_ (p::ps)
  |_,_=>U_
 |_::_,[]=>U_
abbrev xx (w:Str):oq (om Kd):=(FRM.find? λx=>decide (x.1=w)).map (·.2)
abbrev pcs (ks:om Kd)(z:Str):om Str:=spl (if Kd.words>ks then ↑ks else ↑z+1) z
abbrev Wi (n:Nat)(z:Str):oq Rw:=
 if QA z=v_ then match xx (hd z) with
  |none=>U_
  |some ks=>if(pcs ks z).length=1+↑ks then(Yq n ks ((pcs ks z).drop 1)).map λl=>(hd z,l) else U_
 else U_
variable {ks:om Kd}
def zE {w:Str}(h:xx w=u_ ks):(w,ks)>FRM:=by
 unfold xx at h;cases e:FRM.find? λx=>decide (x.1=w) with
 |none=>rw[e] at h;cases h
 |some x=>
  rw[e] at h;have O:=HR e;have hm:=Ua e;cases h;have:x.1=w:=uA O;subst this;exact hm
def Z2 {w:Str}(h:xx w=U_):∀x>FRM,x.1≠w:=by
 unfold xx at h;rw[T5,Uv] at h;intro x O e;exact h x O (uj e)
variable {n:Nat}{z:Str}
def D3 {m:Nat}{k:Kd}{p:Pt}(hz:↑z<=m)(ha:z.cps.toList.all QF=v_)(h:Yl n k z=u_ p):Aa3 n m k p/\p.t=z:=by
 cases k with
 |words=>cases h;exact[[hz:ha]:1]
 |box=>
  simp![Yl] at h;by_cases O:z>BX
  .rw[A6 O] at h;cases h;exact[O:1]
  .rw[A4 O] at h;cases h
 |line=>
  simp![Yl] at h;cases e:(Vp n).find? λi:Nat=>decide ((Vn (1+(i:Int)):Str)=z) with
  |none=>rw[e] at h;cases h
  |some i=>
   rw[e] at h;cases h;have h1:=HR e;have h2:=List.mem_range.mp (Ua e);exact[[():()]:uA h1]
def W9 {n m:Nat}:∀{ks:om Kd}{zs:om Str}{ps:om Pt},(∀z>zs,↑z<=m/\z.cps.toList.all QF=v_)->↑zs=↑ks->Yq n ks zs=u_ ps->Xk n m ks ps/\ps.map Pt.t=zs
 | [],[],ps,_,_,h=>by cases h;exact[trivial:1]
 | [],_::_,_,_,hl,_=>by simp at hl
 |_::_,[],_,_,hl,_=>by simp at hl
 |k::ks,z::zs,ps,hz,hl,h=>by
  unfold Yq at h;split at h
  .rename_i p qs h1 h2
   cases h;erw[D3 (hz z uh).1 (hz z uh).2 h1,O,U];obtain⟨b1,b2⟩:=W9 (λy Z=>hz y (ug _ Z)) (by simpa using hl) h2
   exact⟨[O:b1],by rw[uC,U,b2]⟩
  .cases h
abbrev Km:om (om Nat)->om Nat
 | []=> []
 | [x]=>x
 |x::y::r=>x++32::Km (y::r)
def C0 (x:om Nat){q:om (om Nat)}(O:q≠ []):Km (x::q)=x++32::Km q:=by
 cases q with
 |nil=>exact A8 rfl O
 |cons y r=>rfl
def KF:∀(n:Nat) (L:om Nat),Km (iU 32 n L)=L
 |0,L=>by simp[iU,Km]
 |n+1,[]=>by simp[iU,Km]
 |n+1,a::r=>by
  by_cases h:a=32
  .have O:=KF n r;erw[Jz 32 n r,p,q,e];rw[iU,A6 h,C0 [] (by rw[e];simp),O,h]
   rfl
  .have O:=KF (n+1) r;erw[Jz 32 (n+1) r,p,q,e];rw[e] at O;simp![iU,A4 h,e];cases q with
   |nil=>simp![Km] at O⊢;rw[O]
   |cons y t=>
    simp![Km] at O⊢;rw[Uk,O]
def BP:∀l:om (om Nat),(Vk " " (l.map ofL)).cps.toList=Km l
 | []=>rfl
 | [x]=>by show(ofL x).cps.toList=x;unfold ofL;simp
 |x::y::r=>by
  have O:=BP (y::r);show(Vk " " (ofL x::ofL y::r.map ofL)).cps.toList=_;rw[Jn];have e:(ofL x).cps.toList=x:=by unfold ofL;simp
  rw[e];show x++32::(Vk " " ((y::r).map ofL)).cps.toList=_;rw[O]
  rfl
def Lg (n:Nat)(z:Str):Vk " " (spl n z)=z:=by
 unfold spl;have h:=BP (iU 32 n z.cps.toList);rw[KF] at h;rw[<-ya (Vk " " ((iU 32 n z.cps.toList).map ofL)),h,ya]
def Ci:∀(n:Nat) (L:om Nat),∃q,iU 32 (n+1) L=xi 32 L::q
 |n,[]=>⟨[],by simp[iU,xi]⟩
 |n,a::r=>by
  by_cases h:a=32
  .exact⟨iU 32 n r,by simp[iU,xi,h]⟩
  .erw[Ci n r,q,e];exact⟨q,by simp![iU,A4 h,e,xi]⟩
def Lf (n:Nat)(z:Str):∃q,spl (n+1) z=hd z::q:=by
 erw[Ci n z.cps.toList,q,e];exact⟨q.map ofL,by unfold spl hd;rw[e];rfl⟩
def AM:∀(n:Nat) (L:om Nat),∀p>iU 32 n L,↑p<=↑L/\∀c>p,c>L
 |0,L=>λp O=>by
  simp[iU] at O;subst O;exact[ur _:λc U=>U]
 |n+1,[]=>λp O=>by
  simp[iU] at O;subst O;exact[ur _:λc U=>U]
 |n+1,a::r=>λp O=>by
  by_cases h:a=32
  .rw[iU,A6 h] at O;rcases Aa.mp O with rfl|O
   .exact⟨uQ _,λc U=>by simp at U⟩
   .erw[AM n r p O,h1,h2];exact⟨by simp;omega,λc U=>ug _ (h2 c U)⟩
  .erw[Jz 32 (n+1) r,p0,q,e];have Z:=AM (n+1) r;rw[e] at Z;simp![iU,A4 h,e] at O;rcases Aa.mp O with rfl|O
   .erw[Z p0 uh,h1,h2];refine⟨by simp;omega,λc U=>?_⟩
    rcases Aa.mp U with rfl|U
    .exact uh
    .exact ug _ (h2 c U)
   .erw[Z p (ug _ O),h1,h2];exact⟨by simp;omega,λc U=>ug _ (h2 c U)⟩
def MT {m:Nat}(hz:↑z<=m)(ha:z.cps.toList.all QF=v_):∀p>spl n z,↑p<=m/\p.cps.toList.all QF=true:=by
 intro p O;erw[Ae.mp O,q,U,rfl];erw[AM n z.cps.toList q U,h1,h2];have e:(ofL q).cps.toList=q:=by unfold ofL;simp
 exists ?_,?_
 .have:↑(ofL q)=↑q:=by unfold ofL gV;simp
  rw[this];have:↑z.cps.toList=↑z:=by simp[gV]
  omega
 .rw[e,Um];intro c Z;exact List.all_eq_true.mp ha c (h2 c Z)
variable {r:Rw}
def Bm (h:Wi n z=u_ r):Ji n 300 r/\Yh r=z:=by
 unfold Wi at h;split at h
 .rename_i ht
  have O:=ht;unfold QA at O;rw[uG,vk] at O;split at h
  .cases h
  .rename_i ks hk
   split at h
   .rename_i hl
    cases e:Yq n ks ((pcs ks z).drop 1) with
    |none=>rw[e] at h;cases h
    |some l=>
     rw[e] at h;cases h;have hm:=zE hk;have U:∀p>(pcs ks z).drop 1,↑p<=300/\p.cps.toList.all QF=true:=λp Z=>MT O.1 O.2 p (Rf Z);obtain⟨a1,a2⟩:=W9 U (by rw[U1,hl];omega) e
     exists [ks:hm:a1];have aa:∃j,(if Kd.words>ks then ↑ks else ↑z+1)=j+1:=by
      split
      .rename_i hw
       exact⟨↑ks-1,by have:=List.length_pos_iff.mpr (λe=>by rw[e] at hw;simp at hw:ks≠ []);omega⟩
      .exact[↑z:1]
     erw[aa,j,hj];erw[Lf j z,q,hq];have Z:pcs ks z=hd z::q:=by unfold pcs;rwa[hj]
     have hb:Vk " " (pcs ks z)=z:=Lg _ z;show Vk " " (hd z::l.map Pt.t)=z;rw[a2];rw[Z] at hb⊢;exact hb
   .cases h
 .cases h
end L2
namespace PySem.AwV
open PySem PySem.Calls PyProof.Rows Builtin Builtin.ObjectAttr Builtin.Getset_descriptor PySem.W
structure ExcCls (K:Frag)(C:o3):Prop where
 ga:findIn K (-C) "__getattribute__"=u_ (u_ (.builtin "BaseException.__getattribute__"))
 gt:findIn K (-C) "__getattr__"=u_ U_
 cl:findIn K (-C) "__class__"=u_ (u_ (.builtin "object.__class__"))
 sp:specialIn K (.builtin "object.__class__") "__get__"=u_ (u_ (.builtin "getset_descriptor.__get__"))
 tk:takesIn K (.builtin "object.__class__")=u_ v_
 ob:mroIn K C (.type "object")=u_ v_
 be:mroIn K C (.type "BaseException")=u_ v_
end PySem.AwV
namespace L2
open PySem PySem.Spec PyProof.Rows
section
variable {X:Cx}{ot:om (o3×Obj)}{σ:St}{H:Hp}{s:o7}
def nJ:∀{cs:om o3}{its:om o6},iq (cs.map V.ref) its->its=cs.map Vi
 | [],_,h=>by cases h;rfl
 |c::cs,_,h=>by
  cases h with
  |cons O U=>
   rw[nJ U,show _=Vi c from O]
   rfl
end
section
variable {X:Cx}
def Zg:∀{ls:om Str}{its:om o6},iq (ls.map V.str) its->tT its ls
 | [],_,h=>by cases h;exact .nil
 |z::ls,_,h=>by
  cases h with
  |cons O U=>
   erw[O,t,e];rw[e];exact .cons z t (Zg U)
def ZI:∀{ls:om Str}{its:om o6},tT its ls->iq (ls.map V.str) its
 |_,_,.nil=> .nil
 |_,_,.cons x t h=> .cons [t:1] (ZI h)
def Kx:∀{xs:om V}{us:om o6},↑xs=↑us->(∀(j:Nat) (x:V) (v:o6),xs[j]? =u_ x->us[j]? =u_ v->il x v)->iq xs us
 | [],[],_,_=> .nil
 |x::xs,u::us,hl,h=> .cons (h 0 x u rfl rfl) (Kx (by simpa using hl) λj y v h1 h2=>h (j+1) y v (by simpa using h1) (by simpa using h2))
 | [],_::_,hl,_=>by simp at hl
 |_::_,[],hl,_=>by simp at hl
def sJ (hc:X.calm=v_):jA X (.builtin "sorted") (λxs H Q=>∃(d:o3) (kvs:om (Key×V)) (ls:om Str),xs= [-d]/\H d=u_ (.dK kvs)/\kvs.map (·.1)=ls.map Vf/\↑ls<64/\∀(Z:om Str) (q:o3),Z.Perm ls->sortedS Z=v_->H q=U_->Q (-q) (upd H q (.lst (Z.map V.str)))):=by
 exists 2,xs,us,Q,I,r,h;erw[h,d,kvs,ls,rfl,hd,hk,am,q];erw[xH r,u,rfl,ru];cases ru;erw[Io I.hok hd,hz,lo,vs,ae,dd];erw[id dd,o,es,ep,ho];have af:s.heap.DictAt (Qd X.prog X.w) d vs ep:=[o:es:ho];have aa:↑vs=↑ls:=by
  have h1:=A9 VI hk;rw[uc,uc] at h1;rw[<-↑ae,h1]
 refine vh (n:=1) I.tk ?_;refine PySem.Calls.call_function_entry kind_sorted plain_sorted entry_sorted (args_sorted1 _) ?_;unfold VR.«sorted»;refine A7 (m:=checkCount "sorted" 1 1 _) (uD ?_);refine A7 (PySem.W.kdu_collect (A:=X.A.in1) (PySem.W.kdl_dict lo) (I.ok.hd hc) af (by rw[aa,uE];omega) λh' tk U ag O=>?_)
 have hS:tT U.toList ls:=by
  refine Zg (Kx (by rw[uc,vm];exact aa.symm.trans O.1.symm) λj x v hx hv=>?_)
  rw[uK] at hx;cases ac:ls[j]? with
  |none=>rw[ac] at hx;cases hx
  |some z=>
   rw[ac] at hx;cases hx;obtain⟨k,y,e1,e2⟩:=O.2 j v (by rwa[<-T6])
   have e3:(kvs.map (·.1))[j]? =u_ k:=by
    rw[ae.keys,uK,e1]
    rfl
   rw[hk,uK,ac] at e3;cases e3;rcases Qx (show oV (Vf z) v=v_ from e2) with⟨i,t,e4,e5⟩|⟨z',t,e4,e5⟩
   .cases e4
   .cases e4;exact[t:e5]
 have ah:↑U.toList=↑ls:=by rw[vm,O.1,aa]
 refine A7 (TK ?_ (by rw[ah,uE];omega))
 have ad:(h'.push (seqObj "list" U.toList.toArray 0)).get? h'.objs.size=u_ (seqObj "list" U.toList.toArray 0):=uH _ rfl;refine A7 (VW (vE slot_list_sort [_:ad:1] entry_list_sort (list_sort_treeK strKind_oneLt ad hS.keysOf (λv₁ v₂ rest e=>keyKind_strs (by rwa[<-e])) () λak a1 a2=>[0:?_]) (args_list_sort _)))
 refine uD [0:?_];erw[sorted_out_str hS a1 a2,Z,b1,b2,b3];erw[sortedHeap_at (out:=(arrOf ak).map (·.2)) ad,e,he];have al:↑Z=↑ls:=b2.length_eq;intro htk;have I':Inv X ot σ H {s with heap:=h',toks:=tk}:=I.kept ag
 exists .ref h'.objs.size,_,I'.laid (t':=tk) (o:= .lst (Z.map V.str)) (λb u w=>?_) (ur _) ⟨?_,_,e,ZI b1,he⟩,1,q Z _ b2 b3 (I'.hok.fresh (ur _))
 .have hb:=uJ w;rw[sortedHeap_old (uX hb) (by rw[size_push'];exact Nat.lt_succ_of_lt hb)]
  exact uf _ w
 .rw[uc,al,uE];omega
abbrev Itd (d:o3)(o:Obj):It:=
 ⟨λi H=>∃kvs,H d=u_ (.frz o (.dK kvs))/\i<↑kvs,λi H x H'=>H'=H/\∀kvs,H d=u_ (.frz o (.dK kvs))->(kvs.map λp=>kV p.1)[i]? =u_ x,λi H=>∃kvs,H d=u_ (.frz o (.dK kvs))/\↑kvs<=i⟩
variable {w:oh}
def D4 {P:og}{es:om GG}{kvs:om (Key×o6)}(h:Pairs (Qd P w) es kvs):↑es=↑kvs:=↑h
variable {H:Hp}{h:o9}{o:Obj}{es:Array GG}{ep:Nat}
def WX {P:og}{d:o3}{kvs:om (Key×V)}(ok:HOk P w H h)(e:H d=u_ (.frz o (.dK kvs)))(hd:o.data= .dict es ep):
  (d==Vy)=Vc/\∃vs,KV kvs vs/\h.DictAt (Qd P w) d vs ep/\↑vs=es.size/\↑kvs<=sizeLine:=by
 obtain⟨U,hz,lo,vs,r,o',aa,ac,O,c1,Z,c3,c4,c5⟩:=(show yi P w H h d (.frz o (.dK kvs)) from ok d _ e)
 rw[U] at O;cases O;rw[hd] at Z;cases Z;exact⟨lo,vs,r,⟨o,es,U,c1,hd,c3,c4,c5⟩,by rw[<-vm];exact(D4 c4).symm,hz⟩
def Nv {k:Key}{v:o6}(h:oV k v=v_):il (kV k) v:=by
 rcases Qx h with⟨i,t,rfl,rfl⟩|⟨z,t,rfl,rfl⟩
 .exact[t:1]
 .exact[t:1]
variable {K:o0}{tg:Expr}
def Di {P:og}(d it:o3)(hd:o.data= .dict es ep):MI P w K tg (Itd d o) [it] it (λi h=>h.IsKeyIter it d i es.size ep) where
 mem:=by simp
 obj:=λi h st b O=>by
  have e:b=it:=by simpa using O
  subst e;erw[st,o,e,c,d];exact⟨o,e,λv z=>by rw[d] at z;cases z⟩
 keep:=λi h h' st k=>by
  erw[st,o,e,c,dd];exact⟨o,k it (by simp) o e,c,dd⟩
 item:=by
  intro X hP hw hK hc i ot s σ H E I hf st hg;subst hP hw hK;erw[hg,kvs,hq,hx];erw[WX I.hok hq hd,lo,vs,r,U,hl,_];have ad:=↑r;obtain⟨f0,f1,f2,f3,f4,f5⟩:=hf it (by simp)
  obtain⟨⟨k,v⟩,Z⟩:∃p,vs[i]? =u_ p:=[_:ui ()]
  refine wpAny_pyNext_dict_item (by rwa[hl]) U Z λae h' hk aa sb=>?_
  have I1:Inv X ot σ H {s with heap:=h'}:=I.turned (t':=s.toks) (λb o O e=>(sb.2 b O).trans e) f0 f1 f3 f4 f5
  erw[id aa,oi,e,c,di];refine⟨ae,1,EY (s:={s with heap:=h'}) e c di () ⟨kV k,H,I1,Nv hk,[1:λaf ac=>?_],by rw[<-hl];exact aa,λb O=>(hf b O).1⟩⟩
  rw[hq] at ac;cases ac;have e3:(kvs.map (·.1))[i]? =u_ k:=by
   rw[r.keys,uK,Z]
   rfl
  rw[uK] at e3⊢;cases h4:kvs[i]? with
  |none=>rw[h4] at e3;cases e3
  |some p=>
   rw[h4] at e3;cases e3
   rfl
 done:=by
  intro X hP hw hK hc i ot s σ H E I hf st hg;subst hP hw hK;erw[hg,kvs,hq,hx];erw[WX I.hok hq hd,lo,vs,r,U,hl,_];have ad:=↑r;obtain⟨f0,f1,f2,f3,f4,f5⟩:=hf it (by simp)
  exact wpAny_pyNext_dict_end (I.ok.hd hc) (by rwa[hl]) U (tL ()) λh' eb=>[1:I.turned (t':=s.toks) (λb o O e=>eb b o O e) f0 f1 f3 f4 f5]
 self:=λ_ _ _ _ _ st h=>wpAny_pyIter_keyiter st h
abbrev Adn (tl:TE):TI:=λσ H R=>tl σ H λx H1=>∃d o kvs,x= .ref d/\H1 d=u_ (.frz o (.dK kvs))/\R (Itd d o) H1
def O7 {tg l:Expr}{tl:TE}(Z:PE X l tl):PI X tg l (Adn tl):=by
 exists 2,R,I,h;refine thn (Z ot s σ H _ I h) λv s1 zq=>?_;erw[zq,x,H1,O,r1,q1];erw[q1,d,o,kvs,rfl,hq,q];cases r1;obtain⟨ho,_,lo,vs,r,o',es,ep,U,c1,c2,_⟩:=(show yi X.prog X.w H1 s1.heap d (.frz o (.dK kvs)) from O.hok d _ hq)
 rw[ho] at U;cases U;erw[WX O.hok hq c2,lo,vs,r,aa,Z,_];refine wpAny_pyIter_dict lo aa ?_;refine⟨#[0,s1],[#[0,s1]],_,_,H1,1,O.kept (t':=s1.toks) λb o e=>uf _ e,Di d _ c2,⟨_,uH _ rfl,1,by rw[Z];rfl⟩,λb hb=>?_,q⟩
 have e:b=#[0,s1]:=by simpa using hb
 subst e;exact O.fpOk (ur _) (O.hok.fresh (ur _))
end
end L2
namespace PySem.AwK
open PySem Builtin Builtin.ObjectAttr
def Sk:HV (.type "list") "keys"=pure none:=by rw[RJ,FL];kernel_rfl
section
variable {prog:og}{w:oh}{A:oj}{E:o6->o7->Prop}{s:o7}
def kZ:isSubtype (.type "AttributeError") (.type "AttributeError")=pure true:=by rw[isSubtype_type];kernel_rfl
def CJ {α:Type}{o:o6}{name O:Str}{Q:α->o7->Prop}(hh:A.handled=U_)(hm:↑O<=Vg)
  (hq:∀h' aa e,(∀b ob,s.heap.get? b=u_ ob->h'.get? b=u_ ob)->(∃oe,h'.get? e=u_ oe/\oe.cls= .type "AttributeError")->E (-e) {s with heap:=h',toks:=aa}):
  Vd #[w,w] A (p7 o name O:Sem α) Q E s:=by
 unfold p7;refine A7 (wpAny_mkStr (A7 ?_) hm);unfold newExc tZ;refine A7 (vB ?_ (by show(1:Nat)<=Vg;rw[uE];decide))
 refine A7 (m:=tS _ _) (HB (a:=Ge) (by kernel_rfl) ?_)
 obtain⟨h1,Z⟩:∃h1,h1=s.heap.push {cls:= .type "tuple",data:= .seq #[VC O s.toks]}:=⟨0⟩;have k1:∀b ob,s.heap.get? b=u_ ob->h1.get? b=u_ ob:=λb ob e=>by rw[Z];exact uf _ e
 show Vd #[w,w] A (newObj (.type "AttributeError") (.fields #[.ref #[0,s],.none,.none,.none,.bool Vc,.none,G6,G6])) _ E {s with heap:=s.heap.push {cls:= .type "tuple",data:= .seq #[VC O s.toks]},toks:=s.toks+1}
 rw[<-Z];refine vB ?_ (by unfold sizeOk;first|trivial|(rw[uE];simp)|decide)
 obtain⟨h2,U⟩:∃h2,h2=h1.push {cls:= .type "AttributeError",data:= .fields #[.ref #[0,s],.none,.none,.none,.bool Vc,.none,G6,G6]}:=⟨0⟩;have k2:∀b ob,h1.get? b=u_ ob->h2.get? b=u_ ob:=λb ob e=>by rw[U];exact uf _ e
 have e2:h2.get? h1.objs.size=u_ {cls:= .type "AttributeError",data:= .fields #[.ref #[0,s],.none,.none,.none,.bool Vc,.none,G6,G6]}:=by rw[U];exact uH _ rfl
 show Vd #[w,w] A (do let x<-mkText name;noteAttr (-h1.objs.size) o x;raiseNew (-h1.objs.size)) Q E {s with heap:=h1.push {cls:= .type "AttributeError",data:= .fields #[.ref #[0,s],.none,.none,.none,.bool Vc,.none,G6,G6]},toks:=s.toks+1}
 rw[<-U];have ne:∀b ob,h1.get? b=u_ ob->b≠h1.objs.size:=λb ob e=>uX (uJ e);generalize h1.objs.size=e at e2 ne⊢;refine A7 (FY (A7 ?_));have hT:∀g d t os,(⟨h2,g,d,t,os⟩:o7).TypeIs (-e) "AttributeError":=λ_ _ _ _=>[_:e2:1];unfold noteAttr lacksNameAndObj;refine A7 (A7 (UJ (hT _ _ _ _) kZ ?_));simp![Bool.not_true,UO,if_false];refine A7 (HA e2 ?_);dsimp only;rw[A4 (by simp[G6,VG]),A4 (by simp[G6,doubtfulMember,VG])]
 refine uD ?_;rw[A6 rfl];refine A7 (UL (A7 (Gy (hT _ _ _ _) ?_)));show Vd #[w,w] A (layMembers e 6 #[VC name (s.toks+1),o]) _ E _;unfold layMembers;refine A7 (HA e2 ?_);dsimp only;refine wpAny_update e2 ?_;have e3:=Tu (rT λvs=>vs.extract 0 6++ #[VC name (s.toks+1),o]) e2 rfl;have k3:∀b ob,b≠e->h2.get? b=u_ ob->(h2.update e (rT λvs=>vs.extract 0 6++ #[VC name (s.toks+1),o])).get? b=u_ ob:=λb ob hb q=>(TL _ _ (Ud hb)).trans q;exact wpAny_raiseNew_none hh (hq _ _ e (λb ob q=>k3 b ob (ne b ob (k1 b ob q)) (k2 b ob (k1 b ob q))) [_:e3:1])
end
section
variable {prog:og}{w:oh}{A:oj}{E:o6->o7->Prop}{h:o9}{g:Array TU}{d:Drawn}{t:Nat}{os:OsState}{a:o3}{its:Array o6}{n:Nat}{sl:Array (oq o6)}
def L9 {tk:Tok}{Q:Fin->o7->Prop}(Z:A.handled=U_)(hx:h.get? a=u_ {cls:= .type "list",dict:=U_,data:= .seq its n,slots:=sl})
  (hq:∀h' O e,(∀b ob,h.get? b=u_ ob->h'.get? b=u_ ob)->(∃U,h'.get? e=u_ U/\U.cls= .type "AttributeError")->E (-e) ⟨h',g,d,O,os⟩):
  Vd #[w,w] A (VR.«object.__getattribute__» [[-a,.str "keys" tk]:[]]) Q E ⟨h,g,d,t,os⟩:=by
 have hT:(⟨h,g,d,t,os⟩:o7).TypeIs (-a) "list":=[_:hx:1];have f4:=Sk
 repeat (any_goals (first|assumption|wp_step))
 exact CJ Z (by rw[uE];decide+kernel) hq
def Sg {tk:Tok}{R:GD->o7->Prop}(hh:A.handled=U_)(U:h.get? a=u_ {cls:= .type "list",dict:=U_,data:= .seq its n,slots:=sl})
  (hq:∀h' O e,(∀b ob,h.get? b=u_ ob->h'.get? b=u_ ob)->(∃Z,h'.get? e=u_ Z/\Z.cls= .type "AttributeError")->R (.error (-e)) ⟨h',g,d,O,os⟩):
  VJ #[w,w] A (.call (.builtin "list.__getattribute__") [[-a,.str "keys" tk]:[]]) R ⟨h,g,d,t,os⟩:=
 tJ F.slot_list_getattribute.plain F.entry_list_ga (F.slot_list_getattribute.check _ _ _ _ _ _ _ _ (show(⟨h,g,d,t,os⟩:o7).TypeIs (-a) "list" from[_:U:1]) (F.args_list_getattribute_2 _ _) (L9 hh U hq))
def Se {Q:oq o6->o7->Prop}(hh:A.handled=U_)(U:h.get? a=u_ {cls:= .type "list",dict:=U_,data:= .seq its n,slots:=sl})
  (hq:∀h' O,(∀b ob,h.get? b=u_ ob->h'.get? b=u_ ob)->Q U_ ⟨h',g,d,O,os⟩):Vd #[w,w] A (getAttr? (-a) "keys") Q E ⟨h,g,d,t,os⟩:=by
 have hT:∀t,(⟨h,g,d,t,os⟩:o7).TypeIs (-a) "list":=λt=>[_:U:1];unfold getAttr? getAttrBy?;refine A7 (FY (A7 (UT ?_)));unfold getAttrBy;refine VW (A7 (Gy (hT _) ?_));rw[F.slot_list_getattribute.lookup];refine A7 (uD ?_);show Vd #[w,w] A (FR (-a) _ (.type "list") (.builtin "list.__getattribute__") Vc Vc) _ _ _;unfold FR;refine A7 (m:=hookBefore _) (uD ?_);refine A7 (UT (VW ?_));show Vd #[w,w] A (rB (.builtin "list.__getattribute__") (-a) _) _ _ _;unfold rB;rw[F.slot_list_getattribute.bind];refine A7 (uD (hV (Sg hh U λh' O e k zq=>?_)));erw[zq,oe,e1,e2];have Z:∀t,(⟨h',g,d,t,os⟩:o7).TypeIs (-e) "AttributeError":=λt=>[_:e1:e2];show Vd #[w,w] A (Fy (-a) _ (.type "list") (-e) U_ Vc Vc) _ _ ⟨h',g,d,O,os⟩;unfold Fy;refine A7 (UJ (Z _) kZ ?_);rw[A6 rfl];have lg:hookBehind (.type "list") U_=pure none:=by
  show HV (.type "list") "__getattr__"=pure U_;rw[RJ,FL]
  kernel_rfl
 rw[lg];refine A7 (uD ?_);show Vd #[w,w] A (p6 (-a) _ (-e) Vc Vc) _ _ _;unfold p6;refine Rq ?_;refine A7 (UJ (Z _) kZ ?_);rw[A6 rfl];exact uD (hq h' O k)
end
def kA:TR table "dict.update.loop"=u_ VR.«dict.update.loop»:=entryFor_of_fast (by kernel_rfl)
def J9:plainId "dict.update.loop"=true:=by decide+kernel
section
variable {prog:og}{w:oh}{A:oj}{E:o6->o7->Prop}{K:Type}[DecidableEq K]{knd:KeyKind prog w K}
abbrev addAll (cur:om (K×o6)):om (K×o6)->om (K×o6)
 | []=>cur
 |p::r=>addAll (GJ cur p.1 p.2) r
structure Acd (h:o9)(d it:o3)(v:o6)(p:K×o6):Prop where
 at_:∃(t:o3) (o:Obj) (k:o6) (n:Nat),v= .ref t/\t≠d/\t≠it/\h.get? t=u_ o/\o.cls= .type "tuple"/\o.data= .seq #[k,p.2] n/\knd.is p.1 k=v_
def CN (hh:A.handled=U_){d it l:o3}{items:Array o6}{ps:om (K×o6)}{R:GD->o7->Prop}(aq:d≠l)(au:it≠l)(aa:d≠it)(hn:items.size=↑ps)(hz:2*↑ps<=Vg)(res:o6):
  ∀(m i:Nat) (s:o7) (O:om (K×o6)),i+m=↑ps->s.heap.IsListIter it l i->s.heap.IsList l items->s.heap.DictOf knd d O->↑O<=i->
  (∀(j:Nat) (v:o6) (p:K×o6),items[j]? =u_ v->ps[j]? =u_ p->Acd (knd:=knd) s.heap d it v p)->
  (∀h' ac,h'.DictOf knd d (addAll O (ps.drop i))->(∀b o,b≠d->b≠it->s.heap.get? b=u_ o->h'.get? b=u_ o)->R (.ok (.ret res)) {s with heap:=h',toks:=ac})->
  VJ #[w,w] A (.builtin "dict.update.loop" [[-d,-it,VG i,res]:[]]) R s:=by
 intro m
 induction m with
 |zero=>
  intro i s O hm ad hl hd hc hp hR;refine tm kA ?_;rw[tG J9 _];show Vd _ A.in1 (VF (-it)>>=_) _ _ s;refine A7 (Fg (A:=A.in1) hh ad hl (by rw[Array.getElem?_eq_none ()]) λh' eb=>?_)
  have ae:h'.DictOf knd d O:=by
   erw[hd,o,es,ep,ho,r];exact⟨o,es,ep,eb d o aa ho,r⟩
  have:=hR h' s.toks (by rwa[List.drop_eq_nil_of_le ()]) λb o Z U e=>eb b o U e
  show Vd #[w,w] A.in1 (Dict.addKeywords d []>>=λ_=>ret res) _ _ _;refine A7 (m:=Dict.addKeywords d []) (uD ?_);exact uD this
 |succ m ih=>
  intro i s O hm ad hl hd hc hp hR;refine tm kA ?_;rw[tG J9 _];have hi:i<items.size:=by omega
  have ag:i<↑ps:=by omega
  have hx:items[i]? =u_ items[i]:=Array.getElem?_eq_getElem hi;have aw:ps[i]? =u_ ps[i]:=ui ag;erw[(hp i _ _ hx aw).at_,t,o,k,n,ev,aD,ax,ho,ay,aA,hk];rw[ev] at hx;show Vd _ A.in1 (VF (-it)>>=_) _ _ s;refine A7 (Fq (A:=A.in1) ad hl hx λh1 ah af=>?_);have ak:h1.get? t=u_ o:=(af.2 t ax).trans ho;have hT:(({s with heap:=h1}:o7)).TypeIs (-t) "tuple":=[_:ak:ay]
  have al:h1.DictOf knd d O:=hd.sameBut af aa;dsimp only;refine A7 (VW (A7 (wpAny_tryCatch ?_)));unfold Dict.pairItems;refine A7 (Gy hT ?_);rw[A6 ()]
  refine A7 ?_;unfold tH;refine A7 (HA ak ?_);rw[aA];refine uD (uD ?_);show Vd #[w,w] A.in1 (G9 [k,ps[i].2] (dictSet d k ps[i].2)) _ _ _;refine VW (wpAny_dictSet_pairs hk al (λh2 aB am=>?_) ())
  have ao:h2.IsListIter it l (i+1):=by
   erw[ah,oi,e,c];exact[oi:(am.2 it (Ud aa)).trans e:c]
  have keep:∀b ob,b≠d->b≠it->s.heap.get? b=u_ ob->h2.get? b=u_ ob:=λb ob Z U e=>(am.2 b Z).trans ((af.2 b U).trans e);have aC:h2.IsList l items:=by
   erw[hl,ol,e,c];exact[ol:keep l ol (Ud aq) (Ud au) e:c]
  refine uD [Tt J9 _:?_];have ap:↑(GJ O ps[i].1 ps[i].2)<=i+1:=by
   unfold GJ;split
   .rw[uc];omega
   .rw[uF];show ↑O+1<=i+1;omega
  refine ih (i+1) _ _ () ao aC aB ap (λj v p h1 h2=>?_) λh' ac ae kp=>?_
  .erw[(hp j v p h1 h2).at_,t',o',k',n',e1,e2,e3,e4,e5];exact⟨⟨t',o',k',n',e1,e2,e3,keep t' o' e2 e3 e4,e5⟩⟩
  .refine hR h' ac ?_ λb ob Z U e=>kp b ob Z U (keep b ob Z U e);rw[uV ag];exact ae
def dict_pairs (hh:A.handled=U_){s:o7}{l:o3}{items:Array o6}{n:Nat}{sl:Array (oq o6)}{ps:om (K×o6)}{Q:o6->o7->Prop}(hl:s.heap.get? l=u_ {cls:= .type "list",dict:=U_,data:= .seq items n,slots:=sl})(hn:items.size=↑ps)(hz:2*↑ps<=Vg)
  (hp:∀(j:Nat) (v:o6) (p:K×o6),items[j]? =u_ v->ps[j]? =u_ p->∃(t:o3) (o:Obj) (k:o6) (n:Nat),v= .ref t/\s.heap.get? t=u_ o/\o.cls= .type "tuple"/\o.data= .seq #[k,p.2] n/\knd.is p.1 k=v_)
  (hQ:∀h' aa,h'.DictOf knd #[0,s] (addAll [] ps)->(∀b o,s.heap.get? b=u_ o->h'.get? b=u_ o)->Q (.ref #[0,s]) {s with heap:=h',toks:=aa}):
  Vd #[w,w] A (call (.type "dict") [-l]) Q E s:=by
 refine RT (Q₁:=λobj s₁=>obj= .ref #[0,s]/\s₁={s with heap:=s.heap.push {cls:= .type "dict",data:= .dict #[]}}) F.kt_called_dict (F.kt_typeCall_dict_1 _) F.entry_dict_init (kt_code_dict_new _ [1:1]) ?_
 rintro obj s₁ ⟨rfl,rfl⟩;have U:(s.heap.push {cls:= .type "dict",data:= .dict #[]}).DictOf knd #[0,s] []:=RP s.heap;exists U.typeIs,F.args_dict_init_2 _ _;unfold VR.«dict.__init__»;refine A7 ?_;unfold pT;refine A7 (wpAny_notOrdered_dict U.typeIs ?_);refine(show Vd _ _ (pure (#[0,s],[Vi l])) _ _ _ from ?_)
 refine uD ?_;refine(show Vd _ _ (rc "dict.__init__" #[0,s] (-l) [] .none) _ _ _ from ?_)
 unfold rc;have Z:(s.heap.push {cls:= .type "dict",data:= .dict #[]}).get? l=u_ {cls:= .type "list",dict:=U_,data:= .seq items n,slots:=sl}:=uf _ hl;refine A7 (Gy (T:="list") [_:Z:1] ?_);rw[A6 ()]
 refine A7 (Se (A:=A.in1.in1) hh Z λh2 al k2=>?_);rw[A6 (show(U_:oq o6).isNone=v_ from rfl)]
 have ac:l<#[0,s]:=uJ hl;have ae:h2.IsList l items:=⟨_,k2 _ _ Z,1,n,1⟩;refine A7 (UL (A7 (UZ ae ?_)));have ad:h2.DictOf knd #[0,s] []:=by
  erw[U,o,es,ep,ho,r];exact⟨o,es,ep,k2 _ _ ho,r⟩
 have O:#[0,s]<h2.objs.size:=by
  erw[ad,o,es,ep,ho,r];exact uJ ho
 have k1:∀b o,s.heap.get? b=u_ o->h2.get? b=u_ o:=λb o e=>k2 b o (uf _ e);have k3:∀b o,h2.get? b=u_ o->(h2.push {cls:= .type "list_iterator",data:= .fields #[-l,.int 0 0]}).get? b=u_ o:=λb o e=>uf _ e;have af:(h2.push {cls:= .type "list_iterator",data:= .fields #[-l,.int 0 0]}).IsList l items:=⟨_,k3 _ _ (k2 _ _ Z),1,n,1⟩;have ag:(h2.push {cls:= .type "list_iterator",data:= .fields #[-l,.int 0 0]}).DictOf knd #[0,s] []:=ad.push _;refine uD [Tt J9 _:CN (A:=A.in1) hh (d:=#[0,s]) (it:=h2.objs.size) (l:=l) (items:=items) (ps:=ps) (U2 ac) (U2 (Hu ac O)) (uX O) hn hz .none ↑ps 0 _ [] () ⟨_,uH _ rfl,1,1⟩ af ag (ur _) (λj v p h1 ah=>?_) λh' aa ak kp=>?_]
 .erw[hp j v p h1 ah,t,o,k,n',e1,e2,e3,e4,e5];have ht:=uJ e2;exact⟨⟨t,o,k,n',e1,uX ht,uX (Hu ht O),k3 _ _ (k1 _ _ e2),e3,e4,e5⟩⟩
 .exists 1,hQ h' aa ak λb o e=>?_;have hb:=uJ e;exact kp b o (uX hb) (uX (Hu hb O)) (k3 _ _ (k1 _ _ e))
end
end PySem.AwK
namespace L2
open PySem PySem.Spec PyProof.Rows
section
variable {X:Cx}
abbrev iP (ps:om (Str×V)):om (Key×V):=ps.map λp=>(Vf p.1,p.2)
def wG (ps:om (Str×V)):(iP ps).map (·.1)=(ps.map (·.1)).map Sum.inr:=by
 unfold iP;rw[uP,uP]
 rfl
def Cy {kvs:om (Key×o6)}{k:Key}{v:o6}(h:k∉kvs.map (·.1)):GJ kvs k v=kvs++ [(k,v)]:=by
 unfold GJ;rw[A4];intro q;erw[List.any_eq_true.mp q,p,O,e];exact h (Ae.mpr [p:O:uA e])
def kf:∀{ps O:om (Key×o6)},((O++ps).map (·.1)).Nodup->AwK.addAll O ps=O++ps
 | [],O,_=>(v9 O).symm
 |p::r,O,h=>by
  unfold AwK.addAll;have U:p.1∉O.map (·.1):=by
   rw[uq,uC] at h;intro q;exact(List.nodup_append.mp h).2.2 _ q _ uh rfl
  rw[Cy U,kf (by rw[vI];exact h),vI]
  rfl
def oB {P:og}{w:oh}{H:Hp}{h:o9}(ok:HOk P w H h):∀{ts:om o3}{ps:om (Str×V)},↑ts=↑ps->(∀(i:Nat) (t:o3) (p:Str×V),ts[i]? =u_ t->ps[i]? =u_ p->H t=u_ (-[.str p.1,p.2]))->
  ∃pv:om (Key×o6),KV (iP ps) pv/\∀(j:Nat) (v:o6) (p:Key×o6),(ts.map Vi)[j]? =u_ v->pv[j]? =u_ p->∃(t:o3) (o:Obj) (k:o6) (n:Nat),v= .ref t/\h.get? t=u_ o/\o.cls= .type "tuple"/\o.data= .seq #[k,p.2] n/\(Qd P w).is p.1 k=v_
 | [],[],_,_=>⟨[],.nil,λj v p e=>by simp at e⟩
 |t::ts,p::ps,hl,hp=>by
  obtain⟨pv,h1,h2⟩:=oB ok (ts:=ts) (ps:=ps) (by simpa using hl) λi t' p' O e2=>hp (i+1) t' p' (by simpa using O) (by simpa using e2)
  obtain⟨_,its,rv,o,U,Z,n,hd⟩:=(show yi P w H h t (-[.str p.1,p.2]) from ok t _ (hp 0 t p rfl rfl))
  cases rv with
  |cons r1 rv=>
  cases rv with
  |cons r2 rv=>
  cases rv with
  |nil=>
  erw[r1,tk,rfl]
  rename_i u
  exists (Vf p.1,u)::pv,.cons [1:r2] h1,λj v q O e2=>?_;cases j with
  |zero=>
   simp![uC,List.getElem?_cons_zero,pQ] at O e2;subst O e2;exact⟨t,o,_,n,1,U,Z,hd,wO _ _ _ _⟩
  |succ j=>exact h2 j v q (by simpa using O) (by simpa using e2)
 | [],_::_,hl,_=>by simp at hl
 |_::_,[],hl,_=>by simp at hl
abbrev Cr (H:Hp)(l:o3)(ps:om (Str×V)):Prop:=∃ts:om o3,H l=u_ (.lst (ts.map V.ref))/\↑ts=↑ps/\∀(i:Nat) (t:o3) (p:Str×V),ts[i]? =u_ t->ps[i]? =u_ p->H t=u_ (-[.str p.1,p.2])
def Ip {ot:om (o3×Obj)}{σ:St}{H:Hp}{s:o7}{l:o3}{ps:om (Str×V)}{Q:o6->o7->Prop}(hc:X.calm=v_)(I:#[I])(hl:Cr H l ps)(hn:(ps.map (·.1)).Nodup)(hz:↑ps<=1000)
  (h:∀h' O pv,0<O->(∀b o,s.heap.get? b=u_ o->h'.get? b=u_ o)->KV (iP ps) pv->h'.DictOf (Qd X.prog X.w) #[0,s] pv->Q (.ref #[0,s]) {s with heap:=h',toks:=O}):
  Vd #[X,X] X.A (call (.type "dict") [-l]) Q X.xe s:=by
 erw[hl,ts,e1,e2,e3];obtain⟨_,its,n,rv,ho⟩:=(show yi X.prog X.w H s.heap l (.lst (ts.map V.ref)) from I.hok l _ e1)
 cases nJ rv;erw[oB I.hok e2 e3,pv,r,hp];have ac:↑pv=↑ps:=by
  rw[<-↑r];unfold iP;rw[uc]
 have Z:(pv.map (·.1)).Nodup:=by
  rw[<-r.keys,wG];exact pG _ (λa b aa e=>aa (Uy e)) hn
 refine vh (n:=1) I.tk ?_;refine AwK.dict_pairs (knd:=Qd X.prog X.w) (I.ok.hd hc) (ps:=pv) ho (by rw[uB,uc];omega) (by rw[uE];omega) (λj v p h1 h2=>hp j v p (by simpa using h1) h2) λh' O U kp=>?_
 rw[kf (by simpa using Z),T2] at U
 exact λhtk=>h h' O pv htk kp r U
def C7 (Z:X.calm=v_):jA X (.type "dict") (λxs H Q=>∃(l:o3) (ps:om (Str×V)),xs= [-l]/\Cr H l ps/\(ps.map (·.1)).Nodup/\↑ps<=1000/\∀q,H q=U_->Q (-q) (upd H q (.dK (iP ps)))):=by
 exists 2,xs,us,Q,I,r,h;erw[h,l,ps,rfl,hl,hn,hz,q];erw[xH r,u,rfl,ru];cases ru;refine Ip Z I hl hn hz λh' aa pv htk kp rel dd=>?_;have O:(#[0,s]==Vy)=false:=by
  rw[beq_eq_false_iff_ne];exact U2 I.big
 have U:↑(iP ps)<=sizeLine:=by unfold iP;rw[uc,uE];omega
 exact⟨.ref #[0,s],_,I.laid kp (ur _) (wn U O rel dd),1,q _ I.fresh⟩
def C8 (Z:X.calm=v_):jA X (.type "dict") (λxs H Q=>∃(l:o3) (ps:om (Str×V)),xs= [-l]/\Cr H l ps/\(ps.map (·.1)).Nodup/\↑ps<=1000/\∀q o,H q=U_->Q (-q) (upd H q (.frz o (.dK (iP ps))))):=by
 exists 2,xs,us,Q,I,r,h;erw[h,l,ps,rfl,hl,hn,hz,q];erw[xH r,u,rfl,ru];cases ru;refine Ip Z I hl hn hz λh' aa pv htk kp rel dd=>?_;have O:(#[0,s]==Vy)=false:=by
  rw[beq_eq_false_iff_ne];exact U2 I.big
 have U:↑(iP ps)<=sizeLine:=by unfold iP;rw[uc,uE];omega
 erw[id dd,o,es,ep,ho,rr];exact⟨.ref #[0,s],_,I.laid (o:= .frz o (.dK (iP ps))) kp (ur _) [ho:wn U O rel dd],1,q _ o I.fresh⟩
end
mutual
noncomputable def puD:D->Bool
 | .str _=>v_
 | .int _=>v_
 | .tup xs=>puL xs
 |_=>Vc
noncomputable def puL:om D->Bool
 | []=>v_
 |x::r=>puD x&&puL r
end
mutual
noncomputable def eqD:D->D->Bool
 | .str a,.str b=>a==b
 | .int a,.int b=>a==b
 | .tup xs,.tup ys=>eqL xs ys
 |_,_=>Vc
noncomputable def eqL:om D->om D->Bool
 | [],[]=>v_
 |x::r,y::q=>eqD x y&&eqL r q
 |_,_=>Vc
end
mutual
theorem AF:∀{d e:D},puD d=v_->(eqD d e=v_↔d=e)
 | .str a,e,_=>by cases e<;>simp[eqD]
 | .int a,e,_=>by cases e<;>simp[eqD]
 | .tup xs,¬ys,h=>by
  have:=eqL_iff (xs:=xs) (ys:=ys) (by simpa [puD] using h)
  simp![eqD,this,D.tup.injEq]
 | .tup xs,.non,_=>by simp[eqD]
 | .tup xs,.bl _,_=>by simp[eqD]
 | .tup xs,.int _,_=>by simp[eqD]
 | .tup xs,.str _,_=>by simp[eqD]
 | .tup xs,.lst,_=>by simp[eqD]
 | .tup xs,.dct,_=>by simp[eqD]
 | .non,_,h=>by simp[puD] at h
 | .bl _,_,h=>by simp[puD] at h
 | .lst,_,h=>by simp[puD] at h
 | .dct,_,h=>by simp[puD] at h
theorem eqL_iff:∀{xs ys:om D},puL xs=v_->(eqL xs ys=v_↔xs=ys)
 | [],[],_=>by simp[eqL]
 | [],_::_,_=>by simp[eqL]
 |_::_,[],_=>by simp[eqL]
 |x::r,y::q,h=>by
  have h':puD x=v_/\puL r=true:=by simpa [puL] using h
  simp![eqL,uG,AF h'.1,eqL_iff h'.2,UU]
end
mutual
theorem Is.det {H:Hp}:∀{d e:D}{v:V},puD d=v_->puD e=v_->Is H d v->Is H e v->d=e
 | .str a,e,v,_,he,h1,h2=>by
  obtain⟨rfl,_⟩:=(show v= .str a/\_ from h1)
  cases e with
  |str b=>obtain⟨q,_⟩:=(show V.str a=V.str b/\_ from h2);cases q;rfl
  |int b=>cases(show V.str a=V.int b from h2)
  |tup ys=>erw[h2,p,us,q,_];cases q
  |_=>simp[puD] at he
 | .int a,e,v,_,he,h1,h2=>by
  cases(show v= .int a from h1)
  cases e with
  |str b=>obtain⟨q,_⟩:=(show V.int a=V.str b/\_ from h2);cases q
  |int b=>cases(show V.int a=V.int b from h2);rfl
  |tup ys=>erw[h2,p,us,q,_];cases q
  |_=>simp[puD] at he
 | .tup xs,e,v,hd,he,h1,h2=>by
  erw[h1,p,vs,rfl,Z,hl];cases e with
  |str b=>obtain⟨q,_⟩:=(show V.ref p=V.str b/\_ from h2);cases q
  |int b=>cases(show V.ref p=V.int b from h2)
  |tup ys=>
   erw[h2,p',us,q,O,U];cases q;rw[Z] at O;cases O;rw[IsL.det (by simpa [puD] using hd) (by simpa [puD] using he) hl U]
  |_=>simp[puD] at he
 | .non,_,_,hd,_,_,_=>by simp[puD] at hd
 | .bl _,_,_,hd,_,_,_=>by simp[puD] at hd
 | .lst,_,_,hd,_,_,_=>by simp[puD] at hd
 | .dct,_,_,hd,_,_,_=>by simp[puD] at hd
theorem IsL.det {H:Hp}:∀{xs ys:om D}{vs:om V},puL xs=v_->puL ys=v_->IsL H xs vs->IsL H ys vs->xs=ys
 | [],[],_,_,_,_,_=>rfl
 | [],_::_,_,_,_,h1,h2=>by
  cases(show _= [] from h1)
  erw[h2,v,r,q,_];cases q
 |_::_,[],_,_,_,h1,h2=>by
  cases(show _= [] from h2)
  erw[h1,v,r,q,_];cases q
 |x::xs,y::ys,_,hd,he,h1,h2=>by
  erw[h1,v,r,rfl,Z,a2];erw[h2,v',r',q,b1,b2];cases q;have O:puD x=v_/\puL xs=true:=by simpa [puL] using hd
  have U:puD y=v_/\puL ys=true:=by simpa [puL] using he
  rw[Is.det O.1 U.1 Z b1,IsL.det O.2 U.2 a2 b2]
end
def AE:∀(xs ys:om D),eqL xs ys=((Vp (min ↑xs ↑ys)).all (λj=>eqD (xs.getD j .non) (ys.getD j .non))&&↑xs==↑ys)
 | [],[]=>by simp[eqL]
 | [],_::_=>by simp[eqL]
 |_::_,[]=>by simp[eqL]
 |x::r,y::q=>by
  have O:=AE r q;rw[uw,uw,show min (↑r+1) (↑q+1)=min ↑r ↑q+1 by omega,T1,vF,UD]
  have e:(Vp (min ↑r ↑q)).all ((λj=>eqD ((x::r).getD j .non) ((y::q).getD j .non))∘Tv)=(Vp (min ↑r ↑q)).all λj=>eqD (r.getD j .non) (q.getD j .non):=by congr 1
  rw[e];have e2:(↑r+1==↑q+1)=(↑r==↑q):=by rw[vR];simp
  rw[e2,rS,<-O]
  rfl
section
variable {X:Cx}{ot:om (o3×Obj)}{σ:St}{H:Hp}{s:o7}
variable {z:Str}{e:D}{A:oj}
def Mu (I:#[I]){t:Tok}{u:V}{b:o6}(U:puD e=v_)(h2:Is H e u)(O:il u b)(Z:A.units<Vl):Vv A s (.str z t) b (eqD (!z) e):=by
 cases e with
 |str y=>
  obtain⟨rfl,_⟩:=(show u= .str y/\_ from h2)
  erw[O,t2,rfl];exact Tf _ _ _ _
 |int y=>
  cases(show u= .int y from h2)
  erw[O,t2,rfl];exact UN _ _ _ _
 |tup ys=>
  erw[id h2,p,us,rfl,hp,hl];cases O;erw[I.tuple (.inl (.of hp)),its,_,q,_];exact FH _ _ q Z
 |_=>simp[puD] at U
def Cb (I:#[I]){z:Int}{t:Tok}{u:V}{b:o6}(U:puD e=v_)(h2:Is H e u)(O:il u b)(Z:A.units<Vl):Vv A s (.int z t) b (eqD (.int z) e):=by
 cases e with
 |str y=>
  obtain⟨rfl,_⟩:=(show u= .str y/\_ from h2)
  erw[O,t2,rfl];exact UM _ _ _ _
 |int y=>
  cases(show u= .int y from h2)
  erw[O,t2,rfl];exact tD _ _ _ _
 |tup ys=>
  erw[id h2,p,us,rfl,hp,hl];cases O;erw[I.tuple (.inl (.of hp)),its,_,q,_];exact F_ _ _ q Z
 |_=>simp[puD] at U
def wI:∀{xs:om D}{j:Nat}{x:D},puL xs=v_->xs[j]? =u_ x->puD x=v_
 | [],_,_,_,e=>by simp at e
 |y::r,0,x,h,e=>by
  have h':puD y=v_/\puL r=true:=by simpa [puL] using h
  have:y=x:=by simpa using e
  exact this▸h'.1
 |y::r,j+1,x,h,e=>by
  have h':puD y=v_/\puL r=true:=by simpa [puL] using h
  exact wI h'.2 (by simpa using e)
def Mt (I:#[I]){xs:om D}{e:D}{v u:V}{a b:o6}{A:oj}(hd:puD (¬xs)=v_)(he:puD e=v_)(h1:Is H (¬xs) v)(h2:Is H e u)(r1:il v a)(r2:il u b)(hu:A.units<Vl)
  (ih:∀x>xs,∀(e:D) (v u:V) (a b:o6),puD x=v_->puD e=v_->Is H x v->Is H e u->il v a->il u b->Vv A.in1 s a b (eqD x e)):Vv A s a b (eqD (¬xs) e):=by
 erw[id h1,p,vs,rfl,hp,hl];cases r1;erw[I.tuple (.inl (.of hp)),its,rv,q,_];cases e with
 |str y=>
  obtain⟨rfl,_⟩:=(show u= .str y/\_ from h2)
  erw[r2,t2,rfl];exact Fe _ _ q hu
 |int y=>
  cases(show u= .int y from h2)
  erw[r2,t2,rfl];exact FB _ _ q hu
 |tup ys=>
  by_cases hv:V.ref p=u
  .have:=Is.det (e:=¬ys) hd he h1 (hv▸h2);subst hv;cases r2;rw[<-this,(AF hd).mpr rfl];exact H_ _
  .erw[id h2,p',us,rfl,aa,O];cases r2;erw[I.tuple (.inl (.of aa)),its',U,q',_];have l1:↑its=↑xs:=by rw[<-↑rv,↑hl]
   have l2:↑its'=↑ys:=by rw[<-↑U,↑O]
   have ac:puL xs=true:=by simpa [puD] using hd
   have ad:puL ys=true:=by simpa [puD] using he
   have ae:=V1 (e:=λj=>eqD (xs.getD j .non) (ys.getD j .non)) q q' hu λj a1 a2=>by
    have Z:j<↑xs:=by rw[<-l1];simpa using a1
    have j2:j<↑ys:=by rw[<-l2];simpa using a2
    obtain⟨v1,e1,i1⟩:=hl.get (i:=j) (d:=xs[j]) (by simp[Z])
    obtain⟨v2,e2,i2⟩:=O.get (i:=j) (d:=ys[j]) (by simp[j2])
    erw[rv.get e1,b1,f1,g1];erw[U.get e2,b2,f2,g2];have k1:its.toArray[j]=b1:=by
     have:=f1;rw[ui (by rwa[l1])] at this
     simpa using this
    have k2:its'.toArray[j]=b2:=by
     have:=f2;rw[ui (by rwa[l2])] at this
     simpa using this
    have d1:xs.getD j .non=xs[j]:=by simp[Gb,Z]
    have d2:ys.getD j .non=ys[j]:=by simp[Gb,j2]
    show Vv _ s _ _ (eqD (xs.getD j .non) (ys.getD j .non));rw[k1,k2,d1,d2];exact ih _ (uR Z) _ _ _ _ _ (wI (j:=j) ac (by simp[Z])) (wI (j:=j) ad (by simp[j2])) i1 i2 g1 g2
   have e1:eqD (¬xs) (¬ys)=((Vp (min its.toArray.size its'.toArray.size)).all (λj=>eqD (xs.getD j .non) (ys.getD j .non))&&its.toArray.size==its'.toArray.size):=by
    rw[uB,uB,l1,l2,<-AE];simp![eqD]
   rw[e1];exact rg (λz=>hv (by rw[z])) ae
 |_=>simp[puD] at he
def NI (I:#[I]):∀(n:Nat) (d e:D) (v u:V) (a b:o6) (A:oj),dp d<=n->puD d=v_->puD e=v_->Is H d v->Is H e u->il v a->il u b->A.units+n<Vl->Vv A s a b (eqD d e):=by
 intro n
 induction n with
 |zero=>
  intro d e v u a b A hn hd U h1 h2 Z r2 hu;cases d with
  |int z=>
   cases(show v= .int z from h1)
   erw[Z,t,rfl];exact Cb I U h2 r2 hu
  |str z=>simp[dp] at hn
  |tup xs=>simp[dp] at hn
  |_=>simp[puD] at hd
 |succ n ih=>
  intro d e v u a b A hn hd U h1 h2 Z r2 hu;have O:A.units<cLine:=UR (V8 _ _) hu;cases d with
  |int z=>
   cases(show v= .int z from h1)
   erw[Z,t,rfl];exact Cb I U h2 r2 O
  |str z=>
   obtain⟨rfl,_⟩:=(show v= .str z/\_ from h1)
   erw[Z,t,rfl];exact Mu I U h2 r2 O
  |tup xs=>
   have hm:dpL xs<=n:=by
    have:dp (¬xs)=1+dpL xs:=by simp![dp]
    omega
   exact Mt I hd U h1 h2 Z r2 O λx hx e v u a b k1 k2 k3 k4 k5 k6=>ih x e v u a b A.in1 ((wj xs).mp hm x hx) k1 k2 k3 k4 k5 k6 (by rw[v7];omega)
  |_=>simp[puD] at hd
end
section
variable {X:Cx}
abbrev trD:D->Bool
 | .str _=>v_
 | .tup xs=>puL xs
 |_=>Vc
def MR {d:D}(h:trD d=v_):puD d=true:=by
 cases d<;>simp_all [trD,puD]
variable {ot:om (o3×Obj)}{σ:St}{H:Hp}{s:o7}{A:oj}{n:Nat}{its:om o6}
def LH (I:#[I]){xs ys:om D}{vs us:om V}{its':om o6}(hn:dpL xs<=n)(hd:puL xs=v_)(he:puL ys=v_)(hl:IsL H xs vs)(O:IsL H ys us)(rv:iq vs its)(U:iq us its')(hu:A.units+n<Vl):
  ∀j (a1:j<its.toArray.size) (a2:j<its'.toArray.size),Vv A s its.toArray[j] its'.toArray[j] (eqD (xs.getD j .non) (ys.getD j .non)):=λj a1 a2=>by
 have l1:↑its=↑xs:=by rw[<-↑rv,↑hl]
 have l2:↑its'=↑ys:=by rw[<-↑U,↑O]
 have Z:j<↑xs:=by rw[<-l1];simpa using a1
 have j2:j<↑ys:=by rw[<-l2];simpa using a2
 obtain⟨v1,e1,i1⟩:=hl.get (i:=j) (d:=xs[j]) (by simp[Z])
 obtain⟨v2,e2,i2⟩:=O.get (i:=j) (d:=ys[j]) (by simp[j2])
 erw[rv.get e1,b1,f1,g1];erw[U.get e2,b2,f2,g2];have k1:its.toArray[j]=b1:=by
  have:=f1;rw[ui (by rwa[l1])] at this
  simpa using this
 have k2:its'.toArray[j]=b2:=by
  have:=f2;rw[ui (by rwa[l2])] at this
  simpa using this
 have d1:xs.getD j .non=xs[j]:=by simp[Gb,Z]
 have d2:ys.getD j .non=ys[j]:=by simp[Gb,j2]
 rw[k1,k2,d1,d2];exact NI I n _ _ _ _ _ _ A ((wj xs).mp hn _ (uR Z)) (wI (j:=j) hd (by simp[Z])) (wI (j:=j) he (by simp[j2])) i1 i2 g1 g2 hu
variable {e:D}{y:V}{u:o6}
def Aeq (I:#[I]){d:D}{x:V}{v:o6}(h1:Is H d x)(h2:Is H e y)(p1:trD d=v_)(p2:trD e=v_)(hn:dp d<=60)(rx:il x v)(ry:il y u)(hu:A.units+64<Vl):
  Fs A s v u (eqD d e)/\rC A s v u (!(eqD) d e):=by
 have O:A.units<cLine:=by omega
 cases d with
 |str z=>
  obtain⟨rfl,_⟩:=(show x= .str z/\_ from h1)
  erw[rx,t,rfl];cases e with
  |str w=>
   obtain⟨rfl,_⟩:=(show y= .str w/\_ from h2)
   erw[ry,t2,rfl];exact[pW _ _ _ _:pP _ _ _ _]
  |tup ys=>
   erw[id h2,p,us,rfl,hp,hl];cases ry;erw[I.tuple (.inl (.of hp)),its,_,q,_];exact[p8 _ _ q O:pM _ _ q O]
  |_=>simp[trD] at p2
 |tup xs=>
  erw[id h1,p,vs,rfl,hp,hl];cases rx;erw[I.tuple (.inl (.of hp)),its,rv,q,_];cases e with
  |str w=>
   obtain⟨rfl,_⟩:=(show y= .str w/\_ from h2)
   erw[ry,t2,rfl];exact[pY _ _ q O:pB _ _ q O]
  |tup ys=>
   erw[id h2,p',us,rfl,aa,U];cases ry;erw[I.tuple (.inl (.of aa)),its',Z,q',_];have hm:dpL xs<=60:=by
    have:dp (¬xs)=1+dpL xs:=by simp![dp]
    omega
   have l1:↑its=↑xs:=by rw[<-↑rv,↑hl]
   have l2:↑its'=↑ys:=by rw[<-↑Z,↑U]
   have pe:=LH I (A:=A.in1) hm (by simpa [trD] using p1) (by simpa [trD] using p2) hl U rv Z (by rw[v7];omega)
   have e1:eqD (¬xs) (¬ys)=((Vp (min its.toArray.size its'.toArray.size)).all (λj=>eqD (xs.getD j .non) (ys.getD j .non))&&its.toArray.size==its'.toArray.size):=by
    rw[uB,uB,l1,l2,<-AE];simp![eqD]
   rw[e1];exact[V1 q q' O pe:FG q q' O pe]
  |_=>simp[trD] at p2
 |_=>simp[trD] at p1
inductive Ac4 (g:Bool->Bool)(x:V)(y:V)(H:Hp)(Q:VK):Prop
 |mk (d e:D)(_:Is H d x)(_:Is H e y)(_:trD d=v_)(_:trD e=v_)(_:dp d<=60)(_:Q (.bl (g (eqD d e))) H)
def BA (O:X.A.units+64<Vl):OpR X (Vm .Eq) (Ac4 id):=by
 exists 2,x,y,v,u,Q,I,U,Z,h;erw[h,d,e,h1,h2,p1,p2,hn,q];exact(Aeq I h1 h2 p1 p2 hn U Z O).1 X.prog X.w X.xe _ ⟨.bl _,H,I,1,q⟩
end
variable {X:Cx}
def JA:jA X (.builtin "len") (λxs H Q=>(∃z:Str,xs= [!z]/\↑z<=Vg/\Q (.int ↑z) H)\/∃p ys,xs= [-p]/\(SqL X.K H p ys\/SqT X.K H p ys)/\(↑ys<=Vg->Q (.int ↑ys) H)):=by
 exists 2,xs,us,Q,I,r,h;rcases h with⟨z,e,hz,q⟩|h
 .exact k9 ot s σ H xs us Q I r ⟨_,↑z,e,[hz:1],q⟩
 .exact IF ot s σ H xs us Q I r h
abbrev Adq (K:o0)(n:Nat)(t:TGs):TG:=λv σ H Q=>∃a xs,v= .ref a/\SqL K H a xs/\↑xs=n/\t xs σ H Q
def O8 {X:Cx}{es:om Expr}{k:Nat}{t:TGs}{n:Nat}{pos:Pos}(Z:X.calm=v_)(h:PGs X es t)
  (hn:↑(VZ es X.env)=n) (O:(VZ es X.env).findIdx? (·.1)=U_):PG X (.Tuple es k pos) (Adq X.K n t):=by
 exists 2,v,u,Q,I,r,U;erw[U,a,xs,e1,hq,hl,U];subst e1;cases r;erw[I.list hq,its,rv,ht,hz];rw[assign_Tuple];refine A7 (Hx ?_);unfold unpack;rw[O,hn,<-hl,show ↑xs=its.toArray.size by simp[rv.length]]
 refine A7 (VW (PySem.W.kun_itemsOf (I.ok.hd Z) ht.isList λh' hx=>?_));have I1:Inv X ot σ H {s with heap:=h'}:=I.kept (t':=s.toks) λb o e=>hx b o (uX (uJ e)) e
 exact h ot _ σ H xs _ Q I1 (by simpa using rv) U
variable {w:oh}{K:o0}{mg:Str->oq o6}{base:o9}{f:o3}{A:oj}
def Abb {P:og}{N:om Str}{qual:Str}{scope:Vu}{cd:o6}{outer:om Env}{s₀:o7}{H₀:Hp}{E:XK}:
  XD (CX1 P w) (cxOf (CX1 P w) P w K mg base N qual scope f cd A outer s₀ H₀ E) E:=by
 intro ot σ H s e s' I h;erw[h,ea,C,a0,H',B,rfl,au,ae,htk,aw,al,am,hold,hE];show Vd (Vs P w) (A.deeper (Vj qual scope #[0,s₀] f cd)) (TC (Vj qual scope #[0,s₀] f cd) (-ea)) (λ_ af=>CX1 P w outer H₀ s₀ E (-ea) af) (λe' af=>CX1 P w outer H₀ s₀ E e' af) _;have ax:(A.deeper (Vj qual scope #[0,s₀] f cd)).frames=u_ (Vj qual scope #[0,s₀] f cd::outer):=I.ok.frames;have ag:frs (Vj qual scope #[0,s₀] f cd::outer)=#[0,s₀]::frs outer:=rfl;have O:Un (frs outer) [] H₀ H s₀.heap s.heap:=I.base;have U:Un (frs (Vj qual scope #[0,s₀] f cd::outer)) [] H H' s.heap s'.heap:=aw;have aa:Rz B (Vj qual scope #[0,s₀] f cd::outer) ea (-C) a0 s'.heap:=am;have ac:∀b o,s.heap.get? b=u_ o->b∉frs (Vj qual scope #[0,s₀] f cd::outer)->∃o',B.get? b=u_ o':=hold;have ay:=aa.2.2.1;have ad:∀b o,s₀.heap.get? b=u_ o->b∉frs outer->b∉frs (Vj qual scope #[0,s₀] f cd::outer):=λb o e hb hm=>by
  rw[ag] at hm;rcases Aa.mp hm with rfl|hm
  .exact A8 (uJ e) (vP _)
  .exact hb hm
 have nd:∀b>frs outer,∀o,s'.heap.get? b=u_ o->∀vs,o.data≠ .fields vs:=λb hb o e=>by
  obtain⟨_,o',e',hn⟩:=ay.mem (show b>(Vj qual scope #[0,s₀] f cd::outer).filterMap (·.frame) from by rw[show(Vj qual scope #[0,s₀] f cd::outer).filterMap (·.frame)=frs (Vj qual scope #[0,s₀] f cd::outer) from rfl,ag];exact ug _ hb)
  rw[e] at e';cases e';exact hn
 refine wpAny_leaves_onW (base:=B) (L:=#[0,s₀]) ax rfl aa λaA ah ao=>?_;have aB:∀b o o',B.get? b=u_ o'->s'.heap.get? b=u_ o->aA.get? b=u_ o:=λb o o' Z e2=>by
  have:=aa.1 b o' Z;rw[e2] at this;cases this;exact ah.1 b o Z
 exists ea,C,a0,H',B,1,au.trans I.os,ae,htk,⟨?_,?_,?_,?_,?_,?_,?_⟩,al,ah,?_,hE
 .intro b o Z hn hb hx;have e2:=O.keep b o Z hn hb hx;have ak:=O.free b o Z hn hx;have ap:=ad b o Z hb;have e3:=U.keep b o e2 ak ap hx;erw[ac b o e2 ap,o',e4];exact aB b o o' e4 e3
 .intro b o Z hn hb hx;erw[O.slot b o Z hn hb hx,sl,e2];have ak:=O.free b o Z hn hx;obtain⟨aC,e3⟩:=U.slot b _ e2 ak (by rw[ag];exact ug _ hb) hx
  erw[ao b _ e3 (nd b hb _ e3),aq,e4];exact[aq:e4]
 .intro b o Z hn hx;erw[O.there b o Z hx,o',e2];exact U.free b o' e2 (O.free b o Z hn hx) hx
 .intro b o Z hx;erw[O.there b o Z hx,o',e2];by_cases hb:b>frs outer
  .erw[U.there b o' e2 hx,o2,e3];erw[ao b _ e3 (nd b hb _ e3),aq,e4];exact[_:e4]
  .erw[ac b o' e2 (ad b o Z hb),o2,e3];exact[o2:ah.1 b o2 e3]
 .exact λb xs e=>U.tups b xs (O.tups b xs e)
 .exact λb o u e=>U.frzs b o u (O.frzs b o u e)
 .intro b ps e;erw[O.tbls b ps e,m1,Z];erw[U.tbls b _ Z,m2,e2];exact⟨m1++m2,by rwa[<-Tc]⟩
 .intro b o Z hb;obtain⟨o',e2⟩:=O.there b o Z (by simp)
  exact ac b o' e2 (ad b o Z hb)
def DY:XD (CX1 X.prog X.w) X E0:=λ_ _ _ _ _ _ _ h=>by
 erw[h,_,_,_,_,_,_,_,_,_,_,_,_,_,z];exact Vw z
end L2
namespace L2
open PySem PyProof.Rows
variable {H:Hp}{p:o3}
def Tk.updD {xs ys:om (Key×V)}(h:H p=u_ (.dK xs)):Tk H (upd H p (.dK ys)):=by
 exists λb zs e=>?_,λb zs e=>[zs:?_],λb zs e=>?_
 .rw[qi (λz=>by rw[z,h] at e;cases e)];exact e
 .rw[qi (λz=>by rw[z,h] at e;cases e)];exact e
 .by_cases z:b=p
  .exact⟨ys,by rw[z];exact qg⟩
  .exact⟨zs,by rwa[qi z]⟩
variable {C dx:o3}
def Tk.updI {O dx':o3}{xs ys:om (Str×V)}(h:H p=u_ (.ins C dx xs)):Tk H (upd H p (.ins O dx' ys)):=
 ⟨λb zs e=>by rw[qi (λz=>by rw[z,h] at e;cases e)];exact e,λb zs e=>⟨zs,by rw[qi (λz=>by rw[z,h] at e;cases e)];exact e⟩,λb zs e=>⟨zs,by rw[qi (λz=>by rw[z,h] at e;cases e)];exact e⟩⟩
section
variable {X:Cx}
inductive OU (x:V)(vs:List V)(H:Hp)(Q:VK):Prop
 |mk (z y:Str)(_:x= !z)(_:vs= [!y])(_:Q (.bl (Go z y)) H)
def Ez:MtM X "str.startswith" OU:=by
 exists 2,x,vs,v,us,Q,I,O,rv,h;erw[h,z,y,rfl,rfl,q];erw[O,t,rfl];erw[rv.one,u,rfl,t',rfl];exact SC.startswith ⟨.bl (Go z y),H,I,1,q⟩
end
def So {d A:o3}{o:Obj}{H1:Hp}{tc:TT}{te:TE}{tl:St}{Q:VK}{kvs:om (Key×V)}{ls:om Str}(p:Str->Bool)(f:Str->V)(hd:H1 d=u_ (.frz o (.dK kvs)))(hk:kvs.map (·.1)=ls.map Vf)(hn:↑ls<=Vg)(hA:H1 A=U_)
  (U:∀z H (R:Bool->Hp->Prop),z>ls->ic H1 H->R (p z) H->tc (u_ (!z)::tl) H R)
  (Z:∀z H (R:VK),z>ls->ic H1 H->R (f z) H->te (u_ (!z)::tl) H R)
  (hQ:∀H',ic H1 H'->H' A=u_ (.lst ((ls.filter p).map f))->Q (-A) H'):CZ A (Itd d o) (YY 0) tc te (U_::tl) H1 Q:=by
 have ac:↑kvs=↑ls:=by
  have:=A9 VI hk
  simpa using this
 exists ↑ls,λi σ ys H=>(∃w,σ=w::tl)/\ys=((ls.take i).filter p).map f/\ic H1 H,hn,[[U_:1]:1:qf hA _],?_,?_
 .rintro i σ ys H hi ⟨⟨w,rfl⟩,rfl,sm⟩ O hy;exists [kvs:sm _ _ hd:()]
  rintro x H' ⟨rfl,hx⟩;have e:=hx kvs (sm _ _ hd);have e2:(kvs.map λp=>kV p.1)[i]? =u_ (V.str ls[i]):=by
   have:(kvs.map λp=>kV p.1)=(kvs.map (·.1)).map kV:=by rw[uP];rfl
   rw[this,hk,uP,uK,ui hi]
   rfl
  rw[e2] at e;cases e;have et:ls.take (i+1)=ls.take i++ [ls[i]]:=by rw[vj,ui hi];rfl
  have aa:∀ys,ic H1 (upd H' A (.lst ys)):=λys b o' e=>by
   rw[qi (qk e hA)];exact sm _ _ e
  dsimp![YY,GX];refine U ls[i] H' _ (uR hi) sm ?_;cases hp:p ls[i] with
  |true=>
   refine ky (Z ls[i] H' _ (uR hi) sm ⟨O,⟨0⟩,?_,aa _⟩);rw[et,FQ,uq];simp[hp]
  |false=>
   refine iL ⟨O,⟨0⟩,?_,sm⟩;rw[et,FQ,uq];simp[hp]
 .rintro σ ys H ⟨_,rfl,sm⟩ O;rw[vW] at O;exact[[kvs:sm _ _ hd:()]:hQ H sm O]
def Sn {K:o0}{a A:o3}{H1:Hp}{te:TE}{tl:St}{Q:VK}{ls:om Str}(C:Nat->om V->Hp->Prop)(ha:H1 a=u_ (.lst (ls.map V.str)))(hn:↑ls<=Vg)(hA:H1 A=U_)(h0:C 0 [] (upd H1 A (.lst [])))
  (aa:∀i z ys H,ls[i]? =u_ z->C i ys H->H A=u_ (.lst ys)->H a=u_ (.lst (ls.map V.str))->↑ys<=i->∀R:VK,(∀y H4,H4 A=u_ (.lst ys)->H4 a=u_ (.lst (ls.map V.str))->C (i+1) (ys++ [y]) (upd H4 A (.lst (ys++ [y])))->R y H4)->te (u_ (!z)::tl) H R)
  (hQ:∀ys H,C ↑ls ys H->H A=u_ (.lst ys)->Q (-A) H):CZ A (Itl K a) (YY 0) nG te (U_::tl) H1 Q:=by
 have U:a≠A:=qk ha hA;refine⟨↑ls,λi σ ys H=>(∃w,σ=w::tl)/\C i ys H/\H a=u_ (.lst (ls.map V.str)),hn,⟨[U_:1],h0,by rwa[qi U]⟩,?_,?_⟩
 .rintro i σ ys H hi ⟨⟨w,rfl⟩,hc,Z⟩ O hy;have e0:(ls.map V.str)[i]? =u_ (V.str ls[i]):=by rw[uK,ui hi];rfl
  exists ⟨_,_,SqL.of Z,e0⟩;rintro x H' ⟨rfl,hx⟩;have e:=hx _ (SqL.of Z);rw[e0] at e;cases e;dsimp![YY,nG,GX];rw[A6 rfl];exact aa i ls[i] ys H' (ui hi) hc O Z hy _ λy H4 h4 h5 c4=>⟨h4,⟨0⟩,c4,by rwa[qi U]⟩
 .rintro σ ys H ⟨_,hc,Z⟩ O;exact⟨⟨_,SqL.of Z,by simp⟩,hQ ys H hc O⟩
section
variable {X:Cx}{K:o0}{o e:Expr}{es:om Expr}{to:TE}{t:TA}{name:Str}{apos cpos:Pos}{T id:String}{r:V->om V->Hp->VK->Prop}
def Aba (hK:X.K=K)(pa:tM T)(slot:Slot T name id)(ac:HZ (.builtin id)=pure (.type "method_descriptor"))(hm:MtR X id r)(ho:PE X o to)(ha:PA X (e::es) t)
  (U:VS o name X.env (eval o X.env)=eval o X.env)
  (aa:((Vo cpos (Vh (e::es) X.env)).all (λx=> !(x).1)&&(Gg cpos (Gj [] X.env)).all (λx=>x.1.isSome)
   &&decide (↑(e::es)+↑([]:om GB)+(if([]:om GB).isEmpty then 0 else 1)<30))=v_)
  (Z:(apos.endLine==cpos.line)=v_) (hs:Vh (e::es) X.env=(Vc,eval e X.env)::Vh es X.env) (O:(Vo cpos (Vh es X.env)).any (·.1)=Vc):
  PE X (.Call (.Attribute o name apos) (e::es) [] cpos) (tBM K T r to t):=by
 subst hK;exact jU pa slot ac hm ho ha U aa Z hs O
end
def wx {α β:Type}{F:α->β->Prop}:∀{l₁:om α}{l₂:om β},Paired F l₁ l₂->∀{j:Nat}{a:α}{b:β},l₁[j]? =u_ a->l₂[j]? =u_ b->F a b
 |_,_,.nil,j,a,b,h,_=>by simp at h
 |_,_,.cons f r,0,a,b,h1,h2=>by
  cases h1;cases h2;exact f
 |_,_,.cons f r,j+1,a,b,h1,h2=>wx r (j:=j) (by simpa using h1) (by simpa using h2)
section
variable {X:Cx}{ot:om (o3×Obj)}{σ:St}{H:Hp}{s:o7}
def C5 {o:Expr}{to:TE}{apos cpos:Pos}{R:o6->o7->Prop}{Q:VK}(ho:PE X o to)(I:#[I])(O:VS o "items" X.env (eval o X.env)=eval o X.env)(U:(apos.endLine==cpos.line)=v_)
  (h:to σ H Q)
  (k:∀(s1:o7) (H1:Hp) (x:V),Inv X ot σ H1 s1->Q x H1->∃(d:o3) (kvs:om (Key×V)),x= .ref d/\Rd H1 d (.dK kvs)/\R (.ref #[0,s1]) {s1 with heap:=s1.heap.push {cls:= .type "dict_items",data:= .fields #[-d]}}):
  Vd #[X,X] X.A (eval (.Call (.Attribute o "items" apos) [] [] cpos) X.env) R X.xe s:=by
 refine UQ O U (thn (ho ot s σ H _ I h) λv s1 zq=>?_);erw[zq,x,H1,Z,r1,q];erw[k s1 H1 x Z q,d,kvs,ex,hd,q2];subst ex;cases r1;erw[zB Z.hok hd,hz,lo,vs,ac,dd];have aa:∀a,Vi d= .ref a->∃ob,s1.heap.get? a=u_ ob/\ob.dict=none:=w8 Z (y:=kV (VV 0)) (.inl ⟨kvs,VV 0,hd,1,1⟩);exact⟨"dict","dict.items",vX,PySem.F.slot_dict_items,PySem.F.type_dict_items,dd.typeIs,aa,vC rfl (PySem.evalArgs_none (V5 PySem.F.slot_dict_items dd.typeIs PySem.F.entry_dict_items (PySem.F.args_dict_items_1 _) (meets_dict_items (Qd X.prog X.w) d lo) [[vs:dd]:q2]))⟩
end
abbrev Nk:D->Bool
 | .non=>v_
 |d=>trD d
section
variable {X:Cx}
inductive Aex (x:V)(y:V)(H:Hp)(Q:VK):Prop
 |mk (d:D)(z:Str)(_:Is H d x)(_:y= !z)(_:↑z<=1000)(_:Nk d=v_)(_:dp d<=60)(_:Q (.bl (eqD d (!z))) H)
def Abf (hu:X.A.units+64<Vl):OpR X (Vm .Eq) Aex:=by
 exists 2,x,y,v,u,Q,I,O,U,h;erw[h,d,z,hd,rfl,hz,Z,hp,q];cases d with
 |non=>
  cases(show x= .non from hd)
  exact QN ot s σ H .non (!z) v u Q I O U ⟨1,by simpa [eqD] using q⟩
 |str a=>exact BA hu ot s σ H x _ v u Q I O U ⟨_,!z,hd,⟨1,by rw[uE];omega⟩,Z,1,hp,q⟩
 |tup a=>exact BA hu ot s σ H x _ v u Q I O U ⟨_,!z,hd,⟨1,by rw[uE];omega⟩,Z,1,hp,q⟩
 |_=>simp[Nk,trD] at Z
inductive Aev (K:PySem.W.Frag)(x:V)(y:V)(H:Hp)(Q:VK):Prop
 |mk (d:D)(p:Addr)(ls:List Str)(_:Is H d x)(_:y=-p)(_:(SqL K H p (ls.map V.str)\/SqT K H p (ls.map V.str)))(_:(∀z>ls,↑z<=1000))(_:Nk d=v_)(_:dp d<=60)(_:Q (.bl (ls.any λz=>eqD d (!z))) H)
def Fr (us:om Str):(us.map V.str).all ZP=true:=by
 rw[UD,Um];exact λ_ _=>rfl
def Nh (hu:X.A.units+64<Vl):OpR X (Vm .In) (Aev X.K):=by
 exists 2,x,y,v,u,Q,I,rx,ry,h;erw[h,d,p,ls,hd,rfl,O,ac,hk,hp,q];cases d with
 |non=>
  cases(show x= .non from hd)
  refine Q0 ot s σ H .non _ v u Q I rx ry ⟨p,0,O,1,Fr _,?_⟩;have e:inV .non (ls.map V.str)=ls.any λz=>eqD .non (!z):=by
   unfold inV;rw[tY]
   rfl
  rwa[A4 ud,e]
 |str a=>
  erw[hd,rfl,_];refine Q0 ot s σ H _ _ v u Q I rx ry ⟨p,0,O,1,Fr _,?_⟩;have e:inV (!a) (ls.map V.str)=ls.any λz=>eqD (!a) (!z):=by
   unfold inV;rw[tY];refine A9 (λf=>ls.any f) (funext λz=>?_);show(z==a)=(a==z);rw[vR,beq_iff_eq,beq_iff_eq];exact eq_comm
  rwa[A4 ud,e]
 |tup xs=>
  have e:(ls.any λz=>eqD (¬xs) (!z))=false:=by
   rw[T8];intro z _;simp[eqD]
  rw[e] at q;erw[hd,pa,vs,rfl,ha,hl];cases rx;cases ry;erw[I.tuple (.inl (.of ha)),ad,ae,af,_];have ag:X.A.units<cLine:=by omega
  have U:∀{its:om o6},iq (ls.map V.str) its->∀w>its,∀A:oj,A.units+1<Vl->Vv A s w (-pa) false:=by
   intro its r w Z A hA;erw[List.mem_iff_getElem?.mp Z,j,hj];have aa:j<↑ls:=by
    have:=(Af.mp hj).1;have:=↑r;rw[uc] at this;omega
   obtain⟨u',e1,e2⟩:=r.get (i:=j) (x:=V.str ls[j]) (by rw[uK,ui aa];rfl)
   rw[hj] at e1;cases e1;have:=NI I 1 (.str ls[j]) (¬xs) (.str ls[j]) (-pa) _ (-pa) A (by simp[dp]) rfl (by simpa [Nk,trD,puD] using hk) ⟨1,by have:=ac _ (uR aa);rw[uE];omega⟩ ⟨pa,vs,1,ha,hl⟩ e2 rfl ()
   simpa [eqD] using this
  rcases O with O|O
  .erw[I.list O,its,r,pl,hz];refine Rx (λ_=>Vc) pl.isList (λw Z=>U r w (by simpa using Z) _ ?_) ⟨.bl _,H,I,1,?_⟩
   .first|omega|(rw[v7];omega)|(rw[v7,v7];omega)|(rw[v7,v7,v7];omega)
   .rw[show its.toArray.any (λ_=>Vc)=Vc by rw[Rl];exact List.any_eq_false.mpr λ_ _=>ud]
    exact q
  .erw[I.tuple O,its,r,pl,hz];refine RQ (λ_=>Vc) pl (λw Z=>U r w (by simpa using Z) _ ?_) ⟨.bl _,H,I,1,?_⟩
   .first|omega|(rw[v7];omega)|(rw[v7,v7];omega)|(rw[v7,v7,v7];omega)
   .rw[show its.toArray.any (λ_=>Vc)=Vc by rw[Rl];exact List.any_eq_false.mpr λ_ _=>ud]
    exact q
 |_=>simp[Nk,trD] at hk
end
end L2
namespace L2
open PySem PySem.Spec PyProof.Rows Builtin Builtin.Str
abbrev AaB (P:og)(w:oh)(K:o0)(mg:Str->oq o6)(base:o9)(k:Nat)(tf:TE)(t:TA):TE:=λσ H Q=>tf σ H λv H1=>∃(f:o3) (fd:Ve) (ps:om Str) (sp:Sp),v= .ref f/\
 FnOk P w K mg base CX0 k f fd ps sp/\Xi K fd ps []/\PySem.W.keepIn K (-f)=v_/\t σ H1 λvs H2=>sp vs H2 Q E0
def LF {X:Cx}{o i e:Expr}{es:om Expr}{O pos:Pos}{Z:TE}{t:TA}{k:Nat}{P:og}{w:oh}{K:o0}{mg:Str->oq o6}{base:o9}(e1:X.prog=P/\X.w=w/\X.K=K/\X.mg=mg/\X.base=base)(hf:PE X (.Subscript o i O) Z)(hr:mr k X.A)(ha:PA X (e::es) t)
  (he:Vh (e::es) X.env=(Vc,eval e X.env)::Vh es X.env) (U:(Vo pos (Vh es X.env)).any (·.1)=Vc):
  PE X (.Call (.Subscript o i O) (e::es) [] pos) (AaB P w K mg base k Z t):=by
 erw[e1,rfl,rfl,rfl,rfl,rfl];exists 2,Q,I,h;show Vd _ _ (do Hq pos (<-eval (.Subscript o i O) X.env) [] (Vo pos (Vh (e::es) X.env)) (Gg pos (Gj [] X.env))) _ _ s
 refine A7 (thn (hf ot s σ H _ I h) λu s1 zq=>?_);erw[zq,v,H1,I1,rv,f,fd,ps,sp,ev,F,hb,hk,q];subst ev;obtain rfl:u=Vi f:=rv;refine Ut (h₀:=X.base) I1.ok.mod.kin hk (thn (ha pos ot s1 σ H1 _ I1 q) λus s2 ⟨vs,H2,I2,r,q2⟩=>[I2.kIn:?_]) he U;exact Bk (ds:= []) (dvs:= []) F hr hb .nil qy I2 r (by rw[v9];exact q2)
def KM (z y:Str)(hi O:Nat):∀(l:om Nat) (st:Array Nat×Nat),(G7 l st (Gz z y hi O)).run.fst.size<=st.fst.size+↑l
 | [],st=>ur _
 |a::l,st=>by
  rw[UB];unfold Gz;split
  .refine uY (KM z y hi O l _) ?_;simp![Fp,uw];omega
  .refine uY (KM z y hi O l _) ?_;simp![uw];omega
def PZ (z y:Str)(n:Nat):↑(occurrences z y 0 ↑z n)<=↑z+1:=by
 rw[R7];have:=KM z y ↑z n (GQ 0 (↑z+1-0)) (#[],0);rw[vm];refine uY this ?_;simp
abbrev spG (z y:Str):om Str:=if(decide (↑z<↑y)||decide (VA z<VA y))=v_ then [z] else if(occurrences z y 0 ↑z (↑z+1)).isEmpty=v_ then [z] else partsBetween z (occurrences z y 0 ↑z (↑z+1)) ↑y
def OM (z y:Str):↑(spG z y)<=↑z+2:=by
 unfold spG;have h:=PZ z y (↑z+1);split
 .simp
 .split
  .simp
  .simp![partsBetween,uc,List.length_zip,uw,uF,HX];omega
variable {z:Str}
def OL {y p:Str}(h:p>spG z y):↑p<=↑z:=by
 unfold spG at h;split at h
 .rw[Uw] at h;subst h;exact ur _
 .split at h
  .rw[Uw] at h;subst h;exact ur _
  .simp![partsBetween,Ae] at h;erw[h,q,_,e];rw[<-e];exact strSub_length_le _ _ _
section
variable {X:Cx}
inductive OW (x:V)(vs:List V)(H:Hp)(Q:VK):Prop
 |mk (z:_)(y:_)(_:x= !z)(_:vs= [!y])(_:0<↑y)(_:↑z<=1000)(_:∀p,H p=U_->Q (-p) (upd H p (.lst ((spG z y).map V.str))))
def EB:MtM X "str.split" OW:=by
 exists 2,x,vs,v,us,Q,I,rx,rv,h;erw[h,z,y,rfl,rfl,hy,hz,q];erw[rx,t,rfl];erw[rv.one,u,rfl,t',rfl];have Z:↑z<=sizeLine:=by rw[uE];omega
 have O:(↑y==0)=false:=by simp;omega
 have one:spG z y= [z]->∀(T:Nat),0<T->EP X ot σ Q (.ref #[0,s]) {s with heap:=s.heap.push {cls:= .type "list",data:= .seq [VC z t].toArray},toks:=T}:=λe T hT=>by
  rw[e] at q;exact J6 (ys:= [V.str z]) I (.cons (show il (V.str z) _ from[t:1]) .nil) (by show 1<=Vg;decide) q
 cases h1:(decide (↑z<↑y)||decide (VA z<VA y)) with
 |true=>
  refine vU vL (vT _ _ _) vH (U7 _ _) (RZ z y t t' h1) ?_;exact one (by unfold spG;rw[A6 h1]) s.toks I.tk
 |false=>
  cases U:(occurrences z y 0 ↑z (↑z+1)).isEmpty with
  |true=>
   refine vU vL (vT _ _ _) vH (U7 _ _) (RI z y t t' h1 O U) ?_;exact one (by unfold spG;rw[A4 (by rw[h1];decide),A6 U]) s.toks I.tk
  |false=>
   have hl:=OM z y;have e:spG z y=partsBetween z (occurrences z y 0 ↑z (↑z+1)) ↑y:=by unfold spG;rw[A4 (by rw[h1];decide),A4 (by rw[U];decide)]
   rw[e] at q hl;refine vU vL (vT _ _ _) vH (U7 _ _) (Fz z y t t' h1 O U Z (by rw[uE];omega)) ?_
   exact J6 I (XB _ _) (by rw[uc,uE];omega) q
inductive AaZ (K:PySem.W.Frag)(x:V)(vs:List V)(H:Hp)(Q:VK):Prop
 |mk (sep:Str)(p:Addr)(l:List Str)(_:x= !sep)(_:vs= [-p])(_:SqT K H p (l.map V.str))(_:(l.map (·.length)).sum+↑l*↑sep<=1000000)(_:Q (.str (Vk sep l)) H)
def Ma:MtM X "str.join" (AaZ X.K):=by
 exists 2,x,vs,v,us,Q,I,Z,rv,h;erw[h,sep,p,l,rfl,rfl,hp,hz,q];erw[Z,t,rfl];erw[rv.one,u,rfl,ru];cases ru;erw[I.tuple hp,its,r,pl,hl];erw[wS r,ps,rfl,e2];have U:tooLong ((ps.map (·.1)).toArray.foldl (·+ ·.length+↑sep) 0)=false:=by
  rw[e2];have:=Ff sep l;rw[this];unfold tooLong;refine um ?_;rw[uE];omega
 refine vU F.slot_str_join (vT _ _ _) F.entry_str_join (F.args_str_join_2 _ _) (meets_str_join_tuple sep t p ps U) ⟨(let⟨o,h1,h2,n,h3⟩:=pl;⟨o,n,h1,h2,h3⟩),?_⟩;have O:(glued sep (ps.map (·.1))).length<=sizeLine:=rH U
 match ps,e2,O with
 | [],e2,O=>
  subst e2;exact⟨O,.str _,H,I.tok _,⟨0⟩,q⟩
 | [a],e2,_=>
  subst e2;exact⟨.str _,H,I,[a.2:1],q⟩
 |a::b::r,e2,O=>
  subst e2;exists O,.str _,H,I.tok _,⟨0⟩;rw[rP];exact q
def AaP:SlR X (λx lo hi H Q=>AdV x lo hi H Q\/AdW X.K x lo hi H Q):=AaO.or DH
end
end L2
namespace L2
open PySem PySem.Spec PyProof.Rows
open Builtin.Int (intBits)
section
variable {X:Cx}
inductive Aew (K:PySem.W.Frag)(w:World)(x:V)(y:V)(H:Hp)(Q:VK):Prop
 |mk (z:_)(a:_)(r:_)(_:x= !z)(_:y=-a)(_:IO K w a)(_:PySem.W.nsIn K a z=u_ r)(_:Q (.bl r.isSome) H)
def Abe:OpR X (Vm .In) (Aew X.K X.w):=by
 exists 2,x,y,v,u,Q,I,U,Z,h;erw[h,z,a,r,rfl,rfl,[hs,es,n,O,hk],hn,q];erw[U,t,rfl];cases Z;have hm:=PySem.W.mapOf_K (prog:=X.prog) (w:=X.w) I.kIn O hk;refine rJ (TH X.prog X.w z t) hs hm ⟨.bl r.isSome,H,I.tok _,?_,q⟩;rw[PySem.W.find_K O hn]
 rfl
end
end L2
namespace L2
open PySem PySem.Spec PyProof.Rows
mutual
noncomputable def nD:D->Bool
 | .non=>v_
 | .str _=>v_
 | .int _=>v_
 | .tup xs=>nL xs
 |_=>Vc
noncomputable def nL:om D->Bool
 | []=>v_
 |x::r=>nD x&&nL r
end
def Ey:∀{xs:om D}{j:Nat}{x:D},nL xs=v_->xs[j]? =u_ x->nD x=v_
 | [],_,_,_,e=>by simp at e
 |y::r,0,x,h,e=>by
  have h':nD y=v_/\nL r=true:=by simpa [nL] using h
  have:y=x:=by simpa using e
  exact this▸h'.1
 |y::r,j+1,x,h,e=>by
  have h':nD y=v_/\nL r=true:=by simpa [nL] using h
  exact Ey h'.2 (by simpa using e)
end L2
namespace AwZ
open PySem PySem.Spec PyProof.Rows
def tc_enum0 (a:o6):FU "enumerate" [[a]:[]]=pure Unit.unit:=by kernel_rfl
def nc_enum0 (a:o6):TJ "enumerate.__new__" [[.type "enumerate",a]:[]]=pure Unit.unit:=by kernel_rfl
def enum0_made (l:o3)(its:Array o6):GT (VR.«enumerate.__new__» [[.type "enumerate",-l]:[]]) (λ_ R s=>s.heap.IsTuple l its/\
   R (.ok (.ret (.ref (q1 s.heap l).objs.size))) {s with heap:=(q1 s.heap l).push {cls:= .type "enumerate",data:= .fields #[.none,.bool Vc,.ref #[0,s],VG 0,.none,.none]}}):=
 .of_wp λprog w A R s h=>by
  erw[s,O,g,d,tk,os];erw[h,U,h];have sub:=sub_enumerate;have h1:R6 (tE ⟨O,g,d,tk,os⟩) l its:=U
  wp_walk
  refine wpAny_stack_any λst=>uD ?_;split
  .rename_i c _ _ _ _ _
   cases(c==Gn "enumerate")
   .wp_walk using U3 h1
    exact[0:h]
   .wp_walk using U3 h1
    exact[0:h]
  .wp_walk using U3 h1
   exact[0:h]
end AwZ
namespace L2
open PySem PySem.Spec PyProof.Rows
section
variable {X:Cx}{ot:om (o3×Obj)}{σ:St}{H:Hp}{s:o7}
abbrev AeF (K:o0)(te:TE):TI:=λσ H R=>te σ H λx H2=>∃a xs,x= .ref a/\SqT K H2 a xs/\(↑xs<=Vg->R (Ite K a 0) H2)
def Bx {U:om Expr}{c:Nat}{tp p pos:Pos}{e:Expr}{te:TE}(hg:Gl X "enumerate")(hm:X.mg "enumerate"=U_)(he:PE X e te)(hs:Vh [e] X.env= [(Vc,eval e X.env)]):
  PI X (.Tuple U c tp) (.Call (.Name "enumerate" p) [e] [] pos) (AeF X.K te):=by
 exists 2,R,I,h;have ha:PA X [e] (Lc te Aas):=qb he qd hs;refine HS (Zk I hg hm boot_enumerate (vx (thn (ha pos ot s σ H (λvs H2=>match vs with| [x]=>∃a xs,x= .ref a/\SqT X.K H2 a xs/\(↑xs<=Vg->R (Ite X.K a 0) H2)|_=>False) I h) λus s2 zq=>?_) (by rw[hs];rfl) ()));erw[zq,vs,H2,I2,r1,q1]
 match vs,r1,q1 with
 | [x],r1,q1=>
 erw[q1,a,xs,rfl,hA,q];erw[xH r1,u,rfl,ru];cases ru;erw[I2.tuple hA,its,ra,pa,za];refine AwZ.new_kw (kw:= []) F.called_enumerate () (AwZ.tc_enum0 _) (AwZ.nc_enum0 _) (λobj=>F.args_object_init_2 _ _) F.entry_enumerate_new (AwZ.enum0_made a its.toArray) ⟨show s2.heap.IsTuple a its.toArray from pa,?_⟩
 have hz:(AwZ.q1 s2.heap a).objs.size=#[0,s2]+1:=vq ..;have O:VY ((AwZ.q1 s2.heap a).push {cls:= .type "enumerate",data:= .fields #[.none,.bool Vc,.ref #[0,s2],VG 0,.none,.none]}) (AwZ.q1 s2.heap a).objs.size #[0,s2] 0 .none:=uH _ rfl;exists [_:O:1];refine Fb (s:={s2 with heap:=_}) O ?_
 exists _,[(AwZ.q1 s2.heap a).objs.size,#[0,s2]],_,_,H2,1,I2.kept (t':=s2.toks) (λb o e=>uf _ (uf _ e)),Dh a _ _ 0,[[.none:O]:⟨_,uf _ (uH _ rfl),1,1⟩:λe=>U2 (V7 _) (hz.symm.trans e)],λx hx=>?_,q za;have Z:#[0,s2]<=x:=by
  simp![uI,uW,uS] at hx;exact Aak hz hx
 exact I2.fpOk Z (I2.hok.fresh Z)
mutual
noncomputable def eqN:D->D->Bool
 | .non,.non=>v_
 | .str a,.str b=>a==b
 | .int a,.int b=>a==b
 | .tup xs,.tup ys=>eqNL xs ys
 |_,_=>Vc
noncomputable def eqNL:om D->om D->Bool
 | [],[]=>v_
 |x::r,y::q=>eqN x y&&eqNL r q
 |_,_=>Vc
end
mutual
theorem Ie:∀{d e:D},nD d=v_->(eqN d e=v_↔d=e)
 | .non,e,_=>by cases e<;>simp[eqN]
 | .str a,e,_=>by cases e<;>simp[eqN]
 | .int a,e,_=>by cases e<;>simp[eqN]
 | .tup xs,¬ys,h=>by
  have:=eqNL_iff (xs:=xs) (ys:=ys) (by simpa [nD] using h)
  simp![eqN,this,D.tup.injEq]
 | .tup xs,.non,_=>by simp[eqN]
 | .tup xs,.bl _,_=>by simp[eqN]
 | .tup xs,.int _,_=>by simp[eqN]
 | .tup xs,.str _,_=>by simp[eqN]
 | .tup xs,.lst,_=>by simp[eqN]
 | .tup xs,.dct,_=>by simp[eqN]
 | .bl _,_,h=>by simp[nD] at h
 | .lst,_,h=>by simp[nD] at h
 | .dct,_,h=>by simp[nD] at h
theorem eqNL_iff:∀{xs ys:om D},nL xs=v_->(eqNL xs ys=v_↔xs=ys)
 | [],[],_=>by simp[eqNL]
 | [],_::_,_=>by simp[eqNL]
 |_::_,[],_=>by simp[eqNL]
 |x::r,y::q,h=>by
  have h':nD x=v_/\nL r=true:=by simpa [nL] using h
  simp![eqNL,uG,Ie h'.1,eqNL_iff h'.2,UU]
end
mutual
theorem Is.detN {H:Hp}:∀{d e:D}{v:V},nD d=v_->nD e=v_->Is H d v->Is H e v->d=e
 | .non,e,v,_,he,h1,h2=>by
  cases(show v= .non from h1)
  cases e with
  |non=>rfl
  |str b=>obtain⟨q,_⟩:=(show V.non=V.str b/\_ from h2);cases q
  |int b=>cases(show V.non=V.int b from h2)
  |tup ys=>erw[h2,p,us,q,_];cases q
  |_=>simp[nD] at he
 | .str a,e,v,_,he,h1,h2=>by
  obtain⟨rfl,_⟩:=(show v= .str a/\_ from h1)
  cases e with
  |non=>cases(show V.str a=V.non from h2)
  |str b=>obtain⟨q,_⟩:=(show V.str a=V.str b/\_ from h2);cases q;rfl
  |int b=>cases(show V.str a=V.int b from h2)
  |tup ys=>erw[h2,p,us,q,_];cases q
  |_=>simp[nD] at he
 | .int a,e,v,_,he,h1,h2=>by
  cases(show v= .int a from h1)
  cases e with
  |non=>cases(show V.int a=V.non from h2)
  |str b=>obtain⟨q,_⟩:=(show V.int a=V.str b/\_ from h2);cases q
  |int b=>cases(show V.int a=V.int b from h2);rfl
  |tup ys=>erw[h2,p,us,q,_];cases q
  |_=>simp[nD] at he
 | .tup xs,e,v,hd,he,h1,h2=>by
  erw[id h1,p,vs,rfl,Z,hl];cases e with
  |non=>cases(show V.ref p=V.non from h2)
  |str b=>obtain⟨q,_⟩:=(show V.ref p=V.str b/\_ from h2);cases q
  |int b=>cases(show V.ref p=V.int b from h2)
  |tup ys=>
   erw[h2,p',us,q,O,U];cases q;rw[Z] at O;cases O;rw[IsL.detN (by simpa [nD] using hd) (by simpa [nD] using he) hl U]
  |_=>simp[nD] at he
 | .bl _,_,_,hd,_,_,_=>by simp[nD] at hd
 | .lst,_,_,hd,_,_,_=>by simp[nD] at hd
 | .dct,_,_,hd,_,_,_=>by simp[nD] at hd
theorem IsL.detN {H:Hp}:∀{xs ys:om D}{vs:om V},nL xs=v_->nL ys=v_->IsL H xs vs->IsL H ys vs->xs=ys
 | [],[],_,_,_,_,_=>rfl
 | [],_::_,_,_,_,h1,h2=>by
  cases(show _= [] from h1)
  erw[h2,v,r,q,_];cases q
 |_::_,[],_,_,_,h1,h2=>by
  cases(show _= [] from h2)
  erw[h1,v,r,q,_];cases q
 |x::xs,y::ys,_,hd,he,h1,h2=>by
  erw[h1,v,r,rfl,Z,a2];erw[h2,v',r',q,b1,b2];cases q;have O:nD x=v_/\nL xs=true:=by simpa [nL] using hd
  have U:nD y=v_/\nL ys=true:=by simpa [nL] using he
  rw[Is.detN O.1 U.1 Z b1,IsL.detN O.2 U.2 a2 b2]
end
def KL:∀(xs ys:om D),eqNL xs ys=((Vp (min ↑xs ↑ys)).all (λj=>eqN (xs.getD j .non) (ys.getD j .non))&&↑xs==↑ys)
 | [],[]=>by simp[eqNL]
 | [],_::_=>by simp[eqNL]
 |_::_,[]=>by simp[eqNL]
 |x::r,y::q=>by
  have O:=KL r q;rw[uw,uw,show min (↑r+1) (↑q+1)=min ↑r ↑q+1 by omega,T1,vF,UD]
  have e:(Vp (min ↑r ↑q)).all ((λj=>eqN ((x::r).getD j .non) ((y::q).getD j .non))∘Tv)=(Vp (min ↑r ↑q)).all λj=>eqN (r.getD j .non) (q.getD j .non):=by congr 1
  rw[e];have e2:(↑r+1==↑q+1)=(↑r==↑q):=by rw[vR];simp
  rw[e2,rS,<-O]
  rfl
variable {e:D}{A:oj}
def sE (I:#[I]){u:V}{b:o6}(U:nD e=v_)(h2:Is H e u)(O:il u b)(Z:A.units<Vl):Vv A s .none b (eqN .non e):=by
 cases e with
 |non=>
  cases(show u= .non from h2)
  cases O;exact H_ _
 |str y=>
  obtain⟨rfl,_⟩:=(show u= .str y/\_ from h2)
  erw[O,t2,rfl];exact Fk _ _
 |int y=>
  cases(show u= .int y from h2)
  erw[O,t2,rfl];exact FX _ _
 |tup ys=>
  erw[id h2,p,us,rfl,hp,hl];cases O;erw[I.tuple (.inl (.of hp)),its,_,q,_];exact pR q Z
 |_=>simp[nD] at U
variable {z:Str}
def Ih (I:#[I]){t:Tok}{u:V}{b:o6}(U:nD e=v_)(h2:Is H e u)(O:il u b)(Z:A.units<Vl):Vv A s (.str z t) b (eqN (!z) e):=by
 cases e with
 |non=>
  cases(show u= .non from h2)
  cases O;exact rn _ _
 |str y=>
  obtain⟨rfl,_⟩:=(show u= .str y/\_ from h2)
  erw[O,t2,rfl];exact Tf _ _ _ _
 |int y=>
  cases(show u= .int y from h2)
  erw[O,t2,rfl];exact UN _ _ _ _
 |tup ys=>
  erw[id h2,p,us,rfl,hp,hl];cases O;erw[I.tuple (.inl (.of hp)),its,_,q,_];exact FH _ _ q Z
 |_=>simp[nD] at U
def sF (I:#[I]){z:Int}{t:Tok}{u:V}{b:o6}(U:nD e=v_)(h2:Is H e u)(O:il u b)(Z:A.units<Vl):Vv A s (.int z t) b (eqN (.int z) e):=by
 cases e with
 |non=>
  cases(show u= .non from h2)
  cases O;exact Fj _ _
 |str y=>
  obtain⟨rfl,_⟩:=(show u= .str y/\_ from h2)
  erw[O,t2,rfl];exact UM _ _ _ _
 |int y=>
  cases(show u= .int y from h2)
  erw[O,t2,rfl];exact tD _ _ _ _
 |tup ys=>
  erw[id h2,p,us,rfl,hp,hl];cases O;erw[I.tuple (.inl (.of hp)),its,_,q,_];exact F_ _ _ q Z
 |_=>simp[nD] at U
def DZ {xs ys:om D}{vs us:om V}{its its':om o6}{A:oj}(hd:nL xs=v_)(he:nL ys=v_)(hl:IsL H xs vs)(O:IsL H ys us)(rv:iq vs its)(U:iq us its')
  (ih:∀x>xs,∀(e:D) (v u:V) (a b:o6),nD x=v_->nD e=v_->Is H x v->Is H e u->il v a->il u b->Vv A s a b (eqN x e)):
  ∀j (a1:j<its.toArray.size) (a2:j<its'.toArray.size),Vv A s its.toArray[j] its'.toArray[j] (eqN (xs.getD j .non) (ys.getD j .non)):=λj a1 a2=>by
 have l1:↑its=↑xs:=by rw[<-↑rv,↑hl]
 have l2:↑its'=↑ys:=by rw[<-↑U,↑O]
 have Z:j<↑xs:=by rw[<-l1];simpa using a1
 have j2:j<↑ys:=by rw[<-l2];simpa using a2
 obtain⟨v1,e1,i1⟩:=hl.get (i:=j) (d:=xs[j]) (by simp[Z])
 obtain⟨v2,e2,i2⟩:=O.get (i:=j) (d:=ys[j]) (by simp[j2])
 erw[rv.get e1,b1,f1,g1];erw[U.get e2,b2,f2,g2];have k1:its.toArray[j]=b1:=by
  have:=f1;rw[ui (by rwa[l1])] at this
  simpa using this
 have k2:its'.toArray[j]=b2:=by
  have:=f2;rw[ui (by rwa[l2])] at this
  simpa using this
 have d1:xs.getD j .non=xs[j]:=by simp[Gb,Z]
 have d2:ys.getD j .non=ys[j]:=by simp[Gb,j2]
 rw[k1,k2,d1,d2];exact ih _ (uR Z) _ _ _ _ _ (Ey (j:=j) hd (by simp[Z])) (Ey (j:=j) he (by simp[j2])) i1 i2 g1 g2
def Ig (I:#[I]){xs:om D}{e:D}{v u:V}{a b:o6}{A:oj}(hd:nD (¬xs)=v_)(he:nD e=v_)(h1:Is H (¬xs) v)(h2:Is H e u)(r1:il v a)(O:il u b)(hu:A.units<Vl)
  (ih:∀x>xs,∀(e:D) (v u:V) (a b:o6),nD x=v_->nD e=v_->Is H x v->Is H e u->il v a->il u b->Vv A.in1 s a b (eqN x e)):Vv A s a b (eqN (¬xs) e):=by
 erw[id h1,p,vs,rfl,hp,hl];cases r1;erw[I.tuple (.inl (.of hp)),its,rv,q,_];cases e with
 |non=>
  cases(show u= .non from h2)
  cases O;exact pk q hu
 |str y=>
  obtain⟨rfl,_⟩:=(show u= .str y/\_ from h2)
  erw[O,t2,rfl];exact Fe _ _ q hu
 |int y=>
  cases(show u= .int y from h2)
  erw[O,t2,rfl];exact FB _ _ q hu
 |tup ys=>
  by_cases hv:V.ref p=u
  .have:=Is.detN (e:=¬ys) hd he h1 (hv▸h2);subst hv;cases O;rw[<-this,(Ie hd).mpr rfl];exact H_ _
  .erw[id h2,p',us,rfl,aa,U];cases O;erw[I.tuple (.inl (.of aa)),its',Z,q',_];have l1:↑its=↑xs:=by rw[<-↑rv,↑hl]
   have l2:↑its'=↑ys:=by rw[<-↑Z,↑U]
   have ac:=V1 (e:=λj=>eqN (xs.getD j .non) (ys.getD j .non)) q q' hu (DZ (by simpa [nD] using hd) (by simpa [nD] using he) hl U rv Z ih)
   have e1:eqN (¬xs) (¬ys)=((Vp (min its.toArray.size its'.toArray.size)).all (λj=>eqN (xs.getD j .non) (ys.getD j .non))&&its.toArray.size==its'.toArray.size):=by
    rw[uB,uB,l1,l2,<-KL];simp![eqN]
   rw[e1];exact rg (λz=>hv (by rw[z])) ac
 |_=>simp[nD] at he
def AbT (I:#[I]):∀(n:Nat) (d e:D) (v u:V) (a b:o6) (A:oj),dp d<=n->nD d=v_->nD e=v_->Is H d v->Is H e u->il v a->il u b->A.units+n<Vl->Vv A s a b (eqN d e):=by
 intro n
 induction n with
 |zero=>
  intro d e v u a b A hn hd U h1 h2 Z r2 hu;cases d with
  |non=>
   cases(show v= .non from h1)
   cases Z;exact sE I U h2 r2 hu
  |int z=>
   cases(show v= .int z from h1)
   erw[Z,t,rfl];exact sF I U h2 r2 hu
  |str z=>simp[dp] at hn
  |tup xs=>simp[dp] at hn
  |_=>simp[nD] at hd
 |succ n ih=>
  intro d e v u a b A hn hd U h1 h2 Z r2 hu;have O:A.units<cLine:=UR (V8 _ _) hu;cases d with
  |non=>
   cases(show v= .non from h1)
   cases Z;exact sE I U h2 r2 O
  |int z=>
   cases(show v= .int z from h1)
   erw[Z,t,rfl];exact sF I U h2 r2 O
  |str z=>
   obtain⟨rfl,_⟩:=(show v= .str z/\_ from h1)
   erw[Z,t,rfl];exact Ih I U h2 r2 O
  |tup xs=>
   have hm:dpL xs<=n:=by
    have:dp (¬xs)=1+dpL xs:=by simp![dp]
    omega
   exact Ig I hd U h1 h2 Z r2 O λx hx e v u a b k1 k2 k3 k4 k5 k6=>ih x e v u a b A.in1 ((wj xs).mp hm x hx) k1 k2 k3 k4 k5 k6 (by rw[v7];omega)
  |_=>simp[nD] at hd
inductive Aa2 (g:Bool->Bool)(x:V)(y:V)(H:Hp)(Q:VK):Prop
 |mk (ds es:List D)(_:Is H (¬ds) x)(_:Is H (¬es) y)(_:nL ds=v_)(_:nL es=v_)(_:dpL ds<=60)(_:Q (.bl (g (eqNL ds es))) H)
variable {ds:om D}{y:V}{u:o6}
def AdU (I:#[I]){es:om D}{x:V}{v:o6}(h1:Is H (¬ds) x)(h2:Is H (¬es) y)(hn:nL ds=v_)(Z:nL es=v_)(hd:dpL ds<=60)(rx:il x v)(ry:il y u)(hu:X.A.units+64<Vl):
  Fs X.A s v u (eqNL ds es)/\rC X.A s v u (!(eqNL) ds es):=by
 erw[id h1,p,vs,rfl,hp,hl];erw[id h2,p',us,rfl,aa,O];cases rx;cases ry;erw[I.tuple (.inl (.of hp)),its,rv,q,_];erw[I.tuple (.inl (.of aa)),its',U,q',_];have l1:↑its=↑ds:=by rw[<-↑rv,↑hl]
 have l2:↑its'=↑es:=by rw[<-↑U,↑O]
 have pe:=DZ (A:=X.A.in1) hn Z hl O rv U λx hx e v u a b k1 k2 k3 k4 k5 k6=>AbT I 60 x e v u a b X.A.in1 ((wj ds).mp hd x hx) k1 k2 k3 k4 k5 k6 (by rw[v7];omega)
 have e1:=V1 (e:=λj=>eqN (ds.getD j .non) (es.getD j .non)) q q' () pe
 have e2:=FG (e:=λj=>eqN (ds.getD j .non) (es.getD j .non)) q q' () pe
 rw[uB,uB,l1,l2,<-KL] at e1 e2;exact[e1:e2]
def oG (U:X.A.units+64<Vl):OpR X (Vm .Eq) (Aa2 id):=by
 exists 2,x,y,v,u,Q,I,Z,ry,h;erw[h,ds,es,h1,h2,hn,O,hd,q];exact(AdU I h1 h2 hn O hd Z ry U).1 X.prog X.w X.xe _ ⟨.bl _,H,I,1,q⟩
def jX (U:X.A.units+64<Vl):OpR X (Vm .NotEq) (Aa2 not):=by
 exists 2,x,y,v,u,Q,I,Z,ry,h;erw[h,ds,es,h1,h2,hn,O,hd,q];exact(AdU I h1 h2 hn O hd Z ry U).2 X.prog X.w X.xe _ ⟨.bl _,H,I,1,q⟩
end
end L2
namespace L2
open PySem PyProof.Rows
section
variable {X:Cx}{ot:om (o3×Obj)}{σ:St}{H:Hp}{s:o7}
def Mb {pl:Sem Bool}{k:Nat}{C f:o3}{fd:Ve}{ps:om Str}{sp:Sp}{m:Str}{o:Expr}{apos pos:Pos}{e:Expr}{es:om Expr}{ta:TE}{t:TA}{Q:VK}{E:XK}(he:PE X.nox o ta)(c:Cls X.K C)(hm:Aad X.K C m f)(F:FnOk X.prog X.w X.K X.mg X.base (CX1 X.prog X.w) k f fd ps sp)(hr:mr k X.A)
  (hb:Xi X.K fd ps []) (ha:PA X.nox (e::es) t) (I:#[I]) (h:ta σ H λx H1=>∃a dx fs,x= .ref a/\H1 a=u_ (.ins C dx fs)/\fs.lookup m=U_/\t σ H1 λvs H2=>sp (x::vs) H2 Q E)
  (aa:Vh (e::es) X.env=(Vc,eval e X.env)::Vh es X.env) (ac:(Vo pos (Vh es X.env)).any (·.1)=Vc)
  (ht:eval (.Call (.Attribute o m apos) (e::es) [] pos) X.env=(do
   let ov<-eval o X.env
   GF apos.atName
   let(f,first)<-G9 [ov] (GL ov m pl)
   Hq pos f first (Vo pos (Vh (e::es) X.env)) (Gg pos (Gj [] X.env)))):
  Vd #[X,X] X.A (eval (.Call (.Attribute o m apos) (e::es) [] pos) X.env) (EP X ot σ Q) (Cat X ot σ E) s:=by
 refine PySem.W.methodCall_KW (pl:=pl) (vz (he ot s σ H _ (I.wish _) h) (λu s1 h1=>?_) λ_ _ z=>z.elim) ht;erw[h1,x,H1,ad,rx,a,dx,fs,ex,ea,l,q];have I1:Inv X ot σ H1 s1:=ad.unwish;subst ex;obtain rfl:u=Vi a:=rx;refine zP I1 ea c hm l ?_;refine Ut (first:= [-a]) (h₀:=X.base) I.ok.mod.kin hm.kp (vz (ha pos ot s1 σ H1 _ (I1.wish _) q) (λus s2 h2=>?_) λ_ _ z=>z.elim) aa ac;erw[h2,vs,H2,ae,r,q2];have O:Inv X ot σ H2 s2:=ae.unwish;exists O.kIn;have r2:iq (V.ref a::vs) (Vi a::us):= .cons rfl r;have hl:↑(Vi a::us)=↑ps:=by rw[<-↑r2];exact F.len _ _ _ _ q2
 have U:=hb s2 (Vi a::us) O.kIn (by rwa[v9])
 rw[v9] at U;refine hV (UA (F.run X.A X.stack s2 H2 [Vi a::us:[]] (Vi a::us) (V.ref a::vs) Q E hr O.env0 U r2 q2 (.inl O.tk)) λr s' Z=>?_);cases r with
 |error e=>exact⟨H2,s2,O,Z⟩
 |ok fl=>
  cases fl with
  |ret u=>exact O.after Z
  |next=>exact Vw Z
  |brk=>exact Vw Z
  |cont=>exact Vw Z
abbrev AcJ (C:o3)(m:Str)(sp:Sp)(ta:TE)(t:TA)(Cc:o3)(ts:TS):TS:=λD σ H=>ta σ H λx H1=>∃a dx fs,x= .ref a/\H1 a=u_ (.ins C dx fs)/\fs.lookup m=U_/\t σ H1 λvs H2=>sp (x::vs) H2 (λ_ H3=>D.nx σ H3) (λ_ C' H3=>C'=u_ Cc/\ts D σ H3)
def O0 {pl:Sem Bool}{k:Nat}{C f:o3}{fd:Ve}{ps:om Str}{sp:Sp}{m c:Str}{o:Expr}{apos np cpos U Z pos:Pos}{e:Expr}{es:om Expr}{ta:TE}{t:TA}{Cc C':o3}{b₀:Stmt}{O:om Stmt}{ts:TS}(ho:PE X.nox o ta)(cl:Cls X.K C)(hm:Aad X.K C m f)(F:FnOk X.prog X.w X.K X.mg X.base (CX1 X.prog X.w) k f fd ps sp)(hr:mr k X.A)
  (hb:Xi X.K fd ps []) (ha:PA X.nox (e::es) t) (aa:X.stack=X.env::X.outer/\X.env.frame=u_ X.env.locals) (ac:Gl X c) (ad:X.mg c=u_ (-C'))
  (hx:PySem.W.exmOne X.K (-Cc) (-C')=u_ v_) (hs:∀ee xe,PSs (X.marked ee xe) (b₀::O) ts) (ae:(c==("__debug__":Str))=Vc)
  (he:Vh (e::es) X.env=(Vc,eval e X.env)::Vh es X.env) (af:(Vo cpos (Vh es X.env)).any (·.1)=Vc) (ag:GN (.Call (.Attribute o m apos) (e::es) [] cpos) U_ U.line X.env=pure Vc)
  (ht:eval (.Call (.Attribute o m apos) (e::es) [] cpos) X.env=(do
   let ov<-eval o X.env
   GF apos.atName
   let(f,first)<-G9 [ov] (GL ov m pl)
   Hq cpos f first (Vo cpos (Vh (e::es) X.env)) (Gg cpos (Gj [] X.env)))):
  PS X (.Try [.Expr (.Call (.Attribute o m apos) (e::es) [] cpos) U] [.ExceptHandler (u_ (.Name c np)) U_ (b₀::O) Z] [] [] pos) (AcJ C m sp ta t Cc ts):=by
 exists 2,D,I,h;refine wpAny_Try_except (tQ ?_);refine vz (FO (Q:=SP X ot D) (vz (Mb ho cl hm F hr hb ha I h he af ht) (λv s1 ⟨y,H1,I1,r1,q1⟩=>⟨σ,H1,I1,q1⟩) λ_ _ z=>z) I.quiet ag) (λfl s1 q=>?_) λe' s1 q=>MD q aa ac ad hx hs ae;cases fl with
 |next=>exact Uz (Uz q)
 |ret v=>exact q
 |brk=>exact q
 |cont=>exact q
end
end L2
namespace L2
open PySem PySem.Spec PyProof.Rows
structure FF (K:o0)(mg:Str->oq o6)(x:Str)(st:Stmt)(ps:om Str)(f:o3)(fd:Ve):Prop where
 F:Fun K x x st f fd
 b:Xi K fd ps []
 m:mg x=u_ (-f)
structure FM (K:o0)(C:o3)(x q:Str)(st:Stmt)(ps:om Str)(f:o3)(fd:Ve):Prop where
 F:Fun K x q st f fd
 b:Xi K fd ps []
 h:Aad K C x f
abbrev FZ (K:o0)(x q:Str)(st:Stmt)(f:o3):Prop:=∃(oc kV dc pm cd ct:o6) (od an:oq o3) (sl:Array (oq o6)),K.lookup f=u_ ⟨oc,od,.func (PySem.W.fnOf x q (YQ st) (y9 st) (qj st) .none kV dc pm an cd ct),sl⟩/\PySem.W.codeIn K cd q=v_/\PySem.W.keepIn K (-f)=v_
abbrev FZg (K:o0)(x:Str)(st:Stmt)(f:o3):Prop:=PySem.W.nsIn K Vz x=u_ (u_ (-f))/\FZ K x x st f
abbrev FZm (K:o0)(C:o3)(x q:Str)(st:Stmt)(f:o3):Prop:=PySem.W.findIn K (-C) x=u_ (u_ (-f))/\PySem.W.isFn K (-f)=v_/\FZ K x q st f
abbrev BOk (x q:Str)(st:Stmt)(ps:om Str):Prop:=∀(kV doc pm:o6) (an:oq o3) (cdv ct:o6) (us:om o6),↑us=↑ps->Gx (PySem.W.fnOf x q (YQ st) (y9 st) (qj st) .none kV doc pm an cdv ct) [us:[]]=pure (ps.zip us)
variable {K:o0}{h:o9}{mg:Str->oq o6}{x:Str}{st:Stmt}{f:o3}
def qZ (X:K.In h)(G:h.Ns Vz mg)(z:FZg K x st f)(ps:om Str)(O:BOk x x st ps):∃fd,FF K mg x st ps f fd:=by
 erw[z,a,oc,kV,dc,pm,U,ct,od,an,sl,l,c,k];have F:=NE (st:=st) l c k;exact⟨_,F,F.binds O,uU X G a⟩
variable {C:o3}
def y8 {q:Str}(z:FZm K C x q st f)(ps:om Str)(O:BOk x q st ps):∃fd,FM K C x q st ps f fd:=by
 erw[z,a,i,oc,kV,dc,pm,U,ct,od,an,sl,l,c,k];have F:=NE (st:=st) l c k;exact⟨_,F,F.binds O,[a:i:k]⟩
variable {fd:Ve}
def FF.law {ps:om Str}(T:FF K mg x st ps f fd){y:Str}(h:∀(kV doc pm:o6) (an:oq o3) (cdv ct u:o6),Gx (PySem.W.fnOf x x (YQ st) (y9 st) (qj st) .none kV doc pm an cdv ct) [[u]:[]]=pure [(y,u)])(s:o7)(u:o6):GK s fd [[u]:[]] [(y,u)]:=by
 erw[T.F.ex,oc,od,kV,doc,pm,an,cdv,ct,osl,rfl,lk,O];exact .of_eq (h kV doc pm an cdv ct u)
abbrev txt? (u:o6):oq Str:=match u with
 | .str z _=>u_ z
 |_=>U_
abbrev TZ (K:o0)(q:o3)(l:om Str):Prop:=∃(d:oq o3) (i:Array o6) (n:Nat) (sl:Array (oq o6)),K.lookup q=u_ ⟨.type "tuple",d,.seq i n,sl⟩/\i.toList.map txt? =l.map u_
def Dp:∀{l:om Str}{us:om o6},us.map txt? =l.map u_->iq (l.map V.str) us
 | [],[],_=> .nil
 |z::l,u::us,h=>by
  rw[uC,uC] at h;injection h with h1 h2
  cases u with
  |str y t=>
   have:y=z:=uM h1;subst this;exact .cons [t:1] (Dp h2)
  |_=>cases h1
 | [],_::_,h=>by simp at h
 |_::_,[],h=>by simp at h
variable {H:Hp}{q:o3}{l:om Str}
def TZ.sq (h:TZ K q l)(hz:↑l<=100):SqT K H q (l.map V.str):=by
 erw[h,d,its,n,sl,U,e];have O:its.size=↑l:=by rw[<-vm];simpa using A9 VI e
 exact .inr ⟨_,its,n,U,1,1,by rw[O];exact V4 (X5 ()),Dp e⟩
abbrev TZn (K:o0)(a:o3)(x:Str)(l:om Str):Prop:=∃q,PySem.W.nsIn K a x=u_ (u_ (-q))/\TZ K q l
end L2
namespace L2
open PySem PyProof.Rows
variable {σ:St}{H:Hp}
def qB {t u:TS}{D:mU}(h:∀N:St->Hp->Prop,(∀O H',u D O H'->N O H')->t {D with nx:=N} σ H):ni t u D σ H:=h (u D) λ_ _ h=>h
section
variable {X:Cx}{ot:om (o3×Obj)}{σ:St}{H:Hp}{s:o7}{d:o3}
def Inv.redesc {u O:HO}(I:#[I])(h:H d=u_ u)(n1:∀xs,u≠ ¬xs)(Z:∀y,u≠ .own y)(n3:∀ps,u≠ .tbl ps)(n4:∀o v,X.H₀ d≠u_ (.frz o v))(new:yi X.prog X.w (upd H d O) s.heap d O):Inv X ot σ (upd H d O) s:=by
 have U:∀b,H b=U_->upd H d O b=none:=λb e=>by rw[qi (λz=>by rw[z,h] at e;cases e)];exact e
 exists I.ok,I.os,I.bare,⟨I.base.keep,I.base.slot,λb o q n hx=>U b (I.base.free b o q n hx),I.base.there,λb xs q=>?_,λb o v q=>?_,λb ps q=>?_⟩,I.loc,I.cell,U _ I.free,λx c e=>U _ (I.freeC x c e),λp hp=>?_,λb v e=>?_,I.len,I.tk
 .have e:=I.base.tups b xs q;rw[qi (λz=>by rw[z,h] at e;exact n1 xs (uM e))]
  exact e
 .have e:=I.base.frzs b o v q;rw[qi (λz=>n4 o v (by rwa[<-z]))]
  exact e
 .erw[I.base.tbls b ps q,more,e];exact⟨more,by rw[qi (λz=>by rw[z,h] at e;exact n3 _ (uM e))];exact e⟩
 .erw[I.pin p hp,h1,h2,h3,h4,h5];exact⟨h1,U _ h2,h3,h4,h5⟩
 .by_cases c:b=d
  .subst c;rw[qg] at e;cases e;exact new
  .rw[qi c] at e;exact(I.hok b v e).stay (λ_ _ _ q=>q) (λc q=>by rw[qi (λz=>by rw[z,h] at q;exact Z _ (uM q))];exact q) λc xs q=>by rw[qi (λz=>by rw[z,h] at q;exact n1 _ (uM q))];exact q
end
def WI {xs:om V}{us:om o6}(r:iq xs us):∀is:om Nat,iq (is.filterMap (xs[·]?)) (is.filterMap (us[·]?))
 | []=> .nil
 |i::is=>by
  rw[vY,vY];have O:=↑r;cases e:xs[i]? with
  |none=>
   have:us[i]? =none:=tL (by have:=List.getElem?_eq_none_iff.mp e;omega)
   rw[this];exact WI r is
  |some x=>
   erw[r.get e,u,e2,g];rw[e2];exact .cons g (WI r is)
section
variable {X:Cx}
inductive AdE (K:PySem.W.Frag)(Q:VK)(x:V)(H2:Hp):Prop
 |mk (a:_)(xs:_)(_:x=-a)(_:SqL K H2 a xs)(_:∀ys p,↑ys<=↑xs->(∀y>ys,y>xs)->H2 p=U_->Q (-p) (upd H2 p (.lst ys)))
abbrev Aeg (K:o0)(te:TE)(tl:TO):TE:=λσ H Q=>te σ H λx H1=>tl σ H1 λ_ H2=>AdE K Q x H2
def LD {e:Expr}{te:TE}{lo:oq Expr}{tl:TO}{k:Int}{j pos p1 p2}(hk:k≠0)(he:PE X e te)(hl:PO X lo tl)(U:hX (.Slice lo U_ (u_ (.Constant (.int k) j p1)) p2) Vc=λv u=>Hz [v,u] (VP v u)):PE X (.Subscript e (.Slice lo U_ (u_ (.Constant (.int k) j p1)) p2) pos) (Aeg X.K te tl):=by
 exists 2,Q,I,h;refine HM (thn (he ot s σ H _ I h) λv s1 zq=>?_);erw[zq,x,H1,I1,r1,q1];refine Ru (thn (hl ot s1 σ H1 _ I1 q1) λvl s2 zq=>?_);erw[zq,lv,H2,I2,pl,q2];rw[TB];refine uD ?_;rw[Ri];refine thn (qh (i:=k) ot s2 σ H2 (λy H3=>y= .int k/\H3=H2) I2 [1:1]) λu O h3=>?_;erw[h3,y,H3,I3,r3,rfl,rfl];erw[r3,tk,rfl];erw[q2,a,xs,rfl,hH,q];cases r1;have I4:Inv X ot σ H3 {O with heap:=O.heap.push {cls:= .type "slice",data:= .fields #[vl,.none,.int k tk]}}:=I3.kept (t':=O.toks) λb ob q=>uf _ q
 erw[I4.list hH,its,r,Z,hz];have aa:its.toArray.size=↑xs:=by rw[uB];exact r.length.symm
 show Vd #[X,X] X.A (HD e (.Slice lo U_ (u_ (.Constant (.int k) j p1)) p2) (-a) (.ref #[0,O])) (EP X ot σ Q) X.xe {O with heap:=O.heap.push {cls:= .type "slice",data:= .fields #[vl,.none,.int k tk]}}
 refine tj (ops:= [-a,.ref #[0,O]]) Z.isList.typeIs slot_list_getitem.lookup ?_ (by rw[U])
 refine FI (st:=u_ k) Z.isList (rN ..) pl .none (.int k tk) (by simpa using hk) ?_ (by rwa[aa])
 have hsz:=slicePick_size_le its.toArray lv U_ (u_ k);unfold TY at hsz⊢;generalize sliceRange (V_ lv U_ (u_ k) its.toArray.size).1 (V_ lv U_ (u_ k) its.toArray.size).2.1 (V_ lv U_ (u_ k) its.toArray.size).2.2=is at hsz⊢;have ep:is.filterMap (its.toArray[·]?)=is.filterMap (its[·]?):=by simp
 rw[ep] at hsz⊢;have vp:=WI r is;have ac:(is.filterMap (xs[·]?)).length<=↑xs:=by
  rw[↑vp];rwa[uB,uB,<-↑r] at hsz
 exists .ref _,_,I4.laid (t':=O.toks) (o:= .lst (is.filterMap (xs[·]?))) (λb ob q=>uf _ q) (ur _) ⟨uY ac hz,_,(0),vp,uH _ rfl⟩,1,q _ _ ac (λy hy=>?_) (I4.hok.fresh (ur _));erw[List.mem_filterMap.mp hy,i,_,hi];exact vg hi
end
end L2
namespace L2
open PySem PySem.Spec PyProof.Rows
def KW:TR table "dict_itemiterator.__iter__"=u_ VR.«dict_keyiterator.__iter__»:=entryFor_alias (id':="dict_keyiterator.__iter__") (by kernel_rfl) rfl () (by kernel_rfl)
abbrev Iti (d:o3)(o:Obj):It:=
 ⟨λi H=>∃kvs,H d=u_ (.frz o (.dK kvs))/\i<↑kvs,λi H v H'=>∃t p,v= .ref t/\H t=U_/\H'=upd H t (-[kV p.1,p.2])/\∀kvs,H d=u_ (.frz o (.dK kvs))->kvs[i]? =u_ p,λi H=>∃kvs,H d=u_ (.frz o (.dK kvs))/\↑kvs<=i⟩
section
variable {X:Cx}
variable {w:oh}{K:o0}{tp:Pos}{o:Obj}{es:Array GG}{ep:Nat}
def Ct {P:og}{ac:om Expr}{cc:Nat}(d it:o3)(hd:o.data= .dict es ep):MI P w K (.Tuple ac cc tp) (Iti d o) [it] it (λi h=>∃ok ov,IsItemIter h it d i es.size ep ok ov) where
 mem:=by simp
 obj:=λi h st b hb=>by
  have e:b=it:=by simpa using hb
  subst e;erw[st,ok,ov,e];exact⟨_,e,λv z=>by cases z⟩
 keep:=λi h h' st k=>by
  erw[st,ok,ov,e];exact⟨ok,ov,k it (by simp) _ e⟩
 item:=by
  intro X hP hw hK U i ot s σ H E I hf st hg;subst hP hw hK;erw[hg,kvs,hq,hx];erw[WX I.hok hq hd,lo,vs,r,Z,hl,_];have ah:=↑r;obtain⟨⟨k,v⟩,ad⟩:∃p,vs[i]? =u_ p:=[_:ui ()]
  erw[st,ok,ov,O];have l1:=uJ O;have ek:kvs[i]? =u_ kvs[i]:=ui hx;have rp:=wx r ek ad;refine wpAny_pyNext_items_item (by rwa[hl]) Z ad λak h' hk ae ht hz aa=>?_
  obtain⟨I1,af⟩:=I.handed (t':=s.toks) (ys:= [kV kvs[i].1,kvs[i].2]) (its:= [ak,v]) hf (λc U=>by
   have e:c=it:=by simpa using U
   subst e;exact l1) (.cons (by rw[rp.1];exact Nv hk) (.cons rp.2 .nil)) (by show 2<=Vg;decide) ht hz (λc o U e=>aa c o (by simpa using U) e)
  exists 0,wpAny_letOwnedTupleGo_items (s:={s with heap:=h'}) ae λh2 z2 s2=>?_
  refine⟨.ref #[0,s],_,I1.turnedL (fp:= [it]) (h':=h2) (t':=s.toks) (λc o U e=>s2.extBut c o (by simpa using U) e) af,1,⟨_,kvs[i],1,I.fresh,1,λal ag=>?_⟩,⟨_,_,by rwa[<-hl]⟩,λc U=>(af c U).1⟩
  rw[hq] at ag;cases ag;exact ek
 done:=by
  intro X hP hw hK U i ot s σ H E I hf st hg;subst hP hw hK;erw[hg,kvs,hq,hx];erw[WX I.hok hq hd,lo,vs,r,Z,hl,_];have ah:=↑r;erw[st,ok,ov,O];obtain⟨f0,f1,f2,f3,f4,f5⟩:=hf it (by simp)
  exact wpAny_pyNext_items_end (I.ok.hd U) (by rwa[hl]) Z (tL ()) λh' eb=>[1:I.turned (t':=s.toks) (λb o hb e=>eb b o hb e) f0 f1 f3 f4 f5]
 self:=λA i s Q E st h=>by
  erw[st,ok,ov,O];refine wpAny_pyIter_slot [_:O:1] PySem.F.slot_dict_itemiterator_iter (vE PySem.F.slot_dict_itemiterator_iter [_:O:1] KW ?_ (PySem.F.args_dict_itemiterator_iter_1 _));show Vd _ _ (ret (.ref _)) _ _ s;exact uD ⟨0,"dict_itemiterator",_,[_:O:1],PySem.F.slot_dict_itemiterator_next.lookup,h⟩
abbrev Adm (tl:TE):TI:=λσ H R=>tl σ H λx H1=>∃d o kvs,x= .ref d/\H1 d=u_ (.frz o (.dK kvs))/\R (Iti d o) H1
def O6 {aa:om Expr}{cc:Nat}{tp apos cpos:Pos}{l:Expr}{tl:TE}(hl:PE X l tl)(O:VS l "items" X.env (eval l X.env)=eval l X.env)(U:(apos.endLine==cpos.line)=v_):PI X (.Tuple aa cc tp) (.Call (.Attribute l "items" apos) [] [] cpos) (Adm tl):=by
 exists 2,R,I,h;refine C5 hl I O U h ?_;rintro s1 H1 x I1 ⟨d,o,kvs,rfl,hq,q⟩;exists d,kvs,1,.inr [o:hq];obtain⟨ho,_,lo,vs,r,o',es,ep,ac,c1,c2,_⟩:=(show yi X.prog X.w H1 s1.heap d (.frz o (.dK kvs)) from I1.hok d _ hq)
 rw[ho] at ac;cases ac;erw[WX I1.hok hq c2,lo,vs,r,ad,hl,_];have Z:(s1.heap.push {cls:= .type "dict_items",data:= .fields #[-d]}).IsItemsView #[0,s1] d:=⟨_,uH _ rfl,1,1⟩;refine wpAny_pyIter_items Z (ad.push _) ?_;have I2:Inv X ot σ H1 {s1 with heap:=s1.heap.push {cls:= .type "dict_items",data:= .fields #[-d]}}:=I1.kept (t':=s1.toks) λb o e=>uf _ e
 refine⟨_,[_],_,_,H1,1,I2.kept (t':=s1.toks) λb o e=>uf _ e,Ct d _ c2,⟨_,_,by rw[<-hl];exact uH _ rfl⟩,λb hb=>?_,q⟩
 have e:=Ab.mp hb;subst e;exact I2.fpOk (ur _) (I2.hok.fresh (ur _))
end
section
variable {X:Cx}{ot:om (o3×Obj)}{σ:St}{H:Hp}{s:o7}{d:o3}
def Inv.holdK {kvs:om (Key×V)}(I:#[I])(h:H d=u_ (.dK kvs)):(∀o v,X.H₀ d≠u_ (.frz o v))/\∃o,Inv X ot σ (upd H d (.frz o (.dK kvs))) s:=by
 have O:∀o v,X.H₀ d≠u_ (.frz o v):=λo v z=>by have:=I.base.frzs d o v z;rw[h] at this;cases this
 erw[Io I.hok h,hz,lo,vs,r,dd];erw[id dd,o,es,ep,U,Z];exact⟨O,o,I.redesc h (λ_ z=>by cases z) (λ_ z=>by cases z) (λ_ z=>by cases z) O [U:wn hz lo r dd]⟩
variable {o:Obj}
def Inv.letK {kvs:om (Key×V)}(I:#[I])(O:∀o v,X.H₀ d≠u_ (.frz o v))(h:H d=u_ (.frz o (.dK kvs))):Inv X ot σ (upd H d (.dK kvs)) s:=by
 erw[zB I.hok (.inr [o:h]),hz,lo,vs,r,dd];exact I.redesc h (λ_ z=>by cases z) (λ_ z=>by cases z) (λ_ z=>by cases z) O (wn hz lo r dd)
abbrev AcO (t:TE):TE:=λσ H Q=>t σ H Q\/∃d kvs,H d=u_ (.dK kvs)/\∀o,t σ (upd H d (.frz o (.dK kvs))) λv H'=>H' d=u_ (.frz o (.dK kvs))/\Q v (upd H' d (.dK kvs))
def O9 {e:Expr}{t:TE}(h:PE X e t):PE X e (AcO t):=by
 exists 2,Q,I,q;rcases q with q|⟨d,kvs,hd,q⟩
 .exact h ot s σ H Q I q
 .erw[I.holdK hd,O,o,U];exact thn (h ot s σ _ _ U (q o)) λv s1 ⟨x,H1,Z,r1,e1,q1⟩=>⟨x,_,Z.letK O e1,r1,q1⟩
end
section
variable {x q:Str}{st:Stmt}{a b c d:Str}
def bo1 (h:∀(kV doc pm:o6) (an:oq o3) (cdv ct u:o6),Gx (PySem.W.fnOf x q (YQ st) (y9 st) (qj st) .none kV doc pm an cdv ct) [[u]:[]]=pure [(a,u)]):BOk x q st [a]:=by
 intro k1 k2 k3 U k5 Z us O;rcases us with _|⟨u,_|⟨_,_⟩⟩
 .cases O
 .exact h k1 k2 k3 U k5 Z u
 .cases O
def bo2 (h:∀(kV doc pm:o6) (an:oq o3) (cdv ct u v:o6),Gx (PySem.W.fnOf x q (YQ st) (y9 st) (qj st) .none kV doc pm an cdv ct) [[u,v]:[]]=pure [(a,u),(b,v)]):BOk x q st [a,b]:=by
 intro k1 k2 k3 U k5 Z us O;rcases us with _|⟨u,_|⟨v,_|⟨_,_⟩⟩⟩
 .cases O
 .cases O
 .exact h k1 k2 k3 U k5 Z u v
 .cases O
def bo3 (h:∀(kV doc pm:o6) (an:oq o3) (cdv ct u v w:o6),Gx (PySem.W.fnOf x q (YQ st) (y9 st) (qj st) .none kV doc pm an cdv ct) [[u,v,w]:[]]=pure [(a,u),(b,v),(c,w)]):BOk x q st [a,b,c]:=by
 intro k1 k2 k3 U k5 Z us O;rcases us with _|⟨u,_|⟨v,_|⟨w,_|⟨_,_⟩⟩⟩⟩
 .cases O
 .cases O
 .cases O
 .exact h k1 k2 k3 U k5 Z u v w
 .cases O
def bo4 (h:∀(kV doc pm:o6) (an:oq o3) (cdv ct u v w z:o6),Gx (PySem.W.fnOf x q (YQ st) (y9 st) (qj st) .none kV doc pm an cdv ct) [[u,v,w,z]:[]]=pure [(a,u),(b,v),(c,w),(d,z)]):BOk x q st [a,b,c,d]:=by
 intro k1 k2 k3 U k5 Z us O;rcases us with _|⟨u,_|⟨v,_|⟨w,_|⟨z,_|⟨_,_⟩⟩⟩⟩⟩
 .cases O
 .cases O
 .cases O
 .cases O
 .exact h k1 k2 k3 U k5 Z u v w z
 .cases O
end
end L2
namespace L2
open PySem PyProof.Rows
abbrev cl {α β:Type}(t:α->β->TS)(a:α)(b:β):TS:=t a b
section
variable {α β:Type}{t u:α->β->TS}{c:α->β->TT}{wi:α->β->TI}{g:α->β->TG}{a:α}{b:β}{D:mU}{σ:St}{H:Hp}
def cl_i (h:let S:St:=σ;let D1:mU:=D;cl t a b D1 S H):t a b D σ H:=h
def seq_oC (h:let S:St:=σ;let D1:mU:=D;∀N:St->Hp->Prop,(∀O H',cl u a b D1 O H'->N O H')->let E:mU:={D1 with nx:=N};cl t a b E S H):cl (λx y=>ni (t x y) (u x y)) a b D σ H:=h (u a b D) λ_ _ h=>h
def seq_0 (h:let S:St:=σ;let D1:mU:=D;let E:mU:={D1 with nx:=cl u a b D1};cl t a b E S H):cl (λx y=>ni (t x y) (u x y)) a b D σ H:=h
def if_C (h:let S:St:=σ;let D1:mU:=D;c a b S H λk H1=>if k=v_ then cl t a b D1 S H1 else cl u a b D1 S H1):cl (λx y=>AdQ (c x y) (t x y) (u x y)) a b D σ H:=h
def while_C (h:let S:St:=σ;let D1:mU:=D;∃W:Nat->St->Hp->Prop,(∃m,W m S H)/\∀m σ H,W m σ H->
 c a b σ H λk H1=>if k=v_ then∃N:St->Hp->Prop,(∀O H',N O H'->∃U,U<m/\W U O H')/\cl t a b {D1 with nx:=N,ct:=N,bk:=D1.nx} σ H1 else D1.nx σ H1):cl (λx y=>MS (c x y) (t x y)) a b D σ H:=h
def for_C (h:let S:St:=σ;let D1:mU:=D;wi a b S H λJ H1=>∃W:Nat->Nat->St->Hp->Prop,(∃m,W 0 m S H1)/\∀i m σ H,W i m σ H->
 (J.stop i H/\D1.nx σ H)\/(J.go i H/\∃N:St->Hp->Prop,(∀O H',N O H'->∃U,U<m/\W (i+1) U O H')/\∀x H',J.yld i H x H'->g a b x σ H' λZ H2=>cl t a b {D1 with nx:=N,ct:=N,bk:=D1.nx} Z H2)):cl (λx y=>AdR (wi x y) (g x y) (t x y)) a b D σ H:=h
end
end L2
namespace L2
open PySem PySem.Spec PySem.W PyProof.Rows
variable {i:Nat}{v:V}{σ:St}{H:Hp}
def gN_ {Q:St->Hp->Prop}(h:Q (σ.set i (u_ v)) H):YY i v σ H Q:=h
end L2
namespace L2
open PySem PySem.Spec PySem.W PySem.Calls PyProof.Rows
section
variable {X:Cx}{ot:om (o3×Obj)}{σ:St}{H:Hp}{s:o7}{a:o3}{kvs:om (Key×V)}{k:Key}{u r:o6}{v:V}{A:oj}{E:o6->o7->Prop}
def MB {Q:o6->o7->Prop}(I:#[I])(e:H a=u_ (.dK kvs))(ry:il (kV k) u)(rv:il v r)(hl:↑kvs<Vg)(h1:∀O w' s',iO kvs k=u_ O->Inv X ot σ H s'->il O w'->Q w' s')
  (h2:iO kvs k=U_->∀s',Inv X ot σ (upd H a (.dK (lJ kvs k v))) s'->Q r s'):Vd #[X,X] A (call (.builtin "dict.setdefault") [-a,u,r]) Q E s:=by
 erw[Io I.hok e,z,hd,vs,rel,dd];refine V5 PySem.F.slot_dict_setdefault dd.typeIs PySem.F.entry_dict_setdefault (PySem.F.args_dict_setdefault_3 _ _ _) (kt_meets_setdefault (Qd X.prog X.w) a (oW ry) hd r) ⟨vs,dd,by rwa[<-↑rel],λw' hw=>?_,λhn h' aa hs=>?_⟩
 .cases U:iO kvs k with
  |none=>
   have:=nh.Kr (o:=VU vs k) (by rw[<-U];exact rel.val k)
   rw[this] at hw;cases hw
  |some O=>
   obtain⟨w2,Z,ac⟩:=nh.some_of (v:=O) (o:=VU vs k) (by rw[<-U];exact rel.val k)
   rw[Z] at hw;cases hw;exact h1 O _ _ U (I.tok _) ac
 .have U:iO kvs k=none:=by
   cases U:iO kvs k with
   |none=>rfl
   |some O=>
    obtain⟨w2,Z,_⟩:=nh.some_of (v:=O) (o:=VU vs k) (by rw[<-U];exact rel.val k)
    rw[Z] at hn;cases hn
  have ad:↑(lJ kvs k v)<=sizeLine:=by have:=yo kvs k v;omega
  have he:∃q,h'.get? a=u_ q:=let⟨q,_,_,hq,_⟩:=aa;[q:hq];exact h2 U _ (Kh I (by rw[e];exact VH) hs he (wn ad hd (rel.put k rv) aa))
end
inductive S1 (ty tx:TE)(σ:St)(Q:VK)(x:V)(H1:Hp):Prop
 |mk (a:Addr)(_:x=-a)(_:IsD H1 a)(_:ty σ H1 λy H2=>tx σ H2 λz H3=>∃kvs k,H3 a=u_ (.dK kvs)/\y=kV k/\↑kvs<Vg/\(∀v,iO kvs k=u_ v->Q v H3)/\(iO kvs k=U_->Q z (upd H3 a (.dK (lJ kvs k z)))))
abbrev Aaw (td ty tx:TE):TE:=λσ H Q=>td σ H λx H1=>S1 ty tx σ Q x H1
section
variable {X:Cx}{o e f:Expr}{apos cpos:Pos}{td ty tx:TE}
def By (ho:PE X o td)(he:PE X e ty)(hf:PE X f tx)(m:M2 X o "setdefault" apos e f cpos):PE X (.Call (.Attribute o "setdefault" apos) [e,f] [] cpos) (Aaw td ty tx):=by
 exists 2,Q,I,h;refine Td m.base m.few m.line vX PySem.F.slot_dict_setdefault PySem.F.type_dict_setdefault (thn (ho ot s σ H _ I h) λu s1 zq=>?_);erw[zq,x,H1,I1,rx,a,ex,d,q1];subst ex;obtain rfl:u=Vi a:=rx;erw[ER I1 d,t1,t2,_];exists t1,t2;rw[m.trees];refine vC rfl (Ub (U4 (thn (he ot s1 σ H1 _ I1 q1) λiv s2 ⟨y,H2,I2,ry,q2⟩=>
  U4 (thn (hf ot s2 σ H2 _ I2 q2) λfv s3 ⟨z,H3,I3,rz,kvs,k,ea,ey,hl,q3,q4⟩=>UF ?_))))
 subst ey;exact MB I3 ea ry rz hl (λv0 w' s4 O U Z=>⟨v0,H3,U,Z,q3 v0 O⟩) λO s4 U=>⟨z,_,U,rz,q4 O⟩
end
variable {w:oh}{K:o0}{mg:Str->oq o6}{base:o9}{f:o3}{fd:Ve}
def FnOk.up0 {P:og}{CX:CXT}{k:Nat}{ps:om Str}{sp:Sp}(F:FnOk P w K mg base CX0 k f fd ps sp):FnOk P w K mg base CX k f fd ps sp:=
 ⟨F.len,λA outer s H args us vs Q E O U Z hv h ht=>UA (F.run A outer s H args us vs Q E O U Z hv h ht) λr s' h=>by
  cases r with
  |ok c=>cases c<;>exact h
  |error e=>exact Vw h⟩
end L2
namespace L2
open PySem PySem.Spec PySem.W PyProof.Rows
section
variable {s:o7}
def Dj {prog:og}{w:oh}{A:oj}{E:o6->o7->Prop}{r:o3}{Q:o6->o7->Prop}{G:om o6->o7->Prop}(Z:s.TypeIs (-r) "dict_values")
  (U:∀(R:om o6->o7->Prop) (E':o6->o7->Prop),(∀vs s',G vs s'->R vs s')->Vd #[w,w] A.in1.in1 (collect (-r)) R E' s)
  (hQ:∀vs s',G vs s'->↑vs<=Vg/\Q (.ref #[0,s']) {s' with heap:=s'.heap.push {cls:= .type "tuple",data:= .seq vs.toArray}}):
  Vd #[w,w] A (call (.type "tuple") [-r]) Q E s:=by
 have new:VJ #[w,w] A.in1 (.call (.builtin "tuple.__new__") ⟨[.type "tuple",-r],[]⟩) (wants (λobj O=>O.TypeIs obj "tuple"/\Q obj O) E) s:=by
  refine RB ?_;show Vd _ A.in1.in1 (do TJ "tuple.__new__" [[.type "tuple",-r]:[]];again (.builtin "tuple.__new__" [[.type "tuple",-r]:[]])) _ _ s
  refine A7 (HB (PySem.F.newCall_tuple_1 _) (uD [Tt PySem.F.plain_tuple_new _:tm PySem.F.entry_tuple_new ?_]));rw[tG PySem.F.plain_tuple_new _];have s1:=sub_tuple_self;have s2:=init_tuple_lookup;have s3:=madeHere_tuple
  wp_walk using Gy Z,U
  intro vs s' hg;erw[hQ vs s' hg,hl,hq];show Vd _ _ (GY vs.toArray>>=λv=>ret v) _ _ _;unfold GY;refine A7 (vB ?_ (by show vs.toArray.size<=Vg;simpa using hl))
  exact uD [[_:uH _ rfl:1]:hq]
 refine RT (Q₁:=λobj O=>O.TypeIs obj "tuple"/\Q obj O) PySem.F.called_tuple (PySem.F.typeCall_tuple_1 _) PySem.F.entry_object_init new λobj O h₁=>?_;exact[h₁.1:PySem.F.args_object_init_2 obj _:object_init_meets PySem.F.called_tuple.init.lookup PySem.F.called_tuple.made () prog w A.in1 _ O [h₁.1:1:h₁.2]]
end
inductive Acg (Q:VK)(x:V)(H1:Hp):Prop
 |mk (d:Addr)(kvs:List (Key×V))(_:x=-d)(_:Rd H1 d (.dK kvs))(_:∀t,H1 t=U_->Q (-t) (upd H1 t (.tup (kvs.map (·.2)))))
abbrev AcI (to:TE):TE:=λσ H Q=>to σ H λx H1=>Acg Q x H1
section
variable {X:Cx}{ot:om (o3×Obj)}{σ:St}{H:Hp}{s:o7}
def AC {o:Expr}{to:TE}{apos cpos:Pos}{R:o6->o7->Prop}{Q:VK}(ho:PE X o to)(I:#[I])(O:VS o "values" X.env (eval o X.env)=eval o X.env)(U:(apos.endLine==cpos.line)=v_)
  (h:to σ H Q)
  (k:∀(s1:o7) (H1:Hp) (x:V),Inv X ot σ H1 s1->Q x H1->∃(d:o3) (kvs:om (Key×V)),x= .ref d/\Rd H1 d (.dK kvs)/\R (.ref #[0,s1]) {s1 with heap:=s1.heap.push {cls:= .type "dict_values",data:= .fields #[-d]}}):
  Vd #[X,X] X.A (eval (.Call (.Attribute o "values" apos) [] [] cpos) X.env) R X.xe s:=by
 refine UQ O U (thn (ho ot s σ H _ I h) λv s1 zq=>?_);erw[zq,x,H1,Z,r1,q];erw[k s1 H1 x Z q,d,kvs,ex,hd,q2];subst ex;cases r1;erw[zB Z.hok hd,hz,lo,vs,ac,dd];have aa:∀a,Vi d= .ref a->∃ob,s1.heap.get? a=u_ ob/\ob.dict=none:=w8 Z (y:=kV (VV 0)) (.inl ⟨kvs,VV 0,hd,1,1⟩);exact⟨"dict","dict.values",vX,PySem.F.slot_dict_values,PySem.F.type_dict_values,dd.typeIs,aa,vC rfl (PySem.evalArgs_none (V5 PySem.F.slot_dict_values dd.typeIs PySem.F.entry_dict_values (PySem.F.args_dict_values_1 _) (meets_dict_values (Qd X.prog X.w) d lo) [[vs:dd]:q2]))⟩
def CL {x:Str}{o:Expr}{to:TE}{p pos apos cpos:Pos}(hc:X.calm=v_)(hg:Gl X x)(hm:X.mg x=U_)(hv:GC x=u_ (.type "tuple"))(ho:PE X o to)(hn:x≠"__name__")(af:(x==("__debug__":Str))=Vc)
  (aa:VS o "values" X.env (eval o X.env)=eval o X.env) (ac:(apos.endLine==cpos.line)=v_)
  (he:Vh [.Call (.Attribute o "values" apos) [] [] cpos] X.env=(Vc,eval (.Call (.Attribute o "values" apos) [] [] cpos) X.env)::Vh [] X.env) (ag:(Vo pos (Vh [] X.env)).any (·.1)=Vc):
  PE X (.Call (.Name x p) [.Call (.Attribute o "values" apos) [] [] cpos] [] pos) (AcI to):=by
 exists 2,Q,I,h;refine Us (Zk I hg hm hv ?_ hn af);refine vx ?_ he ag;rw[he];show Vd _ _ (Tw ((Vc,eval (.Call (.Attribute o "values" apos) [] [] cpos) X.env)::Vo pos (Vh [] X.env))) _ _ s;refine U4 (AC ho I aa ac h ?_);rintro s1 H1 x I1 ⟨d,kvs,rfl,hd,q⟩;exists d,kvs,1,hd,UF ?_;erw[zB I1.hok hd,hz,lo,vs,ad,dd];erw[id dd,o,es,ep,ho];have ah:s1.heap.DictAt (Qd X.prog X.w) d vs ep:=[o:es:ho];have Z:(s1.heap.push {cls:= .type "dict_values",data:= .fields #[-d]}).IsValuesView #[0,s1] d:=⟨_,uH _ rfl,1,1⟩;refine vh (n:=1) I1.tk ?_;refine Dj (G:=λus s'=>∃(h':o9) (tk:Nat) (O:Array o6),us=O.toList/\s'={s1 with heap:=h',toks:=tk}/\(∀b o,(s1.heap.push {cls:= .type "dict_values",data:= .fields #[-d]}).get? b=u_ o->h'.get? b=u_ o)/\ItemsOf (λi v=>∃k,vs[i]? =u_ (k,v)) O ↑vs) Z.typeIs
  (λR E' k=>PySem.W.kdu_collect (s:={s1 with heap:=s1.heap.push {cls:= .type "dict_values",data:= .fields #[-d]}}) (A:=X.A.in1.in1) (PySem.W.kdl_values (knd:=Qd X.prog X.w) (kvs:=vs) (ep:=ep)) (I1.ok.hd hc) [Z:ah.push _] (by rwa[<-↑ad]) λh' tk O ae U=>k _ _ ⟨h',tk,O,1,1,ae,U⟩) ?_
 rintro us s' ⟨h',tk,O,rfl,rfl,ae,U⟩;have ak:↑O.toList=↑vs:=by rw[vm,U.1]
 have al:=↑ad;exists (),λhtk=>?_
 have I':Inv X ot σ H1 {s1 with heap:=h',toks:=tk}:=I1.kept (λb u e=>ae b u (uf _ e)) htk
 have hv:iq (kvs.map (·.2)) O.toList:=by
  refine Kx (by rw[uc];omega) λj x v hx hv=>?_
  rw[uK] at hx;cases hj:kvs[j]? with
  |none=>rw[hj] at hx;cases hx
  |some p=>
   rw[hj] at hx;cases hx;obtain⟨k,e1⟩:=U.2 j v (by rwa[<-T6])
   exact(wx ad hj e1).2
 refine⟨-h'.objs.size,_,I'.laid (t':=tk) (o:= .tup (kvs.map (·.2))) (λb u w=>uf _ w) (ur _) ⟨by rwa[uc],O.toList,hv,⟨_,uH _ rfl,1,0⟩⟩ htk,1,q _ (I'.hok.fresh (ur _))⟩
end
end L2
namespace K45
open PySem L2 PyProof.Rows
inductive A5 (p0 p1 p2 p3 p4:Prop):Prop
 |mk (_:p0)(_:p1)(_:p2)(_:p3)(_:p4)
inductive E3 {t0 t1 t2:Type}(p:t0->t1->t2->Prop):Prop
 |mk (x0:t0)(x1:t1)(x2:t2)(h:p x0 x1 x2)
open Builtin.Int (intBits)
abbrev top (i:Nat):Stmt:=PySem.Challenge.pw_askwright_k45_papers_put_together.main.body.getD i (.Pass ⟨(0),(0),(0),(0)⟩)
nonrec abbrev WG:Stmt:=top 16
nonrec abbrev XT:Stmt:=top 17
nonrec abbrev WH:Stmt:=top 18
nonrec abbrev WD:Stmt:=top 20
nonrec abbrev Yb:Stmt:=top 21
nonrec abbrev xD:Stmt:=top 22
nonrec abbrev wB:Stmt:=top 28
nonrec abbrev Xj:Stmt:=top 29
nonrec abbrev ZU:Stmt:=top 30
nonrec abbrev Jl:Stmt:=top 31
nonrec abbrev Xo:Stmt:=top 32
nonrec abbrev zH:Stmt:=top 33
nonrec abbrev WA:Stmt:=top 34
nonrec abbrev Xu:Stmt:=top 37
nonrec abbrev xV:Stmt:=top 38
nonrec abbrev Xq:Stmt:=top 39
nonrec abbrev zw:Stmt:=top 40
nonrec abbrev zK:Stmt:=top 41
nonrec abbrev xL:Stmt:=top 42
nonrec abbrev JO:Stmt:=top 43
nonrec abbrev Xp:Stmt:=top 44
nonrec abbrev xM:Stmt:=top 45
nonrec abbrev zy:Stmt:=top 46
nonrec abbrev Xa:Stmt:=top 47
nonrec abbrev YS:Stmt:=top 49
nonrec abbrev Yr:Stmt:=top 50
nonrec abbrev ji:Stmt:=Qi (top 51) 0
nonrec abbrev jH:Stmt:=Qi (top 51) 1
nonrec abbrev Yp:Stmt:=Qi (top 51) 2
nonrec abbrev YE:Stmt:=Qi (top 51) 3
nonrec abbrev YT:Stmt:=Qi (top 51) 6
nonrec abbrev ye:Stmt:=Qi (top 51) 7
nonrec abbrev Yo:Stmt:=Qi (top 51) 8
nonrec abbrev jg:Stmt:=Qi (top 51) 9
nonrec abbrev yV:Stmt:=top 52
nonrec abbrev DN:Stmt:=top 53
nonrec abbrev JS:Stmt:=Qi (top 55) 0
nonrec abbrev jG:Stmt:=Qi (top 55) 1
nonrec abbrev JC:Stmt:=Qi (top 55) 2
nonrec abbrev jf:Stmt:=Qi (top 55) 3
nonrec abbrev JU:Stmt:=Qi (top 55) 4
nonrec abbrev Ju:Stmt:=Qi (top 55) 5
nonrec abbrev y7:Stmt:=Qi (top 56) 0
nonrec abbrev QW:Stmt:=Qi (top 56) 1
nonrec abbrev QU:Stmt:=Qi (top 56) 2
nonrec abbrev yE:Stmt:=Qi (top 56) 3
nonrec abbrev yr:Stmt:=Qi (top 56) 4
nonrec abbrev yt:Stmt:=Qi (top 56) 5
nonrec abbrev yP:Stmt:=Qi (top 56) 6
nonrec abbrev yB:Stmt:=Qi (top 56) 7
nonrec abbrev QS:Stmt:=Qi (top 56) 8
nonrec abbrev Yt:Stmt:=top 57
nonrec abbrev Wq:Stmt:=top 58
nonrec abbrev xJ:Stmt:=top 59
nonrec abbrev JY:Stmt:=top 60
nonrec abbrev jZ:Stmt:=top 61
nonrec abbrev Jp:Stmt:=top 62
nonrec abbrev JF:Stmt:=top 63
nonrec abbrev Xm:Stmt:=top 64
nonrec abbrev xb:Stmt:=top 66
nonrec abbrev jl:Stmt:=top 67
nonrec abbrev jK:Stmt:=top 69
nonrec abbrev Jv:Stmt:=top 70
nonrec abbrev Y3:Stmt:=top 71
nonrec abbrev Ya:Stmt:=top 72
nonrec abbrev jM:Stmt:=top 73
nonrec abbrev xT:Stmt:=top 74
nonrec abbrev sZ:Stmt:=top 75
nonrec abbrev Xh:Stmt:=top 78
nonrec abbrev Yd:Stmt:=Qi (top 79) 0
nonrec abbrev jw:Stmt:=Qi (top 79) 1
nonrec abbrev yl:Stmt:=Qi (top 79) 2
nonrec abbrev QT:Stmt:=Qi (top 79) 3
nonrec abbrev jP:Stmt:=top 80
nonrec abbrev jC:Stmt:=top 82
nonrec abbrev Wz:Stmt:=top 83
nonrec abbrev zN:Stmt:=top 84
nonrec abbrev zD:Stmt:=top 85
nonrec abbrev J5:Stmt:=top 86
nonrec abbrev J3:Stmt:=top 87
nonrec abbrev Xn:Stmt:=top 88
nonrec abbrev J7:Stmt:=top 89
nonrec abbrev JN:Stmt:=top 90
nonrec abbrev jV:Stmt:=top 91
nonrec abbrev Wj:Stmt:=top 92
nonrec abbrev YF:Stmt:=top 93
nonrec abbrev Lx:Stmt:=top 94
set_option genInjectivity false in
set_option genSizeOf false in
structure Ad where
 f_is_text:o3
 d_is_text:Ve
 f_is_tree:o3
 d_is_tree:Ve
 f_is_name:o3
 d_is_name:Ve
 f_is_pair:o3
 d_is_pair:Ve
 jo:o3
 ju:Ve
 Z4:o3
 w9:Ve
 f_part_of:o3
 d_part_of:Ve
 wT:o3
 Z1:Ve
 f_row_of:o3
 d_row_of:Ve
 Zp:o3
 Zz:Ve
 wD:o3
 wb:Ve
 kG:o3
 kr:Ve
 f_is_rule:o3
 d_is_rule:Ve
 xG:o3
 wZ:Ve
 Xt:o3
 Z9:Ve
 Xc:o3
 wc:Ve
 zU:o3
 kh:Ve
 zr:o3
 WZ:Ve
 xQ:o3
 Wp:Ve
 Jq:o3
 Zh:Ve
 Xd:o3
 Wk:Ve
 xR:o3
 wJ:Ve
 zZ:o3
 kl:Ve
 xU:o3
 wy:Ve
 JZ:o3
 Jm:Ve
 j3:o3
 j9:Ve
 jk:o3
 xn:Ve
 XC:o3
 XF:Ve
 Yv:o3
 Yu:Ve
 Jy:o3
 JD:Ve
 Js:o3
 Jr:Ve
 Yx:o3
 Yw:Ve
 Je:o3
 Jc:Ve
 xo:o3
 xy:Ve
 jy:o3
 jq:Ve
 f_does:o3
 d_does:Ve
 JQ:o3
 Zf:Ve
 X7:o3
 zj:Ve
 ZF:o3
 Zx:Ve
 xr:o3
 xv:Ve
 ZL:o3
 ZH:Ve
 ZG:o3
 Zi:Ve
 yW:o3
 jp:Ve
 yA:o3
 yM:Ve
 yI:o3
 yO:Ve
 Y6:o3
 Y9:Ve
 YW:o3
 Y0:Ve
 YR:o3
 YX:Ve
 Y7:o3
 jd:Ve
 Y2:o3
 ja:Ve
 yC:o3
 yL:Ve
 j7:o3
 Ja:Ve
 f_has_run:o3
 d_has_run:Ve
 Wh:o3
 Z6:Ve
 ZE:o3
 ZA:Ve
 zf:o3
 XS:Ve
 Zn:o3
 Zs:Ve
 ZB:o3
 Zb:Ve
 Wb:o3
 Wr:Ve
 W0:o3
 kL:Ve
 xw:o3
 xt:Ve
 XU:o3
 XZ:Ve
 Zr:o3
 Zo:Ve
 Zd:o3
 Ze:Ve
 jB:o3
 jv:Ve
 XJ:o3
 XE:Ve
 wX:o3
 WE:Ve
 f_shown:o3
 d_shown:Ve
 wL:o3
 Wc:Ve
 jj:o3
 xu:Ve
 zW:o3
 zo:Ve
 YN:o3
 YH:Ve
 YK:o3
 YO:Ve
 Xw:o3
 zc:Ve
 XW:o3
 XX:Ve
 f_law_pot:o3
 d_law_pot:Ve
 kO:o3
 kK:Ve
 ku:o3
 WW:Ve
 W3:o3
 kQ:Ve
 kT:o3
 kc:Ve
 wp:o3
 wA:Ve
 kt:o3
 kD:Ve
 Zu:o3
 Zv:Ve
 Xx:o3
 X6:Ve
 f_law_due:o3
 d_law_due:Ve
 JG:o3
 JP:Ve
 f_law:o3
 d_law:Ve
 qm:o3
 qK:o3
 qr:o3
 qJ:o3
structure Tx (K:o0)(mg:Str->oq o6)(a:Ad):Prop where
 mJ:FF K mg "is_text" WG ["value"] a.f_is_text a.d_is_text
 iX:FF K mg "is_tree" XT ["value"] a.f_is_tree a.d_is_tree
 iJ:FF K mg "is_name" WH ["value"] a.f_is_name a.d_is_name
 nz:FF K mg "is_pair" WD ["value"] a.f_is_pair a.d_is_pair
 lm:FF K mg "is_row_of_names" Yb ["tree"] a.jo a.ju
 mS:FF K mg "is_answer" xD ["ask","answer"] a.Z4 a.w9
 nw:FF K mg "part_of" wB ["kind","piece","count"] a.f_part_of a.d_part_of
 mO:FF K mg "pieces_of" Xj ["line","form"] a.wT a.Z1
 sC:FF K mg "row_of" ZU ["line","count"] a.f_row_of a.d_row_of
 lL:FF K mg "read_lines" Jl ["value"] a.Zp a.Zz
 li:FF K mg "rule_rows" Xo ["tree"] a.wD a.wb
 na:FF K mg "bad_line" zH ["tree"] a.kG a.kr
 mK:FF K mg "is_rule" WA ["value"] a.f_is_rule a.d_is_rule
 lc:FF K mg "text_made" Xu ["boxes","own","parts"] a.xG a.wZ
 lh:FF K mg "self_made" xV ["boxes","own","parts"] a.Xt a.Z9
 lz:FF K mg "copy_made" Xq ["boxes","own","parts"] a.Xc a.wc
 lK:FF K mg "row_made" zw ["boxes","own","parts"] a.zU a.kh
 lN:FF K mg "put_made" zK ["boxes","own","parts"] a.zr a.WZ
 ll:FF K mg "join_made" xL ["boxes","own","parts"] a.xQ a.Wp
 iV:FF K mg "first_made" JO ["boxes","own","parts"] a.Jq a.Zh
 lj:FF K mg "rest_made" Xp ["boxes","own","parts"] a.Xd a.Wk
 lf:FF K mg "size_made" xM ["boxes","own","parts"] a.xR a.wJ
 lQ:FF K mg "cut_made" zy ["boxes","own","parts"] a.zZ a.kl
 lr:FF K mg "glue_made" Xa ["boxes","own","parts"] a.xU a.wy
 lT:FF K mg "is_jump_taken" YS ["boxes","word","parts"] a.JZ a.Jm
 lH:FF K mg "asked_or_fault" Yr ["word","held"] a.j3 a.j9
 iN:FM K a.qm "__init__" "Machine.__init__" ji ["self","rule","own"] a.jk a.xn
 iC:FM K a.qm "now" "Machine.now" jH ["self"] a.XC a.XF
 iE:FM K a.qm "answer" "Machine.answer" Yp ["self","tree"] a.Yv a.Yu
 lU:FM K a.qm "asked" "Machine.asked" YE ["self"] a.Jy a.JD
 iQ:FM K a.qm "go_on" "Machine.go_on" YT ["self"] a.Js a.Jr
 im:FM K a.qm "is_waiting" "Machine.is_waiting" ye ["self"] a.Yx a.Yw
 lI:FM K a.qm "do_row" "Machine.do_row" Yo ["self","row"] a.Je a.Jc
 md:FM K a.qm "hold" "Machine.hold" jg ["self","box","tree"] a.xo a.xy
 iM:FF K mg "asks_that_stand" yV ["machine","asks"] a.jy a.jq
 E2:FF K mg "does" DN ["rule","own","run"] a.f_does a.d_does
 mC:FM K a.qK "__init__" "Going.__init__" JS ["self","name","source","order"] a.JQ a.Zf
 lG:FM K a.qK "begin" "Going.begin" jG ["self","rule"] a.X7 a.zj
 lR:FM K a.qK "look" "Going.look" JC ["self"] a.ZF a.Zx
 me:FM K a.qK "wanted" "Going.wanted" jf ["self"] a.xr a.xv
 iW:FM K a.qK "take" "Going.take" JU ["self","answer"] a.ZL a.ZH
 mD:FM K a.qK "full" "Going.full" Ju ["self"] a.ZG a.Zi
 lC:FM K a.qr "__init__" "PlainOrder.__init__" y7 ["self","project"] a.yW a.jp
 iw:FM K a.qr "begin_anew" "PlainOrder.begin_anew" QW ["self","project"] a.yA a.yM
 iK:FM K a.qr "go_through" "PlainOrder.go_through" QU ["self","name"] a.yI a.yO
 iI:FM K a.qr "enter" "PlainOrder.enter" yE ["self","name"] a.Y6 a.Y9
 iS:FM K a.qr "settle" "PlainOrder.settle" yr ["self","going"] a.YW a.Y0
 iT:FM K a.qr "runner" "PlainOrder.runner" yt ["self","rule","own"] a.YR a.YX
 i9:FM K a.qr "leave" "PlainOrder.leave" yP ["self","going"] a.Y7 a.jd
 jJ:FM K a.qr "go_on" "PlainOrder.go_on" yB ["self","going"] a.Y2 a.ja
 io:FM K a.qr "answer_yet" "PlainOrder.answer_yet" QS ["self","name"] a.yC a.yL
 iD:FF K mg "answer_at_once" Yt ["source"] a.j7 a.Ja
 mL:FF K mg "has_run" Wq ["source"] a.f_has_run a.d_has_run
 l7:FF K mg "answer_by" xJ ["end"] a.Wh a.Z6
 iB:FF K mg "check_name" JY ["name"] a.ZE a.ZA
 mq:FF K mg "check_names" jZ ["names"] a.zf a.XS
 lO:FF K mg "order_from" Jp ["project","name"] a.Zn a.Zs
 mz:FF K mg "order_over" JF ["project","names"] a.ZB a.Zb
 mT:FF K mg "answer_of" Xm ["project","name"] a.Wb a.Wr
 mt:FF K mg "paper_of" xb ["project","name"] a.W0 a.kL
 ik:FF K mg "put_together" jl ["paper","other"] a.xw a.xt
 lE:FF K mg "first_wrong" jK ["project","paper"] a.XU a.XZ
 lP:FF K mg "first_ends" Jv ["paper"] a.Zr a.Zo
 my:FF K mg "wrong_word" Y3 ["project","ends","earlier","step"] a.Zd a.Ze
 lq:FF K mg "is_right_answer" Ya ["project","earlier","ask","answer"] a.jB a.jv
 mo:FF K mg "is_full_run" jM ["source","name","asks","end"] a.XJ a.XE
 mR:FF K mg "is_run_of" xT ["rule","own","asks","end"] a.wX a.WE
 mY:FF K mg "shown" sZ ["project","paper","name"] a.f_shown a.d_shown
 mQ:FF K mg "is_source" Xh ["value"] a.wL a.Wc
 l9:FM K a.qJ "__init__" "Project.__init__" Yd ["self","sources"] a.jj a.xu
 BW:FM K a.qJ "sources" "Project.sources" jw ["self"] a.zW a.zo
 ii:FM K a.qJ "source_of" "Project.source_of" yl ["self","name"] a.YN a.YH
 iH:FM K a.qJ "looked_up" "Project.looked_up" QT ["self","ask"] a.YK a.YO
 mj:FF K mg "longest_row" jP ["names"] a.Xw a.zc
 mn:FF K mg "_law_cell_at" jC ["script","k"] a.XW a.XX
 mH:FF K mg "_law_pot" Wz ["cell","salt"] a.f_law_pot a.d_law_pot
 ig:FF K mg "_law_take" zN ["pot","many"] a.kO a.kK
 iA:FF K mg "_law_word" zD ["pot","names"] a.ku a.WW
 mZ:FF K mg "_law_line" J5 ["pot","names","many","k"] a.W3 a.kQ
 mw:FF K mg "_law_rule" J3 ["pot","names"] a.kT a.kc
 mP:FF K mg "_law_maker" Xn ["pot","names"] a.wp a.wA
 mx:FF K mg "_law_leaf" J7 ["pot","names"] a.kt a.kD
 mB:FF K mg "_law_source" JN ["pot","names"] a.Zu a.Zv
 ml:FF K mg "_law_sources" jV ["script"] a.Xx a.X6
 mI:FF K mg "_law_due" Wj ["paper","other"] a.f_law_due a.d_law_due
 lS:FF K mg "_law_odd_paper" YF ["pot","names"] a.JG a.JP
 BV:FF K mg "law" Lx ["script"] a.f_law a.d_law
 qu:Cls K a.qm
 Wm:Mk K a.qm a.jk
 wP:mg "Machine"=u_ (-a.qm)
 Ye:QM K a.qm "rows"
 WU:QM K a.qm "rule"
 zg:QM K a.qm "own"
 Qv:QM K a.qm "boxes"
 Qn:QM K a.qm "place"
 yh:QM K a.qm "done"
 YI:QM K a.qm "given"
 qL:QM K a.qm "there"
 qQ:Cls K a.qK
 M_Going:Mk K a.qK a.JQ
 m_Going:mg "Going"=u_ (-a.qK)
 Yn:QM K a.qK "name"
 X9:QM K a.qK "order"
 yF:QM K a.qK "made_by"
 y6:QM K a.qK "rule_asks"
 qV:QM K a.qK "rule_run"
 Q8:QM K a.qK "end"
 qx:Cls K a.qr
 M_PlainOrder:Mk K a.qr a.yW
 m_PlainOrder:mg "PlainOrder"=u_ (-a.qr)
 Qe:QM K a.qr "given_project"
 QE:QM K a.qr "stack"
 Qz:QM K a.qr "under_way"
 Q5:QM K a.qr "full_runs"
 QC:QM K a.qr "found"
 Q6:Cls K a.qJ
 M_Project:Mk K a.qJ a.jj
 m_Project:mg "Project"=u_ (-a.qJ)
 yc:QM K a.qJ "by_name"
 m_MOST_SIGNS:∃t,mg "MOST_SIGNS"=u_ (.int 300 t)
 m_MOST_PARTS:∃t,mg "MOST_PARTS"=u_ (.int 40 t)
 m_MOST_SIZE:∃t,mg "MOST_SIZE"=u_ (.int 600 t)
 m_MOST_DEPTH:∃t,mg "MOST_DEPTH"=u_ (.int 12 t)
 zS:∃t,mg "MOST_NAME_SIGNS"=u_ (.int 24 t)
 m_LETTERS:∃t,mg "LETTERS"=u_ (.str "abcdefghijklmnopqrstuvwxyz" t)
 m_NAME_SIGNS:∃t,mg "NAME_SIGNS"=u_ (.str "abcdefghijklmnopqrstuvwxyz0123456789./" t)
 m_PERCENT:∃t,mg "PERCENT"=u_ (.int 37 t)
 m_MOST_LINES:∃t,mg "MOST_LINES"=u_ (.int 40 t)
 m_MOST_DONE:∃t,mg "MOST_DONE"=u_ (.int 300 t)
 m_MOST_NAMES:∃t,mg "MOST_NAMES"=u_ (.int 60 t)
 z_ord:mg "ord"=U_
 yR:mg "len"=U_
 qR:mg "isinstance"=U_
 ZS:mg "str"=U_
 QG:mg "tuple"=U_
 z_all:mg "all"=U_
 z_int:mg "int"=U_
 jh:mg "range"=U_
 z_zip:mg "zip"=U_
 z_dict:mg "dict"=U_
 wv:mg "enumerate"=U_
 z_sorted:mg "sorted"=U_
 z_abs:mg "abs"=U_
 z_min:mg "min"=U_
 z_sum:mg "sum"=U_
def kn:qv ["value","sign"] ["value"] (qj WG):=by trivial
def yw:qv ["value","size","waiting","pair","part","depth"] ["value"] (qj XT):=by trivial
def CC:qv ["value"] ["value"] (qj WH):=by trivial
def CB:qv ["value"] ["value"] (qj WD):=by trivial
def XH:qv ["tree"] ["tree"] (qj Yb):=by trivial
def nW:qv ["ask","answer"] ["ask","answer"] (qj xD):=by trivial
def kU:qv ["kind","piece","count","numbers"] ["kind","piece","count"] (qj wB):=by trivial
def nU:qv ["line","form"] ["line","form"] (qj Xj):=by trivial
def JM:qv ["line","count","word","form","pieces","parts"] ["line","count"] (qj ZU):=by trivial
def YC:qv ["value","rows","line","row"] ["value"] (qj Jl):=by trivial
def Zw:qv ["tree","read"] ["tree"] (qj Xo):=by trivial
def sY:qv ["tree"] ["tree"] (qj zH):=by trivial
def CA:qv ["value"] ["value"] (qj WA):=by trivial
def nR:qv ["boxes","own","parts"] ["boxes","own","parts"] (qj Xu):=by trivial
def nT:qv ["boxes","own","parts"] ["boxes","own","parts"] (qj xV):=by trivial
def nX:qv ["boxes","own","parts"] ["boxes","own","parts"] (qj Xq):=by trivial
def sX:qv ["boxes","own","parts"] ["boxes","own","parts"] (qj zw):=by trivial
def Z5:qv ["boxes","own","parts","row"] ["boxes","own","parts"] (qj zK):=by trivial
def Jt:qv ["boxes","own","parts","one","other"] ["boxes","own","parts"] (qj xL):=by trivial
def XM:qv ["boxes","own","parts","whole"] ["boxes","own","parts"] (qj JO):=by trivial
def Zy:qv ["boxes","own","parts","whole"] ["boxes","own","parts"] (qj Xp):=by trivial
def nS:qv ["boxes","own","parts"] ["boxes","own","parts"] (qj xM):=by trivial
def Xg:qv ["boxes","own","parts","whole","between"] ["boxes","own","parts"] (qj zy):=by trivial
def Jk:qv ["boxes","own","parts","row","between"] ["boxes","own","parts"] (qj Xa):=by trivial
def ZQ:qv ["boxes","word","parts"] ["boxes","word","parts"] (qj YS):=by trivial
def Za:qv ["word","held"] ["word","held"] (qj Yr):=by trivial
def Z7:qv ["self","rule","own"] ["self","rule","own"] (qj ji):=by trivial
def WQ:qv ["self"] ["self"] (qj jH):=by trivial
def jt:qv ["self","tree","ask"] ["self","tree"] (qj Yp):=by trivial
def ZO:qv ["self"] ["self"] (qj YE):=by trivial
def ZN:qv ["self"] ["self"] (qj YT):=by trivial
def JR:qv ["self"] ["self"] (qj ye):=by trivial
def yU:qv ["self","row","word","parts"] ["self","row"] (qj Yo):=by trivial
def wf:qv ["self","box","tree"] ["self","box","tree"] (qj jg):=by trivial
def yz:qv ["machine","asks","count","pair"] ["machine","asks"] (qj yV):=by trivial
def DK:qv ["rule","own","run","machine"] ["rule","own","run"] (qj DN):=by trivial
def Kj:qv ["self","name","source","order"] ["self","name","source","order"] (qj JS):=by trivial
def WM:qv ["self","rule"] ["self","rule"] (qj jG):=by trivial
def K0:qv ["self"] ["self"] (qj JC):=by trivial
def wN:qv ["self"] ["self"] (qj jf):=by trivial
def qak:qv ["self","answer"] ["self","answer"] (qj JU):=by trivial
def zh:qv ["self","asks"] ["self"] (qj Ju):=by trivial
def Xz:qv ["self","project"] ["self","project"] (qj y7):=by trivial
def jx:qv ["self","project"] ["self","project"] (qj QW):=by trivial
def QO:qv ["self","name","top","missing"] ["self","name"] (qj QU):=by trivial
def xI:qv ["self","name"] ["self","name"] (qj yE):=by trivial
def xf:qv ["self","going"] ["self","going"] (qj yr):=by trivial
def xk:qv ["self","rule","own"] ["self","rule","own"] (qj yt):=by trivial
def xY:qv ["self","going"] ["self","going"] (qj yP):=by trivial
def yn:qv ["self","going","ask","answer"] ["self","going"] (qj yB):=by trivial
def yu:qv ["self","name","at_once"] ["self","name"] (qj QS):=by trivial
def zQ:qv ["source"] ["source"] (qj Yt):=by trivial
def CD:qv ["source"] ["source"] (qj Wq):=by trivial
def nZ:qv ["end"] ["end"] (qj xJ):=by trivial
def Kt:qv ["name"] ["name"] (qj JY):=by trivial
def xq:qv ["names","name"] ["names"] (qj jZ):=by trivial
def qai:qv ["project","name"] ["project","name"] (qj Jp):=by trivial
def jE:qv ["project","names","order","name"] ["project","names"] (qj JF):=by trivial
def nY:qv ["project","name"] ["project","name"] (qj Xm):=by trivial
def wM:qv ["project","name","full_runs"] ["project","name"] (qj xb):=by trivial
def YV:qv ["paper","other","first_steps","step"] ["paper","other"] (qj jl):=by trivial
def Q3:qv ["project","paper","ends","earlier","place","step","word"] ["project","paper"] (qj jK):=by trivial
def yD:qv ["paper","ends","name","asks","end"] ["paper"] (qj Jv):=by trivial
def YB:qv ["project","ends","earlier","step","name","end","source"] ["project","ends","earlier","step"] (qj Y3):=by trivial
def jc:qv ["project","earlier","ask","answer","source"] ["project","earlier","ask","answer"] (qj Ya):=by trivial
def Yf:qv ["source","name","asks","end","rule"] ["source","name","asks","end"] (qj jM):=by trivial
def Zj:qv ["rule","own","asks","end","machine"] ["rule","own","asks","end"] (qj xT):=by trivial
def Bj:qv ["project","paper","name","ends"] ["project","paper","name"] (qj sZ):=by trivial
def nV:qv ["value"] ["value"] (qj Xh):=by trivial
def yK:qv ["self","sources","by_name","name","source"] ["self","sources"] (qj Yd):=by trivial
def xh:qv ["self","name"] ["self","name"] (qj yl):=by trivial
def xg:qv ["self","ask"] ["self","ask"] (qj QT):=by trivial
def Yc:qv ["names","row","name"] ["names"] (qj jP):=by trivial
def WR:qv ["script","k"] ["script","k"] (qj jC):=by trivial
def YD:qv ["cell","salt","step","big","k"] ["cell","salt"] (qj Wz):=by trivial
def ww:qv ["pot","many","digit"] ["pot","many"] (qj zN):=by trivial
def wH:qv ["pot","names","some"] ["pot","names"] (qj zD):=by trivial
def ym:qv ["pot","names","many","k","words","word","one","two","three","at"] ["pot","names","many","k"] (qj J5):=by trivial
def jF:qv ["pot","names","body","many","lines"] ["pot","names"] (qj J3):=by trivial
def Y8:qv ["pot","names","asked","lines"] ["pot","names"] (qj Xn):=by trivial
def wk:qv ["pot","names","kind"] ["pot","names"] (qj J7):=by trivial
def XY:qv ["pot","names","kind"] ["pot","names"] (qj JN):=by trivial
def yj:qv ["script","names","pairs","k","cell"] ["script"] (qj jV):=by trivial
def zt:qv ["paper","other","found","step"] ["paper","other"] (qj Wj):=by trivial
def yk:qv ["pot","names","steps","k","name"] ["pot","names"] (qj YF):=by trivial
def Y4:qv ["script","pairs","project","names","pot","turn","one","two","papers","found","name","odd","first"] ["script"] (qj Lx):=by trivial
structure Ga where
 (boxes asking forms makers br bn ba we:o3)
abbrev Acf:om Str:= ["ask","has","names","go","like","rowed","none","say","fault"]
structure Fx (K:o0)(w:oh)(mg:Str->oq o6)(g:Ga)(a:Ad):Prop where
 m_BOXES:mg "BOXES"=u_ (-g.boxes)
 m_ASKING:mg "ASKING"=u_ (-g.asking)
 m_FORMS:mg "FORMS"=u_ (-g.forms)
 m_MAKERS:mg "MAKERS"=u_ (-g.makers)
 boxes:∀H,SqT K H g.boxes (BX.map V.str)
 asking:∀H,SqT K H g.asking [-"ask",-"has",-"names"]
 kd:IO K w g.forms
 forms:∀x>FRM,∃q,PySem.W.nsIn K g.forms x.1=u_ (u_ (-q))/\∀H,SqT K H q (x.2.map λk=>V.str k.t)
 km:IO K w g.makers
 k_text:PySem.W.nsIn K g.makers "text"=u_ (u_ (-a.xG))
 k_self:PySem.W.nsIn K g.makers "self"=u_ (u_ (-a.Xt))
 k_copy:PySem.W.nsIn K g.makers "copy"=u_ (u_ (-a.Xc))
 k_row:PySem.W.nsIn K g.makers "row"=u_ (u_ (-a.zU))
 k_put:PySem.W.nsIn K g.makers "put"=u_ (u_ (-a.zr))
 k_join:PySem.W.nsIn K g.makers "join"=u_ (u_ (-a.xQ))
 k_first:PySem.W.nsIn K g.makers "first"=u_ (u_ (-a.Jq))
 k_rest:PySem.W.nsIn K g.makers "rest"=u_ (u_ (-a.Xd))
 k_size:PySem.W.nsIn K g.makers "size"=u_ (u_ (-a.xR))
 k_cut:PySem.W.nsIn K g.makers "cut"=u_ (u_ (-a.zZ))
 k_glue:PySem.W.nsIn K g.makers "glue"=u_ (u_ (-a.xU))
 k_no:∀z>Acf,PySem.W.nsIn K g.makers z=u_ U_
 none_:∀z,xx z=U_->PySem.W.nsIn K g.forms z=u_ U_
 m_BadRule:mg "BadRule"=u_ (-g.br)
 x_BadRule:PySem.W.excIn K g.br VE "ValueError.__new__"=v_
 m_BadName:mg "BadName"=u_ (-g.bn)
 x_BadName:PySem.W.excIn K g.bn VE "ValueError.__new__"=v_
 m_BadAnswer:mg "BadAnswer"=u_ (-g.ba)
 e_BadAnswer:PySem.W.exmOne K (-g.ba) (-g.ba)=u_ v_
 m_WrightError:mg "WrightError"=u_ (-g.we)
 ew:PySem.W.exmOne K (-g.bn) (-g.we)=u_ v_
 xc:AwV.ExcCls K g.bn
variable {n:Nat}
def yQ (h:n<=1000):n<=sizeLine:=V4 (X5 h)
def sml (h:Nat.ble n 1000=v_):n<=sizeLine:=yQ (Nat.le_of_ble_eq_true h)
def nj (h:n<=16000000):n<=sizeLine:=by rw[uE];omega
def zq {α:Type}{xs:om α}{i:Int}{c:α}(h:atI xs i=u_ c):c>xs:=by
 unfold atI at h;erw[Option.bind_eq_some_iff.mp h,j,_,e];exact vg e
variable {z:Str}
def Am (h:300<↑z):QA z=false:=by
 unfold QA;rw[um ()]
 rfl
abbrev Mi:D->Bool
 | .str z=>QA z
 |_=>Vc
inductive ka:Sp
 |mk (v:_)(d:_)(_:vs= [v])(_:Is H d v)(_:Q (.bl (Mi d)) H)
inductive kW:Sp
 |mk (v:_)(d:_)(_:vs= [v])(_:Is H d v)(_:∀H',ic H H'->Q (.bl (isT d)) H')
abbrev pr (p:D×Nat):D:=-[p.1,.int (p.2:Int)]
variable {i:Nat}
def CU {c:Nat}(h:z.cps[i]? =u_ c)(O:QF c=Vc):QA z=false:=by
 unfold QA;have hm:c>z.cps.toList:=by
  have:z.cps.toList[i]? =u_ c:=by simpa using h
  exact vg this
 have:z.cps.toList.all QF=false:=by
  rw[List.all_eq_false];exact⟨c,hm,by rw[O];exact ud⟩
 rw[this,Tl]
section
variable {P:og}{w:oh}{K:o0}{mg:Str->oq o6}{base:o9}{a:Ad}
def kz:#[T,1,a.f_is_text,a.d_is_text,["value"],ka]:=by
 exists 9,T.mJ,kn
 erw[h,v,d,rfl,hv,k];exists 3,%[@qH _ _ _ _ _ _ _ _ #[XN,#[Qo,#[Qc,#[qA,#[qU,2,rfl],T.qR,vc,#v[pv 0,#[Q9,.ty "str",T.ZS,UV]]]]],#[j8,#[qq,CQ,#[qA,ZD,T.yR,uO,#v[pv 0]],#[Kq,T.m_MOST_SIGNS],qw _]]].pt %[|#[qo,YA]] qt,#[Ym,#[Nd,4,pv 0],#[qM,(1),kn.nd],%[|@qH _ _ _ _ _ _ _ _ #[XN,#[qq,D5,pv 1,ql,qw _],#[XN,#[qq,D9,pv 1,ql,qw _],#[j8,#[qq,QN,#[qA,ME,T.z_ord,boot_ord,#v[pv 1]],#[Kq,T.m_PERCENT],qw _]]]].pt %[|#[qo,YA]] qt]]|#[qo,YA]]
 exists 0,v,"str",tyD d,isStr d,1,hv.ty,jS d,0;cases d with
 |str z=>
  erw[hv,rfl,hz];refine iL ?_
  exists 0,z,1,hz,_,0,1,0;refine lW (λc=>?_) (λc=>?_)
  .have c':(300:Int)<(↑z:Int):=uA c;have e:Mi (!z)=false:=Am ()
   rwa[e] at k
  .have c':¬(300:Int)<(↑z:Int):=λq=>c (uj q)
   exists 0,z,1
   let J1_:Nat->L2.St->Hp->Prop:=λi σ H'=>(∃x,σ= [u_ (!z),x])/\H'=H/\(z.cps.toList.take i).all QF=v_
   refine SF J1_ [⟨0⟩:1:1] ?_ ?_
   .rintro i c σ H' hc ⟨⟨x,rfl⟩,rfl,O⟩;have bad:QF c=Vc->Q (.bl Vc) H':=λe=>by
     have e':Mi (!z)=false:=CU hc e;rwa[e'] at k
    exists 0,_,0,1,0;rw[show decide ((⟨#[c]⟩:Str).cps.toList<(" ":Str).cps.toList)=decide (c<32) from Abv c 32]
    refine lW (λZ=>?_) (λZ=>?_)
    .refine ky (bad ?_);have:=uA Z;unfold QF;rw[um ()]
     rfl
    .have aa:¬c<32:=λq=>Z (uj q)
     exists 0,_,0,1,0;rw[show decide (("~":Str).cps.toList<(⟨#[c]⟩:Str).cps.toList)=decide (126<c) from Abg c 126]
     refine lW (λc2=>?_) (λc2=>?_)
     .refine ky (bad ?_);have:=uA c2;unfold QF;rw[um (p:=c<=126) (),Tl]
      rfl
     .have ac:¬126<c:=λq=>c2 (uj q)
      exists 0,0,1,1,0;refine lW (λc3=>?_) (λc3=>?_)
      .have U:c=37:=by
        have:=uA c3;have:=V.int.inj this;exact pI this
       exact bad (by subst U;rfl)
      .have U:c≠37:=λq=>c3 (uj (by rw[q];rfl))
       exists ⟨0⟩,1;rw[vj,show z.cps.toList[i]? =u_ c by simpa using hc,US,O]
       show(v_&&(QF c&&v_))=v_;unfold QF;rw[uj (),uj (p:=c<=126) (),uj U]
       rfl
   .rintro σ H' ⟨⟨x,rfl⟩,rfl,O⟩;have e:Mi (!z)=true:=by
     show QA z=v_;unfold QA;rw[vt (by simp)] at O
     rw[O,uj ()]
     rfl
    rwa[e] at k
 |_=>exact ky (ky k)
def BL {α β:Type}(f:α->β)(xs:om α)(x:α):(xs++ [x]).map f=xs.map f++ [f x]:=by simp
def Sq {α:Type}(us:om α)(x:α):(us++ [x])[↑(us++ [x])-1]? =u_ x:=by simp
def Ij {α:Type}(us:om α)(x:α):(us++ [x]).dropLast=us:=by simp
abbrev Wt (v:V)(d:D)(H:Hp)(L:o3)(m:Nat)(σ:L2.St)(H':Hp):Prop:=
 ∃(n:Nat) (w:om (D×Nat)) (ws:om V) (x3 x4 x5:oq V),σ= [u_ v,u_ (.int n),u_ (-L),x3,x4,x5]/\ic H H'/\H' L=u_ (.lst ws)/\IsL H' (w.map pr) ws/\G w n=isT d/\n<=600/\↑w<=1+40*n/\m=ndL (w.map (·.1))
def jr:#[T,2,a.f_is_tree,a.d_is_tree,["value"],kW]:=by
 have wU:=#[kz,T];refine T.iX.F.ok yw () (λ_ _ _ _ H vs Q E hr h=>?_)
 erw[h,v,d,rfl,hv,k];exists 3,%[#[qE,(1),yw.nd,qh],#[qE,(2),yw.nd,#[QR,#v[#[qG,#v[pv 0,qh]]]]],#[ZV,6,uT,#[Bu,3,pv 2,(λ_=>rfl)],%[#[qE,(3),yw.nd,#[Nf,9,vd,PySem.F.slot_list_pop,PySem.F.type_list_pop,Nq,pv 2,_,_]],#[qE,(4),yw.nd,#[qC,qD,pv 3]],#[qE,2,(5),4,yw.nd,rfl,Gk rfl,#[qC,qD,pv 3],_,_],@qH _ _ _ _ _ _ _ _ #[Bt,7,#[Qc,#[qA,#[qU,2,rfl],T.qR,vc,#v[pv 4,#[Q9,.ty "tuple",T.QG,vw]]]],#[qac,4,#[qq,D7,#[qA,k9,T.yR,uO,#v[pv 4]],#[Kq,T.m_MOST_PARTS],qw _]]].pt %[#[M9,2,(1),6,yw.nd,rfl,GR rfl,qh,Nz,_]|#[qX,#[jU,vd,PySem.F.slot_list_extend,PySem.F.type_list_extend,oR,pv 2,#v[#[xO,["below","depth"],(1),[5],IR (qj XT) ["value","size","waiting","pair","part","depth"],#[wW,pv 4],(λ_ _ _ _ _ _=>#[qM,(0),(show Vr (["below","depth"]:om Str) by decide+kernel)]),(λ_ _ _ _ _ _=>#[qG,#v[pv 0,#[Qh,Yg,pv 1,qh]]])]]]]] %[|#[qH,#[Qc,#[qp,wU,hr.mono (),T.mJ,#v[pv 4]]],%[|#[M9,2,(1),6,yw.nd,rfl,GR rfl,#[Qh,Yg,qh,#[qA,k9,T.yR,uO,#v[pv 4]]],Nz,_]],%[|#[qo,YA]]]]|@qH _ _ _ _ _ _ _ _ #[XN,#[qq,CQ,pv 5,#[Kq,T.m_MOST_DEPTH],qw _],#[j8,#[qq,CQ,pv 1,#[Kq,T.m_MOST_SIZE],qw _]]].pt %[|#[qo,YA]] qt]]|#[qo,YA]]
 have no:∀{H':Hp}{w:om (D×Nat)}{n:Nat},ic H H'->G w n=isT d->G w n=Vc->Q (.bl Vc) H':=λ{H' w n} sm e1 e2=>by
  have q:=k H' sm;rwa[<-e1,e2] at q
 exists 0,(sml rfl),λt1 h1=>[(sml rfl):λL hL=>?_];have s1:ic H (upd H t1 (-[v,.int 1])):=qf h1 _;have s2:ic H (upd (upd H t1 (-[v,.int 1])) L (.lst [-t1])):=s1.trans (qf hL _);have ak:H L=none:=s1.free hL;have i1:Is (upd H t1 (-[v,.int 1])) (pr (d,1)) (-t1):=Is.new (ds:= [d,.int 1]) ⟨v,0,hv,_,0,1,1⟩ h1
 exists Wt v d H L,⟨_,(0),[(d,1)],[-t1],U_,U_,U_,1,s2,qg,IsL.one (i1.mono (qf hL _).tk),S6 d,(),by simp,1⟩
 rintro m σ H' ⟨n,w,ws,x3,x4,x5,rfl,sm,hl,hw,hG,hn,am,rfl⟩
 exists 0,!(ws.isEmpty),.inl [ws:SqL.of hl:1];rcases Tn w with rfl|⟨w',⟨e,j⟩,rfl⟩
 .cases(show ws= [] from hw)
  refine iL ?_;have q:=k H' sm;rwa[<-hG,AdN hn] at q
 .rw[Rm] at*;rw[BL] at hw;erw[hw.unsnoc,us,x,rfl,hu,hx];have ne:(!(us++ [x]).isEmpty)=true:=by simp
  rw[ne];refine ky ⟨λσ' ao=>∃m',m'<ndL ((w'++ [(e,j)]).map (·.1))/\Wt v d H L m' σ' ao,λ_ _ h=>h,?_⟩;have hm:ndL ((w'++ [(e,j)]).map (·.1))=ndL (w'.map (·.1))+nd e:=by
   rw[BL,zX];simp[ndL]
  have aq:↑w'<=40*n:=by
   rw[uF,vG] at am;omega
  have lu:=↑hu;rw[uc] at lu
  exists 0,.inl [1:_:SqL.of hl],L,_,x,1,1,hl,Sq us x;rw[Ij];have t2:Tk H' (upd H' L (.lst us)):=Tk.updL hl;have O:ic H (upd H' L (.lst us)):=λb o z=>by rw[qi (qk z ak)];exact sm b o z
  have ae:Is (upd H' L (.lst us)) (-[e,.int (j:Int)]) x:=hx.mono t2;have af:IsL (upd H' L (.lst us)) (w'.map pr) us:=hu.mono t2;have U:upd H' L (.lst us) L=u_ (.lst us):=qg;generalize upd H' L (.lst us)=H2 at t2 O ae af U⊢;clear t2 hl hx hu sm
  exists 0,xZ (i:=0) ae rfl λy hy=>?_
  exists 0,xZ (i:=1) ae rfl λy1 ap=>?_;cases(show y1= .int (j:Int) from ap)
  show ni _ _ _ _ H2;refine qB λN0 n0=>n0 _ _ ?_;exists 8,BB,bb;have ad:∀(n':Nat) (w2:om (D×Nat)) (aa:om V) (H3:Hp),ic H H3->H3 L=u_ (.lst aa)->IsL H3 (w2.map pr) aa->(j<=12->n'<=600->G w2 n'=isT d)->(12<j\/600<n'->isT d=Vc)->↑w2<=1+40*n'->ndL (w2.map (·.1))<ndL ((w'++ [(e,j)]).map (·.1))->
    BB [u_ v,u_ (V.int (n':Int)),u_ (V.ref L),u_ x,u_ y,u_ (V.int (j:Int))] H3:=by
   intro n' w2 aa H3 s3 l3 i3 g3 b3 al m3;have bad:isT d=Vc->Q (.bl Vc) H3:=λe=>by
    have q:=k H3 s3;rwa[e] at q
   refine bb _ _ ?_
   exists 0,_,0,1,0;refine lW (λc=>ky (bad (b3 (.inl ?_)))) (λc=>⟨0,_,0,1,0,?_⟩)
   .have:=uA c;omega
   .have c':¬(12:Int)<(j:Int):=λq=>c (uj q);refine lW (λc2=>bad (b3 (.inr ?_))) (λc2=>?_)
    .have:=uA c2;omega
    .have au:¬(600:Int)<(n':Int):=λq=>c2 (uj q);exact⟨_,m3,n',w2,aa,_,_,0,s3,l3,i3,g3 () (),(),al,1⟩
  exists 0,y,"tuple",tyD e,zp e,1,hy.ty,xF e,0;cases e with
  |tup xs=>
   refine ky ?_;erw[hy,a0,vs,rfl,ac,ag];have lv:=↑ag
   exists 0,_,↑vs,1,.inr [vs:SqT.of ac:1],_,0,1,0;refine lW (λc=>?_) (λc=>?_)
   .have c':(↑vs:Int)<=40:=uA c
    exists 0,_,0,1
    exists 0,.inl [1:_:SqL.of U],0,a0,vs,1,SqT.of ac,λaw A0 ah=>?_;refine At (tl:= [u_ (.int (j:Int))]) (λZ=>-[Z,.int ((j+1:Nat):Int)]) ac ag (nj ()) ah (λZ x0 H3 R _ s3 i3 r=>?_) λH3 ys s3 l3 i3=>?_
    .exists 0,0,_,0,1,(sml rfl),λp hp=>?_;exact r _ _ (qf hp _) (Is.new (ds:= [Z,.int ((j+1:Nat):Int)]) ⟨x0,0,i3,_,0,1,1⟩ hp)
    .have ly:=↑i3;rw[uc] at ly;have eA:A0≠L:=λz=>by rw[z,U] at ah;cases ah
     exists L,A0,us,ys,1,1,s3 _ _ U,l3,nj ()
     have t4:Tk H3 (upd H3 L (.lst (us++ys))):=Tk.updL (s3 _ _ U);have em:(w'++xs.map λZ=>(Z,j+1)).map pr=w'.map pr++xs.map λZ=>-[Z,.int ((j+1:Nat):Int)]:=by
      rw[uq,uP];rfl
     have ef:(w'++xs.map λZ=>(Z,j+1)).map (·.1)=w'.map (·.1)++xs:=by
      rw[uq,uP]
      congr 1
      exact tu xs
     refine ad (n+1) (w'++xs.map λZ=>(Z,j+1)) (us++ys) _ (λb o z=>by rw[qi (qk z ak)];exact s3 b o (O b o z)) qg (by rw[em];exact((af.mono s3.tk).mono t4).append (i3.mono t4)) (λh1 h2=>?_) (λh=>?_) ?_ ?_
     .rw[<-hG,AdL () h1]
     .rw[<-hG];rcases h with h|h
      .exact NQ h
      .exact Acr h
     .rw[uF,uc];omega
     .rw[ef,hm,zX];simp![nd];omega
   .have c':¬(↑vs:Int)<=40:=λq=>c (uj q)
    exists 0,_,¬xs,1,(show Is _ (¬xs) (-a0) from⟨a0,vs,1,ac,ag⟩),0
    refine iL ?_;refine no O hG (S7 ?_);simp![iR];rw[um ()]
    rfl
  |str z=>
   refine iL ?_;erw[hy,rfl,hz]
   exists 0,_,!z,1,[1:hz],0;cases ht:QA z with
   |false=>
    have e1:Mi (!z)=false:=ht;rw[e1];refine iL ?_;refine no O hG (S7 ?_);simp![iR];exact ht
   |true=>
    have e1:Mi (!z)=true:=ht;rw[e1];refine ky ?_
    exists 0,0,_,↑z,1,[hz:1],_,0,1,_,0,1;have en:(n:Int)+(1+(↑z:Int))=((n+(1+↑z):Nat):Int):=by omega
    show BB [u_ v,u_ (V.int ((n:Int)+(1+(↑z:Int)))),u_ (V.ref L),u_ x,u_ (V.str z),u_ (V.int (j:Int))] _;rw[en];refine ad (n+(1+↑z)) w' us _ O U af (λh1 h2=>?_) (λh=>?_) () (by rw[hm];simp![nd];omega)
    .rw[<-hG,AdM ht h1]
    .rw[<-hG];rcases h with h|h
     .exact NQ h
     .refine Acs ?_;simp![sz];omega
  |_=>
   refine iL ?_
   exact⟨0,_,0,hy,0,iL (no O hG (S7 rfl))⟩
abbrev LET:Str:="abcdefghijklmnopqrstuvwxyz"
abbrev NSG:Str:="abcdefghijklmnopqrstuvwxyz0123456789./"
abbrev nm (z:Str):Bool:=decide (1<=(↑z:Int))&&decide ((↑z:Int)<=24)&&inS ⟨#[z.cps.getD 0 0]⟩ LET&&(z.cps.toList.map λc=>inS ⟨#[c]⟩ NSG).all id
abbrev mG:D->Bool
 | .str z=>nm z
 |_=>Vc
inductive Ov:Sp
 |mk (v:_)(d:_)(_:vs= [v])(_:Is H d v)(_:∀H',ic H H'->Q (.bl (mG d)) H')
def Ca (h:1<=↑z):atI z.cps.toList 0=u_ (z.cps.getD 0 0):=by
 have h':0<z.cps.size:=h;have q:z.cps.toList[0]? =u_ (z.cps.getD 0 0):=by simp[Array.getD,h']
 exact qz q
def Aca (z:Str):(z.cps.toList.map λc=>V.bl (inS ⟨#[c]⟩ NSG))=(z.cps.toList.map λc=>inS ⟨#[c]⟩ NSG).map V.bl:=by
 rw[uP]
 rfl
def BH (h:¬(1<=(↑z:Int)/\(↑z:Int)<=24)):nm z=false:=by
 unfold nm;by_cases h1:1<=(↑z:Int)
 .have h2:¬(↑z:Int)<=24:=λq=>h [h1:q];rw[um h2];simp
 .rw[um h1];simp
def BI (h:inS ⟨#[z.cps.getD 0 0]⟩ LET=Vc):nm z=false:=by
 unfold nm;rw[h];simp
def Ew (h1:1<=(↑z:Int))(h2:(↑z:Int)<=24)(h:inS ⟨#[z.cps.getD 0 0]⟩ LET=v_):nm z=(z.cps.toList.map λc=>inS ⟨#[c]⟩ NSG).all id:=by
 unfold nm;rw[h,uj h1,uj h2];simp
def xB:#[T,1,a.f_is_name,a.d_is_name,["value"],Ov]:=by
 exists 9,T.iJ,CC
 erw[h,x,d,rfl,hv,k];exists 3,%[@qH _ _ _ _ _ _ _ _ #[XN,#[Qo,#[Qc,#[qA,#[qU,2,rfl],T.qR,vc,#v[pv 0,#[Q9,.ty "str",T.ZS,UV]]]]],#[j8,#[Qo,#[Bv,12,D7,D7,qh,#[qA,ZD,T.yR,uO,#v[pv 0]],#[Kq,T.zS],_]]]].pt %[|#[qo,YA]] qt,#[qH,#[qq,oE,#[qC,BS,pv 0],#[Aa9,4,_,T.m_LETTERS,_],#[w]],%[|#[qo,YA]],qt]|#[qo,#[qA,#[ze,1,rfl],T.z_all,HY,#v[#[xO,["sign"],(1),[],Sm,#[Nd,4,pv 0],(λ_ _ _ _ _ _=>#[qM,(0),(show Vr (["sign"]:om Str) by decide+kernel)]),(λ_ _ _ _ _ _=>#[Qw,8,D8,pv 0,#[Aa9,4,_,T.m_NAME_SIGNS,_],#[w]])]]]]]
 exists 0,x,"str",tyD d,isStr d,1,hv.ty,jS d,0;cases hd:isStr d with
 |false=>
  refine ky (ky ?_);have:=k H (ic.refl H);have e:mG d=false:=by cases d<;>first|rfl|simp[isStr] at hd
  rwa[e] at this
 |true=>
  obtain⟨z,rfl⟩:∃z,d= !z:=by cases d<;>simp[isStr] at hd;exact⟨0⟩
  erw[hv,rfl,hz];have k:∀H',ic H H'->Q (.bl (nm z)) H':=k;refine iL ?_
  exists 0,z,1,hz,_,0,1,0;have stop:nm z=Vc->Q (.bl Vc) H:=λe=>by
   have:=k H (ic.refl H);rwa[e] at this
  refine lW (λU=>?_) (λU=>?_)
  .have Z:1<=(↑z:Int):=uA U
   exists _,0,1,0;by_cases O:(↑z:Int)<=24
   .rw[uj O];refine iL ?_
    exists 0,_,_,0,1,hz,Ca (),_,0,1,0
    cases e:inS ⟨#[z.cps.getD 0 0]⟩ LET with
    |false=>
     have e':(!(hW ("abcdefghijklmnopqrstuvwxyz":Str) ⟨#[z.cps.getD 0 0]⟩ 0 ("abcdefghijklmnopqrstuvwxyz":Str).length 1).isEmpty)=false:=e;rw[e'];refine ky ?_;exact stop (BI e)
    |true=>
     have e':(!(hW ("abcdefghijklmnopqrstuvwxyz":Str) ⟨#[z.cps.getD 0 0]⟩ 0 ("abcdefghijklmnopqrstuvwxyz":Str).length 1).isEmpty)=true:=e;rw[e'];refine iL ?_
     exists 0,z,1,λD hD=>?_;refine Abz (λc=> .bl (inS ⟨#[c]⟩ NSG)) (hz) hD (λi c H' R hc sm r=>⟨0,_,0,1,r⟩) λH' sm hl=>?_
     exists D,z.cps.toList.map λc=>inS ⟨#[c]⟩ NSG,1,SqL.of (by rw[hl,Aca])
     have:=k H' sm;rwa[Ew Z O e] at this
   .rw[um O];refine ky ?_;exact stop (BH λq=>O q.2)
  .exists 0;refine ky ?_;exact stop (BH λq=>U (uj q.1))
end
abbrev Aab:oq Pt->D
 |none=> .non
 |some p=>p.d
inductive Oq:Sp
 |mk (n:Nat)(kd:Kd)(z:Str)(_:vs= [!kd.t,!z,.int (n:Int)])(_:n<=40)(_:↑z<=300)(_:∀(v:V)(H':Hp),ic H H'->Is H' (Aab (Yl n kd z)) v->Q v H')
inductive DA (K:PySem.W.Frag):Sp
 |mk (z:Str)(ks:List Kd)(q:Addr)(_:vs= [!z,-q])(_:↑z<=300)(_:↑ks<=3)(_:SqT K H q (ks.map λk=>V.str k.t))(_:∀p,H p=U_->Q (-p) (upd H p (.lst ((pcs ks z).map V.str))))
def Qr {c:Bool}{A B:Prop}(h:c=Vc)(b:B):if c=v_ then A else B:=by rw[A4 (by rw[h];exact ud)];exact b
def QP {c:Bool}{A B:Prop}(h:c=v_)(a:A):if c=v_ then A else B:=by rw[A6 h];exact a
def zV (ks:om Kd):(ks.map λk=>V.str k.t)=(ks.map Kd.t).map V.str:=by rw[uP];rfl
def IV (ks:om Kd):inV (-"words") (ks.map λk=>V.str k.t)=decide (Kd.words>ks):=by
 rw[zV,zL,ve,Ae];constructor
 .rintro⟨k,O,e⟩;cases k with
  |words=>exact O
  |box=>exact A8 e ()
  |line=>exact A8 e ()
 .intro h;exact[_:h:1]
def BZ:∀x>FRM,↑x.2<=3:=by decide+kernel
def KS (h:z∉BX):Yl n .box z=none:=by
 unfold Yl;exact A4 h
def XR (h:z>BX):Yl n .box z=u_ (.s z):=by
 unfold Yl;exact A6 h
def WK (h:z∉(Vp n).map λi:Nat=>(Vn (1+(i:Int)):Str)):Yl n .line z=none:=by
 unfold Yl;rw[T5,Uv];intro i hi e;exact h (Ae.mpr [i:hi:uA e])
def xm (h:z>(Vp n).map λi:Nat=>(Vn (1+(i:Int)):Str)):∃j:Int,1<=j/\j<=n/\z=(Pt.n j).t/\Yl n .line z=u_ (.n j):=by
 erw[Ae.mp h,i,hi,e];unfold Yl;cases e2:(Vp n).find? λi:Nat=>decide ((Vn (1+(i:Int)):Str)=z) with
 |none=>exact A8 (uj e) (List.find?_eq_none.mp e2 i hi)
 |some j=>
  have h1:=HR e2;have h2:=List.mem_range.mp (Ua e2);exact⟨1+(j:Int),(),(),(uA h1).symm,by show rA _ _=_;rw[e2];rfl⟩
section
variable {P:og}{w:oh}{K:o0}{mg:Str->oq o6}{base:o9}{a:Ad}{g:Ga}
def Pv:#[C,1,a.f_part_of,a.d_part_of,["kind","piece","count"],Oq]:=by
 exists 9,T.nw,kU
 erw[h,n,kd,z,rfl,hn,hz,k];exists 3,%[#[qH,#[qq,QN,pv 0,ql,qw _],%[|#[qo,pv 1]],qt],#[qH,#[qq,QN,pv 0,ql,qw _],%[|#[qo,#[yd,#[qq,Q0,pv 1,#[pe_gR,C.m_BOXES],#[w]],pv 1,qT]]],qt],#[Bw,2,["number"],(1),[],(3),12,kU.nd,rfl,GR rfl,Sm,rfl,#[DW,7,_,T.jh,#v[qh,#[Qh,Yg,pv 2,qh]],_,_],(λ_ _ _ _ _ _=>#[qM,(0),(show Vr (["number"]:om Str) by decide+kernel)]),(λ_ _ _ _ _ _=> @yf _),(λ_ _ _ _ _ _=>#[Qg,JK,T.ZS,UV,#v[pv 0]]),_,_,_]|#[qo,#[yd,#[qq,Q0,pv 1,pv 3,#[w]],#[Qg,IH,T.z_int,boot_int,#v[pv 1]],qT]]]
 exists 0,1,0;cases kd with
 |words=>
  refine QP () [0:?_]
  exact k _ H (ic.refl _) [1:yQ ()]
 |box=>
  refine Qr () ⟨0,1,0,?_⟩
  refine QP () ⟨0,g.boxes,0,.inr (C.boxes _),1,Wa _,0,?_⟩
  rw[A4 ud,zL];refine lW (λc=>?_) (λc=>?_)
  .have U:z>BX:=uA c;rw[XR U] at k;exact[0:k _ H (ic.refl _) [1:yQ ()]]
  .have U:z∉BX:=λq=>c (uj q);rw[KS U] at k;exact k _ H (ic.refl _) rfl
 |line=>
  refine Qr () ⟨0,1,0,?_⟩
  refine Qr () ?_
  exists 0,_,0,1,(1),(n:Int)+1,1,⟨(),(),(),()⟩,λL hL=>?_
  rw[show((n:Int)+1-1).toNat=n by omega]
  refine X2 (lo:=1) (tl:= []) (λi ys H'=>ys=(Vp i).map (λi:Nat=>V.str (Vn (1+(i:Int))))/\ic H H') (nj ()) [1:qf hL _] ?_ ?_
  .rintro i ys H' hi ⟨rfl,sm⟩ O Z R hR
   exists 0,0,?_,hR _ _ O [?_:?_]
   .have h1:(1+(i:Int)).natAbs<=41:=by omega
    have h2:=To (1+(i:Int)).natAbs;omega
   .rw[RX,uq]
    rfl
   .intro b o e;rw[qi (qk e hL)];exact sm b o e
  .rintro ys H' ⟨rfl,sm⟩ O;have Z:(Vp n).map (λi:Nat=>V.str (Vn (1+(i:Int))))=((Vp n).map λi:Nat=>(Vn (1+(i:Int)):Str)).map V.str:=by rw[uP];rfl
   exists 5
   refine⟨0,0,L,0,.inl (SqL.of O),1,by rw[Z];exact Wa _,0,?_⟩
   rw[A4 ud,Z,zL];refine lW (λc=>?_) (λc=>?_)
   .erw[xm (uA c),j,j1,j2,rfl,ej];rw[ej] at k;have hj:=oP j1 ()
    exact⟨0,_,j,1,qaj j1 (),uY hj.1 (),k _ _ sm rfl⟩
   .rw[WK λq=>c (uj q)] at k;exact k _ _ sm rfl
def Em:#[T,1,a.wT,a.Z1,["line","form"],(DA K)]:=by
 exists 9,T.mO,nU,Z
 erw[h,z,ks,q,rfl,hz,hk,U,k];exists 3,%[#[qH,#[qq,Q0,ql,pv 1,#[w]],%[|#[qo,#[jU,uZ,Uq,Ur,EA,pv 0,#v[ql,#[qA,qN,T.yR,uO,#v[pv 1]]]]]],qt]|#[qo,#[jU,uZ,Uq,Ur,BK,pv 0,#v[ql]]]]
 exists 5
 refine⟨0,q,0,.inr U,1,by rw[zV];exact Wa _,0,?_⟩
 rw[A4 ud,IV];unfold pcs at k;refine lW (λc=>?_) (λc=>?_)
 .have O:Kd.words>ks:=uA c;rw[A6 O] at k;have h0:0<↑ks:=List.length_pos_iff.mpr λe=>by rw[e] at O;simp at O
  exact⟨0,1,0,q,0,.inr U,_,↑ks,1,by rw[uc],(),h0,(),k⟩
 .have O:Kd.words∉ks:=λz=>c (uj z);rw[A4 O] at k;exact⟨0,1,0,1,(),k⟩
abbrev Ad0:oq Rw->D
 |none=> .non
 |some r=>rowD r
abbrev Qp (n:Nat):D->oq Rw
 | .str z=>Wi n z
 |_=>U_
inductive Dz:Sp
 |mk (v:V)(d:D)(n:Nat)(_:vs= [v,.int (n:Int)])(_:Is H d v)(_:n<=40)(_:∀(v':V)(H':Hp),ic H H'->Is H' (Ad0 (Qp n d)) v'->Q v' H')
def CI:∀{d:D},Mi d=Vc->Qp n d=U_
 | .str z,h=>by
  show Wi n z=U_;unfold Wi;exact A4 (by rw[show QA z=Vc from h];exact ud)
 | .non,_=>rfl
 | .int _,_=>rfl
 | .bl _,_=>rfl
 | .lst,_=>rfl
 | .dct,_=>rfl
 | .tup _,_=>rfl
def NX:∀{d:D},Mi d=v_->∃z,d= !z
 | .str z,_=>[z:1]
abbrev Jj (n:Nat)(ks:om Kd)(zs:om Str):om (oq Pt):=List.zipWith (Yl n) ks zs
def kJ {n:Nat}:∀{ks:om Kd}{zs:om Str},(Jj n ks zs).any Ho=v_->Yq n ks zs=U_
 | [],_,h=>by simp[Jj] at h
 |_::_,[],h=>by simp[Jj] at h
 |k::ks,z::zs,h=>by
  rw[Jj,Ts,Uh,HG] at h;unfold Yq;rcases h with h|h
  .rw[Option.isNone_iff_eq_none.mp h]
  .rw[kJ h];split
   .rename_i h1 h2;cases h2
   .rfl
def kg {n:Nat}:∀{ks:om Kd}{zs:om Str},↑zs=↑ks->(Jj n ks zs).any Ho=Vc->∃ps,Yq n ks zs=u_ ps/\Jj n ks zs=ps.map u_
 | [],[],_,_=>[[]:1:1]
 | [],_::_,hl,_=>by simp at hl
 |_::_,[],hl,_=>by simp at hl
 |k::ks,z::zs,hl,h=>by
  rw[Jj,Ts,Uh,Bool.or_eq_false_iff] at h;obtain⟨ps,O,e2⟩:=kg (ks:=ks) (zs:=zs) (by simpa using hl) h.2
  cases e:Yl n k z with
  |none=>rw[e] at h;cases h.1
  |some p=>
   exists p::ps,?_,?_
   .unfold Yq;rw[e,O]
   .rw[Jj,Ts,e,uC]
    congr 1
def MO {H:Hp}:∀{os:om (oq Pt)}{vs:om V},L2.IsL H (os.map Aab) vs->vs.all ZP=v_/\inV .non vs=os.any Ho
 | [],_,h=>by cases(show _= [] from h);exact[1:1]
 |q::ps,_,h=>by
  erw[h,v,r,rfl,h1,h2];erw[MO h2,U,Z];have O:ZP v=v_/\eqV v .non=q.isNone:=by
   cases q with
   |none=>cases(show v= .non from h1);exact[1:1]
   |some q=>
    cases q with
    |s z=>erw[h1,rfl,_];exact[1:1]
    |n i=>cases(show v= .int i from h1);exact[1:1]
  exists ?_,?_
  .rw[vF,O.1,U];rfl
  .show(eqV v .non||inV .non r)=_
   rw[O.2,Z];rfl
def DT {α:Type}(l:om α)(h:α->D)(f:Nat->D)(O:∀i q,l[i]? =u_ q->f i=h q):(Vp ↑l).map f=l.map h:=by
 apply List.ext_getElem
 .simp
 .intro i h1 h2;simp![uc,List.length_range] at h1;simp![List.getElem_map,List.getElem_range];exact O i l[i] (ui h1)
def Ej:#[C,2,a.f_row_of,a.d_row_of,["line","count"],Dz]:=by
 have wU:=#[kz,T];have Z:=#[Pv,T,C];have O:=#[Em,T];refine T.sC.F.ok JM () (λ_ _ _ _ H vs Q E hr h=>?_)
 erw[h,v,d,n,rfl,hv,hn,k];exists 3,%[#[qH,#[Qo,#[Qc,#[qp,wU,hr.mono (),T.mJ,#v[pv 0]]]],%[|#[qo,qT]],qt],#[qE,(2),JM.nd,#[qC,qD,#[jU,uZ,PySem.F.slot_str_partition,PySem.F.type_str_partition,Sj,pv 0,#v[ql]]]],#[qH,#[qq,Pd,pv 2,#[pe_gR,C.m_FORMS],#[w]],%[|#[qo,qT]],qt],#[qE,(3),JM.nd,#[qC,7,Ad2,#[pe_gR,C.m_FORMS],pv 2,(λ_ _=>rfl)]],#[qE,(4),JM.nd,#[qp,O,hr.mono (),T.mO,#v[pv 0,pv 3]]],#[qH,#[qq,LI,#[qA,qN,T.yR,uO,#v[pv 4]],#[Qh,Yg,qh,#[qA,qN,T.yR,uO,#v[pv 3]]],qw _],%[|#[qo,qT]],qt],#[qE,(5),JM.nd,#[Qg,qY,T.QG,vw,#v[#[xO,["kind","piece","count"],(2),[1],IR (qj ZU) ["line","count","word","form","pieces","parts"],#[Aa4,9,_,T.z_zip,#v[pv 3,#[ZY,10,DI,pv 4,#[WC,qh],qah]],_,_],(λ_ _ _ _ _ _=>#[Ah,1,K,3,(2),1,rfl,rfl,Qy #[qM,(0),(show Vr (["kind","piece","count"]:om Str) by decide+kernel)] (Qy #[qM,(1),(show Vr (["kind","piece","count"]:om Str) by decide+kernel)] JH),_,_]),(λ_ _ _ _ _ _=>#[qp,Z,hr.mono (),T.nw,#v[pv 0,pv 1,pv 2]])]]]]|#[qo,#[yd,#[qq,Q0,qT,pv 5,#[w]],qT,#[qG,#v[pv 2,pv 5]]]]]
 exists 0,v,d,1,hv,0;cases e0:Mi d with
 |false=>
  rw[CI e0] at k;exact QP rfl (k _ H (ic.refl _) rfl)
 |true=>
 erw[NX e0,z,rfl];erw[hv,rfl,aq];have ht:QA z=true:=e0;have hz:↑z<=300:=by
  have U:=ht;unfold QA at U;rw[uG,vk] at U;exact U.1
 have k:∀(v':V) (H':Hp),ic H H'->Is H' (Ad0 (Wi n z)) v'->Q v' H':=k;refine Qr rfl ?_
 exists 0,1,0,1,(),λt1 x1 x2 g1=>?_
 exists t1,_,(0),0,1,SqT.of qg,1;have s1:ic H (upd H t1 (-[.str (hd z),!x1,!x2])):=qf g1 _;generalize upd H t1 (-[.str (hd z),!x1,!x2])=H1 at s1⊢;unfold Wi at k;rw[A6 ht] at k;cases ef:xx (hd z) with
 |none=>
  rw[ef] at k
  exact⟨0,hd z,g.forms,0,1,C.kd,C.none_ _ ef,0,QP rfl (k _ _ s1 rfl)⟩
 |some ks=>
 have hk:=zE ef;rw[ef] at k;simp only at k;erw[C.forms _ hk,q,ag,aa];have hf:↑ks<=3:=BZ _ hk
 exists 0,hd z,g.forms,0,1,C.kd,ag,0;refine Qr rfl ?_
 exists 0,hd z,g.forms,_,-q,1,1,C.kd,ag,1
 exists 0,0,z,ks,q,1,hz,hf,aa _,λp2 g2=>?_;have s2:ic H1 (upd H1 p2 (.lst ((pcs ks z).map V.str))):=qf g2 _;have e2:(upd H1 p2 (.lst ((pcs ks z).map V.str))) p2=u_ (.lst ((pcs ks z).map V.str)):=qg;generalize upd H1 p2 (.lst ((pcs ks z).map V.str))=H2 at s2 e2⊢
 exists 0,p2,0,.inl (SqL.of e2),0,q,0,.inr (aa _),_,0,1,1,0;by_cases hl:↑(pcs ks z)=1+↑ks
 case neg=>
  rw[A4 hl] at k;refine QP ?_ (k _ _ (s1.trans s2) rfl);rw[uc,uc];show(!(decide) (V.int _=V.int _))=v_;rw[um]
  .rfl
  .intro q;have:(↑(pcs ks z):Int)=1+(↑ks:Int):=V.int.inj q;omega
 rw[A6 hl] at k;refine Qr ?_ ?_
 .rw[uc,uc,show(↑(pcs ks z):Int)=1+(↑ks:Int) by omega]
  simp
 have ae:↑((pcs ks z).drop 1)=↑ks:=by rw[U1];omega
 have ah:∀p>(pcs ks z).drop 1,↑p<=300:=λp hp=>by
  have U:=ht;unfold QA at U;rw[uG,vk] at U;exact(MT U.1 U.2 p (Rf hp)).1
 exists 0,0,0,p2,0,SqL.of e2,λp3 g3=>?_;have ak:Cj ((pcs ks z).map V.str) (u_ 1) U_=((pcs ks z).drop 1).map V.str:=by
  rw[show(u_ (1:Int))=u_ (((1:Nat)):Int) from rfl,wQ (by rw[uc];omega),List.map_drop]
 rw[ak];generalize (pcs ks z).drop 1=zs at ae ah k⊢;have s3:ic H2 (upd H2 p3 (.lst (zs.map V.str))):=qf g3 _;have e3:(upd H2 p3 (.lst (zs.map V.str))) p3=u_ (.lst (zs.map V.str)):=qg;generalize upd H2 p3 (.lst (zs.map V.str))=H3 at s3 e3⊢;have am:↑(Jj n ks zs)=↑ks:=by rw[Jj,List.length_zipWith];omega
 exists q,p3,_,0,aa _,SqL.of e3,λA1 gA=>?_;refine Abx (K:=K) (tl:= [u_ (.int (n:Int))]) (xs:=ks.map λk:Kd=>V.str k.t) (ys:=zs.map V.str) (λi=>Aab ((Jj n ks zs).getD i U_)) (λH' _=>aa H') (λH' sm=>SqL.of (sm _ _ e3)) (by simp[ae]) (by rw[uc];exact yQ ()) gA ?_ ?_
 .intro i x y H4 R hx hy s4 hR;rw[uK] at hx hy;cases af:ks[i]? with
  |none=>rw[af] at hx;cases hx
  |some kd=>
   rw[af] at hx;cases hx;cases ac:zs[i]? with
   |none=>rw[ac] at hy;cases hy
   |some z1=>
    rw[ac] at hy;cases hy
    exists 0,0,0,n,kd,z1,1,hn,ah _ (vg ac),λv H5 s5 hv=>hR v H5 s5 ?_;have e:(Jj n ks zs).getD i U_=Yl n kd z1:=by simp[Gb,Jj,List.getElem?_zipWith,af,ac]
    simp![e];exact hv
 intro H5 vs s5 e5 h5;have al:L2.IsL H5 ((Jj n ks zs).map Aab) vs:=by
  rw[uc,<-am] at h5;rw[DT (Jj n ks zs) Aab _ (λi q1 hi=>by simp[Gb,hi])] at h5
  exact h5
 exists A1,vs,1,.inl [SqL.of e5:λt6 g6=>?_];have s6:ic H5 (upd H5 t6 (¬vs)):=qf g6 _;have i6:Is (upd H5 t6 (¬vs)) (.tup ((Jj n ks zs).map Aab)) (-t6):=Is.new al g6;have e6:(upd H5 t6 (¬vs)) t6=u_ (¬vs):=qg;generalize upd H5 t6 (¬vs)=H6 at s6 i6 e6⊢;erw[MO al,f1,f2];have ad:=s1.trans (s2.trans (s3.trans (s5.trans s6)))
 exists 0,t6,vs,1,.inr (SqT.of e6),1,f1,0;rw[A4 ud,f2];refine lW (λc=>?_) (λc=>?_)
 .rw[kJ c] at k;exact k _ _ ad rfl
 .have c':(Jj n ks zs).any Ho=false:=by
   cases h:(Jj n ks zs).any Ho with
   |false=>rfl
   |true=>exact A8 h c
  erw[kg ae c',ps,q1,q2];rw[q1] at k;rw[q2,uP] at i6
  exists 0,0,(sml rfl),λt7 g7=>?_;have ao:↑(hd z)<=sizeLine:=by
   have ap:∀x>FRM,↑x.1<=100:=by decide+kernel
   have:=ap _ hk;exact yQ (by simp only at this;omega)
  exact k _ _ (ad.trans (qf g7 _)) (Is.new (ds:= [.str (hd z),.tup (ps.map Pt.d)]) ⟨_,0,[1:ao],_,0,i6,1⟩ g7)
def D0 {M:Nat}(hn:n<=40){k:Kd}{p:Pt}(h:Aa3 n M k p):Yl n k p.t=u_ p:=by
 cases k with
 |words=>
  cases p with
  |s z=>rfl
  |n i=>cases h
 |box=>
  cases p with
  |s z=>exact XR h
  |n i=>cases h
 |line=>
  cases p with
  |s z=>cases h
  |n i=>
   have h1:1<=i/\i<=n:=h;have hm:(Pt.n i).t>(Vp n).map λi:Nat=>(Vn (1+(i:Int)):Str):=Ae.mpr ⟨(i-1).toNat,List.mem_range.mpr (),by show(Vn (1+(((i-1).toNat:Nat):Int)):Str)=Vn i;rw[show 1+(((i-1).toNat:Nat):Int)=i by omega]⟩
   erw[xm hm,j,U,j2,Z,e];rw[e];have b1:=qaj (i:=i) h1.1 ()
   have b2:=qaj (i:=j) U ()
   have O:(Vn i:Str)=Vn j:=Z;rw[O,b2] at b1;rw[uM b1]
def W5 {n M:Nat}(hn:n<=40):∀{ks:om Kd}{ps:om Pt},Xk n M ks ps->Yq n ks (ps.map Pt.t)=u_ ps
 | [],[],_=>rfl
 |k::ks,p::ps,h=>by
  rw[uC];unfold Yq;rw[D0 hn h.1,W5 hn h.2]
 | [],_::_,h=>h.elim
 |_::_,[],h=>h.elim
variable {ks:om Kd}
def E8 {w:Str}(h:(w,ks)>FRM):xx w=u_ ks:=by
 cases e:xx w with
 |none=>exact A8 rfl (Z2 e _ h)
 |some O=>
  have:=E7 _ (zE e) _ h rfl;rw[(Prod.mk.inj this).2]
variable {r:Rw}
def CH {M:Nat}(hn:n<=40)(h:Ji n M r)(Z:QA (Yh r)=v_):Wi n (Yh r)=u_ r:=by
 have hh:=Sl h;erw[h,ks,U,O];unfold Wi;rw[A6 Z,hh,E8 U];simp only;have hs:pcs ks (Yh r)=txs r:=Me hn U O;have hl:=Zc O;rw[hs,A6 (by unfold txs;rw[uw,uc];omega)]
 show rA _ (Yq n ks (r.2.map Pt.t))=_;rw[W5 hn O]
 rfl
abbrev jQ (rs:om Rw):D:= .tup (rs.map λr=> .str (Yh r))
structure QX (rs:om Rw):Prop where
 n0:1<=↑rs
 n1:↑rs<=40
 ok:∀r>rs,Ji ↑rs 300 r
 tree:isT (jQ rs)=v_
def sB:∀{ds:om D}{d:D},goodL ds=v_->d>ds->iR d=v_
 |x::xs,d,h,hm=>by
  simp![goodL,uG] at h;rcases Aa.mp hm with rfl|hm
  .exact h.1
  .exact sB h.2 hm
variable {rs:om Rw}
def QX.text (h:QX rs)(O:r>rs):QA (Yh r)=true:=by
 have h1:=h.tree;unfold isT at h1;rw[uG,uG] at h1;have h2:=h1.1.1;unfold jQ at h2;simp![iR,uG] at h2;have:=sB h2.2 (Ae.mpr [r:O:1])
 simpa only [iR] using this
abbrev QJ:D->oq (om Rw)
 | .tup ds=>if(decide (1<=↑ds)&&decide (↑ds<=40)&&ds.all (λd=>(Qp ↑ds d).isSome)&&isT (¬ds))=v_ then u_ (ds.filterMap (Qp ↑ds)) else U_
 |_=>U_
def X4 (ds:om D):QJ (¬ds)=if(decide (1<=↑ds)&&decide (↑ds<=40)&&ds.all (λd=>(Qp ↑ds d).isSome)&&isT (¬ds))=v_ then u_ (ds.filterMap (Qp ↑ds)) else none:=rfl
def oo {n:Nat}:∀{rs:om Rw},(∀r>rs,Qp n (.str (Yh r))=u_ r)->(rs.map λr=>D.str (Yh r)).filterMap (Qp n)=rs
 | [],_=>rfl
 |r::rs,h=>by
  rw[uC,Uf (h r uh),oo λx O=>h x (ug _ O)]
def QX.rowD (h:QX rs)(O:r>rs):Qp ↑rs (.str (Yh r))=u_ r:=CH h.n1 (h.ok r O) (h.text O)
def QX.read (h:QX rs):QJ (jQ rs)=u_ rs:=by
 have Z:↑(rs.map λr=>D.str (Yh r))=↑rs:=uc ..;have U:=h.tree;unfold jQ at U⊢;rw[X4,Z,A6]
 .rw[oo λr O=>h.rowD O]
 .rw[uj h.n0,uj h.n1,U,List.all_eq_true.mpr]
  .rfl
  .intro d hd;erw[Ae.mp hd,r,O,rfl];rw[h.rowD O]
   rfl
abbrev Ad7 (d x y:D):Prop:=(∀rs,QJ d=u_ rs->x= .tup (rs.map L2.rowD)/\y= .non)/\(QJ d=U_->∃i:Int,y= .int i)
inductive Oo:Sp
 |mk (v:V)(d:D)(_:vs= [v])(_:Is H d v)(_:∀(u:V)(H':Hp)(x y:D),ic H H'->Ad7 d x y->Is H' (-[x,y]) u->Q u H')
def DR {d x:D}{i:Int}(h:QJ d=U_):Ad7 d x (.int i):=⟨λrs e=>(by rw[h] at e;cases e),λ_=>[i:1]⟩
def X0 {α:Type}{o:oq α}(h:o.isSome=v_):∃x,o=u_ x:=by cases o with
 |none=>cases h
 |some x=>exact[x:1]
variable {ds:om D}
def DO {d:D}(h1:ds[i]? =u_ d)(h2:Qp n d=u_ r):(ds.take (i+1)).filterMap (Qp n)=(ds.take i).filterMap (Qp n)++ [r]:=by
 rw[vj,h1,List.filterMap_append];simp[h2]
def Bl {n:Nat}:∀{ds:om D},(∀z>ds,(Qp n z).isSome=v_)->↑(ds.filterMap (Qp n))=↑ds
 | [],_=>rfl
 |z::ds,h=>by
  erw[X0 (h z uh),r,e];rw[Uf e,uw,uw];exact A9 (·+1) (Bl λy O=>h y (ug _ O))
def Ek:#[C,3,a.Zp,a.Zz,["value"],Oo]:=by
 have yN:=#[jr,T];have aa:=#[Ej,T,C];refine T.lL.F.ok YC () (λ_ _ _ _ H vs Q E hr h=>?_)
 erw[h,v,d,rfl,hv,k];exists 3,%[@qH _ _ _ _ _ _ _ _ #[XN,#[Qo,#[Qc,#[qA,#[qU,2,rfl],T.qR,vc,#v[pv 0,#[Q9,.ty "tuple",T.QG,vw]]]]],#[j8,#[Qo,#[Bv,12,D7,D7,qh,#[qA,qN,T.yR,uO,#v[pv 0]],#[Kq,T.m_MOST_LINES],_]]]].pt %[|#[qo,#[qG,#v[#[qG,qd],qh]]]] qt,#[qE,(1),YC.nd,#[QR,qd]],#[Ym,#[Wy,pv 0],#[qM,(2),YC.nd],%[#[qE,(3),YC.nd,#[qp,aa,hr.mono (),T.sC,#v[pv 2,#[qA,qN,T.yR,uO,#v[pv 0]]]]],#[qH,#[qq,yT,pv 3,qT,qw _],%[|#[qo,#[qG,#v[#[Qg,qY,T.QG,vw,#v[pv 1]],#[Qh,Yg,#[qA,qN,T.yR,uO,#v[pv 1]],qh]]]]],qt]|#[qX,#[jU,vd,vJ,vK,YU,pv 1,#v[pv 3]]]]]|#[qo,#[qG,#v[#[Qg,qY,T.QG,vw,#v[pv 1]],#[yd,#[Qc,#[qp,yN,hr.mono (),T.iX,#v[pv 0]]],qT,qh]]]]]
 exists 0,v,"tuple",_,zp d,1,hv.ty,xF d,0;have U:QJ d=U_->∀(t:o3),H t=U_->∀t2,(upd H t (-[])) t2=U_->Q (-t2) (upd (upd H t (-[])) t2 (-[-t,.int 1])):=λhn t g t2 Z=>
  k _ _ (-[]) (.int 1) ((qf g _).trans (qf Z _)) (DR hn) (Is.new (ds:= [-[],.int 1]) ⟨_,0,Is.new (ds:= []) rfl g,_,0,1,1⟩ Z)
 cases ht:zp d with
 |false=>
  have hn:QJ d=none:=by
   cases d with
   |tup ds=>cases ht
   |_=>rfl
  exact ky (ky [(sml rfl):λt g1=>[(sml rfl):λt2 Z=>U hn t g1 t2 Z]])
 |true=>
 obtain⟨ds,rfl⟩:∃ds,d=¬ds:=by
  cases d with
  |tup ds=>exact[ds:1]
  |_=>cases ht
 refine iL ?_;have ad:=hv;erw[ad,va,us,rfl,ha,hu];have ae:↑us=↑ds:=↑hu
 exists 0,va,us,1,.inr (SqT.of ha),_,0,1,0;have no:¬(1<=↑ds/\↑ds<=40/\(∀z>ds,(Qp ↑ds z).isSome=v_)/\isT (¬ds)=v_)->QJ (¬ds)=none:=λhc=>by
  unfold QJ;refine A4 λz=>hc ?_;simp![uG,vk,Um] at z;exact⟨z.1.1.1,z.1.1.2,z.1.2,z.2⟩
 by_cases c1:1<=↑ds
 case neg=>
  refine Qr (um ()) [0:?_]
  exact ky [(sml rfl):λt g1=>[(sml rfl):λt2 Z=>U (no λz=>c1 z.1) t g1 t2 Z]]
 refine QP (uj ()) ?_
 exists _,0,1,0;by_cases c2:↑ds<=40
 case neg=>
  refine QP (by rw[um ()];rfl) ?_
  exact[(sml rfl):λt g1=>[(sml rfl):λt2 Z=>U (no λz=>c2 z.2.1) t g1 t2 Z]]
 refine Qr (by rw[uj ()];rfl) ?_
 exists (sml rfl),λL1 g1=>?_
 exists 0,va,1,[us:SqT.of (qf g1 _ _ _ ha)]
 let J1_:Nat->L2.St->Hp->Prop:=λi σ H'=>i<=↑ds/\(∀z>ds.take i,(Qp ↑ds z).isSome=v_)/\∃(ws:om V) (x2 x3:oq V),σ= [u_ (-va),u_ (-L1),x2,x3]/\H' L1=u_ (.lst ws)/\L2.IsL H' (((ds.take i).filterMap (Qp ↑ds)).map L2.rowD) ws/\ic H H'
 refine Xf (K:=K) (a:=va) (xs:=us) J1_
  ⟨uQ _,(λz hz=>by simp at hz),[],U_,U_,1,qg,1,qf g1 _⟩ (λi σ H' _ ⟨_,_,_,_,_,_,_,_,sm⟩=>SqT.of (sm _ _ ha)) ?_ ?_
 .rintro i x σ H' hx ⟨ak,O,ws,x2,x3,rfl,e1,hw,sm⟩;have ac:i<↑ds:=by
   erw[Af.mp hx,h,_];omega
  erw[hu.get (i:=i) (d:=ds[i]) (ui ac),x',af,al];rw[hx] at af;cases af;have am:↑ws=i:=by
   rw[↑hw,uc,Bl O,vy];omega
  exists 5
  refine⟨0,0,va,us,1,.inr (SqT.of (sm _ _ ha)),x,ds[i],↑ds,by rw[ae];rfl,al.mono sm.tk,c2,λv H2 s2 hv=>?_⟩
  have e2:=s2 _ _ e1;cases er:Qp ↑ds ds[i] with
  |some r=>
   rw[er] at hv;have hv:Is H2 (L2.rowD r) v:=hv;have ad:=hv;erw[ad,ag,ao,rfl,_,_]
   exists 0,1,0;refine Qr (um λz=>by cases z) ?_
   exists 0,.inl [1:_:SqL.of e2],0,L1,ws,0,1,e2,X5 ()
   have t3:Tk H2 (upd H2 L1 (.lst (ws++ [-ag]))):=Tk.updL e2
   exists ac,λz hz=>?_,ws++ [-ag],_,0,qg,?_,λb o e=>?_
   .rw[vj,ui ac] at hz;rcases Ac.mp hz with hz|hz
    .exact O z hz
    .have:z=ds[i]:=by simpa using hz
     rw[this,er]
     rfl
   .rw[DO (ui ac) er,uq];exact((hw.mono s2.tk).mono t3).append (IsL.one (hv.mono t3))
   .rw[qi (qk e g1)];exact s2 b o (sm b o e)
  |none=>
   rw[er] at hv;cases(show v= .non from hv)
   exists 0,1,0;refine QP rfl ?_
   exists 0,L1,ws,1,.inl [SqL.of e2:λt1 Z=>?_];have s3:ic H2 (upd H2 t1 (¬ws)):=qf Z _;have i3:Is (upd H2 t1 (¬ws)) (.tup (((ds.take i).filterMap (Qp ↑ds)).map L2.rowD)) (-t1):=Is.new (hw.mono s2.tk) Z
   exists 0,L1,ws,1,.inl (SqL.of (s3 _ _ e2)),_,0,1,(sml rfl),λt4 g4=>?_;exact k _ _ _ (.int _) (sm.trans (s2.trans (s3.trans (qf g4 _)))) (DR (no λz=>by have:=z.2.2.1 _ (uR ac);rw[er] at this;cases this)) (Is.new (ds:= [.tup (((ds.take i).filterMap (Qp ↑ds)).map L2.rowD),.int _]) ⟨_,0,i3,_,0,1,1⟩ g4)
 .rintro σ H' ⟨ak,O,ws,x2,x3,rfl,e1,hw,sm⟩;rw[ae,vW] at hw O
  exists 0,L1,ws,1,.inl [SqL.of e1:λt1 Z=>?_];have s2:ic H' (upd H' t1 (¬ws)):=qf Z _;have i2:Is (upd H' t1 (¬ws)) (.tup ((ds.filterMap (Qp ↑ds)).map L2.rowD)) (-t1):=Is.new hw Z;generalize upd H' t1 (¬ws)=H2 at s2 i2⊢
  exists 0,_,¬ds,1,hv.mono (sm.trans s2).tk,λH3 s3=>?_
  exists 0;cases hT:isT (¬ds) with
  |true=>
   refine QP rfl [(sml rfl):λt4 g4=>?_];have ah:QJ (¬ds)=u_ (ds.filterMap (Qp ↑ds)):=by
    rw[X4,A6];rw[uj c1,uj c2,hT,List.all_eq_true.mpr O]
    rfl
   exact k _ _ _ .non (sm.trans (s2.trans (s3.trans (qf g4 _)))) ⟨λrs e=>(by rw[ah] at e;cases e;exact[1:1]),λe=>(by rw[ah] at e;cases e)⟩ (Is.new (ds:= [.tup ((ds.filterMap (Qp ↑ds)).map L2.rowD),.non]) ⟨_,0,i2.mono s3.tk,_,0,1,1⟩ g4)
  |false=>
   refine Qr rfl [(sml rfl):λt4 g4=>?_];exact k _ _ _ (.int 1) (sm.trans (s2.trans (s3.trans (qf g4 _)))) (DR (no λz=>by have:=z.2.2.2;rw[hT] at this;cases this)) (Is.new (ds:= [.tup ((ds.filterMap (Qp ↑ds)).map L2.rowD),.int 1]) ⟨_,0,i2.mono s3.tk,_,0,1,1⟩ g4)
inductive Om (br:Addr)(vs:List V)(H:Hp)(Q:VK)(E:XK):Prop
 |mk (v:V)(d:D)(_:vs= [v])(_:Is H d v)(_:(∀rs,QJ d=u_ rs->∀(u:V)(H':Hp),ic H H'->Is H' (.tup (rs.map L2.rowD)) u->Q u H'))(_:(QJ d=U_->∀(e:Addr)(H':Hp),ic H H'->E (-e) (u_ br) H'))
def Pq (T:Tx K mg a)(C:Fx K w mg g a):FnOk P w K mg base (CX1 P w) 4 a.wD a.wb ["tree"] (Om g.br):=by
 have Z:=#[Ek,T,C];refine T.li.F.okX Zw () (λ_ _ _ _ H _ Q E hr h=>?_)
 erw[h,v,d,rfl,hv,k,kB];exists 3,%[#[qE,(1),Zw.nd,#[qp,Z,hr.mono (),T.lL,#v[pv 0]]],#[qH,#[qq,zY,#[qC,qD,pv 1],qT,qw _],%[|#[Kl,22,C.x_BadRule,_,C.m_BadRule,ql,_,_]],qt]|#[qo,#[qC,qD,pv 1]]]
 exists 0,v,d,1,hv,λu H1 x y s1 hd U=>?_
 exists 0
 try dsimp![tC]
 refine xZ (i:=1) (d:=y) U rfl λz hz=>?_;cases O:QJ d with
 |none=>
  erw[hd.2 O,i,rfl];cases(show z= .int i from hz)
  exists 1,0;refine QP (by rw[um (λz=>by cases z)];rfl) ?_
  exact[1:λe=>kB O e H1 s1]
 |some rs=>
  erw[hd.1 rs O,rfl,rfl];cases(show z= .non from hz)
  exists 1,0;refine Qr rfl ?_
  exists 0
  try dsimp![tC]
  refine xZ (i:=0) (d:= .tup (rs.map L2.rowD)) U rfl λq hq=>?_;exact k rs O q H1 s1 hq
abbrev kvB (f:Str->V):om (Key×V):=BX.map λz=>(Vf z,f z)
def Aaj {f:Str->V}:∀{zs:om Str}{z:Str},z>zs->iO (zs.map λz=>((Vf z:Key),f z)) (Vf z)=u_ (f z)
 |y::ys,z,h=>by
  rw[uC];by_cases e:y=z
  .subst e;exact QV rfl
  .have h':z>ys:=by
    rcases Aa.mp h with rfl|h
    .exact A8 rfl e
    .exact h
   have:=Aaj (f:=f) h';unfold iO at this⊢;rw[vb];have e2:decide ((Vf y:Key)=Vf z)=false:=um λq=>e (Uy q);simp![e2];exact this
def Ac6 {f:Str->V}{u:V}(h:z>BX):lJ (kvB f) (Vf z) u=kvB λy=>if y=z then u else f y:=by
 unfold lJ;rw[A6]
 .unfold kvB;rw[uP];refine Ui λy _=>?_;by_cases e:y=z
  .simp[e]
  .simp[e]
 .rw[Fw];exact⟨(Vf z,f z),Ae.mpr [z:h:1],by simp⟩
abbrev Yz (H:Hp)(d:o3)(B:Str->D):Prop:=∃f:Str->V,H d=u_ (.dK (kvB f))/\∀z>BX,Is H (B z) (f z)
abbrev Bi (B:Str->D)(z:Str)(e:D):Str->D:=λy=>if y=z then e else B y
variable {H H':Hp}
def Yz.same {d:o3}{B:Str->D}(h:Yz H d B)(s:ic H H'):Yz H' d B:=let⟨f,e,i⟩:=h;[f:s _ _ e:λz hz=>(i z hz).mono s.tk]
def Yz.move {d:o3}{B:Str->D}(h:Yz H d B)(t:Tk H H')(e:H' d=H d):Yz H' d B:=let⟨f,e1,i⟩:=h;[f:e.trans e1:λz hz=>(i z hz).mono t]
def Yz.get {d:o3}{B:Str->D}(h:Yz H d B)(hz:z>BX):∃v,mV H d (!z) (u_ v)/\Is H (B z) v:=by
 erw[h,f,e,i];exists f z,?_,i z hz;have:=mV.k (k:=(Vf z:Key)) e;rw[show iO (kvB f) (Vf z)=u_ (f z) from Aaj hz] at this
 exact this
variable {e:D}
def Yz.put {d:o3}{B:Str->D}{u:V}(h:Yz H d B)(hz:z>BX)(O:Is H e u):∃kvs,IQ H d (!z) u (upd H d (.dK kvs))/\Yz (upd H d (.dK kvs)) d (Bi B z e)/\Tk H (upd H d (.dK kvs)):=by
 erw[h,f,ed,i];refine⟨kvB λy=>if y=z then u else f y,.inl ⟨_,Vf z,ed,1,by show ↑BX<Vg;rw[uE];decide,by rw[Ac6 hz]⟩,[_:qg:λy U=>?_],Tk.updD ed⟩
 have t:Tk H (upd H d (.dK (kvB λy=>if y=z then u else f y))):=Tk.updD ed
 unfold Bi;by_cases c:y=z
 .rw[A6 c,A6 c];exact O.mono t
 .rw[A4 c,A4 c];exact(i y U).mono t
abbrev xz:om D->Bool
 | []=>v_
 | .str _::r=>xz r
 |_=>Vc
abbrev xp:om D->om Str
 | .str z::r=>z::xp r
 |_=> []
abbrev b0 (ps:om Pt):Str:=(ps.getD 0 (.s "")).t
abbrev b1 (ps:om Pt):Str:=(ps.getD 1 (.s "")).t
abbrev b2 (ps:om Pt):Str:=(ps.getD 2 (.s "")).t
abbrev Ia:D->D
 | .str z=>if ↑z=0 then .non else .str ⟨#[z.cps.getD 0 0]⟩
 | .tup (x::_)=>x
 |_=> .non
abbrev OS:D->D
 | .str z=>if ↑z=0 then .non else .str (HC z (u_ 1) U_)
 | .tup (_::r)=>¬r
 |_=> .non
abbrev Abw:D->Nat
 | .str z=>↑z
 | .tup xs=>↑xs
 |_=>0
abbrev AdZ:D->D->D
 | .tup xs,e=> .tup (xs++ [e])
 |_,_=> .non
abbrev AbH:D->D->D
 | .str x,.str y=> .str (x++y)
 |_,_=> .non
abbrev Ad4:D->D->D
 | .str z,.str y=>if ↑y=0 then .non else .tup ((spG z y).map .str)
 |_,_=> .non
abbrev AbK:D->D->D
 | .tup xs,.str y=>if xz xs=v_ then .str (Vk y (xp xs)) else .non
 |_,_=> .non
abbrev made (w:Str)(B:Str->D)(own:Str)(ps:om Pt):D:=
 if w="text" then .str (b1 ps) else if w="self" then .str own else if w="copy" then B (b1 ps) else if w="row" then .tup [] else
 if w="put" then AdZ (B (b0 ps)) (B (b1 ps)) else if w="join" then AbH (B (b0 ps)) (B (b1 ps)) else if w="first" then Ia (B (b1 ps)) else if w="rest" then OS (B (b1 ps)) else
 if w="size" then .str (Vn ((Abw (B (b1 ps)):Nat):Int)) else if w="cut" then Ad4 (B (b1 ps)) (B (b2 ps)) else AbK (B (b1 ps)) (B (b2 ps))
variable {ps:om Pt}
def Q2 {m:Nat}{w:Str}(h:Ji n m (w,ps))(O:(w,ks)>FRM):Xk n m ks ps:=by
 erw[h,U,h1,h2];have:=E7 _ h1 _ O rfl;cases this;exact h2
def AcY {m:Nat}(h:Xk n m [.box] ps):∃x,ps= [.s x]/\x>BX:=by
 match ps,h with
 | [.s x],h=>exact[x:1:h.1]
 | [.n _],h=>exact h.1.elim
def Z0 {m:Nat}(h:Xk n m [.box,.box] ps):∃x y,ps= [.s x,.s y]/\x>BX/\y>BX:=by
 match ps,h with
 | [.s x,.s y],h=>exact⟨x,y,1,h.1,h.2.1⟩
 | [.n _,_],h=>exact h.1.elim
 | [.s _,.n _],h=>exact h.2.1.elim
def MX {m:Nat}(h:Xk n m [.box,.box,.box] ps):∃x y z,ps= [.s x,.s y,.s z]/\x>BX/\y>BX/\z>BX:=by
 match ps,h with
 | [.s x,.s y,.s z],h=>exact⟨x,y,z,1,h.1,h.2.1,h.2.2.1⟩
 | [.n _,_,_],h=>exact h.1.elim
 | [.s _,.n _,_],h=>exact h.2.1.elim
 | [.s _,.s _,.n _],h=>exact h.2.2.1.elim
def AcX {m:Nat}(h:Xk n m [.box,.words] ps):∃x y,ps= [.s x,.s y]/\x>BX/\↑y<=m/\y.cps.toList.all QF=true:=by
 match ps,h with
 | [.s x,.s y],h=>exact⟨x,y,1,h.1,h.2.1⟩
 | [.n _,_],h=>exact h.1.elim
 | [.s _,.n _],h=>exact h.2.1.elim
def AaQ {m:Nat}(h:Xk n m [.box,.line] ps):∃x,∃i:Int,ps= [.s x,.n i]/\x>BX/\1<=i/\i<=n:=by
 match ps,h with
 | [.s x,.n i],h=>exact⟨x,i,1,h.1,h.2.1⟩
 | [.n _,_],h=>exact h.1.elim
 | [.s _,.s _],h=>exact h.2.1.elim
def AaR {m:Nat}(h:Xk n m [.box,.box,.line] ps):∃x y,∃i:Int,ps= [.s x,.s y,.n i]/\x>BX/\y>BX/\1<=i/\i<=n:=by
 match ps,h with
 | [.s x,.s y,.n i],h=>exact⟨x,y,i,1,h.1,h.2.1,h.2.2.1⟩
 | [.n _,_,_],h=>exact h.1.elim
 | [.s _,.n _,_],h=>exact h.2.1.elim
 | [.s _,.s _,.s _],h=>exact h.2.2.1.elim
abbrev IN (H:Hp)(t:o3)(ps:om Pt):Prop:=Is H (.tup (ps.map Pt.d)) (-t)
abbrev Tr (B:Str->D):Prop:=∀z>BX,isT (B z)=v_
inductive zi (w:Str):Sp
 |mk (d t:Addr)(own:Str)(B:Str->D)(ps:List Pt)(n:Nat)(_:vs= [-d,!own,-t])(_:Yz H d B)(_:Tr B)(_:↑own<=100)(_:Ji n 300 (w,ps))(_:IN H t ps)(_:∀(v:V)(H':Hp),ic H H'->Is H' (made w B own ps) v->Q v H')
variable {Q:VK}
def II {K:o0}{t:o3}(h:IN H t ps)(e:ps[i]? =u_ (.s z))(q:Q (!z) H):OX K (-t) (.int (i:Int)) H Q:=
 xZ (d:= !z) h (qz (by rw[uK,e];rfl)) λx O=>by erw[O,rfl,_];exact q
def Jb {d:D}(h:isT d=v_):dp d<=12:=by
 unfold isT at h;rw[uG] at h;exact uA h.2
def Ny {d:D}(h:isT d=v_):sz d<=600:=by
 unfold isT at h;rw[uG,uG] at h;exact uA h.1.2
def YJ {d:D}(h:isT d=v_):Abw d<=600:=by
 have h1:=Ny h;cases d with
 |str z=>simp![sz] at h1;show ↑z<=600;omega
 |tup xs=>
  unfold isT at h;rw[uG,uG] at h;have h2:=h.1.1;simp![iR,uG] at h2;have:=uA h2.1;show ↑xs<=600;omega
 |_=>exact uQ _
def IL (z y:Str):↑(z++y:Str)=↑z+↑y:=by
 show(z.cps++y.cps).size=z.cps.size+y.cps.size;exact TX
def nH {K:o0}{t d:o3}{B:Str->D}(O:Yz H d B)(h:IN H t ps)(e:ps[i]? =u_ (.s z))(hz:z>BX)(q:∀v,Is H (B z) v->Q v H):OX K (-t) (.int (i:Int)) H (λy H2=>NP Q (-d) y H2):=by
 erw[O.get hz,v,U,Z];exact II h e ⟨d,v,1,U,q v Z⟩
def Pl:#[T,1,a.xG,a.wZ,["boxes","own","parts"],(zi "text")]:=by
 exists 9,T.lc,nR,Z
 erw[h,d,t,own,B,ps,n,rfl,hB,hT,ho,O,U,k];exists 3,%[|#[qo,#[qC,qD,pv 2]]]
 erw[AcX (Q2 O ()),x,y,rfl,hx,hy,hs]
 exact⟨0,II (i:=1) U rfl (k _ H (ic.refl _) ⟨1,yQ (by show ↑y<=1000;omega)⟩)⟩
def Po:#[T,1,a.Xt,a.Z9,["boxes","own","parts"],(zi "self")]:=by
 exists 9,T.lh,nT,U
 erw[h,d,t,own,B,ps,n,rfl,Z,hT,ho,O,hp,k];exists 3,%[|#[qo,pv 1]]
 exact⟨0,k _ H (ic.refl _) ⟨1,yQ (by show ↑own<=1000;omega)⟩⟩
def Abh:#[T,1,a.zU,a.kh,["boxes","own","parts"],(zi "row")]:=by
 exists 9,T.lK,sX,Z
 erw[h,d,t,own,B,ps,n,rfl,hB,hT,ho,U,hp,k];exists 3,%[|#[qo,#[qG,qd]]]
 exact[(sml rfl):λl O=>k _ _ (qf O _) (Is.new (ds:= []) rfl O)]
def PM:#[T,1,a.Xc,a.wc,["boxes","own","parts"],(zi "copy")]:=by
 exists 9,T.lz,nX,U
 erw[h,d,t,own,B,ps,n,rfl,Z,hT,ho,O,hp,k];exists 3,%[|#[qo,#[QH,6,QZ U,pv 0,#[qC,qD,pv 2],(λ_ _=>rfl)]]]
 erw[Z0 (Q2 O ()),x,y,rfl,hx,hy]
 exists 0,0;exact nH (i:=1) Z hp rfl hy λv iv=>k _ H (ic.refl _) iv
def Abi:#[T,1,a.zr,a.WZ,["boxes","own","parts"],(zi "put")]:=by
 exists 9,T.lN,Z5
 erw[h,d,t,own,B,ps,n,rfl,hB,hT,ho,aa,O,k];exists 3,%[#[qE,(3),Z5.nd,#[QH,pv 0,#[qC,qD,pv 2]]],#[qH,#[Qo,#[Qc,#[qA,#[qU,2,rfl],T.qR,vc,#v[pv 3,#[Q9,.ty "tuple",T.QG,vw]]]]],%[|#[qo,qT]],qt]|#[qo,#[Qh,zn,pv 3,#[qG,#v[#[QH,pv 0,#[qC,qD,pv 2]]]]]]]
 erw[Z0 (Q2 aa ()),x,y,rfl,hx,hy]
 exists 0,0;refine nH (i:=0) hB O rfl hx λv iv=>?_
 exists 0,v,"tuple",tyD (B x),zp (B x),1,iv.ty,xF _,0;have U:=YJ (hT x hx);have k':∀(v:V) (H':Hp),ic H H'->Is H' (AdZ (B x) (B y)) v->Q v H':=k;generalize B x=dx at iv k' U⊢;cases dx with
 |tup xs=>
  refine iL ?_;erw[iv,r,rs,rfl,er,ir]
  exists 0,0,0;refine nH (i:=1) hB O rfl hy λu iu=>?_
  exists (sml rfl),λl Z=>⟨r,l,rs,[u],1,1,SqT.of (qf Z _ _ _ er),SqT.of qg,?_,λe=>?_,λ_ e=>(by cases e),λ_ _ p O=>?_⟩
  .rw[↑ir];have:↑xs<=600:=U;exact yQ (by show ↑xs+1<=1000;omega)
  .subst e;have e2:xs= []:=Ul ir.length.symm;subst e2;exact k' _ _ (qf Z _) (Is.new (ds:= [B y]) (IsL.one iu) Z)
  .have t1:Tk H (upd H l (-[u])):=(qf Z _).tk;exact k' _ _ ((qf Z _).trans (qf O _)) (Is.new (ds:=xs++ [B y]) ((ir.mono t1).append (IsL.one (iu.mono t1))) O)
 |_=>exact ky (k' _ H (ic.refl _) rfl)
def PD:#[T,1,a.xQ,a.Wp,["boxes","own","parts"],(zi "join")]:=by
 exists 9,T.ll,Jt
 erw[h,d,t,own,B,ps,n,rfl,hB,hT,ho,aa,hp,k];exists 3,%[#[qE,(3),Jt.nd,#[QH,pv 0,#[qC,qD,pv 2]]],#[qE,(4),Jt.nd,#[QH,pv 0,#[qC,qD,pv 2]]],@qH _ _ _ _ _ _ _ _ #[XN,#[Qo,#[Qc,#[qA,#[qU,2,rfl],T.qR,vc,#v[pv 3,#[Q9,.ty "str",T.ZS,UV]]]]],#[j8,#[Qo,#[Qc,#[qA,#[qU,2,rfl],T.qR,vc,#v[pv 4,#[Q9,.ty "str",T.ZS,UV]]]]]]].pt %[|#[qo,qT]] qt|#[qo,#[Qh,Qu,pv 3,pv 4]]]
 erw[Z0 (Q2 aa ()),x,y,rfl,hx,hy]
 exists 0,0;refine nH (i:=0) hB hp rfl hx λv iv=>?_
 exists 0,0;refine nH (i:=1) hB hp rfl hy λu iu=>?_;have lx:=YJ (hT x hx);have ly:=YJ (hT y hy);have O:∀(v:V) (H':Hp),ic H H'->Is H' (AbH (B x) (B y)) v->Q v H':=k;generalize B x=dx at iv O lx⊢;generalize B y=U at iu O ly⊢
 exists 0,v,"str",tyD dx,isStr dx,1,iv.ty,jS _,0;cases dx with
 |str z=>
  refine iL ⟨0,u,"str",tyD U,isStr U,1,iu.ty,jS _,0,?_⟩;cases U with
  |str Z=>
   refine iL ?_;erw[iv,rfl,_];erw[iu,rfl,_];have h1:↑z<=600:=lx;have h2:↑Z<=600:=ly;exact⟨0,0,_,0,1,nj (),O _ H (ic.refl _) ⟨1,by rw[show(z++Z).length=↑z+↑Z from IL z Z];exact nj ()⟩⟩
  |_=>exact ky (O _ H (ic.refl _) rfl)
 |_=>exact ky (O _ H (ic.refl _) (by cases U<;>rfl))
def LX:#[T,1,a.Jq,a.Zh,["boxes","own","parts"],(zi "first")]:=by
 exists 9,T.iV,XM
 erw[h,d,t,own,B,ps,n,rfl,hB,hT,ho,Z,hp,k];exists 3,%[#[qE,(3),XM.nd,#[QH,pv 0,#[qC,qD,pv 2]]]|#[qo,#[yd,#[qq,CQ,#[qA,JA,T.yR,uO,#v[pv 3]],qh,qw _],#[qC,XG,pv 3],qT]]]
 erw[Z0 (Q2 Z ()),x,y,rfl,hx,hy]
 exists 0,0;refine nH (i:=1) hB hp rfl hy λv U=>?_;have ly:=YJ (hT y hy);have hg:=hT y hy;have O:∀(v:V) (H':Hp),ic H H'->Is H' (Ia (B y)) v->Q v H':=k;generalize B y=dy at U O ly hg⊢;cases dy with
 |str z=>
  erw[U,rfl,hz]
  exists 0,.inl ⟨z,1,hz,_,0,1,0,?_⟩;refine lW (λc=>?_) (λc=>?_)
  .have h0:1<=↑z:=by have:=uA c;omega
   have k2:Is H (Ia (!z)) (.str ⟨#[z.cps.getD 0 0]⟩):=by
    show Is H (if ↑z=0 then D.non else _) _
    rw[A4 ()]
    exact⟨1,yQ (by show 1<=1000;decide)⟩
   exact[0:.inr (.inr ⟨z,(0),0,1,hz,Ca h0,O _ H (ic.refl _) k2⟩)]
  .have h0:↑z=0:=by
    rcases rF ↑z with e|e
    .exact e
    .exact A8 (uj ()) c
   exact O _ H (ic.refl _) (by show Is H (if ↑z=0 then D.non else _) _;rw[A6 h0];rfl)
 |tup xs=>
  have aa:=U;erw[aa,r,rs,rfl,er,ir]
  exists 0,.inr ⟨r,rs,1,.inr (SqT.of er),λ_=>⟨_,0,1,0,?_⟩⟩;have hl:=↑ir;cases xs with
  |nil=>exact Qr (um (by rw[hl];decide)) (O _ H (ic.refl _) rfl)
  |cons e es=>
   refine QP (uj (by rw[hl,uw];omega)) ?_
   exact[0:.inr (.inl (xZ (i:=0) (d:=e) U (qz (j:=0) rfl) λq hq=>O _ H (ic.refl _) hq))]
 |_=>simp[isT,iR] at hg
def kP:∀xs:om D,xz xs=xs.all isStr
 | []=>rfl
 | .str _::r=>by show xz r=_;rw[kP r];rfl
 | .non::_| .bl _::_| .int _::_| .lst::_| .dct::_| .tup _::_=>rfl
def Be:∀{xs:om D},xz xs=v_->xs=(xp xs).map D.str
 | [],_=>rfl
 | .str z::r,h=>by
  show D.str z::r=D.str z::(xp r).map D.str;rw[<-Be (show xz r=v_ from h)]
def IsL.strs {H:Hp}:∀{l:om Str}{vs:om V},L2.IsL H (l.map D.str) vs->vs=l.map V.str
 | [],_,h=>h
 |_::_,_,h=>by
  erw[h,v,r,rfl,h1,h2];rw[IsL.strs h2,h1.1];rfl
def IsL.ofStrs {H:Hp}:∀{l:om Str},(∀z>l,↑z<=Vg)->L2.IsL H (l.map D.str) (l.map V.str)
 | [],_=>rfl
 |z::l,h=>⟨_,0,[1:h z uh],IsL.ofStrs λy O=>h y (ug _ O)⟩
def Bd:∀(l:om Str),(l.map (·.length)).sum+↑l=szL (l.map D.str)
 | []=>rfl
 |z::l=>by
  have:=Bd l;simp![uC,UG,uw,szL,sz];omega
def EK (sep:Str):∀(l:om Str),↑(Vk sep l)<=(l.map (·.length)).sum+↑l*↑sep
 | []=>uQ _
 | [x]=>by simp[Vk]
 |x::y::r=>by
  have O:=EK sep (y::r);have e:↑(Vk sep (x::y::r))=↑x+↑sep+↑(Vk sep (y::r)):=by
   show((x.cps++sep.cps)++(Vk sep (y::r)).cps).size=_;rw[TX,TX]
   rfl
  rw[e,uC,UG,uw,Nat.succ_mul];omega
def Ps:#[T,1,a.Xd,a.Wk,["boxes","own","parts"],(zi "rest")]:=by
 exists 9,T.lj,Zy
 erw[h,d,t,own,B,ps,n,rfl,hB,hT,ho,Z,U,k];exists 3,%[#[qE,(3),Zy.nd,#[QH,pv 0,#[qC,qD,pv 2]]]|#[qo,#[yd,#[qq,CQ,#[qA,JA,T.yR,uO,#v[pv 3]],qh,qw _],#[ZY,10,AaP,pv 3,#[WC,qh],qah],qT]]]
 erw[Z0 (Q2 Z ()),x,y,rfl,hx,hy]
 exists 0,0;refine nH (i:=1) hB U rfl hy λv iv=>?_;have ly:=YJ (hT y hy);have hg:=hT y hy;have O:∀(v:V) (H':Hp),ic H H'->Is H' (OS (B y)) v->Q v H':=k;generalize B y=dy at iv O ly hg⊢;cases dy with
 |str z=>
  erw[iv,rfl,hz]
  exists 0,.inl ⟨z,1,hz,_,0,1,0,?_⟩;refine lW (λc=>?_) (λc=>?_)
  .have h0:1<=↑z:=by have:=uA c;omega
   have k2:Is H (OS (!z)) (.str (HC z (u_ 1) U_)):=by
    show Is H (if ↑z=0 then D.non else _) _
    rw[A4 ()]
    exact[1:uY (rG z _ _) hz]
   exact[0:0:.inl ⟨z,1,hz,O _ H (ic.refl _) k2⟩]
  .have h0:↑z=0:=by
    rcases rF ↑z with e|e
    .exact e
    .exact A8 (uj ()) c
   exact O _ H (ic.refl _) (by show Is H (if ↑z=0 then D.non else _) _;rw[A6 h0];rfl)
 |tup xs=>
  have aa:=iv;erw[aa,r,rs,rfl,er,ir]
  exists 0,.inr ⟨r,rs,1,.inr (SqT.of er),λ_=>⟨_,0,1,0,?_⟩⟩;have hl:=↑ir;cases xs with
  |nil=>exact Qr (um (by rw[hl];decide)) (O _ H (ic.refl _) rfl)
  |cons e es=>
   refine QP (uj (by rw[hl,uw];omega)) ?_
   erw[ir,v0,r0,rfl,i0,i1]
   exists 0,0,.inr ⟨r,v0::r0,1,SqT.of er,λh=>?_,λ_ p U=>?_⟩
   .exfalso;have:=h.1;simp[HT.sIx] at this
   .have e1:Cj (v0::r0) (u_ 1) U_=r0:=by
     rw[show(u_ (1:Int))=u_ (((1:Nat)):Int) from rfl,wQ (by simp)]
     rfl
    rw[e1];exact O _ _ (qf U _) (Is.new i1 U)
 |_=>simp[isT,iR] at hg
def Pn:#[T,1,a.xR,a.wJ,["boxes","own","parts"],(zi "size")]:=by
 exists 9,T.lf,nS
 erw[h,d,t,own,B,ps,n,rfl,hB,hT,ho,O,hp,k];exists 3,%[|#[qo,#[Qg,JK,T.ZS,UV,#v[#[qA,JA,T.yR,uO,#v[#[QH,pv 0,#[qC,qD,pv 2]]]]]]]]
 erw[Z0 (Q2 O ()),x,y,rfl,hx,U]
 exists 0,0;refine nH (i:=1) hB hp rfl U λv Z=>?_;have ly:=YJ (hT y U);have hg:=hT y U;have k':∀(v:V) (H':Hp),ic H H'->Is H' (.str (Vn ((Abw (B y):Nat):Int))) v->Q v H':=k;generalize B y=dy at Z k' ly hg⊢;have sm:∀n:Nat,n<=600->((n:Int)).natAbs.log2<1920/\↑((Vn (n:Int):Str))<=sizeLine:=by
  intro n hn;have h2:=To ((n:Int)).natAbs;exact[():int_text_fits ()]
 cases dy with
 |str z=>
  erw[Z,rfl,hz];have h2:=sm ↑z ly;exact .inl ⟨z,1,hz,0,h2.1,k' _ H (ic.refl _) [1:h2.2]⟩
 |tup xs=>
  have aa:=Z;erw[aa,r,rs,rfl,er,ir];have h2:=sm ↑xs ly;refine .inr ⟨r,rs,1,.inr (SqT.of er),λ_=>[0:?_:?_]⟩
  .rw[↑ir];exact h2.1
  .rw[↑ir];exact k' _ H (ic.refl _) [1:h2.2]
 |_=>simp[isT,iR] at hg
def Abn:#[T,1,a.zZ,a.kl,["boxes","own","parts"],(zi "cut")]:=by
 exists 9,T.lQ,Xg
 erw[h,d,t,own,B,ps,n,rfl,hB,hT,ho,aa,Z,k];exists 3,%[#[qE,(3),Xg.nd,#[QH,pv 0,#[qC,qD,pv 2]]],#[qE,(4),Xg.nd,#[QH,pv 0,#[qC,qD,pv 2]]],@qH _ _ _ _ _ _ _ _ #[XN,#[Qo,#[Qc,#[qA,#[qU,2,rfl],T.qR,vc,#v[pv 3,#[Q9,.ty "str",T.ZS,UV]]]]],#[XN,#[Qo,#[Qc,#[qA,#[qU,2,rfl],T.qR,vc,#v[pv 4,#[Q9,.ty "str",T.ZS,UV]]]]],#[j8,#[qq,QN,pv 4,ql,qw _]]]].pt %[|#[qo,qT]] qt|#[qo,#[Qg,qY,T.QG,vw,#v[#[jU,uZ,Uq,Ur,EB,pv 3,#v[pv 4]]]]]]
 erw[MX (Q2 aa ()),x0,x,y,rfl,ac,hx,hy]
 exists 0,0;refine nH (i:=1) hB Z rfl hx λv iv=>?_
 exists 0,0;refine nH (i:=2) hB Z rfl hy λu iu=>?_;have lx:=YJ (hT x hx);have ly:=YJ (hT y hy);have U:∀(v:V) (H':Hp),ic H H'->Is H' (Ad4 (B x) (B y)) v->Q v H':=k;generalize B x=dx at iv U lx⊢;generalize B y=dy at iu U ly⊢
 exists 0,v,"str",tyD dx,isStr dx,1,iv.ty,jS _,0;cases dx with
 |str z=>
  refine iL ⟨0,u,"str",tyD dy,isStr dy,1,iu.ty,jS _,0,?_⟩;cases dy with
  |str O=>
   refine iL ?_;erw[iv,rfl,_];erw[iu,rfl,_];have h1:↑z<=600:=lx;have h2:↑O<=600:=ly
   exists 0,1,0;refine lW (λc=>?_) (λc=>?_)
   .have e:O="":=by have:=uA c;injection this
    subst e;exact U _ H (ic.refl _) rfl
   .have h3:↑O≠0:=λh=>c (uj (by
     have:O="":=by
      have h4:O.cps= #[]:=Array.eq_empty_of_size_eq_zero h;cases O;simp only at h4;subst h4
      decide+kernel
     rw[this]))
    exists 0,1,0,z,O,1,1,(),(),λp Z=>[p:0:.inl [SqL.of qg:λl hl=>?_]]
    have s1:ic H (upd H p (.lst ((spG z O).map V.str))):=qf Z _;refine U _ _ (s1.trans (qf hl _)) ?_;show Is _ (if ↑O=0 then D.non else .tup ((spG z O).map D.str)) _
    rw[A4 h3];exact Is.new (IsL.ofStrs λq hq=>yQ (by have:=OL hq;omega)) hl
  |_=>exact ky (U _ H (ic.refl _) rfl)
 |_=>exact ky (U _ H (ic.refl _) (by cases dy<;>rfl))
def PJ:#[T,1,a.xU,a.wy,["boxes","own","parts"],(zi "glue")]:=by
 exists 9,T.lr,Jk
 erw[h,d,t,own,B,ps,n,rfl,hB,hT,ho,ae,hp,k];exists 3,%[#[qE,(3),Jk.nd,#[QH,pv 0,#[qC,qD,pv 2]]],#[qE,(4),Jk.nd,#[QH,pv 0,#[qC,qD,pv 2]]],@qH _ _ _ _ _ _ _ _ #[XN,#[Qo,#[Qc,#[qA,#[qU,2,rfl],T.qR,vc,#v[pv 3,#[Q9,.ty "tuple",T.QG,vw]]]]],#[j8,#[Qo,#[Qc,#[qA,#[qU,2,rfl],T.qR,vc,#v[pv 4,#[Q9,.ty "str",T.ZS,UV]]]]]]].pt %[|#[qo,qT]] qt,#[qH,#[Qo,#[Qc,#[qA,#[ze,1,rfl],T.z_all,HY,#v[#[xO,["part"],(1),[],Sm,#[wW,pv 3],(λ_ _ _ _ _ _=>#[qM,(0),(show Vr (["part"]:om Str) by decide+kernel)]),(λ_ _ _ _ _ _=>#[qA,#[qU,2,rfl],T.qR,vc,#v[pv 0,#[Q9,.ty "str",T.ZS,UV]]])]]]]],%[|#[qo,qT]],qt]|#[qo,#[jU,uZ,U8,U9,Ma,pv 4,#v[pv 3]]]]
 erw[MX (Q2 ae ()),x0,x,y,rfl,ah,hx,hy]
 exists 0,0;refine nH (i:=1) hB hp rfl hx λv iv=>?_
 exists 0,0;refine nH (i:=2) hB hp rfl hy λu iu=>?_;have lx:=YJ (hT x hx);have hg:=hT x hx;have ly:=YJ (hT y hy);have U:∀(v:V) (H':Hp),ic H H'->Is H' (AbK (B x) (B y)) v->Q v H':=k;generalize B x=dx at iv U lx hg⊢;generalize B y=dy at iu U ly⊢
 exists 0,v,"tuple",tyD dx,zp dx,1,iv.ty,xF _,0;cases dx with
 |tup xs=>
  refine iL ⟨0,u,"str",tyD dy,isStr dy,1,iu.ty,jS _,0,?_⟩;cases dy with
  |str Z=>
   refine iL ?_;erw[iv,r,rs,rfl,er,ir];erw[iu,rfl,_];have h1:↑xs<=600:=lx;have h2:↑Z<=600:=ly
   exists 0,r,rs,1,SqT.of er,λak A0 af=>?_;refine At (tl:= []) (λd=> .bl (isStr d)) er ir (nj ()) af (λd0 x0 H3 R al s3 i3 q=>⟨0,x0,"str",tyD d0,isStr d0,1,i3.ty,jS _,q _ H3 (ic.refl _) rfl⟩) λH1 ys s1 l1 i1=>?_
   have ey:ys=(xs.map isStr).map V.bl:=IsL.bls (by rwa[uP])
   subst ey
   exists A0,xs.map isStr,1,SqL.of l1,0;have aa:(xs.map isStr).all id=xz xs:=by rw[kP,UD];rfl
   rw[aa];cases O:xz xs with
   |false=>exact ky (U _ H1 s1 (by show Is H1 (if xz xs=v_ then _ else D.non) _;rw[O];rfl))
   |true=>
    have ac:=Be O;have ag:rs=(xp xs).map V.str:=IsL.strs (by rwa[<-ac])
    have hsz:=Ny hg;have ad:=Bd (xp xs);rw[<-ac] at ad;simp![sz] at hsz;have am:↑(xp xs)*↑Z<=600*600:=Nat.mul_le_mul () h2
    have hj:=EK Z (xp xs);refine iL ⟨0,1,0,Z,r,xp xs,1,1,SqT.of (by rw[s1 _ _ er,ag]),(),?_⟩
    refine U _ H1 s1 ?_;show Is H1 (if xz xs=v_ then .str (Vk Z (xp xs)) else D.non) _
    rw[O];exact[1:nj ()]
  |_=>exact ky (U _ H (ic.refl _) rfl)
 |_=>exact ky (U _ H (ic.refl _) (by cases dy<;>rfl))
abbrev Nw (w:Str)(B:Str->D)(ps:om Pt):Bool:=if w="like" then eqD (B (b0 ps)) (B (b1 ps)) else if w="rowed" then zp (B (b0 ps)) else if w="none" then decide (Abw (B (b0 ps))=0) else v_
abbrev JMP:om Str:= ["go","like","rowed","none"]
abbrev ASK:om Str:= ["ask","has","names"]
abbrev flt (w:Str):D:=-[-"fault",!w]
abbrev sQ (w:Str)(held:D):D:=if w="names" then(if isStr held=v_ then .tup [-"asks",-[-"names",held]] else flt "kind") else if mG held=v_ then .tup [-"asks",-[.str (if w="ask" then "thing" else "has"),held]] else flt "name"
inductive Oz:Sp
 |mk (d t:Addr)(w:Str)(B:Str->D)(ps:List Pt)(n:Nat)(_:vs= [-d,!w,-t])(_:Yz H d B)(_:Tr B)(_:w>JMP)(_:Ji n 300 (w,ps))(_:IN H t ps)(_:Q (.bl (Nw w B ps)) H)
inductive Ls:Sp
 |mk (w:Str)(v:V)(d:D)(_:vs= [!w,v])(_:w>ASK)(_:Is H d v)(_:∀(u:V)(H':Hp),ic H H'->Is H' (sQ w d) u->Q u H')
mutual
theorem EX:∀{d:D},iR d=v_->puD d=v_
 | .str _,_=>rfl
 | .tup xs,h=>by
  simp![iR,uG] at h;show puL xs=v_;exact goodL_pu h.2
 | .non,h| .bl _,h| .int _,h| .lst,h| .dct,h=>by simp[iR] at h
theorem goodL_pu:∀{xs:om D},goodL xs=v_->puL xs=v_
 | [],_=>rfl
 |x::r,h=>by
  simp![goodL,uG] at h;simp![puL,EX h.1,goodL_pu h.2,Uj]
end
def Sz {d:D}(h:iR d=v_):trD d=true:=by
 cases d with
 |str z=>rfl
 |tup xs=>exact EX (d:=¬xs) h
 |_=>simp[iR] at h
def yG {d:D}(h:isT d=v_):iR d=true:=by
 unfold isT at h;rw[uG,uG] at h;exact h.1.1
def so {d:D}(h:isT d=v_):trD d=true:=Sz (yG h)
def PB:#[T,1,a.JZ,a.Jm,["boxes","word","parts"],Oz]:=by
 exists 9,T.lT,ZQ
 erw[h,d,t,w,B,ps,n,rfl,hB,hT,hw,U,hp,k];exists 3,%[#[qH,#[qq,QN,pv 1,ql,qw _],%[|#[qo,#[Qw,#[BA,1,hr.units],#[QH,pv 0,#[qC,qD,pv 2]],#[QH,pv 0,#[qC,qD,pv 2]]]]],qt],#[qH,#[qq,QN,pv 1,ql,qw _],%[|#[qo,#[qA,#[qU,2,rfl],T.qR,vc,#v[#[QH,pv 0,#[qC,qD,pv 2]],#[Q9,.ty "tuple",T.QG,vw]]]]],qt],#[qH,#[qq,QN,pv 1,ql,qw _],%[|#[qo,#[Qw,QN,#[qA,JA,T.yR,uO,#v[#[QH,pv 0,#[qC,qD,pv 2]]]],qh]]],qt]|#[qo,YA]]
 exists 0,1,0;simp![JMP,uI,uL,uS] at hw;rcases hw with rfl|rfl|rfl|rfl
 .refine Qr () ?_
  exists 0,1,0,Qr () ?_
  exists 0,1,0,Qr () ?_
  exact k
 .refine QP () ?_
  erw[AaR (Q2 U ()),x,y,i,rfl,O,hy,_]
  exists 0,0
  try dsimp![tC]
  refine nH (i:=0) hB hp rfl O λv Z=>?_
  exists 0,0
  try dsimp![tC]
  refine nH (i:=1) hB hp rfl hy λu iu=>?_
  exists B x,B y,Z,iu,so (hT x O),so (hT y hy),?_,k
  .have:=Jb (hT x O);omega
 .refine Qr () ?_
  exists 0,1,0,QP () ?_
  erw[AaQ (Q2 U ()),x,i,rfl,O,_]
  exists 0,0;refine nH (i:=0) hB hp rfl O λv Z=>?_;exact⟨v,"tuple",tyD (B x),zp (B x),1,Z.ty,xF _,k⟩
 .refine Qr () ?_
  exists 0,1,0,Qr () ?_
  exists 0,1,0,QP () ?_
  erw[AaQ (Q2 U ()),x,i,rfl,O,_]
  exists 0,0;refine nH (i:=0) hB hp rfl O λv Z=>?_;have k':Q (.bl (decide (Abw (B x)=0))) H:=k;have hg:=hT x O;generalize B x=dx at Z k' hg⊢;have hn:∀n:Nat,decide (V.int (n:Int)=V.int 0)=decide (n=0):=λn=>by
   rw[ve];constructor
   .intro h;injection h with h;omega
   .rintro rfl;rfl
  cases dx with
  |str z=>
   erw[Z,rfl,hz];refine .inl ⟨z,1,hz,1,?_⟩;rw[hn];exact k'
  |tup xs=>
   erw[Z,r,rs,rfl,er,ir];refine .inr ⟨r,rs,1,.inr (SqT.of er),λ_=>[1:?_]⟩;rw[hn,↑ir];exact k'
  |_=>simp[isT,iR] at hg
def L3:#[T,2,a.j3,a.j9,["word","held"],Ls]:=by
 have QQ:=#[xB,T];exists 9,T.lH,Za
 erw[h,w,v,d,rfl,hw,iv,k];exists 3,%[#[qH,#[qq,QN,pv 0,ql,qw _],%[|#[qo,#[yd,#[Qc,#[qA,#[qU,2,rfl],T.qR,vc,#v[pv 1,#[Q9,.ty "str",T.ZS,UV]]]],#[qG,#v[ql,#[qG,#v[ql,pv 1]]]],#[qG,#v[ql,ql]]]]],qt],#[qH,#[Qo,#[Qc,#[qp,QQ,hr.mono (),T.iJ,#v[pv 1]]]],%[|#[qo,#[qG,#v[ql,ql]]]],qt]|#[qo,#[qG,#v[ql,#[qG,#v[#[yd,#[qq,QN,pv 0,ql,qw _],ql,ql],pv 1]]]]]]
 have two:(2:Nat)<=sizeLine:=by decide
 have st:∀{H:Hp} (z:Str),↑z<=100->Is H (!z) (!z):=λz hz=>[1:yQ ()]
 have fl:∀(z:Str) (H:Hp) (l:o3),↑z<=100->H l=U_->Is (upd H l (-[-"fault",!z])) (flt z) (-l):=λz H l hz U=>Is.new (ds:= [-"fault",!z]) ⟨_,0,st _ (),_,0,st _ hz,1⟩ U
 exists 0,1,0;by_cases c:w="names"
 .subst c;refine QP () ?_
  have ea:sQ "names" d=if isStr d=v_ then .tup [-"asks",-[-"names",d]] else flt "kind":=by unfold sQ;rw[A6 rfl]
  rw[ea] at k
  exists 0,v,"str",tyD d,isStr d,1,iv.ty,jS _,0;cases Z:isStr d with
  |true=>
   rw[Z] at k;refine ky [0:two:λl U=>[two:λl2 O=>?_]];have t1:ic H (upd H l (-[-"names",v])):=qf U _;refine k _ _ (t1.trans (qf O _)) ?_;exact Is.new (ds:= [-"asks",-[-"names",d]]) ⟨_,0,st _ (),_,0,Is.new (ds:= [-"names",d]) ⟨_,0,st _ (),_,0,iv,1⟩ U,1⟩ O
  |false=>
   rw[Z] at k;exact iL [two:λl U=>k _ _ (qf U _) (fl "kind" H l () U)]
 .refine Qr (um λh=>c (by injection h)) ?_
  have ea:sQ w d=if mG d=v_ then .tup [-"asks",-[.str (if w="ask" then "thing" else "has"),d]] else flt "name":=by unfold sQ;rw[A4 c]
  rw[ea] at k
  exists 0,v,d,1,iv,λH1 s1=>[0:?_];cases Z:mG d with
  |false=>
   rw[Z] at k;exact ky [two:λl U=>k _ _ (s1.trans (qf U _)) (fl "name" H1 l () U)]
  |true=>
   rw[Z] at k;refine iL ⟨0,1,0,?_⟩;have aa:∀z:Str,↑z<=100->z=(if w="ask" then("thing":Str) else "has")->∀l,H1 l=U_->∀l2,(upd H1 l (-[!z,v])) l2=U_->Q (-l2) (upd (upd H1 l (-[!z,v])) l2 (-[-"asks",-l])):=by
    intro z hz ez l U l2 O;have t1:ic H1 (upd H1 l (-[!z,v])):=qf U _;refine k _ _ (s1.trans (t1.trans (qf O _))) ?_;rw[<-ez];exact Is.new (ds:= [-"asks",-[!z,d]]) ⟨_,0,st _ (),_,0,Is.new (ds:= [!z,d]) ⟨_,0,st _ hz,_,0,iv.mono s1.tk,1⟩ U,1⟩ O
   refine lW (λc2=>?_) (λc2=>?_)
   .have e:w="ask":=by have:=uA c2;injection this
    exact⟨0,two,λl U=>⟨two,λl2 O=>aa "thing" () (by rw[A6 e]) l U l2 O⟩⟩
   .have e:w≠"ask":=λe=>c2 (uj (by rw[e]))
    exact⟨0,two,λl U=>⟨two,λl2 O=>aa "has" () (by rw[A4 e]) l U l2 O⟩⟩
end
structure Mc where
 (x db dg:o3)
 rs:om Rw
 own:Str
structure Rn where
 B:Str->D
 p:Int
 n:Nat
 gs:om D
 th:D
abbrev MTH:om Str:= ["now","answer","asked","lines","copy","go_on","is_waiting","do_row","hold"]
structure Fl (fs:om (Str×V))(rv ru:V)(own:Str)(db dg:o3)(place:Int)(done:Nat)(tv:V):Prop where
 rows:fs.lookup ("rows":Str)=u_ rv
 rule:fs.lookup ("rule":Str)=u_ ru
 own:fs.lookup ("own":Str)=u_ (!own)
 boxes:fs.lookup ("boxes":Str)=u_ (-db)
 place:fs.lookup ("place":Str)=u_ (.int place)
 done:fs.lookup ("done":Str)=u_ (.int (done:Int))
 given:fs.lookup ("given":Str)=u_ (-dg)
 there:fs.lookup ("there":Str)=u_ tv
 meth:∀m>MTH,fs.lookup m=U_
 len:↑fs<=20
def je {f:Str}{v:V}:∀{fs:om (Str×V)}{u:V},fs.lookup f=u_ u->↑(iG f v fs)=↑fs
 |(g,x)::r,u,h=>by
  unfold iG;by_cases c:g=f
  .rw[A6 c];rfl
  .rw[A4 c,uw,uw];have e:(f==g)=false:=by simp;exact λz=>c z.symm
   rw[vo,e] at h;rw[je (u:=u) h]
 | [],u,h=>by simp at h
section
variable {fs:om (Str×V)}{rv ru:V}{own:Str}{db dg:o3}{place:Int}{done:Nat}{tv:V}
def Fl.set_there {u:V}(h:Fl fs rv ru own db dg place done tv):Fl (iG "there" (u) fs) rv ru own db dg place done u:=by
 refine⟨?_,?_,?_,?_,?_,?_,?_,?_,λm hm=>?_,by rw[je h.there];exact h.len⟩
 all_goals rw[qI]
 all_goals first|rw[A6 rfl]|(rw[A4 ()];first|exact h.rows|exact h.rule|exact h.own|exact h.boxes|exact h.place|exact h.done|exact h.given|exact h.there)|(rw[A4 (λe=>by subst e;revert hm;decide+kernel)];exact h.meth m hm)
def Fl.set_place {q:Int}(h:Fl fs rv ru own db dg place done tv):Fl (iG "place" (.int q) fs) rv ru own db dg q done tv:=by
 refine⟨?_,?_,?_,?_,?_,?_,?_,?_,λm hm=>?_,by rw[je h.place];exact h.len⟩
 all_goals rw[qI]
 all_goals first|rw[A6 rfl]|(rw[A4 ()];first|exact h.rows|exact h.rule|exact h.own|exact h.boxes|exact h.place|exact h.done|exact h.given|exact h.there)|(rw[A4 (λe=>by subst e;revert hm;decide+kernel)];exact h.meth m hm)
def Fl.set_done {k:Nat}(h:Fl fs rv ru own db dg place done tv):Fl (iG "done" (.int ((k:Nat):Int)) fs) rv ru own db dg place k tv:=by
 refine⟨?_,?_,?_,?_,?_,?_,?_,?_,λm hm=>?_,by rw[je h.done];exact h.len⟩
 all_goals rw[qI]
 all_goals first|rw[A6 rfl]|(rw[A4 ()];first|exact h.rows|exact h.rule|exact h.own|exact h.boxes|exact h.place|exact h.done|exact h.given|exact h.there)|(rw[A4 (λe=>by subst e;revert hm;decide+kernel)];exact h.meth m hm)
end
abbrev yy (C:o3)(H:Hp)(m:Mc)(r:Rn):Prop:=
 ∃(dx:o3) (fs:om (Str×V)) (rv ru tv:V) (gv:om V),H m.x=u_ (.ins C dx fs)/\Fl fs rv ru m.own m.db m.dg r.p r.n tv/\Is H (.tup (m.rs.map rowD)) rv/\Is H (jQ m.rs) ru/\Yz H m.db r.B/\H m.dg=u_ (.lst gv)/\L2.IsL H r.gs gv/\Is H r.th tv
structure Mv (m:Mc)(H H':Hp):Prop where
 kept:∀b o,H b=u_ o->b≠m.x->b≠m.db->b≠m.dg->H' b=u_ o
 tk:Tk H H'
def Mv.refl (m:Mc)(H:Hp):Mv m H H:=[λ_ _ e _ _ _=>e:Tk.refl H]
variable {H H1 H2:Hp}
def Mv.trans {m:Mc}(h:Mv m H H1)(h2:Mv m H1 H2):Mv m H H2:=[λb o e n1 O U=>h2.kept b o (h.kept b o e n1 O U) n1 O U:h.tk.trans h2.tk]
variable {H':Hp}
def Mv.of {m:Mc}(s:ic H H'):Mv m H H':=[λb o e _ _ _=>s b o e:s.tk]
variable {C:o3}
def yy.same {m:Mc}{r:Rn}(h:yy C H m r)(s:ic H H'):yy C H' m r:=
 let⟨dx,fs,rv,ru,tv,gv,e,f,i,j,b,g,gl,t⟩:=h;⟨dx,fs,rv,ru,tv,gv,s _ _ e,f,i.mono s.tk,j.mono s.tk,b.same s,s _ _ g,gl.mono s.tk,t.mono s.tk⟩
variable {dx:o3}
def Yz.ne {x db:o3}{fs:om (Str×V)}{B:Str->D}(e:H x=u_ (.ins C dx fs))(h:Yz H db B):db≠x:=λz=>by
 erw[h,f,e2,_];rw[z,e] at e2;cases e2
variable {fs':om (Str×V)}{rv:V}
def yp {m:Mc}{r:Rn}{fs:om (Str×V)}{ru tv:V}{O:om V}(e:H m.x=u_ (.ins C dx fs))(f:Fl fs' rv ru m.own m.db m.dg r.p r.n tv)(i:Is H (.tup (m.rs.map rowD)) rv)(j:Is H (jQ m.rs) ru)(b:Yz H m.db r.B)(U:H m.dg=u_ (.lst O))(Z:L2.IsL H r.gs O)(t:Is H r.th tv):
  yy C (upd H m.x (.ins C dx fs')) m r/\Mv m H (upd H m.x (.ins C dx fs')):=by
 have tk:Tk H (upd H m.x (.ins C dx fs')):=Tk.updI e;have n1:m.db≠m.x:=Yz.ne e b;have n2:m.dg≠m.x:=λz=>by rw[z,e] at U;cases U
 exact⟨⟨dx,fs',rv,ru,tv,O,qg,f,i.mono tk,j.mono tk,b.move tk (qi n1),by rwa[qi n2],Z.mono tk,t.mono tk⟩,⟨λc o h a1 _ _=>by rwa[qi a1],tk⟩⟩
abbrev QI:D->Bool
 | .tup (.str w::_)=>decide (w="asks")
 |_=>Vc
abbrev Th (d:D):Prop:=d= .non\/∃w e,d=-[!w,e]
inductive Out where
 |go (B:Str->D)(p:Int)|stop (e:D)
abbrev Out.B (B:Str->D):Out->Str->D
 | .go B' _=>B'
 | .stop _=>B
abbrev Out.P (p:Int):Out->Int
 | .go _ p'=>p'
 | .stop _=>p
abbrev Out.T:Out->D
 | .go _ _=> .non
 | .stop e=>e
abbrev Az (B:Str->D)(z:Str)(e:D)(p:Int):Out:=match e with
 | .non=> .stop (flt "kind")
 |e=>if isT e=v_ then .go (Bi B z e) (p+1) else .stop (flt "big")
inductive AaK (C:Addr):Sp
 |mk (m:Mc)(r:Rn)(_:vs= [-m.x])(_:yy C H m r)(_:∀v,Is H r.th v->Q v H)
inductive OK (C:Addr):Sp
 |mk (m:Mc)(r:Rn)(_:vs= [-m.x])(_:yy C H m r)(_:∀v H',ic H H'->Is H' (¬r.gs) v->Q v H')
inductive Oh (C:Addr):Sp
 |mk (m:Mc)(r:Rn)(_:vs= [-m.x])(_:yy C H m r)(_:Th r.th)(_:Q (.bl (QI r.th)) H)
inductive OB (C:Addr):Sp
 |mk (m:Mc)(r:Rn)(z:Str)(v:V)(e:D)(_:vs= [-m.x,!z,v])(_:yy C H m r)(_:r.th= .non)(_:z>BX)(_:Is H e v)(_:∀H',Mv m H H'->yy C H' m ⟨(Az r.B z e r.p).B r.B,(Az r.B z e r.p).P r.p,r.n,r.gs,(Az r.B z e r.p).T⟩->Q .non H')
section
variable {P:og}{w:oh}{K:o0}{mg:Str->oq o6}{base:o9}{a:Ad}{g:Ga}
def oH:#[T,1,a.XC,a.XF,["self"],(AaK a.qm)]:=by
 exists 9,T.iC,WQ,O
 erw[h,m,r,rfl,[dx,fs,rv,ru,tv,U,e,f,Z,iu,ib,hg,gl,it],k];exists 3,%[|#[qo,#[qO,5,pv 0,rfl]]]
 exact⟨0,m.x,_,dx,fs,tv,1,e,T.qu,T.qL,f.there,k _ it⟩
def PR:#[T,1,a.Jy,a.JD,["self"],(OK a.qm)]:=by
 exists 9,T.lU,ZO
 erw[h,m,r,rfl,[dx,fs,rv,ru,tv,U,e,f,ir,iu,ib,Z,gl,it],k];exists 3,%[|#[qo,#[Qg,qY,T.QG,vw,#v[#[qO,5,pv 0,rfl]]]]]
 exact⟨0,m.x,_,dx,fs,0,e,T.qu,T.YI,f.given,m.dg,U,1,.inl [SqL.of Z:λl O=>k _ _ (qf O _) (Is.new gl O)]⟩
def Ku:#[T,1,a.Yx,a.Yw,["self"],(Oh a.qm)]:=by
 exists 9,T.im,JR
 erw[h,m,[B,p,n,gs,th],rfl,[dx,fs,rv,ru,tv,gv,e,f,ir,Z,ib,hg,gl,it],O,k];simp only at f ib gl it O k;exists 3,%[|#[qo,#[ZC,#[Qw,zY,#[qO,5,pv 0,rfl],qT],#[XL,#[Qw,QN,#[qC,XG,#[qO,5,pv 0,rfl]],ql]]]]]
 exists 0,m.x,_,dx,fs,tv,1,e,T.qu,T.qL,f.there,1;rcases O with rfl|⟨w1,e1,rfl⟩
 .cases(show tv= .non from it)
  exact[0:Qr () k]
 .have U:=it;erw[U,t0,us,rfl,et,Z]
  exists 0,QP (by simp) ⟨0,m.x,_,dx,fs,0,e,T.qu,T.qL,f.there,?_⟩
  refine .inr (.inl (xZ (i:=0) (d:= !w1) it (qz (j:=0) rfl) λq hq=>?_));erw[hq,rfl,_]
  exists 1;have ew:decide (V.str w1=V.str ("asks":Str))=decide (w1="asks"):=by
   rw[ve];exact⟨λh=>by injection h,λh=>by rw[h]⟩
  rw[ew];exact k
def PH:#[T,3,a.xo,a.xy,["self","box","tree"],(OB a.qm)]:=by
 have yN:=#[jr,T];exists 9,T.md,wf
 erw[h,m,[B,p,n,gs,th],z,v,d,rfl,[dx,fs,rv,ru,tv,gv,e,f,ir,iu,ib,hg,gl,it],aa,hz,O,k];simp only at f ib gl it aa k;subst aa;exists 3,%[|#[qH,#[qq,yT,pv 2,qT,qw _],%[|#[Qf,#[qG,#v[ql,ql]]]],%[|#[qH,#[Qo,#[Qc,#[qp,yN,hr.mono (),T.iX,#v[pv 2]]]],%[|#[Qf,#[qG,#v[ql,ql]]]],%[#[Jo,#[qO,5,pv 0,rfl],pv 1,pv 2]|#[Jw,10,pv 0,qh,su]]]]]]
 have two:(2:Nat)<=sizeLine:=by decide
 have st:∀{H:Hp} (z:Str),↑z<=100->Is H (!z) (!z):=λz hz=>[1:yQ ()]
 have fl:∀(z:Str) (H:Hp) (l:o3),↑z<=100->H l=U_->Is (upd H l (-[-"fault",!z])) (flt z) (-l):=λz H l hz U=>Is.new (ds:= [-"fault",!z]) ⟨_,0,st _ (),_,0,st _ hz,1⟩ U
 exists 0,1,0;have Z:↑fs<1000:=by have:=f.len;omega
 by_cases c:d= .non
 .subst c;cases(show v= .non from O)
  refine QP () [two:λl U=>?_]
  have s1:ic H (upd H l (-[-"fault",-"kind"])):=qf U _
  exists 0,m.x,_,dx,fs,1,s1 _ _ e,T.qu,T.qL,Z;erw[yp (r:=⟨B,p,n,gs,flt "kind"⟩) (s1 _ _ e) (f.set_there (u:=-l)) (ir.mono s1.tk) (iu.mono s1.tk) (ib.same s1) (s1 _ _ hg) (gl.mono s1.tk) (fl "kind" H l () U),m1,m2]
  exact k _ ((Mv.of s1).trans m2) m1
 .have hv:v≠ .non:=by
   rintro rfl;cases d with
   |non=>exact c rfl
   |bl b=>cases(show V.non= .bl b from O)
   |int i=>cases(show V.non= .int i from O)
   |str z=>erw[O,h,_];cases h
   |lst=>erw[O,_,_,h,_];cases h
   |dct=>erw[O,_,_,h,_];cases h
   |tup xs=>erw[O,_,_,h,_];cases h
  have eo:Az B z d p=if isT d=v_ then .go (Bi B z d) (p+1) else .stop (flt "big"):=by
   cases d with
   |non=>exact A8 rfl c
   |_=>rfl
  rw[eo] at k;refine Qr (um hv) ?_
  exists 0,v,d,1,O,λH1 s1=>[0:?_];cases ht:isT d with
  |false=>
   rw[ht] at k;refine ky [two:λl U=>?_];have s2:ic H (upd H1 l (-[-"fault",-"big"])):=s1.trans (qf U _)
   exists 0,m.x,_,dx,fs,1,s2 _ _ e,T.qu,T.qL,Z;erw[yp (r:=⟨B,p,n,gs,flt "big"⟩) (s2 _ _ e) (f.set_there (u:=-l)) (ir.mono s2.tk) (iu.mono s2.tk) (ib.same s2) (s2 _ _ hg) (gl.mono s2.tk) (fl "big" H1 l () U),m1,m2]
   exact k _ ((Mv.of s2).trans m2) m1
  |true=>
   rw[ht] at k;refine iL ?_;have ad:=O.mono s1.tk;erw[(ib.same s1).put hz ad,kvs,ac,ae,t2];have n1:m.db≠m.x:=Yz.ne e ib;have n3:m.dg≠m.db:=λz=>by
    erw[ib,ff,e2,_];rw[z,e2] at hg;cases hg
   have e1:=s1 _ _ e;have e3:(upd H1 m.db (.dK kvs)) m.x=u_ (.ins a.qm dx fs):=by rwa[qi n1.symm]
   exists 0,0,m.x,_,dx,fs,0,e1,T.qu,T.Qv,f.boxes,0,m.db,0,ac
   exists 0,m.x,_,dx,fs,0,e3,T.qu,T.Qn,f.place,p,(1),1,1,dx,fs,e3,Z;obtain⟨m1,m2⟩:=yp (r:=⟨Bi B z d,p+1,n,gs,.non⟩) e3 (f.set_place (q:=p+1)) ((ir.mono s1.tk).mono t2) ((iu.mono s1.tk).mono t2) ae (by rw[qi n3];exact s1 _ _ hg) ((gl.mono s1.tk).mono t2) it
   exact k _ ((Mv.of s1).trans (Mv.trans ⟨λb o h _ a2 _=>by rwa[qi a2],t2⟩ m2)) m1
abbrev MKR:om Str:= ["text","self","copy","row","put","join","first","rest","size","cut","glue"]
abbrev oU (ps:om Pt):Int:=match ps.getLast? with
 |some (.n i)=>i
 |_=>0
abbrev mE (own:Str)(r:Rw)(B:Str->D)(p:Int):Out:=
 if r.1>MKR then Az B (b0 r.2) (made r.1 B own r.2) p else if r.1>ASK then .stop (sQ r.1 (B (b1 r.2))) else if r.1="say" then .stop (-[-"said",B (b0 r.2)]) else
 if r.1="fault" then .stop (flt "told") else if Nw r.1 B r.2=v_ then .go B (oU r.2) else .go B (p+1)
def AbO:∀x>FRM,x.1>MKR->x.2.head? =u_ .box:=by decide+kernel
def wK:∀x>FRM,x.1>ASK->x.1∉MKR/\x.1>Acf/\x.2= [.box,.box]:=by decide+kernel
def AB:∀x>FRM,x.1="say"->x.2= [.box]:=by decide+kernel
def E6:∀x>FRM,x.1>MKR\/(x.1∉MKR/\x.1>Acf/\(x.1>ASK\/x.1∉ASK/\(x.1="say"\/x.1="fault"\/x.1≠"say"/\x.1≠"fault"/\x.1>JMP))):=by decide+kernel
def SD:∀x>FRM,x.1>JMP->x.2.getLast? =u_ .line:=by decide+kernel
variable {r:Rw}
def Adf {m:Nat}(h:Ji n m r)(U:r.1>MKR):∃z ps,r.2= .s z::ps/\z>BX:=by
 erw[h,ks,Z,O];have:=AbO _ Z U
 match ks,O,this with
 | .box::ks,O,_=>
  match h2:r.2,O with
  | .s z::ps,O=>exact⟨z,ps,1,O.1⟩
  | .n _::_,O=>exact O.1.elim
def W8 {n m:Nat}:∀{ks:om Kd}{ps:om Pt},Xk n m ks ps->ks.getLast? =u_ .line->∃qs i,ps=qs++ [.n i]/\1<=i/\i<=(n:Int)
 | [k],[p],h,e=>by
  cases e;cases p with
  |n i=>exact⟨[],i,1,h.1⟩
  |s z=>exact h.1.elim
 |k::k2::ks,p::p2::ps,h,e=>by
  rw[UW] at e;erw[W8 (ks:=k2::ks) (ps:=p2::ps) h.2 e,qs,i,e2,hi];exact⟨p::qs,i,by rw[e2];rfl,hi⟩
 | [k],p::_::_,h,_=>h.2.elim
 |k::_::_,[p],h,_=>h.2.elim
 | [],[],_,e=>by cases e
 | [],_::_,h,_=>h.elim
 |_::_,[],h,_=>h.elim
def BR {m:Nat}(h:Ji n m r)(O:r.1>JMP):∃qs i,r.2=qs++ [.n i]/\1<=i/\i<=(n:Int)/\oU r.2=i:=by
 erw[h,ks,U,Z];erw[W8 Z (SD _ U O),qs,i,e,h1,h2];exists qs,i,e,h1,h2;unfold oU;rw[e,List.getLast?_concat]
inductive Lq (C:Addr):Sp
 |mk (m:Mc)(r:Rn)(rw:Rw)(v:V)(k:Nat)(_:vs= [-m.x,v])(_:yy C H m r)(_:r.th= .non)(_:Tr r.B)(_:↑m.own<=100)(_:Ji k 300 rw)(_:Is H (rowD rw) v)(_:∀H',Mv m H H'->yy C H' m ⟨(mE m.own rw r.B r.p).B r.B,(mE m.own rw r.B r.p).P r.p,r.n,r.gs,(mE m.own rw r.B r.p).T⟩->Q .non H')
variable {x:Str}
def Ade (T:Tx K mg a)(C:Fx K w mg g a)(h:x>MKR):∃f fd,PySem.W.nsIn K g.makers x=u_ (u_ (-f))/\FnOk P w K mg base CX0 1 f fd ["boxes","own","parts"] (zi x)/\Xi K fd ["boxes","own","parts"] []/\PySem.W.keepIn K (-f)=true:=by
 simp![MKR,uI,uL,uS] at h;rcases h with rfl|rfl|rfl|rfl|rfl|rfl|rfl|rfl|rfl|rfl|rfl
 .exact⟨_,_,C.k_text,Pl T,T.lc.b,T.lc.F.kp⟩
 .exact⟨_,_,C.k_self,Po T,T.lh.b,T.lh.F.kp⟩
 .exact⟨_,_,C.k_copy,PM T,T.lz.b,T.lz.F.kp⟩
 .exact⟨_,_,C.k_row,Abh T,T.lK.b,T.lK.F.kp⟩
 .exact⟨_,_,C.k_put,Abi T,T.lN.b,T.lN.F.kp⟩
 .exact⟨_,_,C.k_join,PD T,T.ll.b,T.ll.F.kp⟩
 .exact⟨_,_,C.k_first,LX T,T.iV.b,T.iV.F.kp⟩
 .exact⟨_,_,C.k_rest,Ps T,T.lj.b,T.lj.F.kp⟩
 .exact⟨_,_,C.k_size,Pn T,T.lf.b,T.lf.F.kp⟩
 .exact⟨_,_,C.k_cut,Abn T,T.lQ.b,T.lQ.F.kp⟩
 .exact⟨_,_,C.k_glue,PJ T,T.lr.b,T.lr.F.kp⟩
def LZ:#[C,4,a.Je,a.Jc,["self","row"],(Lq a.qm)]:=by
 have wt:=#[PB,T];have ZM:=#[L3,T];have WT:=#[PH,T];exists 9,T.lI,yU
 erw[h,m,[B,p,n,gs,th],r,v,nn,rfl,M,af,hT,ho,ad,iv,k];simp only at af hT k;subst af;exists 3,%[#[qE,(2),yU.nd,#[qC,qD,pv 1]],#[qE,(3),yU.nd,#[qC,qD,pv 1]]|#[qH,#[qq,Abe,pv 2,#[pe_gR,C.m_MAKERS],#[w]],%[|#[qX,#[Qm,pv 0,T.qu,T.md,WT,#v[#[qC,qD,pv 3],#[LF,9,(1),5,⟨1,1,1,1,1⟩,#[qC,7,Ad2,#[pe_gR,C.m_MAKERS],pv 2,(λ_ _=>rfl)],hr.mono (),#v[#[qO,5,pv 0,rfl],#[qO,5,pv 0,rfl],pv 3],_,_]]]]],%[|#[qH,#[qq,Q0,pv 2,#[pe_gR,C.m_ASKING],#[w]],%[|#[Qf,#[qp,ZM,hr.mono (),T.lH,#v[pv 2,#[QH,#[qO,5,pv 0,rfl],#[qC,qD,pv 3]]]]]],%[|#[qH,#[qq,QN,pv 2,ql,qw _],%[|#[Qf,#[qG,#v[ql,#[QH,#[qO,5,pv 0,rfl],#[qC,qD,pv 3]]]]]],%[|#[qH,#[qq,QN,pv 2,ql,qw _],%[|#[Qf,#[qG,#v[ql,ql]]]],%[|#[qH,#[Qc,#[qp,wt,hr.mono (),T.lT,#v[#[qO,5,pv 0,rfl],pv 2,pv 3]]],%[|#[Qf,#[qC,7,qD,pv 3,#[Aa7,6,MP,qh],(λ_ _=>rfl)]]],%[|#[Jw,10,pv 0,qh,su]]]]]]]]]]]]
 have two:(2:Nat)<=sizeLine:=by decide
 erw[r,U,ps];erw[iv,t0,us,rfl,et,iu];erw[iu,v1,u1,rfl,[rfl,aq],v2,u2,rfl,i2,e2];cases(show u2= [] from e2)
 exists 0,t0,_,(0),0,1,SqT.of et,1
 exists 0,t0,_,(1),0,1,SqT.of et,1;erw[id i2,t1,au,rfl,aw,ax];have ac:IN H t1 ps:=i2;have al:=ad;erw[al,ks,hk,hp];have hM:=M;erw[hM,dx,fs,rv,ru,tv,gv,e,f,ir,ij,ib,hg,gl,it];simp only at f ib gl it;have ae:↑fs<1000:=by have:=f.len;omega
 rcases E6 _ hk with Z|⟨Z,am,aa⟩
 .erw[Ade (P:=P) (base:=base) T C Z,fa,fd,hn,hF,hb,ao];erw[Adf ad Z,z,qs,rfl,ap];have eo:mE m.own (U,.s z::qs) B p=Az B z (made U B m.own (.s z::qs)) p:=by unfold mE;rw[A6 Z];rfl
  rw[eo] at k
  exists 0,U,g.makers,0,1,C.km,hn,0;refine ky ?_
  exists 0,m.x,dx,fs,1,e,f.meth _ (),0
  try dsimp![tC]
  refine II (i:=0) ac rfl ?_
  exists 0,U,g.makers,_,-fa,1,1,C.km,hn,1,fa,fd,_,zi U,1,hF,hb,ao
  exists 0,m.x,_,dx,fs,0,e,T.qu,T.Qv,f.boxes,0,m.x,_,dx,fs,0,e,T.qu,T.zg,f.own,0
  exists m.db,t1,m.own,B,.s z::qs,nn,1,ib,hT,ho,ad,ac,λv H1 s1 hv=>?_;exact⟨m,⟨B,p,n,gs,.non⟩,z,v,0,M.same s1,1,ap,hv,λH2 m2 M2=>k H2 ((Mv.of s1).trans m2) M2⟩
 .exists 0,U,g.makers,0,1,C.km,C.k_no _ am,0;refine iL ?_
  exists 0,g.asking,0,.inr (C.asking _),1,1,0;have ei:inV (!U) [-"ask",-"has",-"names"]=decide (U>ASK):=zL (z:=U) (l:=ASK);rw[A4 ud,ei];rcases aa with O|⟨O,aa⟩
  .refine QP (uj O) ?_;erw[wK _ hk O,_,_,ek];simp only at ek;subst ek;erw[Z0 hp,z0,z1,rfl,h0,h1];have eo:mE m.own (U,[.s z0,.s z1]) B p= .stop (sQ U (B z1)):=by unfold mE;rw[A4 Z,A6 O];rfl
   rw[eo] at k
   exists 0,0,m.x,_,dx,fs,0,e,T.qu,T.Qv,f.boxes,0
   try dsimp![tC]
   refine nH (i:=1) ib ac rfl h1 λv hv=>?_
   exists U,v,B z1,1,O,hv,λu H1 s1 hu=>?_
   exists 0,m.x,_,dx,fs,1,s1 _ _ e,T.qu,T.qL,ae;erw[yp (r:=⟨B,p,n,gs,sQ U (B z1)⟩) (s1 _ _ e) (f.set_there (u:=u)) (ir.mono s1.tk) (ij.mono s1.tk) (ib.same s1) (s1 _ _ hg) (gl.mono s1.tk) hu,m1,m2];exact k _ ((Mv.of s1).trans m2) m1
  .refine Qr (um O) ?_
   exists 0,1,0;have es:∀y:Str,decide (V.str U=V.str y)=decide (U=y):=λy=>by
    rw[ve];exact⟨λh=>by injection h,λh=>by rw[h]⟩
   rcases aa with rfl|rfl|⟨hs,hf,hj⟩
   .refine QP (uj rfl) ?_;have ek:=AB _ hk rfl;simp only at ek;subst ek;erw[AcY hp,z0,rfl,h0];have eo:mE m.own ("say",[.s z0]) B p= .stop (-[-"said",B z0]):=by unfold mE;rw[A4 Z,A4 O,A6 rfl];rfl
    rw[eo] at k
    exists 0,m.x,_,dx,fs,0,e,T.qu,T.Qv,f.boxes,0
    try dsimp![tC]
    refine nH (i:=0) ib ac rfl h0 λv hv=>?_
    exists two,λl hl=>?_;have s1:ic H (upd H l (-[-"said",v])):=qf hl _
    exists 0,m.x,_,dx,fs,1,s1 _ _ e,T.qu,T.qL,ae;erw[yp (r:=⟨B,p,n,gs,-[-"said",B z0]⟩) (s1 _ _ e) (f.set_there (u:=-l)) (ir.mono s1.tk) (ij.mono s1.tk) (ib.same s1) (s1 _ _ hg) (gl.mono s1.tk) (Is.new (ds:= [-"said",B z0]) ⟨_,0,[1:yQ ()],_,0,hv,1⟩ hl),m1,m2]
    exact k _ ((Mv.of s1).trans m2) m1
   .have ag:¬(("fault":Str)="say"):=by decide+kernel
    refine Qr (um λh=>ag (by injection h)) ?_
    exists 0,1,0,QP (uj rfl) ?_;have eo:mE m.own ("fault",ps) B p= .stop (flt "told"):=by unfold mE;rw[A4 Z,A4 O,A4 ag,A6 rfl]
    rw[eo] at k
    exists two,λl hl=>?_;have s1:ic H (upd H l (-[-"fault",-"told"])):=qf hl _
    exists 0,m.x,_,dx,fs,1,s1 _ _ e,T.qu,T.qL,ae;erw[yp (r:=⟨B,p,n,gs,flt "told"⟩) (s1 _ _ e) (f.set_there (u:=-l)) (ir.mono s1.tk) (ij.mono s1.tk) (ib.same s1) (s1 _ _ hg) (gl.mono s1.tk) (Is.new (ds:= [-"fault",-"told"]) ⟨_,0,[1:yQ ()],_,0,[1:yQ ()],1⟩ hl),m1,m2]
    exact k _ ((Mv.of s1).trans m2) m1
   .refine Qr (by rw[es];exact um hs) ?_
    exists 0,1,0,Qr (by rw[es];exact um hf) ?_
    have eo:mE m.own (U,ps) B p=if Nw U B ps=v_ then .go B (oU ps) else .go B (p+1):=by unfold mE;rw[A4 Z,A4 O,A4 hs,A4 hf]
    rw[eo] at k;erw[BR ad hj,qs,i,ah,h1,h2,hl];simp only at ah hl
    exists 0,m.x,_,dx,fs,0,e,T.qu,T.Qv,f.boxes,0,0,m.db,t1,U,B,ps,nn,1,ib,hT,hj,ad,ac,0;cases ak:Nw U B ps with
    |true=>
     rw[ak] at k;refine ky ⟨0,(1),1,?_⟩;refine xZ (i:= -1) (d:= .int i) ac (by rw[ah,uq];exact KZ _ _) λq hq=>?_
     cases(show q= .int i from hq)
     exists 0,m.x,_,dx,fs,1,e,T.qu,T.Qn,ae;erw[yp (r:=⟨B,i,n,gs,.non⟩) e (f.set_place (q:=i)) ir ij ib hg gl it,m1,m2];refine k _ m2 ?_;show yy _ _ _ ⟨B,oU ps,n,gs,.non⟩;rwa[hl]
    |false=>
     rw[ak] at k;refine iL ⟨0,m.x,_,dx,fs,0,e,T.qu,T.Qn,f.place,p,(1),1,1,dx,fs,e,ae,?_⟩;erw[yp (r:=⟨B,p+1,n,gs,.non⟩) e (f.set_place (q:=p+1)) ir ij ib hg gl it,m1,m2];exact k _ m2 m1
abbrev Jf (rs:om Rw)(p:Int):Rw:=rs.getD (p.toNat-1) ("fault",[])
abbrev mM (rs:om Rw)(own:Str)(gs:om D):Nat->(Str->D)->Int->Nat->Rn
 |0,B,p,n=>⟨B,p,n,gs,if GT.gt p ↑rs then flt "silent" else flt "long"⟩
 |f+1,B,p,n=>if GT.gt p ↑rs then⟨B,p,n,gs,flt "silent"⟩ else match mE own (Jf rs p) B p with
  | .go B' p'=>mM rs own gs f B' p' (n+1)
  | .stop e=>⟨B,p,if QI e=v_ then n else n+1,gs,e⟩
variable {rs:om Rw}
def DQ {p:Int}(h1:1<=p)(h2:p<=↑rs):rs[p.toNat-1]? =u_ (Jf rs p):=by
 unfold Jf;have h:p.toNat-1<↑rs:=by omega
 simp[Gb,h]
def KR {p:Int}(h1:1<=p)(h2:p<=↑rs):Jf rs p>rs:=vg (DQ h1 h2)
variable {e:D}
def KP {B:Str->D}(h:Tr B)(O:isT e=v_):Tr (Bi B z e):=λy U=>by
 unfold Bi;by_cases c:y=z
 .rwa[A6 c]
 .rw[A4 c];exact h y U
abbrev SY (n:Int):Out->Prop
 | .go B p=>Tr B/\1<=p/\p<=n+1
 | .stop e=>∃w d,e=-[!w,d]
def Mm {B:Str->D}{p n:Int}(h:Tr B)(h1:1<=p)(h2:p<=n):SY n (Az B z e p):=by
 have O:SY n (if isT e=v_ then .go (Bi B z e) (p+1) else .stop (flt "big")):=by
  by_cases c:isT e=v_
  .rw[A6 c];exact[KP h c:():()]
  .rw[A4 c];exact[_:0]
 cases e with
 |non=>exact[_:0]
 |_=>exact O
def SO (w:Str)(d:D):∃u e,sQ w d=-[!u,e]:=by
 unfold sQ;split
 .split
  .exact[_:0]
  .exact[_:0]
 .split
  .exact[_:0]
  .exact[_:0]
variable {own:Str}
def wr {B:Str->D}{p:Int}(hr:Ji n 300 r)(h:Tr B)(h1:1<=p)(h2:p<=n):SY n (mE own r B p):=by
 unfold mE;by_cases O:r.1>MKR
 .rw[A6 O];exact Mm h h1 h2
 rw[A4 O];by_cases U:r.1>ASK
 .rw[A6 U];exact SO _ _
 rw[A4 U];by_cases Z:r.1="say"
 .rw[A6 Z];exact[_:0]
 rw[A4 Z];by_cases c4:r.1="fault"
 .rw[A6 c4];exact[_:0]
 rw[A4 c4];by_cases c5:Nw r.1 B r.2=v_
 .rw[A6 c5];erw[id hr,ks,hk,hp];have hj:r.1>JMP:=by
   rcases E6 _ hk with q|⟨_,_,q|⟨_,q|q|q⟩⟩
   .exact A8 q O
   .exact A8 q U
   .exact A8 q Z
   .exact A8 q c4
   .exact q.2.2
  erw[BR hr hj,qs,i,_,a1,a2,a3];exact⟨h,by rwa[a3],by rw[a3];omega⟩
 .rw[A4 c5];exact[h:():()]
inductive OC (C:Addr):Sp
 |mk (m:Mc)(r:Rn)(_:vs= [-m.x])(_:yy C H m r)(_:r.th= .non)(_:Tr r.B)(_:↑m.own<=100)(_:QX m.rs)(_:1<=r.p)(_:r.p<=↑m.rs+1)(_:r.n<=300)(_:∀(H':Hp),Mv m H H'->yy C H' m (mM m.rs m.own r.gs (300-r.n) r.B r.p r.n)->Q .non H')
def Ep:#[C,5,a.Js,a.Jr,["self"],(OC a.qm)]:=by
 have ZR:=#[LZ,T,C];have qW:=#[Ku,T];exists 9,T.iQ,ZN
 erw[h,[x,db,dg,rs,own],[B0,p0,n0,gs,th],rfl,M0,aw,ax,ho,hR,aE,ay,aF,k];simp only at aw ax ho hR aE ay aF k;subst aw;exists 3,%[|#[ZV,6,uT,#[qq,yT,#[qO,5,pv 0,rfl],qT,qw _],%[|#[qH,#[qq,CQ,#[qO,5,pv 0,rfl],#[qA,qN,T.yR,uO,#v[#[qO,5,pv 0,rfl]]],qw _],%[|#[Qf,#[qG,#v[ql,ql]]]],%[|#[qH,#[qq,QN,#[qO,5,pv 0,rfl],#[Kq,T.m_MOST_DONE],qw _],%[|#[Qf,#[qG,#v[ql,ql]]]],%[#[qX,#[Qm,pv 0,T.qu,T.lI,ZR,#v[#[qC,7,qD,#[qO,5,pv 0,rfl],#[Qh,Ng,#[qO,5,pv 0,rfl],qh],(λ_ _=>rfl)]]]]|#[qH,#[Qo,#[Qc,#[QL,pv 0,T.qu,T.im,qW]]],%[|#[Jw,10,pv 0,qh,su]],qt]]]]]]]]
 have two:(2:Nat)<=sizeLine:=by decide
 have n1:=hR.n1;generalize aA:mM rs own gs (300-n0) B0 p0 n0=res at k
 let J1_:Nat->L2.St->Hp->Prop:=λm σ H'=>∃(B:Str->D) (p:Int) (n:Nat) (th:D),σ= [u_ (-x)]/\yy a.qm H' ⟨x,db,dg,rs,own⟩ ⟨B,p,n,gs,th⟩/\Mv ⟨x,db,dg,rs,own⟩ H H'/\Tr B/\1<=p/\p<=↑rs+1/\n<=300/\((th= .non/\mM rs own gs (300-n) B p n=res/\m=301-n)\/((∃u e,th=-[!u,e])/\⟨B,p,n,gs,th⟩=res/\m=0))
 exists J1_,⟨_,B0,p0,n0,.non,1,M0,Mv.refl _ _,ax,(),(),(),.inl [1:aA:1]⟩
 rintro m σ H' ⟨B,p,n,th,rfl,M,mv,hT,ad,al,hn,hc⟩;have hM:=M;erw[hM,dx,fs,rv,ru,tv,gv,e,f,ir,ij,ib,hg,gl,it];simp only at e f ir ij ib hg gl it;have aB:↑fs<1000:=by have:=f.len;omega
 exists 0,x,_,dx,fs,tv,1,e,T.qu,T.qL,f.there,1,0;rcases hc with⟨rfl,Z,rfl⟩|⟨⟨u,d,rfl⟩,Z,rfl⟩
 .cases(show tv= .non from it)
  have ag:∀{H:Hp},Is H .non .non:=rfl;refine QP () ?_
  exists λσ' H2=>∃(B:Str->D) (p:Int) (n2:Nat) (th:D),σ'= [u_ (-x)]/\yy a.qm H2 ⟨x,db,dg,rs,own⟩ ⟨B,p,n2,gs,th⟩/\Mv ⟨x,db,dg,rs,own⟩ H H2/\Tr B/\1<=p/\p<=↑rs+1/\n2<=300/\((th= .non/\mM rs own gs (300-n2) B p n2=res/\n<n2)\/((∃u e,th=-[!u,e])/\⟨B,p,n2,gs,th⟩=res)),?_,?_
  .rintro σ' H2 ⟨B2,p2,n2,aM,rfl,M2,ae,aC,a1,a2,a3,aG⟩;rcases aG with⟨rfl,q1,q2⟩|⟨q0,q1⟩
   .exact⟨301-n2,(),B2,p2,n2,0,M2,ae,aC,a1,a2,a3,.inl [1:q1:1]⟩
   .exact⟨(0),(),B2,p2,n2,0,M2,ae,aC,a1,a2,a3,.inr [q0:q1:1]⟩
  .have aH:=ir;erw[aH,ta,us,rfl,aI,iu];have aN:↑us=↑rs:=by rw[↑iu,uc]
   have fl:∀(z:Str) (H:Hp) (l:o3),↑z<=100->H l=U_->Is (upd H l (-[-"fault",!z])) (flt z) (-l):=λz H l hz hl=>Is.new (ds:= [-"fault",!z]) ⟨_,0,[1:yQ ()],_,0,[1:yQ ()],1⟩ hl
   have aa:∀(z:Str),↑z<=100->⟨B,p,n,gs,flt z⟩=res->∀l,H' l=U_->(λH2=>∃(B:Str->D) (p:Int) (n2:Nat) (th:D),[u_ (V.ref x)]= [u_ (V.ref x)]/\yy a.qm H2 ⟨x,db,dg,rs,own⟩ ⟨B,p,n2,gs,th⟩/\Mv ⟨x,db,dg,rs,own⟩ H H2/\Tr B/\1<=p/\p<=↑rs+1/\n2<=300/\((th= .non/\mM rs own gs (300-n2) B p n2=res/\n<n2)\/((∃u e,th=-[!u,e])/\⟨B,p,n2,gs,th⟩=res))) (upd (upd H' l (-[-"fault",!z])) x (.ins a.qm dx (iG "there" (-l) fs))):=by
    intro z hz aJ l hl;have s1:ic H' (upd H' l (-[-"fault",!z])):=qf hl _;erw[yp (m:=⟨x,db,dg,rs,own⟩) (r:=⟨B,p,n,gs,flt z⟩) (s1 _ _ e) (f.set_there (u:=-l)) (ir.mono s1.tk) (ij.mono s1.tk) (ib.same s1) (s1 _ _ hg) (gl.mono s1.tk) (fl z H' l hz hl),m1,m2];exact⟨B,p,n,flt z,1,m1,mv.trans ((Mv.of s1).trans m2),hT,ad,al,hn,.inr [[_:0]:aJ]⟩
   exists 0,x,_,dx,fs,0,e,T.qu,T.Qn,f.place,0,x,_,dx,fs,0,e,T.qu,T.Ye,f.rows,ta,us,1,.inr (SqT.of aI),_,0,1,0;refine lW (λc=>?_) (λc=>?_)
   .have c':GT.gt p ↑rs:=by have:=uA c;omega
    have er:⟨B,p,n,gs,flt "silent"⟩=res:=by
     rw[<-Z];cases h3:300-n with
     |zero=>unfold mM;rw[A6 c']
     |succ q=>unfold mM;rw[A6 c']
    exists two,λl hl=>?_;have s1:ic H' (upd H' l (-[-"fault",-"silent"])):=qf hl _;exact⟨0,x,_,dx,fs,1,s1 _ _ e,T.qu,T.qL,aB,aa "silent" () er l hl⟩
   .have c':¬GT.gt p ↑rs:=λh=>c (uj ())
    exists 0,x,_,dx,fs,0,e,T.qu,T.yh,f.done,1,0;refine lW (λc2=>?_) (λc2=>?_)
    .have e3:n=300:=by have:=uA c2;injection this with h;omega
     have er:⟨B,p,n,gs,flt "long"⟩=res:=by
      rw[<-Z,e3];show _=mM rs own gs 0 B p 300;unfold mM;rw[A4 c']
     exists two,λl hl=>?_;have s1:ic H' (upd H' l (-[-"fault",-"long"])):=qf hl _;exact⟨0,x,_,dx,fs,1,s1 _ _ e,T.qu,T.qL,aB,aa "long" () er l hl⟩
    .have e3:n<300:=by
      rcases V6 n 300 with h|h
      .exact h
      .exact A8 (uj (by rw[show n=300 by omega];rfl)) c2
     have am:p<=↑rs:=by omega
     have aD:=hR.ok _ (KR ad am);have hok:=wr (own:=own) aD hT ad am;have U:res=match mE own (Jf rs p) B p with
       | .go B' p'=>mM rs own gs (300-(n+1)) B' p' (n+1)
       | .stop e=>⟨B,p,if QI e=v_ then n else n+1,gs,e⟩:=by
      rw[<-Z,show 300-n=(300-(n+1))+1 by omega,mM,A4 c']
     exists 0,x,dx,fs,1,e,f.meth _ ()
     exists 0,x,_,dx,fs,0,e,T.qu,T.Ye,f.rows,0,x,_,dx,fs,0,e,T.qu,T.Qn,f.place,_,0,1;have aK:atI (rs.map rowD) (p-1)=u_ (rowD (Jf rs p)):=by
      rw[show p-1=((p.toNat-1:Nat):Int) by omega]
      exact qz (by rw[uK,DQ ad am];rfl)
     refine xZ (d:=rowD (Jf rs p)) ir aK λq hq=>?_
     exists ⟨x,db,dg,rs,own⟩,⟨B,p,n,gs,.non⟩,Jf rs p,q,↑rs,1,M,1,hT,ho,aD,hq,λH2 m2 M2=>?_;have aL:=M2;erw[aL,af,ac,aO,aP,aQ,aR,e2,f2,ao,ap,ah,aq,au,ag];simp only at e2 f2 ao ap ah aq au ag;have ak:↑ac<1000:=by have:=f2.len;omega
     have ae:=mv.trans m2;generalize hO:mE own (Jf rs p) B p=O at hok U M2 ag ah f2;cases O with
     |go B' p'=>
      erw[hok,q1,q2,q3]
      exists 0,x,af,ac,1,e2,f2.meth _ (),_,0,M2,.inl rfl,0
      refine QP rfl ?_
      exists 0,x,_,af,ac,0,e2,T.qu,T.yh,f2.done,(n:Int),(1),1,1,af,ac,e2,ak;erw[yp (m:=⟨x,db,dg,rs,own⟩) (r:=⟨B',p',n+1,gs,.non⟩) e2 (f2.set_done (k:=n+1)) ao ap ah aq au ag,m3,m4];exact⟨B',p',n+1,.non,1,m3,ae.trans m4,q1,q2,q3,(),.inl [1:U.symm:()]⟩
     |stop d=>
      erw[hok,u,d2,rfl]
      exists 0,x,af,ac,1,e2,f2.meth _ (),_,0,M2,.inr [_:0],0
      cases hw:QI (-[!u,d2]) with
      |true=>
       simp![hw] at U;refine Qr (by show(!(QI) (-[!u,d2]))=Vc;rw[hw];rfl) ?_
       exact⟨B,p,n,0,M2,ae,hT,ad,al,hn,.inr [[_:0]:U.symm]⟩
      |false=>
       simp![hw] at U;refine QP (by show(!(QI) (-[!u,d2]))=v_;rw[hw];rfl) ?_
       exists 0,x,_,af,ac,0,e2,T.qu,T.yh,f2.done,(n:Int),(1),1,1,af,ac,e2,ak;erw[yp (m:=⟨x,db,dg,rs,own⟩) (r:=⟨B,p,n+1,gs,-[!u,d2]⟩) e2 (f2.set_done (k:=n+1)) ao ap ah aq au ag,m3,m4];exact⟨B,p,n+1,0,m3,ae.trans m4,hT,ad,al,(),.inr [[_:0]:U.symm]⟩
 .have:tv≠ .non:=by erw[it,_,_,h,_];rw[h];exact λz=>by cases z
  refine Qr (um this) ?_;refine k H' mv ?_;rw[<-Z];exact M
abbrev emp (z:Str):D:=-[!z,-""]
def Nc {H:Hp}:∀{zs:om Str}{ys:om V},L2.IsL H (zs.map emp) ys->∃ts:om o3,ys=ts.map V.ref/\↑ts=↑zs/\∀(i:Nat) (t:o3) (z:Str),ts[i]? =u_ t->zs[i]? =u_ z->H t=u_ (-[!z,-""])
 | [],_,h=>by
  cases(show _= [] from h)
  exact⟨[],1,1,λi t z h=>by simp at h⟩
 |y::zs,_,h=>by
  erw[h,v,r,rfl,[t,us,rfl,O,v1,u1,rfl,[rfl,_],v2,U,rfl,[rfl,_],e2],h2];cases(show U= [] from e2)
  erw[Nc h2,ts,rfl,Z,hi];refine⟨t::ts,1,by rw[uw,Z];rfl,λi q z h1 h3=>?_⟩
  cases i with
  |zero=>
   cases h1;cases h3;exact O
  |succ j=>exact hi j q z (by simpa using h1) (by simpa using h3)
variable {ys:om V}
def O3 {A:o3}(e:H A=u_ (.lst ys))(h:L2.IsL H (BX.map emp) ys):Cr H A (BX.map λz=>(z,V.str "")):=by
 erw[Nc h,ts,rfl,O,hi];exists ts,e,by rw[O,uc],λi t p h1 h2=>?_
 rw[uK] at h2;cases hz:BX[i]? with
 |none=>rw[hz] at h2;cases h2
 |some z=>
  rw[hz] at h2;cases h2;exact hi i t z h1 hz
abbrev B0:Str->D:=λ_=>-""
variable {q:o3}
def SM (O:H q=U_):Yz (upd H q (.dK (iP (BX.map λz=>(z,V.str ""))))) q B0:=by
 exists λ_=>-"",?_,λz _=>[1:yQ ()]
 rw[qg];unfold iP kvB;rw[uP]
 rfl
def Ty:Tr B0:=λ_ _=>(by decide+kernel:isT (-"")=v_)
def MF:((BX.map λz=>(z,V.str "")).map (·.1)).Nodup:=by
 rw[uP];show(BX.map id).Nodup;rw[tu]
 decide+kernel
def DU (f:Str)(v:V):∀fs:om (Str×V),↑(iG f v fs)<=↑fs+1
 | []=>ur _
 |(g,x)::r=>by
  unfold iG;by_cases c:g=f
  .rw[A6 c];simp
  .rw[A4 c];have:=DU f v r;simp![uw];omega
abbrev FLD:om Str:= ["rows","rule","own","boxes","place","done","given","there"]
def Si:∀m>MTH,m∉FLD:=by decide+kernel
variable {v:V}
def NG {db dg:o3}(O:(iG "there" .non (iG "given" (-dg) (iG "done" (.int 0) (iG "place" (.int 1) (iG "boxes" (-db) (iG "own" (!own) (iG "rule" v (iG "rows" rv [])))))))).length<=20):
  Fl (iG "there" .non (iG "given" (-dg) (iG "done" (.int 0) (iG "place" (.int 1) (iG "boxes" (-db) (iG "own" (!own) (iG "rule" v (iG "rows" rv [])))))))) rv v own db dg 1 0 .non:=by
 exists ?_,?_,?_,?_,?_,?_,?_,?_,λm hm=>?_,O
 .iterate 7 rw[qI,A4 ()]
  rw[qI,A6 rfl]
 .iterate 6 rw[qI,A4 ()]
  rw[qI,A6 rfl]
 .iterate 5 rw[qI,A4 ()]
  rw[qI,A6 rfl]
 .iterate 4 rw[qI,A4 ()]
  rw[qI,A6 rfl]
 .iterate 3 rw[qI,A4 ()]
  rw[qI,A6 rfl]
 .iterate 2 rw[qI,A4 ()]
  rw[qI,A6 rfl]
  rfl
 .rw[qI,A4 (),qI,A6 rfl]
 .rw[qI,A6 rfl]
 .have h:=Si m hm
  iterate 8 rw[qI,A4 (λe=>h (by rw[e];decide+kernel))]
  rfl
structure Ini (n:Nat)(H:Hp)(C x dx:o3)(fs:om (Str×V))(H':Hp):Prop where
 len:↑fs<=n
 at':H' x=u_ (.ins C dx fs)
 kept:∀b o,H b=u_ o->b≠x->H' b=u_ o
def Ini.put {x:o3}{fs:om (Str×V)}(I:Ini n H C x dx fs H')(f:Str)(v:V):Ini (n+1) H C x dx (iG f v fs) (upd H' x (.ins C dx (iG f v fs)))/\Tk H' (upd H' x (.ins C dx (iG f v fs))):=
 ⟨⟨uY (DU f v fs) (r_ I.len),qg,λb o h n=>by rw[qi n];exact I.kept b o h n⟩,Tk.updI I.at'⟩
def Ini.same {x:o3}{fs:om (Str×V)}(I:Ini n H C x dx fs H')(s:ic H' H2):Ini n H C x dx fs H2:=[I.len:s _ _ I.at':λb o h n=>s _ _ (I.kept b o h n)]
def AbB {K:o0}{b A:o3}{H1:Hp}{te:TE}{tl:L2.St}{Q:VK}(O:∀H,SqT K H b (BX.map V.str))(Z:H1 A=U_)
  (U:∀(z:Str) H (R:VK),↑z<=Vg->ic H1 H->(∀y H',ic H H'->Is H' (emp z) y->R y H')->te (u_ (!z)::tl) H R)
  (hQ:∀H' ys,ic H1 H'->H' A=u_ (.lst ys)->L2.IsL H' (BX.map emp) ys->Q (-A) H'):CZ A (Itt K b) (YY 0) nG te (U_::tl) H1 Q:=by
 have hl:∀H,L2.IsL H (BX.map D.str) (BX.map V.str):=λH=>IsL.ofStrs λz hz=>yQ (by rw[(NL hz).1];decide)
 refine Au (ds:=BX.map D.str) (λd=>match d with| .str z=>emp z|d=>d) (yQ ()) Z (λi H sm hi=>⟨BX.map V.str,(BX.map V.str)[i]'(by simpa using hi),O H,ui _⟩) (λi H x H' d sm hd y=>?_) (λH sm=>⟨BX.map V.str,O H,by simp⟩) (λd x H R hd sm hx r=>?_) (λH' ys sm e h=>hQ H' ys sm e ?_)
 .erw[y,rfl,y];erw[(hl H').get hd,v,e1,e2];have:=y _ (O H');rw[e1] at this;cases this;exact[1:e2]
 .erw[Ae.mp hd,z,_,rfl];erw[hx,rfl,hz];exact U z H R hz sm r
 .rwa[uP] at h
def Ml:∀{d:D},mG d=v_->∃own,d= .str own/\nm own=v_/\↑own<=100
 | .str z,h=>⟨z,1,h,by
  rcases V6 24 ↑z with h1|h1
  .rw[show mG (!z)=nm z from rfl,BH (λq=>by omega)] at h
   cases h
  .omega⟩
def sO {n:Nat}:∀{ds:om D},ds.all (λd=>(Qp n d).isSome)=v_->((ds.filterMap (Qp n)).map λr=>D.str (Yh r))=ds/\↑(ds.filterMap (Qp n))=↑ds/\∀r>ds.filterMap (Qp n),Ji n 300 r
 | [],_=>⟨1,1,λr h=>by simp at h⟩
 |d::ds,h=>by
  rw[vF,uG] at h;erw[X0 h.1,r,O];erw[sO h.2,Z,i2,i3];cases d with
  |str z=>
   obtain⟨h1,h2⟩:=Bm (show Wi n z=u_ r from O)
   rw[Uf O];exists by rw[uC,h2,Z],by rw[uw,uw,i2],λx U=>?_
   rcases Aa.mp U with rfl|U
   .exact h1
   .exact i3 x U
  |_=>cases O
def Bq:∀{d:D}{rs:om Rw},QJ d=u_ rs->QX rs/\d=jQ rs
 | .tup ds,rs,h=>by
  rw[X4] at h;split at h
  .rename_i O
   cases h;simp![uG,vk] at O;erw[O,[[h1,h2],h3],h4];erw[sO h3,U,Z,i3];have e:jQ (ds.filterMap (Qp ↑ds))=¬ds:=A9 D.tup U;exact⟨⟨(),(),λr hr=>by rw[Z];exact i3 r hr,by rwa[e]⟩,e.symm⟩
  .cases h
inductive KO (C br bn:Addr)(vs:List V)(H:Hp)(Q:VK)(E:XK):Prop
 |mk (x dx:Addr)(v ov:V)(d od:D)(_:vs= [-x,v,ov])(_:H x=u_ (.ins C dx []))(_:Is H d v)(_:Is H od ov)(_:(QJ d=U_->∀(e:Addr)(H':Hp),(∀b o,H b=u_ o->b≠x->H' b=u_ o)->E (-e) (u_ br) H'))(_:(QJ d≠U_->mG od=Vc->∀(e:Addr)(H':Hp),(∀b o,H b=u_ o->b≠x->H' b=u_ o)->E (-e) (u_ bn) H'))(_:(∀(rs:List Rw)(own:Str),d=jQ rs->QX rs->od= .str own->nm own=v_->↑own<=100->∀(H':Hp)(db dg:Addr),(∀b o,H b=u_ o->b≠x->H' b=u_ o)->H db=U_->H dg=U_->yy C H' ⟨x,db,dg,rs,own⟩ (mM rs own [] 300 B0 1 0)->Q .non H'))
def k8 (T:Tx K mg a)(C:Fx K w mg g a):FnOk P w K mg base (CX1 P w) 6 a.jk a.xn ["self","rule","own"] (KO a.qm g.br g.bn):=by
 have QQ:=#[xB,T];have O:=#[Pq,T,C];have YL:=#[Ep,T,C];refine T.iN.F.okX Z7 () (λ_ _ _ _ H _ Q E hr h=>?_)
 erw[h,x,dx,v,ov,d,od,rfl,hx,hv,ho,kR,kN,k];exists 3,%[#[Qf,#[qp,16,O,hr.mono (),_,T.li.m,T.li.F.kp,T.li.b,.nil,Abb,#v[pv 1],_,_,_]],#[qH,#[Qo,#[Qc,#[qp,QQ,hr.mono (),T.iJ,#v[pv 2]]]],%[|#[Kl,22,C.x_BadName,_,C.m_BadName,ql,_,_]],qt],#[Qf,pv 1],#[Qf,pv 2],#[Qf,#[Qg,#[C7,1,rfl],T.z_dict,boot_dict,#v[#[xO,["box"],(1),[],Sm,#[wW,#[pe_gR,C.m_BOXES]],(λ_ _ _ _ _ _=>#[qM,(0),(show Vr (["box"]:om Str) by decide+kernel)]),(λ_ _ _ _ _ _=>#[qG,#v[pv 0,ql]])]]]],#[Qf,qh],#[Qf,qh],#[Qf,#[QR,qd]],#[Qf,qT]|#[qX,#[QL,pv 0,T.qu,T.iQ,YL]]]
 exists 0,v,d,1,hv,λrs al rv H1 s1 ir=>?_,λhn e H1 s1=>kR hn e H1 λb o h _=>s1 b o h
 exists 0,x,_,dx,[],1,s1 _ _ hx,T.qu,T.Ye,()
 have I0:Ini 0 H a.qm x dx [] H1:=[ur _:s1 _ _ hx:λb o h _=>s1 _ _ h];erw[I0.put "rows" rv,I1,t1];have aA:=ir.mono t1;have htk:∀{n:Nat}{fs:om (Str×V)}{H':Hp},Ini n H a.qm x dx fs H'->Tk H H':=λ{n fs H'} I=>⟨λb xs e=>I.kept b _ e (λz=>by rw[z,hx] at e;cases e),λb xs e=>⟨_,I.kept b _ e (λz=>by rw[z,hx] at e;cases e)⟩,λb xs e=>⟨_,I.kept b _ e (λz=>by rw[z,hx] at e;cases e)⟩⟩
 exists 0,ov,od,1,ho.mono (htk I1),λH3 s3=>[0:?_];have I3:=I1.same s3;cases ac:mG od with
 |false=>exact ky ⟨1,λe=>kN (by rw[al];simp) ac e H3 I3.kept⟩
 |true=>
 refine iL ?_;erw[Bq al,hR,rfl];erw[Ml ac,own,rfl,ac,am];cases(show ov= .str own from ho.1)
 have n1:=hR.n1;have k:=k rs own rfl hR rfl ac am;have aB:=aA.mono s3.tk
 exists 5
 refine⟨0,0,x,_,dx,0,I3.at',T.qu,T.WU,by have:=I3.len;omega,?_⟩
 erw[I3.put "rule" v,I4,t4];have aC:=aB.mono t4
 exists 5
 refine⟨0,0,x,_,dx,0,I4.at',T.qu,T.zg,by have:=I4.len;omega,?_⟩
 erw[I4.put "own" (!own),I5,t5];have aD:=aC.mono t5
 exists g.boxes,0,C.boxes _,λaO A0 aE=>?_;refine AbB (tl:= []) C.boxes aE (λz H6 R hz s6 r=>[0:(sml rfl):λl hl=>r _ _ (qf hl _) (Is.new (ds:= [!z,-""]) ⟨_,0,[1:hz],_,0,[1:yQ ()],1⟩ hl)]) λH6 ys s6 e6 i6=>?_
 exists A0,0,O3 e6 i6,MF,(),λdb Z=>?_
 have I6:=I5.same s6;have s7:ic H6 (upd H6 db (.dK (iP (BX.map λz=>(z,V.str ""))))):=qf Z _;have I7:=I6.same s7;have b7:=SM Z;have aF:=(aD.mono s6.tk).mono s7.tk;have nx:∀b o,H b=u_ o->b≠x->b≠db:=λb o h n=>qk (I6.kept b o h n) Z;have U:x≠db:=qk I6.at' Z
 exists 5
 refine⟨0,x,_,dx,0,I7.at',T.qu,T.Qv,by have:=I7.len;omega,?_⟩
 erw[I7.put "boxes" (-db),I8,t8];have b8:=b7.move t8 (qi U.symm);have aG:=aF.mono t8
 exists 5
 refine⟨0,x,_,dx,0,I8.at',T.qu,T.Qn,by have:=I8.len;omega,?_⟩
 erw[I8.put "place" (.int 1),I9,t9];have b9:=b8.move t9 (qi U.symm);have aH:=aG.mono t9
 exists 5
 refine⟨0,x,_,dx,0,I9.at',T.qu,T.yh,by have:=I9.len;omega,?_⟩
 erw[I9.put "done" (.int 0),ad,ao];have aI:=b9.move ao (qi U.symm);have ap:=aH.mono ao
 exists (sml rfl),λdg ae=>?_;have af:=qf ae (.lst []);have ag:=ad.same af;have aJ:=aI.same af;have aq:=ap.mono af.tk;have ah:dg≠x:=(qk ad.at' ae).symm
 exists 5
 refine⟨0,x,_,dx,0,ag.at',T.qu,T.YI,by have:=ag.len;omega,?_⟩
 erw[ag.put "given" (-dg),ak,au];have aK:=aJ.move au (qi U.symm);have aw:=aq.mono au
 exists 5
 refine⟨0,x,_,dx,0,ak.at',T.qu,T.qL,by have:=ak.len;omega,?_⟩
 erw[ak.put "there" .non,aa,ax];have aL:=aK.move ax (qi U.symm);have ay:=aw.mono ax;have hl:=aa.len
 exists 0,x,dx,0,aa.at',(NG ()).meth _ ()
 have aM:Is _ (jQ rs) v:=hv.mono (htk aa);have frs:∀{b:o3}{H2:Hp},(∀c o,H c=u_ o->c≠x->H2 c=u_ o)->H2 b=U_->b≠x->H b=none:=λ{b H2} k1 h1 n1=>by
  cases hc:H b with
  |none=>rfl
  |some o=>rw[k1 b o hc n1] at h1;cases h1
 have aN:∀b o,H b=u_ o->b≠x->b≠dg:=λb o h n=>qk (ad.kept b o h n) ae
 exists 5
 refine⟨⟨x,db,dg,rs,own⟩,⟨B0,(1),(0),[],.non⟩,1,⟨dx,_,rv,v,.non,[],aa.at',NG (),ay,aM,aL,?_,1,1⟩,1,Ty,am,hR,Int.le_refl 1,by show(1:Int)<=(↑rs:Int)+1;omega,uQ _,λH' m M=>k H' db dg (λb o h n=>m.kept b o (aa.kept b o h n) n (nx b o h n) (aN b o h n)) (frs I6.kept Z U.symm) (frs ad.kept ae ah) M⟩
 rw[qi ah,qi ah,qg]
abbrev Jg (z:Str):Bool:=z.cps.toList.all QF
def Et {y:Str}(h:Jg z=v_)(k:Jg y=v_):Jg (z++y)=true:=by
 unfold Jg at*;show(z.cps++y.cps).toList.all QF=v_;rw[tN,US,h,k];rfl
mutual
noncomputable def lw:D->Bool
 | .str z=>Jg z
 | .tup xs=>lwL xs
 |_=>Vc
noncomputable def lwL:om D->Bool
 | []=>v_
 |x::r=>lw x&&lwL r
end
def As (z:Str):↑z=↑z.cps.toList:=by show z.cps.size=_;simp
def EO (h:Jg z=v_)(O:↑z<=300):isT (!z)=true:=by
 have U:QA z=true:=by
  unfold QA;rwa[uj O,Tq]
 have Z:sz (!z)<=600:=by simp![sz];omega
 have e2:dp (!z)<=12:=by simp![dp];omega
 have e3:iR (!z)=true:=by simp![iR];exact U
 unfold isT;rw[e3,uj Z,uj e2]
 rfl
abbrev isP:D->Bool
 | .tup xs=>decide (↑xs=2)
 |_=>Vc
abbrev sr:D->Bool
 | .tup [k,d]=>if eqD k (-"made")=v_ then mG d else(eqD k (-"leaf")||eqD k (-"rule"))&&isT d
 |_=>Vc
abbrev okS:D->Bool
 | .tup [k,_]=>Nk k&&decide (dp k<=60)
 |_=>v_
inductive Os:Sp
 |mk (v:_)(d:_)(_:vs= [v])(_:Is H d v)(_:Q (.bl (isP d)) H)
inductive Dw:Sp
 |mk (v:_)(d:_)(_:vs= [v])(_:Is H d v)(_:okS d=v_)(_:∀H',ic H H'->Q (.bl (sr d)) H')
inductive OH (K:PySem.W.Frag):Sp
 |mk (q:Addr)(ns:List Int)(k:Int)(_:vs= [-q,.int k])(_:0<=k)(_:SqL K H q (ns.map V.int))(_:∀i:Int,Q (.int i) H)
def lV {b:Bool}{A B:Prop}(O:b=v_)(h:A):if b=v_ then A else B:=by rw[A6 O];exact h
def iZ {b:Bool}{A B:Prop}(O:b=Vc)(h:B):if b=v_ then A else B:=by rw[A4 (by rw[O];exact ud)];exact h
def Pw:#[T,1,a.f_is_pair,a.d_is_pair,["value"],Os]:=by
 exists 9,T.nz,CB
 erw[h,v,d,rfl,U,k];exists 3,%[|#[qo,#[ZC,#[qA,#[qU,2,rfl],T.qR,vc,#v[pv 0,#[Q9,.ty "tuple",T.QG,vw]]],#[XL,#[Qw,QN,#[qA,JA,T.yR,uO,#v[pv 0]],qh]]]]]
 exists 0,v,"tuple",tyD d,zp d,1,U.ty,xF d,0;cases Z:zp d with
 |false=>
  refine iL ?_;have e:isP d=false:=by cases d<;>first|rfl|simp[zp] at Z
  rwa[e] at k
 |true=>
  obtain⟨xs,rfl⟩:∃xs,d=¬xs:=by cases d<;>simp[zp] at Z;exact⟨0⟩
  erw[U,p,us,rfl,hp,O];have lu:=↑O;refine ky [0:.inr ⟨p,us,1,.inr (SqT.of hp),λ_=>[1:?_]⟩];have e:decide (V.int (↑us:Int)=V.int 2)=isP (¬xs):=by
   simp![isP,ve];constructor
   .intro h;have:=V.int.inj h;omega
   .intro h;rw[lu,h]
    rfl
  rwa[<-e] at k
def Ef:#[T,3,a.wL,a.Wc,["value"],Dw]:=by
 have O:=#[Pw,T];have QQ:=#[xB,T];have yN:=#[jr,T];exists 9,T.mQ,nV,Z
 erw[h,v,d,rfl,hv,hok,k];exists 3,%[#[qH,#[Qo,#[Qc,#[qp,O,Z.mono (),T.nz,#v[pv 0]]]],%[|#[qo,YA]],qt],#[qH,#[qq,#[Abf,1,Z.units],#[qC,qD,pv 0],ql,qw _],%[|#[qo,#[qp,QQ,Z.mono (),T.iJ,#v[#[qC,qD,pv 0]]]]],qt]|#[qo,#[ZC,#[Qw,8,#[Nh,1,Z.units],#[qC,qD,pv 0],#[qG,#v[ql,ql]],#[w]],#[XL,#[qp,yN,Z.mono (),T.iX,#v[#[qC,qD,pv 0]]]]]]]
 exists 0,v,0,hv,0;cases hP:isP d with
 |false=>
  refine ky ?_;have e:sr d=false:=by
   cases d with
   |tup xs=>
    match xs,hP with
    | [],_=>rfl
    | [_],_=>rfl
    | [_,_],h=>simp[isP] at h
    |_::_::_::_,_=>rfl
   |_=>rfl
  have:=k H (ic.refl _);rwa[e] at this
 |true=>
  refine iL ?_;obtain⟨z,e,rfl⟩:∃z e,d=-[z,e]:=by
   cases d with
   |tup xs=>
    match xs,hP with
    | [],h=>simp[isP] at h
    | [_],h=>simp[isP] at h
    | [x,y],_=>exact[x:y:1]
    |_::_::_::_,h=>simp[isP] at h
   |_=>simp[isP] at hP
  erw[id hv,p,us,rfl,hp,x1,r1,rfl,h1,x2,r2,rfl,h2,h3];cases(show r2= [] from h3)
  have U:Nk z=v_/\dp z<=60:=by simpa [okS] using hok
  exists 0,p,_,_,0,1,SqT.of hp,1,z,"made",h1,1,(),U.1,U.2,0
  cases c:eqD z (-"made") with
  |true=>
   refine ky ⟨0,p,_,_,0,1,SqT.of hp,1,x2,e,1,h2,λH' s'=>?_⟩;have:=k H' s';simp![sr,c,Vb] at this;exact this
  |false=>
   refine iL ⟨0,p,_,_,0,1,SqT.of hp,1,(sml rfl),λq hq=>?_⟩;have s1:ic H (upd H q (-[-"leaf",-"rule"])):=qf hq _
   exists z,q,["leaf","rule"],h1.mono s1.tk,1,.inr (SqT.of qg),(),U.1,U.2,0
   have e2:(["leaf","rule"]:om Str).any (λy=>eqD z (!y))=(eqD z (-"leaf")||eqD z (-"rule")):=by simp
   rw[e2];cases c2:(eqD z (-"leaf")||eqD z (-"rule")) with
   |true=>
    refine ky ⟨0,p,_,_,0,1,SqT.of (s1 _ _ hp),1,x2,e,1,h2.mono s1.tk,λH' s'=>?_⟩;have:=k H' (s1.trans s');simp![sr,c,c2,Tq,UO,if_false] at this;exact this
   |false=>
    refine iL ?_;have:=k _ s1;simp![sr,c,c2,FD,UO,if_false] at this;exact this
def PP:#[T,1,a.XW,a.XX,["script","k"],(OH K)]:=by
 exists 9,T.mn,WR
 erw[h,q,ns,j,rfl,h0,O,k];exists 3,%[#[qH,#[qq,D6,pv 1,#[qA,qN,T.yR,uO,#v[pv 0]],qw _],%[|#[qo,#[qC,7,Qa,pv 0,pv 1,(λ_ _=>rfl)]]],qt]|#[qo,qh]]
 exists 0,0,q,0,.inl O,_,0,1,0;refine lW (λc=>?_) (λc=>?_)
 .have Z:j<(↑(ns.map V.int):Int):=uA c;erw[J8 h0 Z,v,U];erw[Ae.mp (zq U),i,_,rfl];exact⟨0,0,q,_,_,0,1,O,U,k _⟩
 .exact k 0
abbrev okN (z:Str):Bool:=(z.cps.toList.map λc=>inS ⟨#[c]⟩ NSG).all id
def xS (h:nm z=v_):1<=↑z/\↑z<=24:=by
 by_cases c:1<=(↑z:Int)/\(↑z:Int)<=24
 .omega
 .rw[BH c] at h;cases h
abbrev Nms (zs:om Str):Prop:=(∀z>zs,nm z=v_)/\zs.Nodup
abbrev sS (d:D):Prop:=(∃k e,d=-[!k,e])/\sr d=v_/\lw d=v_/\sz d<=306
abbrev prD (p:Str×D):D:=-[.str p.1,p.2]
abbrev AdC (ps:om (Str×D)):Prop:=Nms (ps.map (·.1))/\∀p>ps,sS p.2
def Es (h:okN z=v_):Jg z=true:=by
 unfold Jg;rw[Um];intro c U;have:=List.all_eq_true.mp h _ (Ae.mpr [c:U:1]);rw[id,Sv] at this;have O:∀c>NSG.cps.toList,QF c=true:=by decide+kernel
 exact O c (uA this)
def No (h:nm z=v_):okN z=true:=by
 have O:=xS h;cases h3:inS ⟨#[z.cps.getD 0 0]⟩ LET with
 |false=>rw[BI h3] at h;cases h
 |true=>
  rw[Ew () () h3] at h
  exact h
def Ld (h:nm z=v_):sS (-[-"made",!z]):=by
 have O:=xS h;refine⟨[_:0],?_,?_,by simp![sz,szL];show 1+(("made":Str).length+1+(↑z+1+0))<=306;have:("made":Str).length=4:=rfl;omega⟩
 .show(if eqD (-"made") (-"made")=v_ then nm z else(eqD (-"made") (-"leaf")||eqD (-"made") (-"rule"))&&isT (!z))=v_
  rw[A6 ()]
  exact h
 .have:Jg "made"=true:=by decide+kernel
  simp![lw,lwL,this,Es (No h)]
  rfl
def Le {k:Str}{d:D}(O:k="leaf"\/k="rule")(h:isT d=v_)(U:lw d=v_)(hz:sz d<=300):sS (-[!k,d]):=by
 have Z:↑k=4:=by rcases O with rfl|rfl<;>rfl
 refine⟨[_:0],?_,?_,by simp![sz,szL];omega⟩
 .show(if eqD (!k) (-"made")=v_ then mG d else(eqD (!k) (-"leaf")||eqD (!k) (-"rule"))&&isT d)=v_
  have e1:eqD (!k) (-"made")=false:=by rcases O with rfl|rfl<;>decide+kernel
  have e2:(eqD (!k) (-"leaf")||eqD (!k) (-"rule"))=true:=by rcases O with rfl|rfl<;>decide+kernel
  rw[e1,e2,h]
  rfl
 .have:Jg k=true:=by
   rcases O with rfl|rfl<;>decide+kernel
  simp![lw,lwL,this,U]
  rfl
def Of {d:D}(h:sS d):okS d=true:=by
 erw[h,[k,e,rfl],_];simp[okS,Nk,trD,dp]
def yx (h:↑z<=16000000):Is H (!z) (!z):=[1:nj h]
abbrev qF (ps:om (Str×D))(z:Str):D:=((ps.find? λp=>decide (p.1=z)).map (·.2)).getD .non
abbrev zx (vs:om (Str×V))(z:Str):V:=(iO (iP vs) (Vf z)).getD .non
def Ww (p:Str×V)(r:om (Str×V)):iP (p::r)=(Vf p.1,p.2)::iP r:=rfl
def oT {H:Hp}{z:Str}:∀{ps:om (Str×D)}{vs:om (Str×V)},vs.map (·.1)=ps.map (·.1)->IsL H (ps.map (·.2)) (vs.map (·.2))->z>ps.map (·.1)->iO (iP vs) (Vf z)=u_ (zx vs z)/\Is H (qF ps z) (zx vs z)
 | [],_,_,_,h=>nomatch h
 |p::ps,[],e,_,_=>by simp at e
 |p::ps,v::vs,e,hi,hz=>by
  simp![uC,UU] at e;erw[hi,u,r,e2,h1,h2];simp![uC,UU] at e2;erw[e2,rfl,rfl];by_cases c:p.1=z
  .have O:v.1=z:=e.1.trans c;have e3:iO (iP (v::vs)) (Vf z)=u_ v.2:=by
    rw[Ww];exact QV (by rw[O])
   have U:qF (p::ps) z=p.2:=by simp[qF,vb,c]
   unfold zx;rw[e3,U];exact[1:h1]
  .have O:¬v.1=z:=λq=>c (e.1.symm.trans q);have e3:iO (iP (v::vs)) (Vf z)=iO (iP vs) (Vf z):=by
    rw[Ww];exact QK (λq=>O (Uy q))
   have U:qF (p::ps) z=qF ps z:=by simp[qF,vb,c]
   have Z:z>ps.map (·.1):=by
    rcases Aa.mp hz with h|h
    .exact A8 h.symm c
    .exact h
   have ih:=oT e.2 h2 Z;unfold zx at*;rw[e3,U];exact ih
def Ap {z:Str}:∀{vs:om (Str×V)},z∉vs.map (·.1)->iO (iP vs) (Vf z)=U_
 | [],_=>rfl
 |v::vs,h=>by
  rw[Ww,QK (λq=>h (by rw[<-Uy q];exact uh ..))]
  exact Ap λm=>h (ug _ m)
def MZ:∀{ps:om (Str×D)},(ps.map (·.1)).Nodup->(ps.map (·.1)).map (λz=>(z,qF ps z))=ps
 | [],_=>rfl
 |p::ps,h=>by
  have h':=List.nodup_cons.mp h;have O:qF (p::ps) p.1=p.2:=by simp[qF,vb]
  rw[uC,uC,O]
  congr 1
  refine Eq.trans (Ui λz hz=>?_) (MZ h'.2);have:¬p.1=z:=λq=>h'.1 (by show p.1>_;rwa[q])
  simp[qF,vb,this]
abbrev Cv (ps:om (Str×D))(ms:om Str):om (Str×D):=ms.map λz=>(z,qF ps z)
def Ki (ps:om (Str×D))(O:om Str):(Cv ps O).map (·.1)=O:=by
 unfold Cv;rw[uP];exact(Ui λ_ _=>rfl).trans (tu O)
def Bb {ps:om (Str×D)}{O:om Str}(hn:(ps.map (·.1)).Nodup)(h:O.Perm (ps.map (·.1))):(Cv ps O).Perm ps:=by
 have:=h.map λz=>(z,qF ps z);rwa[MZ hn] at this
abbrev yS (C:o3)(H:Hp)(x:o3)(qs:om (Str×D)):Prop:=∃(dx d:o3) (o:Obj) (vs:om (Str×V)),H x=u_ (.ins C dx [("by_name",-d)])/\H d=u_ (.frz o (.dK (iP vs)))/\vs.map (·.1)=qs.map (·.1)/\L2.IsL H (qs.map (·.2)) (vs.map (·.2))
variable {qs:om (Str×D)}
def yS.same {x:o3}(h:yS C H x qs)(s:ic H H'):yS C H' x qs:=by
 erw[h,dx,d,o,vs,h1,h2,h3,h4];exact⟨dx,d,o,vs,s _ _ h1,s _ _ h2,h3,h4.mono s.tk⟩
abbrev Qk (qs:om (Str×D)):Prop:=AdC qs/\sortedS (qs.map (·.1))=v_/\↑qs<=60
inductive OA (C:Addr):Sp
 |mk (x dx t:Addr)(ps:List (Str×D))(us:List V)(_:vs= [-x,-t])(_:H x=u_ (.ins C dx []))(_:H t=u_ (¬us))(_:L2.IsL H (ps.map prD) us)(_:AdC ps)(_:↑ps<=60)(_:∀(qs:List (Str×D))(H':Hp),(∀b o,H b=u_ o->b≠x->H' b=u_ o)->yS C H' x qs->Qk qs->qs.Perm ps->Q .non H')
variable {l:om Str}
def Nms.perm {m:om Str}(h:Nms m)(p:l.Perm m):Nms l:=[λz hz=>h.1 z (p.mem_iff.mp hz):(p.nodup_iff).mpr h.2]
def Cg {ps:om (Str×D)}{d:D}(hn:(ps.map (·.1)).Nodup)(h:(z,d)>ps):qF ps z=d:=by
 induction ps with
 |nil=>cases h
 |cons p r Z=>
  have O:=List.nodup_cons.mp hn;rcases Aa.mp h with h|h
  .subst h;simp[qF,vb]
  .have:¬p.1=z:=λq=>O.1 (by show p.1>_;rw[q];exact Ae.mpr [_:h:1])
   have U:=Z O.2 h
   simpa [qF,vb,this] using U
def SK {ps:om (Str×D)}(hn:(ps.map (·.1)).Nodup)(h:z>ps.map (·.1)):(z,qF ps z)>ps:=by
 erw[Ae.mp h,p,O,rfl];rw[Cg hn (show(p.1,p.2)>ps from O)]
 exact O
def EU (vs:om (Str×V))(z:Str)(v:V):iP (vs++ [(z,v)])=iP vs++ [(Vf z,v)]:=by
 unfold iP;rw[uq]
 rfl
def AeA {α β:Type}(f:α->β){l:om α}(h:i<↑l):(l.map f)[i]? =u_ (f l[i]):=by
 rw[uK,ui h]
 rfl
def Lb {α:Type}{l:om α}(h:i<↑l):l.take (i+1)=l.take i++ [l[i]]:=by
 rw[vj,ui h]
 rfl
def PF:#[T,4,a.jj,a.xu,["self","sources"],(OA a.qJ)]:=by
 have QQ:=#[xB,T];have U:=#[Ef,T];refine T.l9.F.ok yK () (λ_ _ _ _ H vs Q E hr h=>?_)
 erw[h,x,dx,t,ps,us,rfl,hx,ht,ap,hok,aL,k];have hs:=uE;exists 3,%[#[qE,2,(2),4,yK.nd,rfl,Gk rfl,jI,_,_],#[Ym,#[Wy,pv 1],#[oz,6,rfl,Qy #[qM,(3),yK.nd] (Qy #[qM,(4),yK.nd] JH),_,_],%[#[qH,#[Qo,#[Qc,#[qp,QQ,hr.mono (),T.iJ,#v[pv 3]]]],%[|J4],qt],#[qH,#[Qo,#[Qc,#[qp,U,hr.mono (),T.mQ,#v[pv 4]]]],%[|J4],qt],#[qH,#[kj,#[pc_din,QZ hr,pv 3,pv 2]],%[|J4],qt],#[qH,#[qq,QN,#[qA,IE,T.yR,uO,#v[pv 2]],#[Kq,T.m_MOST_NAMES],qw _],%[|J4],qt]|#[Jo,pv 2,pv 3,pv 4]]]|#[Qf,#[Qg,#[C8,1,rfl],T.z_dict,boot_dict,#v[#[xO,["name","by_name"],(1),[2],IR (qj Yd) ["self","sources","by_name","name","source"],#[wY,#[qA,#[sJ,1,rfl],T.z_sorted,boot_sorted,#v[pv 2]]],(λ_ _ _ _ _ _=>#[qM,(0),(show Vr (["name","by_name"]:om Str) by decide+kernel)]),(λ_ _ _ _ _ _=>#[qG,#v[pv 0,#[QH,pv 1,pv 0]]])]]]]]
 intro d hd;have s1:ic H (upd H d (.dK [])):=qf hd _;have aM:d≠x:=λe=>by rw[e,hx] at hd;cases hd
 have aq:=↑ap;rw[uc] at aq
 exists 5
 refine⟨0,t,1,[_:SqT.of (s1 _ _ ht)],Xf (K:=K) (a:=t) (xs:=us) (λi σ H'=>∃(vs:om (Str×V)) (nv sv:oq V),σ= [u_ (-x),u_ (-t),u_ (-d),nv,sv]/\ic H H'/\H' d=u_ (.dK (iP vs))/\vs.map (·.1)=(ps.take i).map (·.1)/\L2.IsL H' ((ps.take i).map (·.2)) (vs.map (·.2)))
  ⟨[],U_,U_,1,s1,qg,1,1⟩ (λi σ H' _ ⟨_,_,_,_,sm,_⟩=>SqT.of (sm _ _ ht)) ?_ ?_⟩
 .rintro i y σ H' hi ⟨vs,nv,sv,rfl,sm,ac,hk,hv⟩;have aN:i<↑us:=(Af.mp hi).1;have Z:i<↑ps:=by omega
  erw[ap.get (AeA prD Z),v,e1,e2];rw[hi] at e1;cases e1;have au:=hok.2 _ (uR Z);have aB:nm ps[i].1=true:=hok.1.1 _ (Ae.mpr [_:uR Z:1]);erw[au,[sk,sd,aO],aC,aP];erw[e2,p,ws,rfl,hp,w1,r1,rfl,[rfl,hz],w2,r2,rfl,h2,h3];cases(show r2= [] from h3)
  have aD:=sm _ _ hp
  exists p,0,SqT.of aD,1,_,0,_,0,1
  exists 0,_,.str ps[i].1,1,[1:hz],λH3 s3=>⟨0,iZ (by simp[mG,aB]) ?_⟩
  have aw:Is H3 ps[i].2 w2:=h2.mono (sm.trans s3).tk
  exists 0,w2,ps[i].2,1,aw,Of (hok.2 _ (uR Z)),λH4 s4=>⟨0,iZ (by rw[aC];rfl) ?_⟩
  have af:=s3.trans s4;have ad:=af _ _ ac;have nk:ps[i].1∉vs.map (·.1):=by
   rw[hk];have aa:=hok.1.2;have e:ps.map (·.1)=(ps.take i).map (·.1)++ps[i].1::(ps.drop (i+1)).map (·.1):=by
    rw[<-uC (f:=λx:Str×D=>x.1),<-uV Z,<-uq,U6]
   rw[e,UH] at aa;exact λm=>aa.2.2 _ m _ (uh ..) rfl
  have ev:=Ap nk;have aE:↑vs=i:=by
   have:=A9 VI hk;rw[uc,uc,vy] at this;omega
  exists 0,0,d,0,mV.k (k:=Vf ps[i].1) ad,0,iZ (by rw[ev];rfl) ?_
  exists 0,d,0,ad,1,0,iZ (um λq=>?_) ?_
  .have:=V.int.inj q;unfold iP at this;rw[uc] at this;omega
  .have aF:↑(iP vs)<sizeLine:=by
    unfold iP;rw[uc];omega
   exists 0,0,0,d,0,IQ.k (k:=Vf ps[i].1) ad aF;have tk:Tk H4 (upd H4 d (.dK (lJ (iP vs) (Vf ps[i].1) w2))):=Tk.updD ad
   exists vs++ [(ps[i].1,w2)],_,0,?_,?_,?_,?_
   .intro b o e;rw[qi (qk e hd)];exact(sm.trans af) _ _ e
   .rw[qg,Kc _ ev,EU]
   .rw[Lb Z,uq,uq,hk]
    rfl
   .rw[Lb Z,uq,uq];exact(((hv.mono af.tk).mono tk)).append (L2.IsL.one ((aw.mono s4.tk).mono tk))
 .rintro σ H1 ⟨vs,nv,sv,rfl,sm,ac,hk,hv⟩;rw[aq,vW] at hk hv;have aE:↑vs=↑ps:=by
   have:=A9 VI hk
   rwa[uc,uc] at this
  have ag:(iP vs).map (·.1)=(ps.map (·.1)).map Sum.inr:=by rw[wG,hk]
  exists 5
  refine⟨0,d,iP vs,ps.map (·.1),1,ac,ag,by rw[uc];omega,λms q O ah hq=>⟨q,1,[_:SqL.of qg],λA0 ak=>?_⟩⟩
  have s2:ic H1 (upd H1 q (.lst (ms.map V.str))):=qf hq _;have aQ:↑ms=↑ps:=by
   have:=O.length_eq
   rwa[uc] at this
  refine Sn (K:=K) (tl:= [u_ (-d)]) (λi ys H'=>∃ts:om o3,ys=ts.map V.ref/\↑ts=i/\ic H1 H'/\H' A0=u_ (.lst ys)/\∀(j:Nat) (t:o3) (z:Str),ts[j]? =u_ t->ms[j]? =u_ z->H' t=u_ (-[!z,zx vs z])) qg () ak
   ⟨[],1,1,s2.trans (qf ak _),qg,λj t z h=>by simp at h⟩ ?_ ?_
  .rintro i z ys H' hz ⟨ts,rfl,ae,s3,hA,al⟩ _ _ _ R r;have aG:z>ps.map (·.1):=O.mem_iff.mp (vg hz);have lk:=oT hk hv aG
   exists 0,0,0,d,zx vs z,1,?_,(sml rfl),λt2 am=>?_
   .have:=mV.k (k:=Vf z) (s3 _ _ ac);rwa[lk.1] at this
   .have s4:=qf am (-[V.str z,zx vs z]);have aH:t2≠A0:=λe=>by rw[e,hA] at am;cases am
    refine r _ _ (s4 _ _ hA) (s4 _ _ (by assumption)) ⟨ts++ [t2],by rw[uq];rfl,by rw[uF,ae];rfl,?_,qg,?_⟩
    .intro b o e;have nb:b≠A0:=qk (s2 _ _ e) ak;rw[qi nb];exact s4 _ _ (s3 _ _ e)
    .intro j t z' h1 h2;rcases V6 j i with hj|hj
     .rw[UI ()] at h1
      have:=al j t z' h1 h2;have nb:t≠A0:=λe=>by rw[e,hA] at this;cases this
      rw[qi nb];exact s4 _ _ this
     .have aI:j=i:=by
       have:=(Af.mp h1).1;rw[uF] at this;have:j<↑ts+1:=this;omega
      subst aI;rw[hz] at h2;cases h2;rw[vM (),ae,Tj] at h1
      cases h1;rw[qi aH];exact qg
  .rintro ys H2 ⟨ts,rfl,ae,s3,hA,al⟩ _;have aa:=hok.1.2;have aJ:ms.Nodup:=O.nodup_iff.mpr aa;have ax:(ms.map λz=>(z,zx vs z)).map (·.1)=ms:=by
    rw[uP];exact(Ui λ_ _=>rfl).trans (tu ms)
   exists 5
   refine⟨A0,ms.map λz=>(z,zx vs z),1,⟨ts,hA,by rwa[uc],λj t p h1 h2=>?_⟩,by rwa[ax],by rw[uc];omega,λq2 o ao=>?_⟩
   .rw[uK] at h2;cases h3:ms[j]? with
    |none=>rw[h3] at h2;cases h2
    |some z=>
     rw[h3] at h2;cases h2;exact al j t z h1 h3
   .have s4:=qf ao (.frz o (.dK (iP (ms.map λz=>(z,zx vs z)))));have ay:H1 x=u_ (.ins a.qJ dx []):=sm _ _ hx;have aA:=s4 _ _ (s3 _ _ ay);have nq:q2≠x:=λe=>by rw[e,s3 _ _ ay] at ao;cases ao
    exists 0,x,a.qJ,dx,[],1,aA,T.Q6,T.yc,(by show 0<1000;decide)
    refine k (Cv ps ms) _ ?_ ⟨dx,q2,o,ms.map λz=>(z,zx vs z),qg,by rw[qi nq];exact qg,by rw[ax,Ki],?_⟩ ⟨[?_:?_],by rwa[Ki],by unfold Cv;rw[uc];omega⟩ (Bb aa O)
    .intro b ob e nb;rw[qi nb];exact s4 _ _ (s3 _ _ (sm _ _ e))
    .have tk:Tk H1 (upd (upd H2 q2 (.frz o (.dK (iP (ms.map λz=>(z,zx vs z)))))) x (.ins a.qJ dx (iG "by_name" (-q2) []))):=(s3.trans s4).tk.trans (Tk.updI aA);have aK:∀l:om Str,(∀z>l,z>ps.map (·.1))->L2.IsL H1 ((Cv ps l).map (·.2)) ((l.map λz=>(z,zx vs z)).map (·.2)):=by
      intro l
      induction l with
      |nil=>exact λ_=>rfl
      |cons z r ih=>exact λh=>⟨_,0,(oT hk hv (h z (uh ..))).2,ih λy hy=>h y (ug _ hy)⟩
     exact(aK ms λz hz=>O.mem_iff.mp hz).mono tk
    .rw[Ki];exact hok.1.perm O
    .intro p hp;exact hok.2 p ((Bb aa O).mem_iff.mp hp)
def E9:VB ("by_name":Str) [(("by_name":Str),v)]=u_ v:=by simp[VB]
def Yj:VB ("source_of":Str) [(("by_name":Str),v)]=none:=by
 have:(("source_of":Str)=="by_name")=false:=by decide+kernel
 simp[VB,this]
inductive wm (C:Addr):Sp
 |mk (x:Addr)(z:Str)(qs:List (Str×D))(_:vs= [-x,!z])(_:yS C H x qs)(_:∀v:V,(z>qs.map (·.1)->Is H (qF qs z) v)->(z∉qs.map (·.1)->v= .non)->Q v H)
def YG:#[T,1,a.YN,a.YH,["self","name"],(wm a.qJ)]:=by
 refine T.ii.F.ok xh () (λ_ _ _ _ H vs Q E U h=>?_)
 erw[h,x,z,qs,rfl,[dx,d,o,vs,Z,hd,O,hv],k];exists 3,%[|#[qo,#[KG,7,QZ U,#[qO,5,pv 0,rfl],pv 1,⟨1,1,1,1⟩]]]
 exists 0,x,a.qJ,dx,_,0,Z,T.Q6,T.yc,E9,d,1,.inl [_:.inr [o:hd]],0,_,.inl ⟨_,Vf z,.inr [o:hd],1,1⟩;refine k _ (λc=>?_) λc=>?_
 .exact(oT O hv c).2
 .rw[Ap (by rwa[O])]
  rfl
abbrev CF (zs:om Str):D:= .tup (zs.map D.str)
abbrev Bp (acc:om Str):om Str->om Str
 | []=>acc
 |z::r=>if isT (CF (acc++ [z]))=v_ then Bp (acc++ [z]) r else acc
inductive ke (K:PySem.W.Frag):Sp
 |mk (L:Addr)(zs:List Str)(_:vs= [-L])(_:H L=u_ (.lst (zs.map V.str)))(_:(∀z>zs,↑z<=100))(_:↑zs<=100)(_:∀(v:V)(H':Hp),ic H H'->Is H' (CF (Bp [] zs)) v->Q v H')
variable {xs:om V}{Q:VK}
def Ad5 {K:o0}{a:o3}{x:V}(ha:H a=u_ (¬xs))(O:↑xs+1<=Vg)(k:∀p H',ic H H'->H' p=u_ (.tup (xs++ [x]))->Q (-p) H'):
  [x].length<=Vg/\∀q,H q=U_->LA K (-a) (-q) (upd H q (-[x])) Q:=by
 exists sml rfl,λq U=>?_;have s1:ic H (upd H q (-[x])):=qf U _;exists a,q,xs,[x],1,1,SqT.of (s1 _ _ ha),SqT.of qg,O,λe=>?_,(λ_ e=>by cases e),λ_ _ p Z=>?_
 .refine k q _ s1 ?_;rw[e];exact qg
 .exact k p _ (s1.trans (qf Z _)) qg
variable {zs:om Str}{p:o3}
def EN (h:H p=u_ (.tup (zs.map V.str)))(hz:∀z>zs,↑z<=100):Is H (CF zs) (-p):=by
 have O:∀(zs:om Str),(∀z>zs,↑z<=100)->IsL H (zs.map D.str) (zs.map V.str):=by
  intro zs
  induction zs with
  |nil=>exact λ_=>rfl
  |cons z r U=>
   intro h;exact⟨_,0,⟨1,nj (by have:=h z (uh ..);omega)⟩,U λy Z=>h y (ug _ Z)⟩
 exact⟨p,0,h,O zs hz⟩
def Bo:∀(zs O:om Str) (z:Str),z>Bp O zs->z>O\/z>zs
 | [],O,z,h=> .inl h
 |y::r,O,z,h=>by
  unfold Bp at h;split at h
  .rcases Bo r _ z h with h|h
   .rcases Ac.mp h with h|h
    .exact .inl h
    .exact .inr (by rw[Ab.mp h];exact uh ..)
   .exact .inr (ug _ h)
  .exact .inl h
inductive DB (C:Addr):Sp
 |mk (x t:Addr)(kind text:Str)(qs:List (Str×D))(_:vs= [-x,-t])(_:yS C H x qs)(_:Qk qs)(_:H t=u_ (-[!kind,!text]))(_:↑text<=1000)(_:((kind="has"/\Q (.str (if text>qs.map (·.1) then "yes" else "no")) H)\/(kind="names"/\∀(v:V)(H':Hp),ic H H'->Is H' (CF (Bp [] ((qs.map (·.1)).filter λz=>Go z text))) v->Q v H')))
def Kv {vs:om (Str×V)}(O:vs.map (·.1)=qs.map (·.1))(hi:L2.IsL H (qs.map (·.2)) (vs.map (·.2)))(z:Str):(iO (iP vs) (Vf z)).isSome=decide (z>qs.map (·.1)):=by
 by_cases c:z>qs.map (·.1)
 .rw[(oT O hi c).1,uj c]
  rfl
 .rw[Ap (by rw[O];exact c),um c]
  rfl
def CS:#[T,3,a.Xw,a.zc,["names"],(ke K)]:=by
 have yN:=#[jr,T];exists 9,T.mj,Yc
 erw[h,L,zs,rfl,hL,hz,hn,k];have hs:=uE;exists 3,%[#[qE,(1),Yc.nd,#[qG,qd]],#[Ym,#[wY,pv 0],#[qM,(2),Yc.nd],%[#[qH,#[Qo,#[Qc,#[qp,yN,hr.mono (),T.iX,#v[#[Qh,zn,pv 1,#[qG,#v[pv 2]]]]]]],%[|LB],qt]|#[qE,(1),Yc.nd,#[Qh,zn,pv 1,#[qG,#v[pv 2]]]]]]|#[qo,pv 1]]
 exists (sml rfl),λq hq=>?_;have s1:ic H (upd H q (-[])):=qf hq _
 exists 5
 refine⟨0,L,1,[_:SqL.of (s1 _ _ hL)],B9 (K:=K) (a:=L) (xs:=zs.map V.str) (λi σ H'=>∃(row:om Str) (p:o3) (kv:oq V),σ= [u_ (-L),u_ (-p),kv]/\H' p=u_ (.tup (row.map V.str))/\ic H H'/\Bp row (zs.drop i)=Bp [] zs/\↑row<=i/\∀z>row,z>zs)
  ⟨[],q,U_,1,qg,s1,1,ur _,λz h=>nomatch h⟩ (λi σ H' _ ⟨_,_,_,_,_,s2,_⟩=>SqL.of (s2 _ _ hL)) ?_ ?_⟩
 .rintro i x σ H' hi ⟨row,p,kv,rfl,Z,s2,O,hl,hm⟩;have U:i<↑zs:=by
   have:=(Af.mp hi).1
   simpa using this
  obtain rfl:x=V.str zs[i]:=by
   rw[uK,ui U] at hi;exact(uM hi).symm
  have ed:zs.drop i=zs[i]::zs.drop (i+1):=uV U;rw[ed] at O;rw[show Bp row (zs[i]::zs.drop (i+1))=if isT (CF (row++ [zs[i]]))=v_ then Bp (row++ [zs[i]]) (zs.drop (i+1)) else row from rfl] at O
  have aa:∀z>row++ [zs[i]],z>zs:=λz h=>by
   rcases Ac.mp h with h|h
   .exact hm z h
   .rw[Ab.mp h];exact uR U
  have hsz:↑(row.map V.str)+1<=sizeLine:=by rw[uc];omega
  have em:row.map V.str++ [V.str zs[i]]=(row++ [zs[i]]).map V.str:=by simp
  exists 0,0,Ad5 Z hsz λp2 H3 s3 h3=>⟨_,CF (row++ [zs[i]]),1,EN (by rw[h3,em]) λz h=>hz z (aa z h),λH4 s4=>[0:?_]⟩
  cases hT:isT (CF (row++ [zs[i]])) with
  |false=>
   rw[A4 (by rw[hT];exact ud)] at O
   refine ky [0:k _ H4 ((s2.trans s3).trans s4) ?_];rw[<-O];exact EN (s4 _ _ (s3 _ _ Z)) λz h=>hz z (hm z h)
  |true=>
   rw[A6 hT] at O;refine iL [0:0:Ad5 (s4 _ _ (s3 _ _ Z)) hsz λp5 H5 s5 h5=>?_];exact⟨row++ [zs[i]],p5,0,by rw[h5,em],((s2.trans s3).trans s4).trans s5,O,by rw[uF];show ↑row+1<=i+1;omega,aa⟩
 .rintro σ H' ⟨row,p,kv,rfl,Z,s2,O,hl,hm⟩
  exists 0,k _ H' s2 ?_;rw[uc,rO] at O;rw[<-O];exact EN Z λz h=>hz z (hm z h)
def oI:#[T,4,a.YK,a.YO,["self","ask"],(DB a.qJ)]:=by
 have Ke:=#[CS,T];refine T.iH.F.ok xg () (λ_ _ _ _ H vs Q E hr h=>?_)
 erw[h,x,t,kind,text,qs,rfl,[dx,d,o,vs,hx,hd,hk,hv],U,Z,ad,h];have hs:=uE;exists 3,%[#[qH,#[qq,QN,#[qC,qD,pv 1],ql,qw _],%[|#[qo,#[yd,#[kj,#[pc_din,QZ hr,#[qC,qD,pv 1],#[qO,5,pv 0,rfl]]],ql,ql]]],qt]|#[qo,#[qp,Ke,hr.mono (),T.mj,#v[#[xO,2,["name","ask"],(1),[1],9,IR (qj QT) ["self","ask"],rfl,#[O7,4,#[qO,5,pv 0,rfl]],(λ_ _ _ _ _ _=>#[qM,(0),(show Vr (["name","ask"]:om Str) by decide+kernel)]),(λ_ _ _ _ _ _=>#[O5,3,#[Qc,#[Aba,1,K,11,rfl,uZ,PySem.F.slot_str_startswith,PySem.F.type_str_startswith,Ez,pv 0,#v[#[qC,#[Wf,1,K,rfl],pv 1]],_,_,_,_,_]]]),(λ_ _ _ _ _ _=>(pv 0)),_]]]]]
 exists 0,t,_,_,0,1,SqT.of Z,1,1,0;rcases h with⟨rfl,k⟩|⟨rfl,k⟩
 .refine lV (uj rfl) ?_
  exists 0,t,_,_,0,1,SqT.of Z,1,0,x,a.qJ,dx,_,0,hx,T.Q6,T.yc,E9,d,0,.inl ⟨_,Vf text,.inr [o:hd],1,1⟩,0;rw[Kv hk hv];by_cases c:text>qs.map (·.1)
  .rw[A6 c] at k;exact lV (uj c) k
  .rw[A4 c] at k;exact iZ (um c) k
 .refine iZ () ?_
  have O:(iP vs).map (·.1)=(qs.map (·.1)).map Sum.inr:=by rw[wG,hk]
  exists 0,x,a.qJ,dx,_,0,hx,T.Q6,T.yc,E9,d,o,0,hd,λA0 aa=>?_;refine So (tl:= [u_ (-t)]) (λz=>Go z text) V.str hd O (by rw[uc];have:=U.2.2;omega) aa (λz H1 R hz s1 r=>?_) (λz H1 R hz s1 r=>[0:r]) λH1 s1 h1=>?_
  .exact⟨0,1,0,t,_,_,0,1,SqT.of (s1 _ _ Z),1,z,text,1,1,0,r⟩
  .exists A0,0,h1,λz hz=>?_,?_,λv H2 s2 ac=>k v H2 (s1.trans s2) ac
   .have:=xS (U.1.1.1 z (List.mem_filter.mp hz).1);omega
   .have:=tI (λz=>Go z text) (qs.map (·.1));rw[uc] at this;have:=U.2.2;omega
abbrev yY:D->Bool
 | .non=>v_
 |_=>Vc
abbrev xj:D->D
 | .tup [_,d]=>d
 |d=>d
abbrev XV (d:D):Prop:=d= .non\/isT d=v_
abbrev Gd (d:D):Prop:=iR d=v_/\dp d<=20
def AbM:∀z>(["kind","big","told","silent","long","name"]:om Str),iR (flt z)=true:=by decide+kernel
def ND (h:z>(["kind","big","told","silent","long","name"]:om Str)):Gd (flt z):=⟨AbM z h,by show dp (-[-"fault",!z])<=20;simp[dp,dpL]⟩
def AbL {u:Str}{d:D}(O:QA u=v_)(h:isT d=v_):Gd (-[!u,d]):=by
 have U:=yG h;have hd:=Jb h;exists ?_,?_
 .simp![iR,goodL,O,U,U5]
  rfl
 .simp![dp,dpL];omega
def BU {u w:Str}{d:D}(O:QA u=v_)(U:QA w=v_)(h:isT d=v_):Gd (-[!u,-[!w,d]]):=by
 have Z:=yG h;have hd:=Jb h;exists ?_,?_
 .simp![iR,goodL,O,U,Z,U5]
  rfl
 .simp![dp,dpL];omega
def OR {B:Str->D}{p:Int}(hr:Ji n 300 r)(h:Tr B)(O:mE own r B p= .stop e):Gd e:=by
 unfold mE at O;erw[id hr,ks,hk,hp];erw[r,U,ps];by_cases c1:U>MKR
 .rw[A6 c1] at O;simp only at O;generalize made U B own ps=dm at O;have aa:(if isT dm=v_ then Out.go (Bi B (b0 ps) dm) (p+1) else .stop (flt "big"))= .stop e->Gd e:=by
   intro hq;by_cases c:isT dm=v_
   .rw[A6 c] at hq;cases hq
   .rw[A4 c] at hq;cases hq;exact ND ()
  cases dm with
  |non=>cases O;exact ND ()
  |_=>exact aa O
 rw[A4 c1] at O;by_cases c2:U>ASK
 .rw[A6 c2] at O;cases O;erw[wK _ hk c2,_,_,Z];simp only at Z;subst Z;erw[Z0 hp,z0,z1,rfl,h0,h1];have hT:=h z1 h1;show Gd (sQ U (B z1));unfold sQ;by_cases d1:U="names"
  .rw[A6 d1];by_cases d2:isStr (B z1)=v_
   .rw[A6 d2];exact BU () () hT
   .rw[A4 d2];exact ND ()
  .rw[A4 d1];by_cases d2:mG (B z1)=v_
   .rw[A6 d2];refine BU () ?_ hT
    split<;>decide+kernel
   .rw[A4 d2];exact ND ()
 rw[A4 c2] at O;by_cases c3:U="say"
 .rw[A6 c3] at O;cases O;subst c3;have Z:=AB _ hk rfl;simp only at Z;subst Z;erw[AcY hp,z0,rfl,h0];exact AbL () (h z0 h0)
 rw[A4 c3] at O;by_cases c4:U="fault"
 .rw[A6 c4] at O;cases O;exact ND ()
 rw[A4 c4] at O;by_cases c5:Nw U B ps=v_
 .rw[A6 c5] at O;cases O
 .rw[A4 c5] at O;cases O
abbrev mi (rs:om Rw)(own:Str)(r:Rn)(a:D):Rn:=if yY a=v_ then⟨r.B,r.p,r.n+1,r.gs++ [-[xj r.th,a]],flt "lack"⟩ else mM rs own (r.gs++ [-[xj r.th,a]]) (300-(r.n+1)) (Bi r.B (b0 (Jf rs r.p).2) a) (r.p+1) (r.n+1)
structure Dc (rs:om Rw)(r:Rn):Prop where
 tr:Tr r.B
 p1:1<=r.p
 p2:r.p<=↑rs+1
 n:r.n<=300
 gd:Gd r.th
 two:∃w e,r.th=-[!w,e]
 gs:nL r.gs=v_/\dpL r.gs<=30/\↑r.gs<=r.n
 ask:QI r.th=v_->r.p<=↑rs/\(Jf rs r.p).1>ASK/\r.n<300/\∃(u:Str) (d:D),r.th= .tup [-"asks",-[!u,d]]/\u>(["thing","has","names"]:om Str)/\isT d=v_
mutual
theorem ZK:∀{d:D},iR d=v_->nD d=v_
 | .str _,_=>rfl
 | .tup xs,h=>by
  simp![iR,uG] at h;simp![nD];exact goodL_n h.2
 | .non,h=>by simp[iR] at h
 | .bl _,h=>by simp[iR] at h
 | .int _,h=>by simp[iR] at h
 | .lst,h=>by simp[iR] at h
 | .dct,h=>by simp[iR] at h
theorem goodL_n:∀{ds:om D},goodL ds=v_->nL ds=v_
 | [],_=>rfl
 |d::ds,h=>by
  simp![goodL,uG] at h;simp![nL];rw[ZK h.1,goodL_n h.2]
  rfl
end
def BJ:∀{xs ys:om D},nL xs=v_->nL ys=v_->nL (xs++ys)=v_
 | [],_,_,h=>h
 |x::xs,ys,h,h2=>by
  simp![nL,uG] at h;simp![Uk,nL];rw[h.1,BJ h.2 h2]
  rfl
def AG (n:Nat){xs ys:om D}(h:dpL xs<=n)(h2:dpL ys<=n):dpL (xs++ys)<=n:=by
 rw[wj] at h h2⊢;intro x O;rcases Ac.mp O with O|O
 .exact h x O
 .exact h2 x O
def Lz {B:Str->D}{p:Int}(hr:Ji n 300 r)(h:Tr B)(O:mE own r B p= .stop e)(U:QI e=v_):r.1>ASK/\∃(u:Str) (d:D),e= .tup [-"asks",-[!u,d]]/\u>(["thing","has","names"]:om Str)/\isT d=true:=by
 unfold mE at O;erw[id hr,ks,hk,hp];erw[r,Z,ps];by_cases c1:Z>MKR
 .rw[A6 c1] at O;simp only at O;generalize made Z B own ps=dm at O;have aa:(if isT dm=v_ then Out.go (Bi B (b0 ps) dm) (p+1) else .stop (flt "big"))= .stop e->False:=by
   intro hq;by_cases c:isT dm=v_
   .rw[A6 c] at hq;cases hq
   .rw[A4 c] at hq;cases hq;exact A8 U ()
  cases dm with
  |non=>cases O;exact A8 U ()
  |_=>exact(aa O).elim
 rw[A4 c1] at O;by_cases c2:Z>ASK
 .rw[A6 c2] at O;cases O;exists c2;erw[wK _ hk c2,_,_,ek];simp only at ek;subst ek;erw[Z0 hp,z0,z1,rfl,h0,h1];have hT:=h z1 h1;have U:QI (sQ Z (B z1))=true:=U;show∃u d,sQ Z (B z1)=_/\_;unfold sQ at U⊢;by_cases d1:Z="names"
  .rw[A6 d1] at U⊢;by_cases d2:isStr (B z1)=v_
   .rw[A6 d2];exact⟨_,0,(),hT⟩
   .rw[A4 d2] at U;exact A8 U ()
  .rw[A4 d1] at U⊢;by_cases d2:mG (B z1)=v_
   .rw[A6 d2];exact⟨_,0,by split<;>decide+kernel,hT⟩
   .rw[A4 d2] at U;exact A8 U ()
 rw[A4 c2] at O;by_cases c3:Z="say"
 .rw[A6 c3] at O;cases O;exact A8 U (by simp![QI];exact λh=>A8 (uA h) ())
 rw[A4 c3] at O;by_cases c4:Z="fault"
 .rw[A6 c4] at O;cases O;exact A8 U ()
 rw[A4 c4] at O;by_cases c5:Nw Z B ps=v_
 .rw[A6 c5] at O;cases O
 .rw[A4 c5] at O;cases O
def wh {rs:om Rw}{own:Str}(hR:QX rs):∀(f:Nat) (B:Str->D) (p:Int) (n:Nat) (gs:om D),f+n=300->Tr B->1<=p->p<=↑rs+1->nL gs=v_/\dpL gs<=30/\↑gs<=n->Dc rs (mM rs own gs f B p n)
 |0,B,p,n,gs,hf,hT,h1,h2,hg=>by
  have U:QI (if GT.gt p ↑rs then flt "silent" else flt "long")=false:=by split<;>decide+kernel
  refine⟨hT,h1,h2,by show n<=300;omega,?_,?_,hg,λh=>A8 (U.symm.trans h) ()⟩
  .show Gd (if GT.gt p ↑rs then flt "silent" else flt "long")
   split
   .exact ND ()
   .exact ND ()
  .show∃w e,(if GT.gt p ↑rs then flt "silent" else flt "long")=_
   split
   .exact[_:0]
   .exact[_:0]
 |f+1,B,p,n,gs,hf,hT,h1,h2,hg=>by
  unfold mM;by_cases c:GT.gt p ↑rs
  .rw[A6 c];exact⟨hT,h1,h2,by show n<=300;omega,ND (),[_:0],hg,λh=>A8 h (show¬QI (flt "silent")=v_ by decide+kernel)⟩
  .rw[A4 c];have O:=hR.ok _ (KR h1 ())
   have hok:=wr (own:=own) O hT h1 ()
   cases Z:mE own (Jf rs p) B p with
   |go B' p'=>
    rw[Z] at hok;exact wh hR f B' p' (n+1) gs () hok.1 hok.2.1 hok.2.2 ⟨hg.1,hg.2.1,by have:=hg.2.2;omega⟩
   |stop e=>
    rw[Z] at hok;simp only;exists hT,h1,h2,?_,OR O hT Z,hok,[hg.1:hg.2.1:?_],λU=>?_
    .show(if QI e=v_ then n else n+1)<=300
     split<;>omega
    .show ↑gs<=(if QI e=v_ then n else n+1)
     have:=hg.2.2;split<;>omega
    .erw[Lz O hT Z U,a1,u,d,a2,a3,a4];refine⟨by show p<=↑rs;omega,a1,?_,u,d,a2,a3,a4⟩
     show(if QI e=v_ then n else n+1)<300
     rw[A6 (show QI e=v_ from U)]
     omega
def AR (Z:QX rs){r:Rn}{a:D}(h:Dc rs r)(hw:QI r.th=v_)(ha:XV a):Dc rs (mi rs own r a):=by
 erw[h.ask hw,k1,k2,k3,u,d,e,k4,k5];have O:nD a=v_/\dp a<=12:=by
  rcases ha with rfl|ha
  .exact⟨1,by simp[dp]⟩
  .exact[ZK (yG ha):Jb ha]
 have aa:=Jb k5;have U:nL (r.gs++ [D.tup [xj r.th,a]])=v_/\dpL (r.gs++ [D.tup [xj r.th,a]])<=30/\↑(r.gs++ [D.tup [xj r.th,a]])<=r.n+1:=by
  rw[e];show nL (r.gs++ [-[-[!u,d],a]])=v_/\_;exists BJ h.gs.1 ?_,AG 30 h.gs.2.1 ?_,?_
  .simp![nL,nD,ZK (yG k5),O.1,U5]
  .show dpL [-[-[!u,d],a]]<=30;simp![dpL,dp];have:=O.2;omega
  .rw[uF];have:=h.gs.2.2;show ↑r.gs+1<=r.n+1;omega
 unfold mi;cases hn:yY a with
 |true=>
  rw[A6 rfl];exact⟨h.tr,h.p1,h.p2,by show r.n+1<=300;omega,⟨(by decide+kernel:iR (flt "lack")=v_),by show dp (-[-"fault",-"lack"])<=20;simp[dp,dpL]⟩,[_:0],U,λh=>A8 h (show¬QI (flt "lack")=v_ by decide+kernel)⟩
 |false=>
  rw[A4 ud];have hT:isT a=true:=by
   rcases ha with rfl|ha
   .cases hn
   .exact ha
  refine wh Z _ _ _ _ _ () (KP h.tr hT) (by have:=h.p1;omega) () U
def jL {d:D}{u:V}(O:Is H d u)(U:d≠ .non):u≠ .non:=by
 rintro rfl;cases d with
 |non=>exact U rfl
 |bl b=>cases(show V.non= .bl b from O)
 |int i=>cases(show V.non= .int i from O)
 |str z=>erw[O,h,_];cases h
 |lst=>erw[O,_,_,h,_];cases h
 |dct=>erw[O,_,_,h,_];cases h
 |tup xs=>erw[O,_,_,h,_];cases h
def Ab4 (O:Ji n 300 r)(hs:r.1>ASK):∃U z1,r.2= [.s U,.s z1]/\U>BX:=by
 erw[id O,ks,hk,hp];erw[wK _ hk hs,_,_,Z];simp only at Z;subst Z;erw[Z0 hp,x,y,e,hx,hy];exact⟨x,y,e,hx⟩
abbrev Mj:D->Bool
 | .tup xs=>xs.all mG
 |_=>Vc
abbrev AU (u:Str)(a:D):Bool:=if yY a=v_ then decide (u="thing") else if isT a=v_ then(if u="has" then(["yes","no"]:om Str).any (λz=>eqD a (!z)) else decide (u="thing")||Mj a) else Vc
def AT {u:Str}{a:D}(h:AU u a=v_):XV a:=by
 unfold AU at h;cases hn:yY a with
 |true=>
  cases a with
  |non=>exact .inl rfl
  |_=>cases hn
 |false=>
  rw[hn,A4 ud] at h;by_cases c:isT a=v_
  .exact .inr c
  .rw[A4 c] at h;cases h
inductive On:Sp
 |mk (v:V)(d:D)(_:vs= [v])(_:Is H d v)(_:isT d=v_)(_:∀H',ic H H'->Q (.bl (Mj d)) H')
inductive Lm:Sp
 |mk (v1 v2:V)(u:Str)(d a:D)(_:vs= [v1,v2])(_:Is H (-[!u,d]) v1)(_:Is H a v2)(_:∀H',ic H H'->Q (.bl (AU u a)) H')
inductive MW (C:Addr):Sp
 |mk (m:Mc)(r:Rn)(v:V)(u:Str)(d a:D)(_:vs= [-m.x,v])(_:yy C H m r)(_:Dc m.rs r)(_:r.th=-[-"asks",-[!u,d]])(_:Is H a v)(_:QX m.rs)(_:↑m.own<=100)(_:AU u a=v_)(_:∀H',Mv m H H'->yy C H' m (mi m.rs m.own r a)->Q .non H')
def Pr:#[T,2,a.jo,a.ju,["tree"],On]:=by
 have QQ:=#[xB,T];refine T.lm.F.ok XH () (λ_ _ _ _ H vs Q E hr h=>?_)
 erw[h,v,d,rfl,iv,hT,k];exists 3,%[|#[qo,#[ZC,#[qA,#[qU,2,rfl],T.qR,vc,#v[pv 0,#[Q9,.ty "tuple",T.QG,vw]]],#[XL,#[qA,#[ze,1,rfl],T.z_all,HY,#v[#[xO,["part"],(1),[],Sm,#[wW,pv 0],(λ_ _ _ _ _ _=>#[qM,(0),(show Vr (["part"]:om Str) by decide+kernel)]),(λ_ _ _ _ _ _=>#[qp,QQ,hr.mono (),T.iJ,#v[pv 0]])]]]]]]]
 exists 0,v,"tuple",tyD d,zp d,1,iv.ty,xF _;cases d with
 |tup xs=>
  exists 0,ky ?_;erw[iv,a0,vs,rfl,O,U];have hl:↑xs<=1000:=by
   have hg:=yG hT;simp![iR,uG] at hg;have:=uA hg.1;omega
  exists 0,a0,vs,1,SqT.of O,λaa A0 Z=>?_;refine At (tl:= []) (λd=> .bl (mG d)) O U (yQ hl) Z (λd0 x0 H3 R ac s3 i3 r=>?_) λH1 ys s1 l1 i1=>?_
  .exact⟨0,x0,d0,1,i3,λH4 s4=>r _ H4 s4 rfl⟩
  have ey:ys=(xs.map mG).map V.bl:=IsL.bls (by rwa[uP])
  exists A0,xs.map mG,1,SqL.of (by rw[l1,ey])
  have:(xs.map mG).all id=Mj (¬xs):=by rw[UD];rfl
  rw[this];exact k H1 s1
 |str z=>exact[0:iL (k H (ic.refl _))]
 |non=>exact[0:iL (k H (ic.refl _))]
 |int z=>exact[0:iL (k H (ic.refl _))]
 |bl z=>exact[0:iL (k H (ic.refl _))]
 |lst=>exact[0:iL (k H (ic.refl _))]
 |dct=>exact[0:iL (k H (ic.refl _))]
def LU:#[T,3,a.Z4,a.w9,["ask","answer"],Lm]:=by
 have yN:=#[jr,T];have zm:=#[Pr,T];exists 9,T.mS,nW,Z
 erw[h,v1,v2,u,d,an,rfl,i1,U,k];exists 3,%[#[qH,#[qq,yT,pv 1,qT,qw _],%[|#[qo,#[Qw,QN,#[qC,XG,pv 0],ql]]],qt],#[qH,#[Qo,#[Qc,#[qp,yN,Z.mono (),T.iX,#v[pv 1]]]],%[|#[qo,YA]],qt],#[qH,#[qq,QN,#[qC,XG,pv 0],ql,qw _],%[|#[qo,#[Qw,8,#[Nh,1,Z.units],pv 1,#[qG,#v[ql,ql]],#[w]]]],qt]|#[qo,#[Ac7,7,#[Qw,QN,#[qC,XG,pv 0],ql],#[XL,#[qp,zm,Z.mono (),T.lm,#v[pv 1]]]]]]
 have two:(2:Nat)<=sizeLine:=by decide
 have es:∀y:Str,decide (V.str u=V.str y)=decide (u=y):=λy=>by
  rw[ve];exact⟨λh=>by injection h,λh=>by rw[h]⟩
 have iu:∀{H:Hp}{Q:VK},Is H (-[!u,d]) v1->Q (!u) H->OX K v1 (.int 0) H Q:=λ{H Q} i q=>xZ (i:=0) (d:= !u) i (qz (j:=0) rfl) λx hx=>by
  erw[hx,rfl,_];exact q
 exists 0,1,0;unfold AU at k;by_cases cn:an= .non
 .subst cn;cases(show v2= .non from U)
  refine QP () ?_
  exists 0,.inr (.inl (iu i1 [1:?_]));rw[es];exact k H (ic.refl _)
 .have aa:v2≠ .non:=jL U cn;have ac:yY an=false:=by
   cases an with
   |non=>exact A8 rfl cn
   |_=>rfl
  rw[ac,A4 ud] at k;refine Qr (um aa) ?_
  exists 0,v2,an,1,U,λH1 s1=>[0:?_];by_cases O:isT an=v_
  .rw[A6 O] at k;rw[O];refine iL ?_
   exists 0,.inr (.inl (iu (i1.mono s1.tk) [1:0:?_]));rw[es];by_cases ch:u="has"
   .rw[A6 ch] at k;refine QP (uj ch) ?_
    exists 0,two,λt1 h1=>?_;have s2:=qf h1 (-[-"yes",-"no"])
    exists an,t1,["yes","no"],(U.mono s1.tk).mono s2.tk,1,.inr (SqT.of qg),?_,?_,?_,k _ (s1.trans s2)
    .intro z hz;simp![uI,uW,uS] at hz;rcases hz with rfl|rfl<;>decide+kernel
    .have hg:=yG O;cases an with
     |non=>rfl
     |str z=>rfl
     |tup xs=>
      show puL xs=v_;simp![iR,uG] at hg;exact goodL_pu hg.2
     |_=>simp[iR] at hg
    .have:=Jb O;omega
   .rw[A4 ch] at k;refine Qr (um ch) ?_
    exists 0,.inr (.inl (iu (i1.mono s1.tk) [1:?_]))
    exists 0;rw[es];by_cases ct:u="thing"
    .rw[uj ct] at k⊢;refine ky ?_;exact k _ s1
    .rw[um ct] at k⊢;refine iL ?_;exact⟨0,v2,an,1,U.mono s1.tk,O,λH2 s2=>k H2 (s1.trans s2)⟩
  .rw[A4 O] at k;have:isT an=false:=by
    cases h:isT an with
    |true=>exact A8 h O
    |false=>rfl
   rw[this];exact ky (k _ s1)
def Nj:#[C,6,a.Yv,a.Yu,["self","tree"],(MW a.qm)]:=by
 have qW:=#[Ku,T];have O:=#[LU,T];have YL:=#[Ep,T,C];exists 9,T.iE,jt
 erw[h,m,[B,p,n,gs,th],v,u,d,an,rfl,M,hO,al,iv,hR,aP,am,k];exists 3,%[#[qH,#[Qo,#[Qc,#[QL,pv 0,T.qu,T.im,qW]]],%[|J4],qt],#[qE,(2),jt.nd,#[qC,XG,#[qO,5,pv 0,rfl]]],#[qH,#[Qo,#[Qc,#[qp,O,hr.mono (),T.mS,#v[pv 2,pv 1]]]],%[|J4],qt],#[qX,#[jU,vd,vJ,vK,YU,#[qO,5,pv 0,rfl],#v[#[qG,#v[pv 2,pv 1]]]]],#[Jw,10,pv 0,qh,su],#[qH,#[qq,yT,pv 1,qT,qw _],%[#[Qf,#[qG,#v[ql,ql]]]|O1],qt],#[Jo,#[qO,5,pv 0,rfl],#[qC,XG,#[qC,XG,#[qC,7,qD,#[qO,5,pv 0,rfl],#[Qh,Ng,#[qO,5,pv 0,rfl],qh],(λ_ _=>rfl)]]],pv 1],#[Jw,10,pv 0,qh,su],#[Qf,qT]|#[qX,#[QL,pv 0,T.qu,T.iQ,YL]]]
 simp only at al;subst al;have two:(2:Nat)<=sizeLine:=by decide
 have hw:QI (-[-"asks",-[!u,d]])=true:=by simp[QI]
 erw[hO.ask hw,af,ad,aQ,_];have ag:=hO.p1;have ao:=hO.gs.2.2;have ap:=hO.tr;simp only at af ad aQ ag ao ap;have hM:=M;erw[hM,dx,fs,rv,ru,tv,gv,e,f,ir,ij,ib,hg,gl,it];simp only at f ib gl it;have aR:↑fs<1000:=by have:=f.len;omega
 exists 8,N1,q1
 exists 0,m.x,dx,fs,1,e,f.meth _ (),m,0,M,.inr [_:0],0
 refine Qr (by show(!(QI) (-[-"asks",-[!u,d]]))=Vc;rw[hw];rfl) ?_
 refine q1 _ _ ?_;exists 8,N2,q2
 exists 0,m.x,_,dx,fs,0,e,T.qu,T.qL,f.there,.inr (.inl (xZ (i:=1) it (qz (j:=1) rfl) λq hq=>?_));refine q2 _ _ ?_;exists 8,N3,q3
 exists 0,0,q,v,u,d,an,1,hq,iv,λH1 s1=>[0:?_];rw[am];refine iL ?_;refine q3 _ _ ?_;exists 8,N4,q4;have ha:=AT am
 exists 0,m.x,_,dx,fs,0,s1 _ _ e,T.qu,T.YI,f.given,.inl [1:_:SqL.of (s1 _ _ hg)],0,0,two,λt1 h1=>?_;have s2:=qf h1 (-[q,v]);have ip:Is (upd H1 t1 (-[q,v])) (-[-[!u,d],an]) (-t1):=Is.new (ds:= [-[!u,d],an]) ⟨_,0,hq.mono s1.tk,_,0,iv.mono s1.tk,1⟩ h1;have S2:=s1.trans s2;generalize upd H1 t1 (-[q,v])=H2 at s2 ip S2⊢;have bo:↑gv=↑gs:=↑gl;have aq:=S2 _ _ hg
 exists m.dg,gv,0,1,aq,X5 ()
 have t3:Tk H2 (upd H2 m.dg (.lst (gv++ [-t1]))):=Tk.updL aq;have aS:m.x≠m.dg:=λz=>by rw[<-z,e] at hg;cases hg
 have au:m.db≠m.dg:=λz=>by
  erw[ib,ff,e2,_];rw[z,hg] at e2;cases e2
 have e3:(upd H2 m.dg (.lst (gv++ [-t1]))) m.x=u_ (.ins a.qm dx fs):=by rw[qi aS];exact S2 _ _ e
 have T3:Tk H (upd H2 m.dg (.lst (gv++ [-t1]))):=S2.tk.trans t3;have aw:=(ib.same S2).move t3 (qi au);have ax:L2.IsL (upd H2 m.dg (.lst (gv++ [-t1]))) (gs++ [-[-[!u,d],an]]) (gv++ [-t1]):=(gl.mono T3).append (IsL.one (ip.mono t3));have ay:(upd H2 m.dg (.lst (gv++ [-t1]))) m.dg=u_ (.lst (gv++ [-t1])):=qg;have aA:Mv m H (upd H2 m.dg (.lst (gv++ [-t1]))):=⟨λb o h _ _ n3=>by rw[qi n3];exact S2 b o h,T3⟩
 generalize upd H2 m.dg (.lst (gv++ [-t1]))=H3 at t3 e3 T3 aw ax ay aA⊢;refine q4 _ _ ?_;exists 8,N5,q5
 exists 0,m.x,_,dx,fs,0,e3,T.qu,T.yh,f.done,(n:Int),(1),1,1,dx,fs,e3,aR;erw[yp (r:=⟨B,p,n+1,gs++ [-[-[!u,d],an]],-[-"asks",-[!u,d]]⟩) e3 (f.set_done (k:=n+1)) (ir.mono T3) (ij.mono T3) aw ay ax (it.mono T3),M4,aB];have aa:=aA.trans aB;have aC:=iv.mono aa.tk;refine q5 _ _ ?_;show ni _ _ _ _ (upd H3 m.x (.ins a.qm dx (iG "done" (.int ((n+1:Nat):Int)) fs)));generalize upd H3 m.x (.ins a.qm dx (iG "done" (.int ((n+1:Nat):Int)) fs))=H4 at M4 aB aa aC⊢;erw[M4,Z,U,bp,bq,bt,bu,e4,f4,ah,aD,ac,aE,ak,aF];simp only at f4 ac ak aF;have ae:↑U<1000:=by have:=f4.len;omega
 exists 8,N6,q6
 exists 0,1,0;by_cases cn:an= .non
 .subst cn;cases(show v= .non from iv)
  refine QP () ?_
  exists two,λl hl=>?_;have s5:=qf hl (-[-"fault",-"lack"])
  exists 0,m.x,_,Z,U,1,s5 _ _ e4,T.qu,T.qL,ae;erw[yp (r:=⟨B,p,n+1,gs++ [-[-[!u,d],.non]],flt "lack"⟩) (s5 _ _ e4) (f4.set_there (u:=-l)) (ah.mono s5.tk) (aD.mono s5.tk) (ac.same s5) (s5 _ _ aE) (ak.mono s5.tk) (Is.new (ds:= [-"fault",-"lack"]) ⟨_,0,[1:yQ ()],_,0,[1:yQ ()],1⟩ hl),m1,m2]
  exact k _ (aa.trans ((Mv.of s5).trans m2)) m1
 .have hT:isT an=true:=ha.resolve_left cn;have aT:v≠ .non:=jL iv cn;have aU:yY an=false:=by
   cases an with
   |non=>exact A8 rfl cn
   |_=>rfl
  refine Qr (um aT) ?_;refine q6 _ _ ?_;exists 8,N7,q7;erw[Ab4 (hR.ok _ (KR ag af)) ad,z0,z1,aG,aV];have aW:b0 (Jf m.rs p).2=z0:=by rw[aG];rfl
  erw[ac.put aV aC,kvs,aH,aX,t5];have aY:atI (m.rs.map rowD) (p-1)=u_ (rowD (Jf m.rs p)):=by
   rw[show p-1=((p.toNat-1:Nat):Int) by omega]
   exact qz (by rw[uK,DQ ag af];rfl)
  have aZ:m.db≠m.x:=Yz.ne e4 ac;have a1:m.dg≠m.db:=au.symm
  exists 0,0,m.x,_,Z,U,0,e4,T.qu,T.Qv,f4.boxes,0,m.x,_,Z,U,0,e4,T.qu,T.Ye,f4.rows,0,m.x,_,Z,U,0,e4,T.qu,T.Qn,f4.place,_,0,1;refine xZ (d:=rowD (Jf m.rs p)) ah aY λq5 a3=>?_;refine .inr (.inl (xZ (i:=1) a3 (qz (j:=1) rfl) λq6 aI=>?_));rw[aG] at aI;refine .inr (.inl (xZ (i:=0) (d:= !z0) aI (qz (j:=0) rfl) λq7 a4=>?_));erw[a4,rfl,_]
  exists m.db,0,aH;have e5:(upd H4 m.db (.dK kvs)) m.x=u_ (.ins a.qm Z U):=by rwa[qi aZ.symm]
  refine q7 _ _ ?_;exists 8,N8,q8
  exists 0,m.x,_,Z,U,0,e5,T.qu,T.Qn,f4.place,p,(1),1,1,Z,U,e5,ae;obtain⟨M6,a5⟩:=yp (r:=⟨Bi B z0 an,p+1,n+1,gs++ [-[-[!u,d],an]],-[-"asks",-[!u,d]]⟩) e5 (f4.set_place (q:=p+1)) (ah.mono t5) (aD.mono t5) aX (by rwa[qi a1]) (ak.mono t5) (aF.mono t5)
  have aJ:=aa.trans (Mv.trans ⟨λb o h _ a2 _=>by rwa[qi a2],t5⟩ a5)
  erw[M6,a6,aK,bv,bw,bx,bA,e6,f6,a7,a8,aL,a9,aM,bb];simp only at f6 aL aM bb;have aN:↑aK<1000:=by have:=f6.len;omega
  refine q8 _ _ ?_;exists 8,N9,q9
  exists 0,m.x,_,a6,aK,1,e6,T.qu,T.qL,aN;erw[yp (r:=⟨Bi B z0 an,p+1,n+1,gs++ [-[-[!u,d],an]],.non⟩) e6 (f6.set_there (u:= .non)) a7 a8 aL a9 aM rfl,M7,bc];have aO:=aJ.trans bc;erw[id M7,bd,bg,bB,bC,bD,bE,e7,f7,r7];refine q9 _ _ ?_
  exists 5
  refine⟨0,m.x,bd,bg,1,e7,f7.meth _ (),m,0,M7,1,KP ap hT,aP,hR,by show 1<=p+1;omega,by show p+1<=_;omega,by show n+1<=300;omega,λH8 bh M8=>k H8 (aO.trans bh) ?_⟩
  unfold mi;rw[aU,A4 ud];simp only;rw[aW];exact M8
abbrev mf (H:Hp)(p:o3):Prop:=∃x:Int,H p=u_ (.lst [.int x])/\0<=x
def mf.same (h:mf H p)(s:ic H H'):mf H' p:=by
 erw[h,x,e,r];exact[x:s _ _ e:r]
def mf.free {l:o3}(h:mf H p)(n:H l=U_):p≠l:=by
 erw[h,x,e,r];exact qk e n
def mf.tk (h:mf H p)(h':mf H' p)(k:iY p H H'):Tk H H':=by
 erw[h,x,e,_];erw[h',U,O,_];exact k.tk e O
inductive Dv:Sp
 |mk (p:Addr)(many:Int)(_:vs= [-p,.int many])(_:mf H p)(_:0<many)(_:many<1073741824)(_:∀(d:Int)(H':Hp),0<=d->d<many->mf H' p->iY p H H'->Q (.int d) H')
inductive Op:Sp
 |mk (c t:Int)(_:vs= [.int c,.int t])(_:0<=t)(_:t<1000)(_:∀(p:Addr)(H':Hp),H p=U_->ic H H'->mf H' p->Q (-p) H')
def JL:#[T,1,a.kO,a.kK,["pot","many"],Dv]:=by
 exists 9,T.ig,ww
 erw[h,p,many,rfl,[x,O,Z],hm,U,k];exists 3,%[#[qE,(2),ww.nd,#[Qh,Z3,#[qC,Qa,pv 0],pv 1]],#[Na,6,#[Qh,Pg,#[qC,Qa,pv 0],pv 1],#[Aa5,7,pv 0,qh,Lw,_],_,_,_]|#[qo,pv 2]]
 exists 0,p,_,_,0,1,SqL.of O,1,0,_,0,1,hm
 exists 0,p,_,_,0,1,SqL.of O,1,0,_,0,1,[hm:U],0,p,_,_,0,1,O,1
 exists 0;refine k _ _ (UX _ ()) (Ux _ hm) [x/many:qg:Int.ediv_nonneg Z ()] (iY.upd _ _ _)
def El:#[T,1,a.f_law_pot,a.d_law_pot,["cell","salt"],Op]:=by
 exists 9,T.mH,YD
 erw[h,c,t,rfl,h0,h1,k];exists 3,%[#[qH,#[qq,Ac8,#[qA,Cm,T.z_abs,boot_abs,#v[pv 0]],#[Qh,Abd,qh,qh],qw _],%[|#[qo,#[QR,#v[#[qA,Cm,T.z_abs,boot_abs,#v[pv 0]]]]]],qt],#[qE,(2),YD.nd,#[Qh,Z3,#[Qh,oF,#[Qh,Yg,#[Qh,Yg,#[Qh,Z3,pv 0,qh],#[Qh,oF,qh,pv 1]],qh],qh],qh]],#[qE,(3),YD.nd,qh],#[Ym,#[yH,#v[qh]],#[qM,(4),YD.nd],%[#[qE,(2),YD.nd,#[Qh,Z3,#[Qh,Yg,#[Qh,Yg,#[Qh,oF,pv 2,pv 2],#[Qh,oF,qh,pv 4]],qh],qh]]|#[qE,(3),YD.nd,#[Qh,Yg,#[Qh,oF,pv 3,qh],pv 2]]]]|#[qo,#[QR,#v[pv 3]]]]
 exists 0,0,_,0,1,[():():()],_,0,1,0
 refine lW (λ_=>?_) (λ_=>?_)
 .exists 0,0,(sml rfl),λp O=>?_;refine k p _ O (qf O _) [_:qg:?_];split<;>omega
 .exists 0,_,0,1,(by show(0:Int)<2147483647;decide),0,_,0,1,(.inl [():()]),_,0,1,_,0,1,_,0,1,(.inr [():()]),_,0,1,(by show(0:Int)<2147483647;decide),(9),1,(),()
  let J1_:Nat->L2.St->Hp->Prop:=λi σ H'=>E3 λ(x:Int) (b:Int) (kv:oq V)=>A5 (σ= [u_ (.int c),u_ (.int t),u_ (.int x),u_ (.int b),kv]) (0<=x) (x<2147483647) (0<=b) (H'=H)
  refine JE (n:=9) J1_ ⟨_,_,U_,1,UX _ (),Ux _ (),(),1⟩ ?_ ?_
  .rintro i σ H' hi ⟨x,b,kv,rfl,Z,aa,hb,rfl⟩;have U:AcB x x:= .inl [():()]
   exists 0,0,_,0,1,U,0,_,0,1,(.inl [():()]),_,0,1,_,0,1,_,0,1,(by show(0:Int)<2147483629;decide),0,_,0,1,(.inr [():()]),0,_,0,1
   have q0:0<=(x*x+40692*(0+(i:Int))+3)%2147483629:=UX _ ()
   have q1:(x*x+40692*(0+(i:Int))+3)%2147483629<2147483629:=Ux _ ()
   exact⟨_,_,0,q0,Int.lt_trans q1 (),Int.add_nonneg (Int.mul_nonneg hb ()) q0,1⟩
  .rintro σ H' ⟨x,b,kv,rfl,Z,aa,hb,rfl⟩;exact[0:(sml rfl):λp O=>k p _ O (qf O _) [_:qg:hb]]
abbrev Nm4 (zs:om Str):Prop:=1<=↑zs/\↑zs<=20/\∀z>zs,nm z=v_/\↑z<=4
abbrev Wd (n:Nat)(z:Str):Prop:=Jg z=v_/\↑z<=n
def iY.of (s:ic H H'):iY p H H':=λb o e _=>s b o e
def mf.ne_strs {l:o3}(h:mf H p)(e:H l=u_ (.lst (zs.map V.str))):l≠p:=λz=>by
 erw[h,x,e2,_];rw[<-z,e] at e2;cases zs with
 |nil=>cases e2
 |cons a r=>simp at e2
inductive Og:Sp
 |mk (p L:Addr)(zs:List Str)(_:vs= [-p,-L])(_:mf H p)(_:H L=u_ (.lst (zs.map V.str)))(_:Nm4 zs)(_:∀(z:Str)(H':Hp),Wd 4 z->mf H' p->iY p H H'->Q (!z) H')
inductive Oy:Sp
 |mk (p L:Addr)(zs:List Str)(many k:Nat)(_:vs= [-p,-L,.int (many:Int),.int (k:Int)])(_:mf H p)(_:H L=u_ (.lst (zs.map V.str)))(_:Nm4 zs)(_:1<=many)(_:many<=12)(_:k<=12)(_:∀(z:Str)(H':Hp),Wd 20 z->mf H' p->iY p H H'->Q (!z) H')
abbrev FIV:om Str:= ["","x","b1 g","yes","c/d"]
def AbQ:∀z>FIV,Wd 4 z:=by
 have:∀z>FIV,Jg z=v_/\↑z<=4:=by decide+kernel
 exact this
def Np (h:nm z=v_):Jg z=true:=Es (No h)
def AcG (h:Nm4 zs):∀z>zs++FIV,Wd 4 z:=λz hz=>by
 rcases Ac.mp hz with h1|h1
 .exact[Np (h.2.2 z h1).1:(h.2.2 z h1).2]
 .exact AbQ z h1
def Wd.cat {m k:Nat}{y:Str}(h:Wd n x)(h':Wd m y)(e:n+m<=k):Wd k (x++y):=⟨Et h.1 h'.1,by rw[IL];have:=h.2;have:=h'.2;omega⟩
def EJ:∀{l:om Str},(∀z>l,Jg z=v_)->Wd ((l.map (·.length)).sum+↑l) (Vk " " l)
 | [],_=>[1:uQ _]
 | [z],h=>⟨h z (by simp),by show ↑z<=_;simp⟩
 |z::y::r,h=>by
  have O:=EJ (l:=y::r) λx U=>h x (ug _ U);have hz:=h z (by simp)
  have e:=L2.Jn z y r;exists ?_,?_
  .show(Vk " " (z::y::r)).cps.toList.all QF=v_;rw[e,US,vF,show z.cps.toList.all QF=v_ from hz,show(Vk " " (y::r)).cps.toList.all QF=v_ from O.1]
   decide
  .rw[As,e,uF,uw,<-As,<-As];have h1:=O.2;simp![uC,UG,uw] at h1⊢;omega
abbrev WL:om Str:= ["ask","ask","ask","has","names","text","text","copy","put","put","join","first","first","rest","size","cut","glue","like","none","rowed","go","say","fault","self"]
nonrec abbrev WTX:Str:="ask ask ask has names text text copy put put join first first rest size cut glue like none rowed"
def Aai:spl ((WTX++(" go say fault self":Str)).length+1) (WTX++(" go say fault self":Str))=WL:=by decide+kernel
def AcF:∀z>WL,Wd 5 z:=by
 have:∀z>WL,Jg z=v_/\↑z<=5:=by decide+kernel
 exact this
def Acb:∀c>("abcdh":Str).cps.toList,QF c=true:=by decide+kernel
def NO {d:Int}(h0:0<=d)(h1:d<5):∃c,atI ("abcdh":Str).cps.toList d=u_ c/\Wd 1 ⟨#[c]⟩:=by
 obtain⟨c,O⟩:=J8 (xs:=("abcdh":Str).cps.toList) h0 (by show d<5;exact h1)
 exists c,O,?_,ur _;show [c].all QF=v_;rw[vF,Acb c (zq O)]
 rfl
def Abu:∀k:Nat,k<13->Jg (Vn (k:Int):Str)=v_/\↑(Vn (k:Int):Str)<=2:=by decide+kernel
def Ak:#[T,2,a.ku,a.WW,["pot","names"],Og]:=by
 have qP:=#[JL,T];exists 9,T.iA,wH
 erw[h,p,L,zs,rfl,hP,hL,U,k];have hs:=uE;have aa:=U.1;have ac:=U.2.1;exists 3,%[#[qE,(2),wH.nd,#[Qh,BC,pv 1,#[QR,#v[ql,ql,ql,ql,ql]]]]|#[qo,#[qC,7,Qa,pv 2,#[qp,qP,hr.mono (),T.ig,#v[pv 0,#[qA,qN,T.yR,uO,#v[pv 2]]]],(λ_ _=>rfl)]]]
 exists 0,(sml rfl),λq hq=>?_;have s1:ic H (upd H q (.lst [-"",-"x",-"b1 g",-"yes",-"c/d"])):=qf hq _
 exists L,q,_,0,1,s1 _ _ hL,qg,(by rw[uc];show _+5<=Vg;omega),λl hl=>?_
 have s2:=s1.trans (qf hl (.lst (zs.map V.str++ [-"",-"x",-"b1 g",-"yes",-"c/d"])));have O:(upd (upd H q (.lst [-"",-"x",-"b1 g",-"yes",-"c/d"])) l (.lst (zs.map V.str++ [-"",-"x",-"b1 g",-"yes",-"c/d"]))) l=u_ (.lst ((zs++FIV).map V.str)):=by rw[qg,uq];rfl
 generalize upd (upd H q (.lst [-"",-"x",-"b1 g",-"yes",-"c/d"])) l (.lst (zs.map V.str++ [-"",-"x",-"b1 g",-"yes",-"c/d"]))=H2 at s2 O⊢;have P2:=hP.same s2;have l5:↑((zs++FIV).map V.str)=↑zs+5:=by rw[uc,uF];rfl
 exists 5
 refine⟨0,0,0,l,0,.inl (SqL.of O),p,0,P2,by rw[l5];omega,by rw[l5];omega,λd H' d0 d1 P3 K3=>?_⟩
 have Z:=K3 _ _ O (P2.ne_strs O);erw[J8 (xs:=(zs++FIV).map V.str) d0 d1,v,hv];erw[Ae.mp (zq hv),z,hz,rfl];exact⟨l,_,d,0,1,SqL.of Z,hv,k z H' (AcG U z hz) P3 ((iY.of s2).trans K3)⟩
def AdS {c:Nat}:∀{l:om Str},(∀z>l,↑z<=c)->(l.map (·.length)).sum<=↑l*c
 | [],_=>by simp
 |z::r,h=>by
  have:=AdS λy O=>h y (ug _ O);have:=h z uh;simp![uC,UG,uw,rh,Rv];omega
def Mh {K:o0}(Z:↑l<=3)(hz:Wd 5 z)(h:∀z>l,Wd 2 z)(k:∀y H',Wd 20 y->ic H H'->Q (!y) H'):↑((z::l).map V.str)<=Vg/\∀p,H p=U_->Aa0 K (-" ") [-p] (upd H p (.lst ((z::l).map V.str))) Q:=by
 have hs:=uE;have h1:=AdS (c:=2) λz hz=>(h z hz).2;have h2:=hz.2;refine⟨by rw[uc,uw];omega,λp U=>⟨" ",p,z::l,1,1,SqL.of qg,?_,?_⟩⟩
 .have e:(" ":Str).length=1:=rfl;rw[e];simp![uC,UG,uw];omega
 .have:=EJ (l:=z::l) λy O=>by
   rcases Aa.mp O with rfl|O
   .exact hz.1
   .exact(h y O).1
  refine k _ _ [this.1:?_] (qf U _);have h3:=this.2;simp![uC,UG,uw] at h3;omega
def Py:#[T,3,a.W3,a.kQ,["pot","names","many","k"],Oy]:=by
 have qP:=#[JL,T];have Q4:=#[Ak,T];exists 9,T.mZ,ym
 erw[h,p,L,zs,many,i,rfl,hP,hL,hN,ay,aA,hi,k];exists 3,%[#[qE,(4),ym.nd,ql],#[qE,(5),ym.nd,#[qC,7,Qa,#[jU,uZ,Uq,Ur,BK,#[Qh,Qu,pv 4,ql],#v[ql]],#[qp,qP,hr.mono (),T.ig,#v[pv 0,qh]],(λ_ _=>rfl)]],#[Na,6,#[xO,["j","pot"],(1),[0],IR (qj J5) ["pot","names","many","k","words","word","one","two","three","at"],#[yH,#v[qh]],(λ_ _ _ _ _ _=>#[qM,(0),(show Vr (["j","pot"]:om Str) by decide+kernel)]),(λ_ _ _ _ _ _=>#[qC,7,BS,ql,#[qp,qP,hr.mono (),T.ig,#v[pv 1,qh]],(λ_ _=>rfl)])],#[O8,6,rfl,Qy #[qM,(6),ym.nd] (Qy #[qM,(7),ym.nd] (Qy #[qM,(8),ym.nd] JH)),_,_],_,_,_],#[qE,(9),ym.nd,#[Qg,JK,T.ZS,UV,#v[#[qA,#[ID,1,rfl],T.z_min,boot_min,#v[pv 2,#[Qh,Yg,#[Qh,Yg,pv 3,qh],#[qp,qP,hr.mono (),T.ig,#v[pv 0,pv 2]]]]]]]],#[qH,#[qq,QN,pv 5,ql,qw _],%[|#[qo,#[Qh,Qu,#[Qh,Qu,#[Qh,Qu,ql,pv 6],ql],#[qp,Q4,hr.mono (),T.iA,#v[pv 0,pv 1]]]]],qt],#[qH,#[qq,Q0,pv 5,#[QR,#v[ql,ql]],#[w]],%[|#[qo,#[Qh,Qu,#[Qh,Qu,pv 5,ql],pv 6]]],qt],#[qH,#[qq,QN,pv 5,ql,qw _],%[|#[qo,pv 5]],qt],#[qH,#[qq,QN,pv 5,ql,qw _],%[|#[qo,#[Qh,Qu,ql,pv 9]]],qt],#[qH,#[qq,Q0,pv 5,#[QR,#v[ql,ql]],#[w]],%[|#[qo,#[jU,uZ,U8,U9,KQ,ql,#v[#[QR,#v[pv 5,pv 6,pv 9]]]]]],qt],#[qH,#[qq,QN,pv 5,ql,qw _],%[|#[qo,#[jU,uZ,U8,U9,KQ,ql,#v[#[QR,#v[pv 5,pv 6,pv 7,pv 9]]]]]],qt],#[qH,#[qq,Q0,pv 5,#[QR,#v[ql,ql]],#[w]],%[|#[qo,#[jU,uZ,U8,U9,KQ,ql,#v[#[QR,#v[pv 5,pv 6,pv 7,pv 8]]]]]],qt]|#[qo,#[jU,uZ,U8,U9,KQ,ql,#v[#[QR,#v[pv 5,pv 6,pv 7]]]]]]
 exists 0,_,0,1,(),1,0,1,(),λq hq=>?_
 rw[show spl _ _=WL from Aai]
 have s1:ic H (upd H q (.lst (WL.map V.str))):=qf hq _;have eq:(upd H q (.lst (WL.map V.str))) q=u_ (.lst (WL.map V.str)):=qg;generalize upd H q (.lst (WL.map V.str))=H1 at s1 eq⊢;have P1:=hP.same s1
 exists 0,p,(24),1,P1,(),(),λd H2 d0 d1 P2 K2=>?_
 obtain⟨v,hv⟩:=J8 (xs:=WL.map V.str) d0 (by show d<24;exact d1)
 erw[Ae.mp (zq hv),z,hz,rfl]
 exists q,_,d,0,1,SqL.of (K2 _ _ eq (P1.ne_strs eq)),hv;have Z:=AcF z hz;have ah:iY p H H2:=(iY.of s1).trans K2;clear K2 hv hz eq P1 s1 hq
 exists (3),1,(),(),λD hD=>?_
 refine X2 (lo:=0) (tl:= [u_ (-p)]) (λi ys H'=>∃bs:om Str,ys=bs.map V.str/\↑bs=i/\(∀b>bs,Wd 1 b)/\mf H' p/\(∀b o,H2 b=u_ o->b≠p->H' b=u_ o)) (yQ ()) ⟨[],1,1,λb hb=>by simp at hb,P2.same (qf hD _),λb o e _=>qf hD _ _ _ e⟩ ?_ ?_
 .rintro j ys H' hj ⟨bs,rfl,aa,U,P',K'⟩ ac O R hR
  exists 0,p,(5),1,P',(),(),λd3 H4 e0 e1 P4 K4=>?_
  erw[NO e0 e1,c,hc,am]
  exists "abcdh",d3,c,1,1,(),hc
  have nD:D≠p:=(P2.free hD).symm;refine hR _ H4 (K4 _ _ ac nD) ⟨bs++ [⟨#[c]⟩],by rw[uq];rfl,by rw[uF,aa];rfl,λb hb=>?_,?_,λb o e np=>?_⟩
  .rcases Ac.mp hb with h|h
   .exact U b h
   .rw[Uw] at h;subst h;exact am
  .erw[P4,x,e2,h2];exact⟨x,by rwa[qi nD.symm],h2⟩
  .rw[qi (qk e hD)];exact K4 _ _ (K' b o e np) np
 .rintro ys H' ⟨bs,rfl,aa,U,P',K'⟩ ac;obtain⟨x1,x2,x3,rfl⟩:∃x1 x2 x3,bs= [x1,x2,x3]:=by
   match bs,aa with
   | [x1,x2,x3],_=>exact⟨x1,x2,x3,1⟩
  have h1:Wd 2 x1:=⟨(U x1 (by simp)).1,by have:=(U x1 (by simp)).2;omega⟩
  have h2:Wd 2 x2:=⟨(U x2 (by simp)).1,by have:=(U x2 (by simp)).2;omega⟩
  have h3:Wd 2 x3:=⟨(U x3 (by simp)).1,by have:=(U x3 (by simp)).2;omega⟩
  have KD:iY p H H':=λb o e np=>K' b o (ah b o e np) np
  exists D,0,SqL.of ac,1,_,0,_,0,_,0,1;clear K' ah P2 U aa ac
  exists 0,0,_,0,1,0,0,p,many,1,P',(),(),λd5 H5 f0 f1 P5 K5=>⟨_,0,1,_,0,?_⟩
  obtain⟨j,ej,ao,ap⟩:∃j:Int,j=(if(i:Int)+5+d5<(many:Int) then(i:Int)+5+d5 else(many:Int))/\1<=j/\j<=12:=⟨0,by split<;>omega,by split<;>omega⟩
  rw[<-ej];obtain⟨jn,rfl⟩:∃n:Nat,j=(n:Int):=[j.toNat:()]
  have ak:=Abu jn ()
  have h4:Wd 2 (Vn ((jn:Nat):Int):Str):=ak;have ae:((jn:Nat):Int).natAbs.log2<1920:=by have:=To ((jn:Nat):Int).natAbs;omega
  exists 0,ae;have af:iY p H H5:=KD.trans K5;have aq:=af _ _ hL (hP.ne_strs hL);have fin:∀(y:Str) (H':Hp),Wd 20 y->ic H5 H'->Q (!y) H':=λy H' O s'=>k y H' O (P5.same s') (af.trans (iY.of s'));have two:(2:Nat)<=sizeLine:=by decide
  have bl:Wd 1 " ":=[():ur _]
  have fz:∀{n m:Nat}{x y:Str},Wd n x->Wd m y->n+m<=100->↑x+↑y<=sizeLine:=λhx O h=>nj (by have:=hx.2;have:=O.2;omega)
  have tx:Wd 5 "text ":=[():ur _]
  have go:Wd 3 "go ":=[():ur _]
  clear ak ao ap ae ej
  exists 0,1,0,lW (λ_=>?_) (λ_=>?_)
  .have w1:=tx.cat h1 (k:=7) ()
   have w2:=w1.cat bl (k:=8) ()
   exists 0,_,0,1,fz tx h1 (),_,0,1,fz w1 bl (),0,0,p,L,zs,1,P5,aq,hN,λy H6 O P6 K6=>?_
   exact⟨_,0,1,fz w2 O (),k _ H6 (w2.cat O ()) P6 (af.trans K6)⟩
  exists 0,two,λl1 au=>⟨l1,0,.inl (SqL.of qg),1,1,0,?_⟩;have ad:=qf au (.lst ([-"self",-"say"]:om V));refine lW (λ_=>?_) (λ_=>?_)
  .have w1:=Z.cat bl (k:=6) ()
   exact⟨0,_,0,1,fz Z bl (),0,_,0,1,fz w1 h1 (),fin _ _ (w1.cat h1 ()) ad⟩
  exists 0,1,0,lW (λ_=>?_) (λ_=>?_)
  .exact⟨0,fin _ _ ⟨Z.1,by have:=Z.2;omega⟩ ad⟩
  exists 0,1,0,lW (λ_=>?_) (λ_=>?_)
  .exact⟨0,_,0,1,fz go h4 (),fin _ _ (go.cat h4 ()) ad⟩
  exists 0,two,λl2 aw=>⟨l2,0,.inl (SqL.of qg),1,1,0,?_⟩;have ag:=ad.trans (qf aw (.lst ([-"none",-"rowed"]:om V)));refine lW (λ_=>?_) (λ_=>?_)
  .exists 1,0,0,0;exact Mh (l:= [x1,Vn ((jn:Nat):Int)]) (by simp) Z (λy O=>by simp at O;rcases O with rfl|rfl<;>assumption) λy H' O s'=>fin y H' O (ag.trans s')
  exists 0,1,0,lW (λ_=>?_) (λ_=>?_)
  .exists 1,0,0,0,0;exact Mh (l:= [x1,x2,Vn ((jn:Nat):Int)]) (by simp) Z (λy O=>by simp at O;rcases O with rfl|rfl|rfl<;>assumption) λy H' O s'=>fin y H' O (ag.trans s')
  exists 0,two,λl3 ax=>⟨l3,0,.inl (SqL.of qg),1,1,0,?_⟩;have al:=ag.trans (qf ax (.lst ([-"cut",-"glue"]:om V)));refine lW (λ_=>?_) (λ_=>?_)
  .exists 1,0,0,0,0;exact Mh (l:= [x1,x2,x3]) (by simp) Z (λy O=>by simp at O;rcases O with rfl|rfl|rfl<;>assumption) λy H' O s'=>fin y H' O (al.trans s')
  .exists 1,0,0,0;exact Mh (l:= [x1,x2]) (by simp) Z (λy O=>by simp at O;rcases O with rfl|rfl<;>assumption) λy H' O s'=>fin y H' O (al.trans s')
abbrev SU (d:D):Prop:=isT d=v_/\lw d=v_/\sz d<=300
inductive Du:Sp
 |mk (p L:Addr)(zs:List Str)(_:vs= [-p,-L])(_:mf H p)(_:H L=u_ (.lst (zs.map V.str)))(_:Nm4 zs)(_:∀(v:V)(d:D)(H':Hp),SU d->Is H' d v->mf H' p->iY p H H'->Q v H')
def IsL.ofStrz {H:Hp}:∀{l:om Str},(∀z>l,↑z<=1000)->L2.IsL H (l.map D.str) (l.map V.str)
 | [],_=>rfl
 |z::r,h=>⟨_,0,[1:yQ (h z uh)],IsL.ofStrz λy O=>h y (ug _ O)⟩
def Bc {n:Nat}:∀{l:om Str},(∀z>l,↑z<=n)->szL (l.map D.str)<=↑l*(n+1)
 | [],_=>by simp[szL]
 |z::r,h=>by
  have:=Bc (n:=n) λy O=>h y (ug (a:=y) z O);have:=h z uh;simp![uC,szL,sz,uw,rh,Rv];omega
def EC:∀{l:om Str},(∀z>l,Jg z=v_)->lwL (l.map D.str)=v_
 | [],_=>rfl
 |z::r,h=>by
  rw[uC,lwL,EC λy O=>h y (ug _ O),U5];exact h z uh
def Im:∀l:om Str,dpL (l.map D.str)<=1
 | []=>by simp[dpL]
 |z::r=>by have:=Im r;simp![uC,dpL,dp];omega
def sA:∀{l:om Str},(∀z>l,Wd 300 z)->goodL (l.map D.str)=v_
 | [],_=>rfl
 |z::r,h=>by
  rw[uC,goodL,sA λy O=>h y (ug _ O),U5];show QA z=v_;unfold QA;have:=h z uh;rw[uj this.2];exact this.1
def Aam (h:Wd 20 z):SU (!z):=⟨EO h.1 (by have:=h.2;omega),h.1,by simp![sz];have:=h.2;omega⟩
def AZ (O:↑l<=14)(h:∀z>l,Wd 20 z):SU (.tup (l.map D.str)):=by
 have h1:=Bc λz hz=>(h z hz).2;have h2:=Im l;have h3:=sA λz hz=>(⟨(h z hz).1,by have:=(h z hz).2;omega⟩:Wd 300 z)
 have e:sz (.tup (l.map D.str))<=300:=by simp![sz];omega
 exists ?_,by simpa only [lw] using EC λz hz=>(h z hz).1,e
 have e2:dp (.tup (l.map D.str))<=12:=by simp![dp];omega
 unfold isT;rw[uj (show sz (.tup (l.map D.str))<=600 by omega),uj e2]
 simp![iR];rw[h3,uc,uj (show ↑l<=40 by omega)]
 rfl
def Ky {t:o3}(h:∀z>l,Wd 20 z)(O:H t=U_):Is (upd H t (.tup (l.map V.str))) (.tup (l.map D.str)) (-t):=
 Is.new (IsL.ofStrz λz hz=>by have:=(h z hz).2;omega) O
abbrev MKL (z:Str):om Str:= ["row h","text b "++z,"ask c b","text a text d ","join a c","put h a","text a ask e d","put h a","text a say e","put h a","say h"]
def Nr (h:Wd 4 z):∀y>MKL z,Wd 20 y:=by
 have O:∀y>(["row h","ask c b","text a text d ","join a c","put h a","text a ask e d","put h a","text a say e","put h a","say h"]:om Str),Jg y=v_/\↑y<=20:=by decide+kernel
 intro y U;rcases Aa.mp U with rfl|U
 .exact O _ (by simp)
 .rcases Aa.mp U with rfl|U
  .exact Wd.cat (n:=7) (m:=4) [():ur _] h ()
  .exact O y (ug _ U)
def LQ:#[T,2,a.wp,a.wA,["pot","names"],Du]:=by
 have qP:=#[JL,T];exists 9,T.mP,Y8
 erw[h,p,L,zs,rfl,hP,Z,U,k];have ac:=U.1;have ad:=U.2.1;exists 3,%[#[qE,(2),Y8.nd,#[qC,7,Qa,pv 1,#[qp,qP,hr.mono (),T.ig,#v[pv 0,#[qA,qN,T.yR,uO,#v[pv 1]]]],(λ_ _=>rfl)]],#[qE,(3),Y8.nd,#[QR,#v[ql,#[Qh,Qu,ql,pv 2],ql,ql,ql,ql]]],#[qE,(3),Y8.nd,#[Qh,BC,pv 3,#[QR,#v[ql,ql,ql,ql,ql]]]]|#[qo,#[Qg,qY,T.QG,vw,#v[pv 3]]]]
 have aa:=hP.ne_strs Z
 exists 5
 refine⟨0,0,0,L,0,.inl (SqL.of Z),p,0,hP,by rw[uc];omega,by rw[uc];omega,λd1 H1 a0 a1 P1 K1=>?_⟩
 erw[J8 (xs:=zs.map V.str) a0 a1,v,hv];erw[Ae.mp (zq hv),z,hz,rfl];have O:Wd 4 z:=[Np (U.2.2 z hz).1:(U.2.2 z hz).2]
 exists L,_,_,0,1,SqL.of (K1 _ _ Z aa),hv;have e7:("text b ":Str).length=7:=by decide+kernel
 exists 0,_,0,1,nj (by have:=O.2;omega),(sml rfl),λl1 h1=>?_
 have q1:=qf h1 (.lst (((MKL z).take 6).map V.str));have e1:(upd H1 l1 (.lst (((MKL z).take 6).map V.str))) l1=u_ (.lst (((MKL z).take 6).map V.str)):=qg;show ni _ _ _ _ (upd H1 l1 (.lst (((MKL z).take 6).map V.str)));generalize upd H1 l1 (.lst (((MKL z).take 6).map V.str))=H2 at q1 e1⊢
 exists 0,(sml rfl),λl2 h2=>?_;have q2:=qf h2 (.lst (((MKL z).drop 6).map V.str))
 exists l1,l2,_,0,1,q2 _ _ e1,qg,nj (by show 6+5<=16000000;decide),λl3 h3=>?_
 have q3:=q2.trans (qf h3 (.lst ((MKL z).map V.str)))
 exists 0,l3,(MKL z).map V.str,1,.inl [SqL.of qg:λt ht=>?_];have q4:=qf ht (.tup ((MKL z).map V.str));exact k _ _ _ (AZ (by show 11<=14;decide) (Nr O)) (Ky (Nr O) ht) ((P1.same q1).same (q3.trans q4)) (K1.trans (iY.of (q1.trans (q3.trans q4))))
def Ei:#[T,4,a.kT,a.kc,["pot","names"],Du]:=by
 have qP:=#[JL,T];have Q4:=#[Ak,T];have O:=#[Py,T];exists 9,T.mw,jF
 erw[h,p,L,zs,rfl,hP,hL,hN,k];exists 3,%[#[qE,(2),jF.nd,#[Qh,Yg,qh,#[qp,qP,hr.mono (),T.ig,#v[pv 0,qh]]]],#[qE,2,(3),4,jF.nd,rfl,Gk rfl,#[Qh,Yg,pv 2,qh],_,_],#[qE,(4),jF.nd,#[QR,#v[#[Qh,Qu,ql,#[qp,Q4,hr.mono (),T.iA,#v[pv 0,pv 1]]],#[Qh,Qu,ql,#[qp,Q4,hr.mono (),T.iA,#v[pv 0,pv 1]]],ql]]],#[qX,#[jU,vd,PySem.F.slot_list_extend,PySem.F.type_list_extend,oR,pv 4,#v[#[xO,["k","pot","names","many"],(1),[0,1,3],IR (qj J3) ["pot","names","body","many","lines"],#[yH,#v[pv 2]],(λ_ _ _ _ _ _=>#[qM,(0),(show Vr (["k","pot","names","many"]:om Str) by decide+kernel)]),(λ_ _ _ _ _ _=>#[qp,O,hr.mono (),T.mZ,#v[pv 1,pv 2,pv 3,pv 0]])]]]]|#[qo,#[Qg,qY,T.QG,vw,#v[#[Qh,BC,pv 4,#[QR,#v[#[Qh,Qu,ql,#[qC,7,BS,ql,#[qp,qP,hr.mono (),T.ig,#v[pv 0,qh]],(λ_ _=>rfl)]]]]]]]]]
 exists 0,p,(8),1,hP,(),(),λd1 H1 a0 a1 P1 K1=>⟨_,0,1,?_⟩
 obtain⟨nb,ah,aG,aH⟩:∃nb:Nat,1+d1=(nb:Int)/\1<=nb/\nb<=8:=⟨(1+d1).toNat,(),(),()⟩
 have aa:=K1 _ _ hL (hP.ne_strs hL)
 try dsimp only
 rw[ah];clear ah a0 a1
 exists 0,_,0,1;have ta:Wd 7 "text a ":=[():ur _]
 have tb:Wd 7 "text b ":=[():ur _]
 have fz:∀{n m:Nat}{x y:Str},Wd n x->Wd m y->n+m<=100->↑x+↑y<=sizeLine:=λhx U h=>nj (by have:=hx.2;have:=U.2;omega)
 exists 0,0,p,L,zs,1,P1,aa,hN,λz1 H5 ak P5 K5=>⟨_,0,1,fz ta ak (),?_⟩
 have ac:=K5 _ _ aa (P1.ne_strs aa)
 exists 0,0,p,L,zs,1,P5,ac,hN,λz2 H6 al P6 K6=>⟨_,0,1,fz tb al (),(sml rfl),λl hl=>?_⟩
 have au:=K6 _ _ ac (P5.ne_strs ac);have am:iY p H H6:=(K1.trans K5).trans K6;have s7:=qf hl (.lst (["text a "++z1,"text b "++z2,"row h"].map V.str));have e7:(upd H6 l (.lst (["text a "++z1,"text b "++z2,"row h"].map V.str))) l=u_ (.lst (["text a "++z1,"text b "++z2,"row h"].map V.str)):=qg;have P7:=P6.same s7;have ad:=s7 _ _ au;have K7:iY p H (upd H6 l (.lst (["text a "++z1,"text b "++z2,"row h"].map V.str))):=am.trans (iY.of s7);have Z:∀y>(["text a "++z1,"text b "++z2,"row h"]:om Str),Wd 20 y:=λy U=>by
  simp![uI,uL,uS] at U;rcases U with rfl|rfl|rfl
  .exact ta.cat ak ()
  .exact tb.cat al ()
  .exact[():()]
 show ni _ _ _ _ (upd H6 l (.lst (["text a "++z1,"text b "++z2,"row h"].map V.str)));generalize upd H6 l (.lst (["text a "++z1,"text b "++z2,"row h"].map V.str))=H7 at e7 P7 ad K7⊢;have aw:(["text a "++z1,"text b "++z2,"row h"]:om Str).length=3:=rfl;generalize (["text a "++z1,"text b "++z2,"row h"]:om Str)=th at e7 Z aw⊢
 exists 0,.inl [1:_:SqL.of e7]
 exists 0,nb,1,(),(),λD hD=>?_
 have nD:D≠p:=(P7.free hD).symm;have nl:l≠p:=P7.ne_strs e7;refine X2 (lo:=0) (n:=nb) (tl:= [u_ (-p),u_ (-L),u_ (.int ((nb:Int)+4))]) (λi ys H'=>∃rs:om Str,ys=rs.map V.str/\↑rs=i/\(∀r>rs,Wd 20 r)/\mf H' p/\(∀b o,H7 b=u_ o->b≠p->H' b=u_ o)) (yQ ()) ⟨[],1,1,λb hb=>by simp at hb,P7.same (qf hD _),λb o e _=>qf hD _ _ _ e⟩ ?_ ?_
 .rintro j ys H' hj ⟨rs,rfl,ao,ae,P',K'⟩ af U R hR;have ax:=K' _ _ ad (P7.ne_strs ad)
  exists 0,0,0,0,p,L,zs,nb+4,j,?_,P',ax,hN,(),(),(),λr H8 ay P8 K8=>?_
  .rw[show(0:Int)+(j:Int)=(j:Int) by omega,show((nb+4:Nat):Int)=(nb:Int)+4 by omega]
   rfl
  .refine hR _ H8 (K8 _ _ af nD) ⟨rs++ [r],by rw[uq];rfl,by rw[uF,ao];rfl,λb hb=>?_,?_,λb o e np=>?_⟩
   .rcases Ac.mp hb with h|h
    .exact ae b h
    .rw[Uw] at h;subst h;exact ay
   .erw[P8,x,e2,h2];exact⟨x,by rwa[qi nD.symm],h2⟩
   .rw[qi (qk e hD)];exact K8 _ _ (K' b o e np) np
 .rintro ys H' ⟨rs,rfl,ao,ae,P',K'⟩ af;have e8:=K' _ _ e7 nl
  exists l,D,_,0,1,e8,af,nj (by rw[uc,uc];omega)
  have e9:(upd H' l (.lst (th.map V.str++rs.map V.str))) l=u_ (.lst ((th++rs).map V.str)):=by rw[qg,uq]
  have P9:mf (upd H' l (.lst (th.map V.str++rs.map V.str))) p:=by
   erw[P',x,e2,h2];exact⟨x,by rwa[qi nl.symm],h2⟩
  have K9:iY p H (upd H' l (.lst (th.map V.str++rs.map V.str))):=λb o e np=>by
   rw[qi (qk (am b o e np) hl)];exact K' b o (K7 b o e np) np
  generalize upd H' l (.lst (th.map V.str++rs.map V.str))=H9 at e9 P9 K9⊢
  exists 0,0,p,(5),1,P9,(),(),λd9 aI g0 g1 aA ap=>?_
  erw[NO g0 g1,c9,hc,aB];have aC:=ap _ _ e9 nl
  exists "abcdh",d9,c9,1,1,(),hc,_,0,1,(by show("say ":Str).length+1<=Vg;decide+kernel),(sml rfl),λq1 aD=>?_
  have aq:=qf aD (.lst [.str ("say "++⟨#[c9]⟩)]);have hw:Wd 20 ("say "++⟨#[c9]⟩:Str):=Wd.cat (n:=4) (m:=1) [():ur _] aB ()
  exists l,q1,_,0,1,aq _ _ aC,qg,nj (by rw[uc,uF];show _+1<=_;omega),λq2 aE=>?_
  have aF:=aq.trans (qf aE (.lst ((th++rs).map V.str++ [.str ("say "++⟨#[c9]⟩)])))
  exists q2,0,.inl [SqL.of qg:λt ht=>?_];have ag:=aF.trans (qf ht (.tup ((th++rs).map V.str++ [.str ("say "++⟨#[c9]⟩)])));have all:∀y>th++rs++ [("say "++⟨#[c9]⟩:Str)],Wd 20 y:=λy U=>by
   rcases Ac.mp U with U|U
   .rcases Ac.mp U with U|U
    .exact Z y U
    .exact ae y U
   .cases Ab.mp U;exact hw
  have em:(th++rs).map V.str++ [.str ("say "++⟨#[c9]⟩)]=(th++rs++ [("say "++⟨#[c9]⟩:Str)]).map V.str:=by rw[uq (l₁:=th++rs)];rfl
  rw[em] at ag ht⊢;refine k _ _ _ (AZ (l:=th++rs++ [("say "++⟨#[c9]⟩:Str)]) (by simp![uF,vG];omega) all) (Ky all ht) (aA.same ag) ((K9.trans ap).trans (iY.of ag))
def La {y:Str}(hz:Wd 20 z)(O:Wd 20 y):SU (-[-[!z,-[]],!y]):=by
 have h1:=hz.2;have h2:=O.2;have U:QA z=true:=by unfold QA;rw[uj (show ↑z<=300 by omega)];exact hz.1
 have Z:QA y=true:=by unfold QA;rw[uj (show ↑y<=300 by omega)];exact O.1
 have e:sz (-[-[!z,-[]],!y])<=300:=by simp![sz,szL];omega
 exists ?_,by simp[lw,lwL,hz.1,O.1],e
 unfold isT;rw[uj (show sz (-[-[!z,-[]],!y])<=600 by omega),uj (show dp (-[-[!z,-[]],!y])<=12 by simp![dp,dpL];omega)]
 simp[iR,goodL,U,Z]
inductive Ol:Sp
 |mk (p L:Addr)(zs:List Str)(_:vs= [-p,-L])(_:mf H p)(_:H L=u_ (.lst (zs.map V.str)))(_:Nm4 zs)(_:∀(v:V)(d:D)(H':Hp),sS d->Is H' d v->mf H' p->iY p H H'->Q v H')
def Aan {k:Str}{d:D}(O:k="leaf"\/k="rule")(h:SU d):sS (-[!k,d]):=Le O h.1 h.2.1 h.2.2
def Oe {k:Str}{d:D}(O:k="leaf"\/k="rule")(h:SU d)(Z:Is H d v)(q:∀t H',ic H H'->Is H' (-[!k,d]) (-t)->sS (-[!k,d])->Q (-t) H'): [V.str k,v].length<=Vg/\∀t,H t=U_->Q (-t) (upd H t (-[!k,v])):=by
 exists sml rfl,λt U=>q t _ (qf U _) (Is.new (ds:= [!k,d]) ⟨_,0,[1:?_],_,0,Z,1⟩ U) (Aan O h);rcases O with rfl|rfl<;>decide+kernel
def Pz:#[T,5,a.kt,a.kD,["pot","names"],Du]:=by
 have qP:=#[JL,T];have Q4:=#[Ak,T];have zO:=#[Ei,T];exists 9,T.mx,wk
 erw[h,p,L,zs,rfl,hP,hL,hN,k];have aa:∀{z:Str},Wd 4 z->Wd 20 z:=λh=>⟨h.1,by have:=h.2;omega⟩
 exists 3,%[#[qE,(2),wk.nd,#[qp,qP,hr.mono (),T.ig,#v[pv 0,qh]]],#[qH,#[qq,D6,pv 2,qh,qw _],%[|#[qo,#[qp,Q4,hr.mono (),T.iA,#v[pv 0,pv 1]]]],qt],#[qH,#[qq,QN,pv 2,qh,qw _],%[|#[qo,#[Qg,qY,T.QG,vw,#v[#[xO,["k","pot","names"],(1),[0,1],IR (qj J7) ["pot","names","kind"],#[yH,#v[#[qp,qP,hr.mono (),T.ig,#v[pv 0,qh]]]],(λ_ _ _ _ _ _=>#[qM,(0),(show Vr (["k","pot","names"]:om Str) by decide+kernel)]),(λ_ _ _ _ _ _=>#[qp,Q4,hr.mono (),T.iA,#v[pv 1,pv 2]])]]]]],qt],#[qH,#[qq,QN,pv 2,qh,qw _],%[|#[qo,#[qG,#v[#[qG,#v[#[qp,Q4,hr.mono (),T.iA,#v[pv 0,pv 1]],#[qG,qd]]],#[qp,Q4,hr.mono (),T.iA,#v[pv 0,pv 1]]]]]],qt],#[qH,#[qq,QN,pv 2,qh,qw _],%[|#[qo,#[qp,zO,hr.mono (),T.mw,#v[pv 0,pv 1]]]],qt]|#[qo,#[qG,#v[#[Qh,Qu,ql,#[qp,Q4,hr.mono (),T.iA,#v[pv 0,pv 1]]],ql,ql]]]]
 exists 0,p,(6),1,hP,(),(),λd1 H1 a0 a1 P1 K1=>?_
 have O:=K1 _ _ hL (hP.ne_strs hL)
 exists 0,_,0,1,0,lW (λ_=>?_) (λ_=>?_)
 .exact⟨0,0,p,L,zs,1,P1,O,hN,λz H2 hz U Z=>k _ _ H2 (Aam (aa hz)) ⟨1,nj (by have:=hz.2;omega)⟩ U (K1.trans Z)⟩
 exists 0,1,0,lW (λ_=>?_) (λ_=>?_)
 .exists 0,p,(4),1,P1,(),(),λd2 H2 b0 b1 U Z=>?_
  have ac:=Z _ _ O (P1.ne_strs O);obtain⟨n,rfl,hn⟩:∃n:Nat,d2=(n:Int)/\n<4:=[d2.toNat:():()]
  exists n,1,(),(),λD hD=>?_
  have nD:D≠p:=(U.free hD).symm;refine X2 (lo:=0) (n:=n) (tl:= [u_ (-p),u_ (-L)]) (λi ys H'=>∃rs:om Str,ys=rs.map V.str/\↑rs=i/\(∀r>rs,Wd 20 r)/\mf H' p/\(∀b o,H2 b=u_ o->b≠p->H' b=u_ o)) (yQ ()) ⟨[],1,1,λb hb=>by simp at hb,U.same (qf hD _),λb o e _=>qf hD _ _ _ e⟩ ?_ ?_
  .rintro j ys H' hj ⟨rs,rfl,af,ad,P',K'⟩ ae hy R hR;have ao:=K' _ _ ac (U.ne_strs ac)
   exists 0,0,p,L,zs,1,P',ao,hN,λr H8 ap P8 K8=>?_;refine hR _ H8 (K8 _ _ ae nD) ⟨rs++ [r],by rw[uq];rfl,by rw[uF,af];rfl,λb hb=>?_,?_,λb o e np=>?_⟩
   .rcases Ac.mp hb with h|h
    .exact ad b h
    .rw[Uw] at h;subst h;exact aa ap
   .erw[P8,x,e2,h2];exact⟨x,by rwa[qi nD.symm],h2⟩
   .rw[qi (qk e hD)];exact K8 _ _ (K' b o e np) np
  .rintro ys H' ⟨rs,rfl,af,ad,P',K'⟩ ae
   exists D,0,.inl [SqL.of ae:λt ht=>?_];have s3:=qf ht (.tup (rs.map V.str));exact k _ _ _ (AZ () ad) (Ky ad ht) (P'.same s3) (λb o e np=>s3 _ _ (K' b o ((K1.trans Z) b o e np) np))
 exists 0,1,0,lW (λ_=>?_) (λ_=>?_)
 .exists 0,0,p,L,zs,1,P1,O,hN,λz1 H2 ag U Z=>[uQ _:λt0 ah=>[sml rfl:λt1 ak=>?_]];have ac:=Z _ _ O (P1.ne_strs O);have s0:=qf ah (.tup ([]:om V));have s1:=s0.trans (qf ak (-[!z1,-t0]));have i0:Is (upd H2 t0 (-[])) (-[]) (-t0):=Is.new (ds:= []) rfl ah;have i1:Is (upd (upd H2 t0 (-[])) t1 (-[!z1,-t0])) (-[!z1,-[]]) (-t1):=Is.new (ds:= [!z1,-[]]) ⟨_,0,⟨1,nj (by have:=ag.2;omega)⟩,_,0,i0,1⟩ ak
  generalize upd (upd H2 t0 (-[])) t1 (-[!z1,-t0])=H3 at s1 i1⊢;have P3:=U.same s1
  exists 0,0,p,L,zs,1,P3,s1 _ _ ac,hN,λz2 H4 al P4 K4=>[sml rfl:λt2 am=>?_];have s2:=qf am (-[-t1,!z2]);refine k _ _ _ (La (aa ag) (aa al)) (Is.new (ds:= [-[!z1,-[]],!z2]) ⟨_,0,i1.mono (P3.tk P4 K4),_,0,⟨1,nj (by have:=al.2;omega)⟩,1⟩ am) (P4.same s2) ((((K1.trans Z).trans (iY.of s1)).trans K4).trans (iY.of s2))
 exists 0,1,0,lW (λ_=>?_) (λ_=>?_)
 .exact⟨0,0,p,L,zs,1,P1,O,hN,λv d H2 hd hv U Z=>k v d H2 hd hv U (K1.trans Z)⟩
 .have ta:Wd 7 "text a ":=[():ur _]
  exists 0,0,p,L,zs,1,P1,O,hN,λz H2 hz U Z=>⟨_,0,1,nj (by have:=hz.2;have:=ta.2;omega),sml rfl,λt ht=>?_⟩
  have all:∀y>(["text a "++z,"ask b a","say b"]:om Str),Wd 20 y:=λy hy=>by
   simp![uI,uL,uS] at hy;rcases hy with rfl|rfl|rfl
   .exact ta.cat hz ()
   .exact[():()]
   .exact[():()]
  have s2:=qf ht (.tup ((["text a "++z,"ask b a","say b"]:om Str).map V.str));exact k _ _ _ (AZ (by show 3<=14;decide) all) (Ky all ht) (U.same s2) ((K1.trans Z).trans (iY.of s2))
def Pm:#[T,6,a.Zu,a.Zv,["pot","names"],Ol]:=by
 have qP:=#[JL,T];have W7:=#[Pz,T];have zO:=#[Ei,T];have O:=#[LQ,T];exists 9,T.mB,XY
 erw[h,p,L,zs,rfl,hP,hL,hN,k];have ad:=hN.1;have ae:=hN.2.1;exists 3,%[#[qE,(2),XY.nd,#[qp,qP,hr.mono (),T.ig,#v[pv 0,qh]]],#[qH,#[qq,D6,pv 2,qh,qw _],%[|#[qo,#[qG,#v[ql,#[qp,W7,hr.mono (),T.mx,#v[pv 0,pv 1]]]]]],qt],#[qH,#[qq,D6,pv 2,qh,qw _],%[|#[qo,#[qG,#v[ql,#[qp,zO,hr.mono (),T.mw,#v[pv 0,pv 1]]]]]],qt],#[qH,#[qq,QN,pv 2,qh,qw _],%[|#[qo,#[qG,#v[ql,#[qp,O,hr.mono (),T.mP,#v[pv 0,pv 1]]]]]],qt],@qH _ _ _ _ _ _ _ _ #[Bt,7,#[qq,QN,pv 2,qh,qw _],#[qac,4,#[qq,QN,#[qp,qP,hr.mono (),T.ig,#v[pv 0,qh]],qh,qw _]]].pt %[|#[qo,#[qG,#v[ql,#[qp,W7,hr.mono (),T.mx,#v[pv 0,pv 1]]]]]] qt|#[qo,#[qG,#v[ql,#[qC,7,Qa,pv 1,#[qp,qP,hr.mono (),T.ig,#v[pv 0,#[qA,qN,T.yR,uO,#v[pv 1]]]],(λ_ _=>rfl)]]]]]
 exists 0,p,(10),1,hP,(),(),λd1 H1 a0 a1 P1 K1=>?_
 have Z:=K1 _ _ hL (hP.ne_strs hL);have fin:∀{H3 H2:Hp}{kk:Str}{d:D}{v:V},mf H3 p->iY p H H3->kk="leaf"\/kk="rule"->SU d->Is H2 d v->mf H2 p->iY p H3 H2-> [V.str kk,v].length<=Vg/\∀t,H2 t=U_->Q (-t) (upd H2 t (-[!kk,v])):=λ{H3 H2 kk d v} P3 K3 hk hd U P2 K2=>
  Oe hk hd U λt H4 s4 i4 o4=>k _ _ H4 o4 i4 (P2.same s4) ((K3.trans K2).trans (iY.of s4))
 exists 0,_,0,1,0,lW (λ_=>?_) (λ_=>?_)
 .exact⟨0,0,p,L,zs,1,P1,Z,hN,λv d H2 hd U P2 K2=>fin P1 K1 (.inl rfl) hd U P2 K2⟩
 exists 0,_,0,1,0,lW (λ_=>?_) (λ_=>?_)
 .exact⟨0,0,p,L,zs,1,P1,Z,hN,λv d H2 hd U P2 K2=>fin P1 K1 (.inr rfl) hd U P2 K2⟩
 exists 0,1,0,lW (λ_=>?_) (λ_=>?_)
 .exact⟨0,0,p,L,zs,1,P1,Z,hN,λv d H2 hd U P2 K2=>fin P1 K1 (.inr rfl) hd U P2 K2⟩
 show ni _ _ _ _ H1;refine qB λN0 n0=>n0 _ _ ?_;exists 8,BB,bb;have made:∀{H3:Hp},mf H3 p->iY p H H3->BB [u_ (V.ref p),u_ (V.ref L),u_ (V.int d1)] H3:=by
  intro H3 P3 K3;refine bb _ _ ?_;have aa:=K3 _ _ hL (hP.ne_strs hL)
  exists 5
  refine⟨0,0,0,L,0,.inl (SqL.of aa),p,0,P3,by rw[uc];omega,by rw[uc];omega,λd2 H4 b0 b1 P4 K4=>?_⟩
  erw[J8 (xs:=zs.map V.str) b0 b1,v,U];erw[Ae.mp (zq U),z,hz,rfl]
  exists L,_,_,0,1,SqL.of (K4 _ _ aa (P3.ne_strs aa)),U,sml rfl,λt ht=>?_;have s4:=qf ht (-[-"made",!z]);have ac:=hN.2.2 z hz;exact k _ _ _ (Ld ac.1) (Is.new (ds:= [-"made",!z]) ⟨_,0,[1:()],_,0,[1:nj ()],1⟩ ht) (P4.same s4) ((K3.trans K4).trans (iY.of s4))
 exists 0,1,0,lW (λ_=>?_) (λ_=>?_)
 .exists 0,p,(4),1,P1,(),(),λd2 H2 b0 b1 P2 K2=>[1:0:lW (λ_=>?_) (λ_=>?_)]
  .exact⟨0,0,p,L,zs,1,P2,K2 _ _ Z (P1.ne_strs Z),hN,λv d H3 hd U P3 K3=>fin P2 (K1.trans K2) (.inr rfl) hd U P3 K3⟩
  .exact made P2 (K1.trans K2)
 .exact iL (made P1 K1)
def SqL.keepK {K:o0}{a:o3}(e:∀o,H a=u_ o->H' a=u_ o)(h:SqL K H a xs):SqL K H' a xs:=by
 rcases h with(h|⟨o,h⟩)|h
 .exact .inl (.inl (e _ h))
 .exact .inl (.inr [o:e _ h])
 .exact .inr h
abbrev N8:om Str:= ["a","b1","c/d","e.f","g","h9","k","m/n"]
def Ada:∀z>N8,nm z=v_/\↑z<=4:=by decide+kernel
def Adb:N8.Nodup:=by decide+kernel
def Sh (h1:1<=n)(h2:n<=8):Nm4 (N8.take n)/\↑(N8.take n)=n:=by
 have e:↑(N8.take n)=n:=by rw[vy];show min n 8=n;omega
 exact[[():():λz hz=>Ada z (Uc hz)]:e]
def MC {vs:om V}:Cj vs U_ (u_ (n:Int))=vs.take n:=by
 unfold Cj;rw[HT.sIx_none,HT.sIx_nat,tP,Nat.sub_zero];rcases tU n ↑vs with h|h
 .rw[Fu h]
 .rw[Nat.min_eq_right h,vt (ur _),vt h]
def ET {ns:om Int}:∀{ys:om V},(∀y>ys,y>ns.map V.int)->∃O:om Int,ys=O.map V.int
 | [],_=>[[]:1]
 |y::r,h=>by
  erw[Ae.mp (h y uh),i,_,e];obtain⟨O,e2⟩:=ET (ys:=r) λz hz=>h z (ug _ hz);exact⟨i::O,by rw[e2,<-e];rfl⟩
inductive Ow (K:PySem.W.Frag):Sp
 |mk (q:Addr)(ns:List Int)(_:vs= [-q])(_:SqL K H q (ns.map V.int))(_:∀(L:Addr)(ps:List (Str×D))(us:List V)(H':Hp),H L=U_->ic H H'->H' L=u_ (.lst us)->L2.IsL H' (ps.map prD) us->AdC ps->↑ps<=8->Q (-L) H')
def Dr {K:o0}(h:SqL K H q xs)(s:ic H H'):SqL K H' q xs:=SqL.keepK (λo e=>s _ _ e) h
def LR:#[T,7,a.Xx,a.X6,["script"],(Ow K)]:=by
 have Kw:=#[PP,T];have wl:=#[El,T];have U:=#[Pm,T];exists 9,T.ml,yj
 erw[h,q,ns,rfl,hq,k];have hs:=uE;exists 3,%[#[qE,(1),yj.nd,#[ZY,10,DI,#[QR,#v[ql,ql,ql,ql,ql,ql,ql,ql]],qah,#[WC,#[Qh,Yg,qh,#[Qh,Z3,#[qp,Kw,hr.mono (),T.mn,#v[pv 0,qh]],qh]]]]],#[qE,(2),yj.nd,#[QR,qd]],#[Ym,#[yH,#v[#[qA,qN,T.yR,uO,#v[pv 1]]]],#[qM,(3),yj.nd],%[#[qE,(4),yj.nd,#[qA,#[sI,1,rfl],T.z_sum,boot_sum,#v[#[LD,10,(),pv 0,#[WC,#[Qh,Yg,qh,pv 3]],_]]]]|#[qH,#[qq,LI,#[Qh,Z3,pv 4,qh],qh,qw _],%[|#[qX,#[jU,vd,vJ,vK,YU,pv 2,#v[#[qG,#v[#[qC,7,Qa,pv 1,pv 3,(λ_ _=>rfl)],#[qp,U,hr.mono (),T.mB,#v[#[qp,wl,hr.mono (),T.mH,#v[pv 4,pv 3]],pv 1]]]]]]]],qt]]]|#[qo,pv 2]]
 exists sml rfl,λl0 au=>?_;have s0:=qf au (.lst (N8.map V.str));have e0:(upd H l0 (.lst (N8.map V.str))) l0=u_ (.lst (N8.map V.str)):=qg;show Do _ (upd H l0 (.lst (N8.map V.str))) _;generalize upd H l0 (.lst (N8.map V.str))=H0 at s0 e0⊢
 exists 0,q,ns,(0),1,(),(Dr hq s0),λc=>⟨_,0,1,(by show(0:Int)<8;decide),_,0,1,?_⟩
 have m1:0<=c%8/\c%8<8:=[UX _ ():Ux _ ()]
 obtain⟨n,hn,aw,ax⟩:∃n:Nat,1+c%8=(n:Int)/\1<=n/\n<=8:=⟨(1+c%8).toNat,(),(),()⟩
 erw[Sh aw ax,hN,ay]
 try dsimp only
 rw[hn]
 exists 0,l0,0,SqL.of e0,λl hl=>?_;rw[MC,<-UY];have ak:(N8.take n).Nodup:=pX (V0 _ _) Adb;generalize N8.take n=zs at hN ay ak⊢;have s1:=s0.trans (qf hl (.lst (zs.map V.str)));have e1:(upd H0 l (.lst (zs.map V.str))) l=u_ (.lst (zs.map V.str)):=qg;generalize upd H0 l (.lst (zs.map V.str))=H1 at s1 e1⊢
 exists uQ _,λL hL=>?_;have s2:=s1.trans (qf hL (.lst ([]:om V)));have al:H L=none:=s1.free hL;have aA:l≠L:=qk e1 hL;have e2:=qf hL (.lst ([]:om V)) _ _ e1;have eL:(upd H1 L (.lst [])) L=u_ (.lst []):=qg;generalize upd H1 L (.lst [])=H2 at s2 e2 eL⊢
 exists 0,l,0,.inl (SqL.of e2),↑zs,by rw[uc],(),()
 refine JE (n:=↑zs) (λi σ H'=>∃(ps:om (Str×D)) (us:om V) (x3 x4:oq V),σ= [u_ (-q),u_ (-l),u_ (-L),x3,x4]/\ic H H'/\H' l=u_ (.lst (zs.map V.str))/\H' L=u_ (.lst us)/\L2.IsL H' (ps.map prD) us/\(ps.map (·.1)).Sublist (zs.take i)/\∀p>ps,sS p.2) ⟨[],[],U_,U_,1,s2,e2,eL,1,List.nil_sublist _,λp hp=>by simp at hp⟩ ?_ ?_
 .rintro i σ H' hi ⟨ps,us,x3,x4,rfl,sm,el,ag,ad,O,Z⟩;have aH:↑ps<=8:=by
   have h1:=O.length_le;rw[uc,vy] at h1;omega
  have aB:=↑ad;rw[uc] at aB
  exists 0,0,_,0,1,0,q,0,(Dr hq sm),λys y0 _ am aC=>?_;erw[ET am,ms,rfl];have sy:=qf aC (.lst (ms.map V.int));have ey:(upd H' y0 (.lst (ms.map V.int))) y0=u_ (.lst (ms.map V.int)):=qg;have aa:=sy _ _ ag;have ac:=sy _ _ el;generalize upd H' y0 (.lst (ms.map V.int))=H3 at sy ey aa ac⊢;have af:=ad.mono sy.tk;have ao:=sm.trans sy
  exists y0,ms,1,SqL.of ey
  exists 0,_,0,1,(by show(0:Int)<11;decide),1,0,lW (λ_=>?_) (λ_=>?_)
  .have ah:i<↑zs:=hi
   exists 0,.inl [1:_:SqL.of aa],0,0,l,_,_,V.str zs[i],1,1,SqL.of ac,?_,?_
   .rw[show(0:Int)+(i:Int)=((i:Nat):Int) by omega]
    exact qz (by rw[uK,ui ah];rfl)
   exists 0,0,_,0,(),(),λp H4 hp s4 P4=>?_
   have aD:=s4 _ _ ac;have aI:=s4 _ _ aa;have aJ:L≠p:=qk aa hp
   exists 0,p,l,zs,1,P4,aD,hN,λv d H5 hd hv P5 K5=>[sml rfl:λt ht=>?_];have aE:ic H3 H5:=K5.same s4 hp;have st:=qf ht (-[.str zs[i],v]);have hz:=hN.2.2 _ (uR ah);have ap:Is (upd H5 t (-[.str zs[i],v])) (prD (zs[i],d)) (-t):=Is.new (ds:= [.str zs[i],d]) ⟨_,0,[1:nj ()],_,0,hv,1⟩ ht
   generalize upd H5 t (-[.str zs[i],v])=H6 at st ap⊢;have ae:=aE.trans st;have aq:=ae _ _ aa
   exists L,us,0,1,aq,()
   have tk:Tk H6 (upd H6 L (.lst (us++ [-t]))):=Tk.updL aq
   exists ps++ [(zs[i],d)],us++ [-t],_,0,λb o e=>?_,?_,qg,?_,?_,λp' aF=>?_
   .rw[qi (qk e al)];exact ae _ _ (ao _ _ e)
   .rw[qi aA];exact ae _ _ ac
   .rw[uq];exact((af.mono ae.tk).mono tk).append (L2.IsL.one (ap.mono tk))
   .rw[Lb ah,uq];exact O.append (pw _)
   .rcases Ac.mp aF with h|h
    .exact Z p' h
    .cases Ab.mp h;exact hd
  .exact⟨ps,us,_,0,ao,ac,aa,af,O.trans (by rw[Lb hi];exact List.sublist_append_left _ _),Z⟩
 .rintro σ H' ⟨ps,us,x3,x4,rfl,sm,el,ag,ad,O,Z⟩;rw[vW] at O;have aG:=O.length_le;rw[uc] at aG;exact[0:k L ps us H' al sm ag ad [[λz hz=>(hN.2.2 z (O.mem hz)).1:ak.sublist O]:Z] ()]
inductive OJ:Sp
 |mk (v:V)(d:D)(_:vs= [v])(_:Is H d v)(_:∀(u:V)(H':Hp),ic H H'->((QJ d).isSome=v_->u= .non)->((QJ d).isSome=Vc->u≠ .non)->Q u H')
inductive DC:Sp
 |mk (v:V)(d:D)(_:vs= [v])(_:Is H d v)(_:∀H',ic H H'->Q (.bl (QJ d).isSome) H')
def PQ:#[C,4,a.kG,a.kr,["tree"],OJ]:=by
 have Z:=#[Ek,T,C];exists 9,T.na,sY
 erw[h,v,d,rfl,hv,k];exists 3,%[|#[qo,#[qC,qD,#[qp,Z,hr.mono (),T.lL,#v[pv 0]]]]]
 exists 0,v,d,1,hv,λu H' x y s' U hu=>?_;erw[hu,p,ws,rfl,hp,w1,r1,rfl,h1,w2,r2,rfl,h2,h3];cases(show r2= [] from h3)
 exists p,_,_,0,1,SqT.of hp,1,k _ H' s' (λe=>?_) (λe=>?_)
 .erw[X0 e,rs,O];erw[U.1 rs O,_,rfl];exact h2
 .have hn:QJ d=none:=by
   cases hh:QJ d with
   |none=>rfl
   |some rs=>rw[hh] at e;cases e
  erw[U.2 hn,i,rfl];intro z;rw[z] at h2;cases(show V.non= .int i from h2)
def oJ:#[C,5,a.f_is_rule,a.d_is_rule,["value"],DC]:=by
 have O:=#[PQ,T,C];exists 9,T.mK,CA,U
 erw[h,v,d,rfl,Z,k];exists 3,%[|#[qo,#[Qw,yT,#[qp,O,U.mono (),T.na,#v[pv 0]],qT]]]
 exists 0,v,d,1,Z,λu H' s' h1 h2=>[1:?_];have e:decide (u=V.non)=(QJ d).isSome:=by
  cases c:(QJ d).isSome with
  |true=>rw[h1 c];rfl
  |false=>exact um (h2 c)
 have:=k H' s';rwa[<-e] at this
end
def DP {n:Nat}:∀{ds:om D},(∀d>ds,(Qp n d).isSome=v_)->↑(ds.filterMap (Qp n))=↑ds/\ds=(ds.filterMap (Qp n)).map (λr=>D.str (Yh r))/\∀r>ds.filterMap (Qp n),Ji n 300 r
 | [],_=>[1:1:λr h=>nomatch h]
 |d::ds,h=>by
  erw[X0 (h d uh),r,O];obtain⟨h1,h2,h3⟩:=DP (n:=n) (ds:=ds) λx U=>h x (ug _ U);have hd:d= .str (Yh r)/\Ji n 300 r:=by
   cases d with
   |str z=>
    obtain⟨Z,a2⟩:=Bm (show Wi n z=u_ r from O)
    exact⟨by rw[a2],Z⟩
   |non=>cases O
   |bl b=>cases O
   |int i=>cases O
   |lst=>cases O
   |dct=>cases O
   |tup xs=>cases O
  rw[Uf O];exists by rw[uw,uw,h1],by rw[uC,<-h2,hd.1],λx U=>?_
  rcases Aa.mp U with rfl|U
  .exact hd.2
  .exact h3 x U
variable {rs:om Rw}
def wV {d:D}(h:QJ d=u_ rs):d=jQ rs/\QX rs:=by
 cases d with
 |tup ds=>
  rw[X4] at h;split at h
  .rename_i O
   simp![uG,vk] at O;erw[O,[[c1,c2],U],Z];cases h;erw[DP (List.all_eq_true.mp U),h1,h2,h3];have e:D.tup ds=jQ (ds.filterMap (Qp ↑ds)):=by
    unfold jQ;rw[<-h2]
   refine⟨e,⟨(),(),?_,by rwa[<-e]⟩⟩
   rwa[h1]
  .cases h
 |non=>cases h
 |bl b=>cases h
 |int i=>cases h
 |str z=>cases h
 |lst=>cases h
 |dct=>cases h
abbrev GMT:om Str:= ["begin","look","wanted","take","full"]
structure GFl (fs:om (Str×V))(nv ov mv av rv ev:V):Prop where
 Zl:fs.lookup ("name":Str)=u_ nv
 wg:fs.lookup ("order":Str)=u_ ov
 YM:fs.lookup ("made_by":Str)=u_ mv
 yZ:fs.lookup ("rule_asks":Str)=u_ av
 Qs:fs.lookup ("rule_run":Str)=u_ rv
 f_end:fs.lookup ("end":Str)=u_ ev
 meth:∀m>GMT,fs.lookup m=U_
 len:↑fs<=20
section
variable {fs:om (Str×V)}{nv ov mv av rv ev:V}
def GFl.set_made_by {u:V}(h:GFl fs nv ov mv av rv ev):GFl (iG "made_by" u fs) nv ov u av rv ev:=by
 refine⟨?_,?_,?_,?_,?_,?_,λm hm=>?_,by rw[je h.YM];exact h.len⟩
 all_goals rw[qI]
 all_goals first|rw[A6 rfl]|(rw[A4 ()];first|exact h.Zl|exact h.wg|exact h.YM|exact h.yZ|exact h.Qs|exact h.f_end)|(rw[A4 (λe=>by subst e;revert hm;decide+kernel)];exact h.meth m hm)
def GFl.set_rule_asks {u:V}(h:GFl fs nv ov mv av rv ev):GFl (iG "rule_asks" u fs) nv ov mv u rv ev:=by
 refine⟨?_,?_,?_,?_,?_,?_,λm hm=>?_,by rw[je h.yZ];exact h.len⟩
 all_goals rw[qI]
 all_goals first|rw[A6 rfl]|(rw[A4 ()];first|exact h.Zl|exact h.wg|exact h.YM|exact h.yZ|exact h.Qs|exact h.f_end)|(rw[A4 (λe=>by subst e;revert hm;decide+kernel)];exact h.meth m hm)
def GFl.set_rule_run {u:V}(h:GFl fs nv ov mv av rv ev):GFl (iG "rule_run" u fs) nv ov mv av u ev:=by
 refine⟨?_,?_,?_,?_,?_,?_,λm hm=>?_,by rw[je h.Qs];exact h.len⟩
 all_goals rw[qI]
 all_goals first|rw[A6 rfl]|(rw[A4 ()];first|exact h.Zl|exact h.wg|exact h.YM|exact h.yZ|exact h.Qs|exact h.f_end)|(rw[A4 (λe=>by subst e;revert hm;decide+kernel)];exact h.meth m hm)
def GFl.set_end {u:V}(h:GFl fs nv ov mv av rv ev):GFl (iG "end" u fs) nv ov mv av rv u:=by
 refine⟨?_,?_,?_,?_,?_,?_,λm hm=>?_,by rw[je h.f_end];exact h.len⟩
 all_goals rw[qI]
 all_goals first|rw[A6 rfl]|(rw[A4 ()];first|exact h.Zl|exact h.wg|exact h.YM|exact h.yZ|exact h.Qs|exact h.f_end)|(rw[A4 (λe=>by subst e;revert hm;decide+kernel)];exact h.meth m hm)
end
structure Gc where
 (x o:o3)
 n:Str
structure Gs where
 mb:D
 ra:om D
 run:oq (Mc×Rn)
 en:D
abbrev WN (CM:o3)(H:Hp)(x:o3)(rv:V):oq (Mc×Rn)->Prop
 |none=>rv= .non
 |some (m,r)=>rv= .ref m.x/\m.x≠x/\yy CM H m r
abbrev l6 (C CM:o3)(H:Hp)(g:Gc)(s:Gs):Prop:=
 ∃(dx:o3) (fs:om (Str×V)) (mv av rv ev:V),H g.x=u_ (.ins C dx fs)/\GFl fs (!g.n) (-g.o) mv av rv ev/\Is H s.mb mv/\Is H (¬s.ra) av/\WN CM H g.x rv s.run/\Is H s.en ev
variable {CM:o3}
def WN.same {x:o3}{o:oq (Mc×Rn)}(h:WN CM H x rv o)(s:ic H H'):WN CM H' x rv o:=by
 cases o with
 |none=>exact h
 |some p=>exact[h.1:h.2.1:h.2.2.same s]
def l6.same {g:Gc}{s:Gs}(h:l6 C CM H g s)(sm:ic H H'):l6 C CM H' g s:=by
 erw[h,dx,fs,mv,av,rv,ev,e,f,i,j,k,l];exact⟨dx,fs,mv,av,rv,ev,sm _ _ e,f,i.mono sm.tk,j.mono sm.tk,k.same sm,l.mono sm.tk⟩
def yy.put {m:Mc}{r:Rn}{x:o3}{fs:om (Str×V)}(h:yy CM H m r)(e:H x=u_ (.ins C dx fs))(n:m.x≠x):yy CM (upd H x (.ins C dx fs')) m r:=by
 erw[h,U,Z,rv,ru,tv,gv,e1,f,i,j,b,O,gl,t];have tk:Tk H (upd H x (.ins C dx fs')):=Tk.updI e;have n1:m.db≠x:=Yz.ne e b;have n2:m.dg≠x:=λz=>by rw[z,e] at O;cases O
 exact⟨U,Z,rv,ru,tv,gv,by rwa[qi n],f,i.mono tk,j.mono tk,b.move tk (qi n1),by rwa[qi n2],gl.mono tk,t.mono tk⟩
def WN.put {x:o3}{fs:om (Str×V)}{o:oq (Mc×Rn)}(h:WN CM H x rv o)(e:H x=u_ (.ins C dx fs)):WN CM (upd H x (.ins C dx fs')) x rv o:=by
 cases o with
 |none=>exact h
 |some p=>exact[h.1:h.2.1:h.2.2.put e h.2.1]
structure Gv (g:Gc)(H H':Hp):Prop where
 kept:∀b o,H b=u_ o->b≠g.x->H' b=u_ o
 tk:Tk H H'
def W6 {g:Gc}{fs:om (Str×V)}{mv av ev:V}{s:Gs}(e:H g.x=u_ (.ins C dx fs))(f:GFl fs' (!g.n) (-g.o) mv av rv ev)(i:Is H s.mb mv)(j:Is H (¬s.ra) av)(k:WN CM H g.x rv s.run)(l:Is H s.en ev):
  l6 C CM (upd H g.x (.ins C dx fs')) g s/\Gv g H (upd H g.x (.ins C dx fs')):=by
 have tk:Tk H (upd H g.x (.ins C dx fs')):=Tk.updI e;exact⟨⟨dx,fs',mv,av,rv,ev,qg,f,i.mono tk,j.mono tk,k.put e,l.mono tk⟩,⟨λb o h n=>by rwa[qi n],tk⟩⟩
abbrev oS (s:Gs)(r:Rn):Gs:=if QI r.th=v_ then s else{s with en:=r.th}
inductive Ox (C CM:Addr):Sp
 |mk (g:Gc)(s:Gs)(m:Mc)(r:Rn)(_:vs= [-g.x])(_:l6 C CM H g s)(_:s.run=u_ (m,r))(_:Th r.th)(_:∀H',Gv g H H'->l6 C CM H' g (oS s r)->Q .non H')
section
variable {P:og}{w:oh}{K:o0}{mg:Str->oq o6}{base:o9}{a:Ad}{g:Ga}
def En:#[T,2,a.ZF,a.Zx,["self"],(Ox a.qK a.qm)]:=by
 have qW:=#[Ku,T];have Qq:=#[oH,T];exists 9,T.lR,K0
 erw[h,g,st,m,r,rfl,hG,O,aa,k];exists 3,%[|#[qH,#[Qo,#[Qc,#[QL,#[qO,5,pv 0,rfl],T.qu,T.im,qW]]],%[|#[Qf,#[QL,#[qO,5,pv 0,rfl],T.qu,T.iC,Qq]]],qt]]
 erw[id hG,dx,fs,mv,av,rv,ev,e,f,i,j,hR,l];rw[O] at hR;erw[hR,rfl,hn,Z];erw[id Z,dm,fm,ac,ru,tv,gv,em,U,i1,i2,i3,i4,i5,i6]
 exists 0,g.x,_,dx,fs,0,e,T.qQ,T.qV,f.Qs,m.x,dm,fm,1,em,U.meth _ (),m,r,1,Z,aa,0
 cases c:QI r.th with
 |true=>
  refine iL (k H [λ_ _ h _=>h:Tk.refl H] ?_);unfold oS;rwa[A6 c]
 |false=>
  refine ky ?_
  exists 0,g.x,_,dx,fs,0,e,T.qQ,T.qV,f.Qs,m.x,dm,fm,1,em,U.meth _ (),m,r,1,Z,λv hv=>?_
  exists 5
  refine⟨0,g.x,_,dx,fs,1,e,T.qQ,T.Q8,by have:=f.len;omega,?_⟩
  have hS:oS st r={st with en:=r.th}:=by
   unfold oS;rw[c];exact A4 ud
  obtain⟨m1,m2⟩:=W6 (CM:=a.qm) (s:={st with en:=r.th}) e (f.set_end (u:=v)) i j (by rw[O];exact[1:hn:Z]) hv
  refine k _ m2 ?_;rw[hS];exact m1
inductive Dy (CM:Addr):Sp
 |mk (o:Addr)(v:V)(rs:List Rw)(own:Str)(_:vs= [-o,v,!own])(_:Is H (jQ rs) v)(_:QX rs)(_:nm own=v_)(_:∀(mc:Mc)(H':Hp),ic H H'->H mc.x=U_->H mc.db=U_->H mc.dg=U_->mc.rs=rs->mc.own=own->yy CM H' mc (mM rs own [] 300 B0 1 0)->Q (-mc.x) H')
def Eh:#[C,8,a.YR,a.YX,["self","rule","own"],(Dy a.qm)]:=by
 have yg:=#[k8,T,C];exists 9,T.iT,xk
 erw[h,o,v,rs,own,rfl,hv,hR,hn,k];have hl:=xS hn;have hI:∀H:Hp,Is H (!own) (!own):=λH=>yx ()
 exists 3,%[|#[qo,#[zJ,T.Wm,yg,hr.mono (),T.wP,T.iN,DY,#v[pv 1,pv 2]]]]
 exists 0,0,λx dx Z aa nx=>?_;have U:ic H (upd (upd H dx (.own x)) x (.ins a.qm dx [])):=λb o h=>by rwa[qi (qk h Z),qi (qk h aa)]
 exists x,dx,v,!own,jQ rs,!own,1,qg,hv.mono U.tk,hI _,λz=>?_,λ_ z=>?_,λO af e1 ac e2 ag ah H' db dg kept ad ae hM=>[1:?_]
 .rw[hR.read] at z;cases z
 .have:mG (!own)=true:=hn;rw[this] at z;cases z
 .have e3:O=rs:=by
   have h1:=hR.read;rw[e1,ac.read] at h1;exact uM h1
  cases e2;subst e3;exact k ⟨x,db,dg,O,own⟩ H' (λb o h=>kept b o (U b o h) (qk h Z)) Z (U.free ad) (U.free ae) rfl rfl hM
abbrev R0 (rs:om Rw)(n:Str):Rn:=mM rs n [] 300 B0 1 0
structure MM (H:Hp)(g:Gc)(d:D)(s s':Gs):Prop where
 mb:s'.mb=s.mb
 ra:s'.ra=s.ra
 lack:d= .non->s'.run=U_/\s'.en=flt "lack"
 rule:d≠ .non->QJ d=U_->s'.run=U_/\s'.en=flt "rule"
 go:∀rs,QJ d=u_ rs->∃mc:Mc,H mc.x=U_/\H mc.db=U_/\H mc.dg=U_/\mc.rs=rs/\mc.own=g.n/\s'.run=u_ (mc,R0 rs g.n)/\s'.en=if QI (R0 rs g.n).th=v_ then s.en else(R0 rs g.n).th
inductive Lr (C CM CO:Addr):Sp
 |mk (g:Gc)(s:Gs)(v:V)(d:D)(_:vs= [-g.x,v])(_:l6 C CM H g s)(_:s.run=U_)(_:nm g.n=v_)(_:Is H d v)(_:(∃dx fs,H g.o=u_ (.ins CO dx fs)/\fs.lookup ("runner":Str)=U_))(_:∀H' s',Gv g H H'->l6 C CM H' g s'->MM H g d s s'->Q .non H')
def MJ {n:Str}(h:QX rs):Dc rs (R0 rs n):=wh h 300 B0 1 0 [] rfl Ty () (by have:=h.n0;omega) ⟨1,by simp[dpL],ur _⟩
def AdB {n:Str}(h:QX rs):Th (R0 rs n).th:= .inr (MJ h).two
def BE:#[C,9,a.X7,a.zj,["self","rule"],(Lr a.qK a.qm a.qr)]:=by
 have Wl:=#[oJ,T,C];have Xe:=#[Eh,T,C];have JI:=#[En,T];exists 9,T.lG,WM
 erw[h,g,st,v,d,rfl,hG,O,hn,hv,[ad,ae,ho,af],k];have hs:=uE;erw[id hG,dx,fs,mv,av,rv,ev,e,f,i,j,hR,l];rw[O] at hR;exists 3,%[|#[qH,#[qq,yT,pv 1,qT,qw _],%[|#[Qf,#[qG,#v[ql,ql]]]],%[|#[qH,#[Qo,#[Qc,#[qp,Wl,hr.mono (),T.mK,#v[pv 1]]]],%[|#[Qf,#[qG,#v[ql,ql]]]],%[#[Qf,#[Qm,#[qO,5,pv 0,rfl],T.qx,T.iT,Xe,#v[pv 1,#[qO,5,pv 0,rfl]]]]|#[qX,#[QL,pv 0,T.qQ,T.lR,JI]]]]]]]
 exists 0,1,0;have fl:∀(z:Str) (H:Hp) (l:o3),↑z<=100->H l=U_->Is (upd H l (-[-"fault",!z])) (flt z) (-l):=λz H l hz hl=>Is.new (ds:= [-"fault",!z]) ⟨_,0,yx (),_,0,yx (),1⟩ hl
 have aa:↑fs<1000:=by have:=f.len;omega
 have put:∀(z:Str) (t:o3) (H':Hp),↑z<=100->ic H H'->H' t=U_->((d= .non->z="lack")/\(d≠ .non->z="rule"/\QJ d=U_))->Q .non (upd (upd H' t (-[-"fault",!z])) g.x (.ins a.qK dx (iG "end" (-t) fs))):=λz t H' hz s' Z hd=>by
  have s1:=s'.trans (qf Z (-[-"fault",!z]));obtain⟨m1,m2⟩:=W6 (CM:=a.qm) (g:=g) (s:={st with en:=flt z}) (s1 _ _ e) (f.set_end (u:=-t)) (i.mono s1.tk) (j.mono s1.tk) (by show WN _ _ _ _ st.run;rwa[O]) (fl z H' t hz Z)
  refine k _ _ [λb o h n=>m2.kept b o (s1 b o h) n:s1.tk.trans m2.tk] m1 ⟨1,1,λh=>⟨O,by rw[hd.1 h]⟩,λh _=>⟨O,by rw[(hd.2 h).1]⟩,λrs h=>?_⟩
  by_cases c:d= .non
  .rw[c] at h;cases h
  .rw[(hd.2 c).2] at h;cases h
 by_cases c:d= .non
 .subst c;cases(show v= .non from hv)
  refine lV (uj rfl) [(sml rfl):λt Z=>?_]
  exists 0,g.x,_,dx,fs,1,(qf Z _) _ _ e,T.qQ,T.Q8,aa;exact put "lack" t H () (ic.refl _) Z [λ_=>rfl:λh=>A8 rfl h]
 .refine iZ (um (jL hv c)) ?_
  exists 0,v,d,1,hv,λH1 s1=>[0:?_];cases hd:QJ d with
  |none=>
   refine ky [(sml rfl):λt Z=>?_]
   exists 0,g.x,_,dx,fs,1,(qf Z _) _ _ (s1 _ _ e),T.qQ,T.Q8,aa;exact put "rule" t H1 () s1 Z [λh=>A8 h c:λ_=>[1:hd]]
  |some rs=>
   refine iL ?_;erw[wV hd,ed,ac];have e1:=s1 _ _ e
   exists 5
   refine⟨0,g.x,_,dx,fs,0,e1,T.qQ,T.X9,f.wg,g.o,ad,ae,1,s1 _ _ ho,af,0,0,g.x,_,dx,fs,0,e1,T.qQ,T.Yn,f.Zl,g.o,v,rs,g.n,1,by rw[<-ed];exact hv.mono s1.tk,ac,hn,λmc H2 s2 nx nb ng ers ag hM=>?_⟩
   have e2:=s2 _ _ e1;have U:=s1.trans s2
   exists 0,g.x,_,dx,fs,1,e2,T.qQ,T.qV,aa;have ah:mc.x≠g.x:=(qk e1 nx).symm;erw[W6 (C:=a.qK) (CM:=a.qm) (g:=g) (s:={st with run:=u_ (mc,R0 rs g.n)}) e2 (f.set_rule_run (u:=-mc.x)) (i.mono U.tk) (j.mono U.tk) [1:ah:hM] (l.mono U.tk),m1,m2]
   erw[id m1,ak,al,_,_,_,_,e3,f3,_]
   exists 0,g.x,ak,al,1,e3,f3.meth _ (),g,_,mc,R0 rs g.n,1,m1,1,AdB ac,λH3 v3 G3=>k H3 _ [λb o h n=>v3.kept b o (m2.kept b o (U b o h) n) n:(U.tk.trans m2.tk).trans v3.tk] G3 ?_
   unfold oS
   exists 5
   refine⟨by split<;>rfl,by split<;>rfl,λh=>A8 h c,(λ_ h=>by rw[hd] at h;cases h),λam h=>?_⟩
   rw[hd] at h;cases h
   exists 5
   refine⟨mc,s1.free nx,s1.free nb,s1.free ng,ers,ag,by split<;>rfl,?_⟩
   split<;>rfl
inductive XA (C CM:Addr):Sp
 |mk (g:Gc)(s:Gs)(_:vs= [-g.x])(_:l6 C CM H g s)(_:((s.run=U_/\∃z,s.mb= .str z/\∀v H',ic H H'->Is H' (-[-"rule",!z]) v->Q v H')\/∃mc r d,s.run=u_ (mc,r)/\r.th= .tup [-"asks",d]/\∀v,Is H d v->Q v H))
abbrev AaV:oq (Mc×Rn)->om D
 |none=> []
 |some (_,r)=>r.gs
abbrev Ms (s:Gs):D:=-[.tup (s.ra++AaV s.run),s.en]
inductive OD (C CM:Addr):Sp
 |mk (g:Gc)(s:Gs)(_:vs= [-g.x])(_:l6 C CM H g s)(_:↑s.ra+↑(AaV s.run)<=1000)(_:∀v H',ic H H'->Is H' (Ms s) v->Q v H')
variable {v:V}{Q:VK}
def AO {K:o0}{xs ys:om D}{u:V}(O:Is H (¬xs) v)(U:Is H (¬ys) u)(hl:↑xs+↑ys<=1000)(k:∀p H',ic H H'->Is H' (.tup (xs++ys)) p->Q p H'):LA K v u H Q:=by
 erw[id O,a,vs,rfl,ha,Z];erw[id U,b,us,rfl,hb,ib];have la:=↑Z;have lb:=↑ib;have hs:=uE;exists a,b,vs,us,1,1,SqT.of ha,SqT.of hb,(),λe=>?_,λ_ e=>?_,λ_ _ p hp=>?_
 .have:xs= []:=List.length_eq_zero_iff.mp (by rw[e] at la;simpa using la.symm)
  rw[this] at k;exact k _ H (ic.refl _) U
 .have:ys= []:=List.length_eq_zero_iff.mp (by rw[e] at lb;simpa using lb.symm)
  rw[this,v9] at k;exact k _ H (ic.refl _) O
 .have n:=qf hp (.tup (vs++us));exact k _ _ n ⟨p,0,qg,(Z.append ib).mono n.tk⟩
def Ed:#[T,2,a.xr,a.xv,["self"],(XA a.qK a.qm)]:=by
 have Qq:=#[oH,T];exists 9,T.me,wN
 erw[h,g,st,rfl,hG,h];have hs:=uE;erw[id hG,dx,fs,mv,av,rv,ev,e,f,i,j,U,l];exists 3,%[#[qH,#[qq,yT,#[qO,5,pv 0,rfl],qT,qw _],%[|#[qo,#[qG,#v[ql,#[qO,5,pv 0,rfl]]]]],qt]|#[qo,#[qC,XG,#[QL,#[qO,5,pv 0,rfl],T.qu,T.iC,Qq]]]]
 exists 0,g.x,_,dx,fs,0,e,T.qQ,T.qV,f.Qs,1,0;rcases h with⟨O,z,hz,k⟩|⟨mc,r,d,O,Z,k⟩
 .rw[O] at U;cases(show rv= .non from U)
  rw[hz] at i;obtain⟨rfl,hl⟩:=(show mv= .str z/\↑z<=Vg from i)
  refine lV (uj rfl) ⟨0,g.x,_,dx,fs,0,e,T.qQ,T.yF,f.YM,(sml rfl),λt ht=>?_⟩;exact k _ _ (qf ht _) (Is.new ⟨_,0,yx (),_,0,[1:hl],1⟩ ht)
 .rw[O] at U;erw[U,rfl,hn,hM];erw[id hM,dm,fm,ac,ru,tv,gv,em,aa,i1,i2,i3,i4,i5,i6];refine iZ (um (λz=>by cases z)) ?_
  exists 0,g.x,_,dx,fs,0,e,T.qQ,T.qV,f.Qs,mc.x,dm,fm,1,em,aa.meth _ (),mc,r,1,hM,λv hv=>?_
  rw[Z] at hv;exact .inr (.inl (xZ (i:=1) (d:=d) hv (qz (j:=1) rfl) λq hq=>k q hq))
def PK:#[T,2,a.ZG,a.Zi,["self"],(OD a.qK a.qm)]:=by
 have Ws:=#[PR,T];exists 9,T.mD,zh
 erw[h,g,st,rfl,hG,hl,k];have hs:=uE;erw[id hG,dx,fs,mv,av,rv,ev,e,f,i,j,Z,l];exists 3,%[#[qE,(1),zh.nd,#[yd,#[qq,yT,#[qO,5,pv 0,rfl],qT,qw _],#[qG,qd],#[QL,#[qO,5,pv 0,rfl],T.qu,T.lU,Ws]]]|#[qo,#[qG,#v[#[Qh,zn,#[qO,5,pv 0,rfl],pv 1],#[qO,5,pv 0,rfl]]]]]
 have fin:∀(v:V) (H1:Hp),ic H H1->Is H1 (.tup (AaV st.run)) v->AcP K (Aap 0) "rule_asks" [u_ (-g.x),u_ v] H1 λx H2=>Aap 1 [u_ (-g.x),u_ v] H2 λy H3=>LA K x y H3 λz H4=>AcP K (Aap 0) "end" [u_ (-g.x),u_ v] H4 λu H5=> [z,u].length<=Vg/\∀p,H5 p=U_->Q (-p) (upd H5 p (-[z,u])):=λv H1 s1 hv=>by
  exists 0,g.x,_,dx,fs,0,s1 _ _ e,T.qQ,T.y6,f.yZ,0;refine AO (j.mono s1.tk) hv hl λz H4 s4 i4=>?_;have U:=s1.trans s4
  exists 0,g.x,_,dx,fs,0,U _ _ e,T.qQ,T.Q8,f.f_end,(sml rfl),λp hp=>?_;have n:=qf hp (-[z,ev]);exact k _ _ (U.trans n) (Is.new ⟨_,0,i4,_,0,l.mono U.tk,1⟩ hp)
 exists 0,g.x,_,dx,fs,0,e,T.qQ,T.qV,f.Qs,1,0;cases O:st.run with
 |none=>
  rw[O] at Z fin;cases(show rv= .non from Z)
  refine lV (uj rfl) [(sml rfl):λt ht=>?_];exact fin _ _ (qf ht _) (Is.new (ds:= []) rfl ht)
 |some p=>
  erw[p,mc,r];rw[O] at Z fin;erw[Z,rfl,hn,hM];erw[id hM,dm,fm,ac,ru,tv,gv,em,aa,i1,i2,i3,i4,i5,i6];refine iZ (um (λz=>by cases z)) ?_
  exists 0,g.x,_,dx,fs,0,e,T.qQ,T.qV,f.Qs,mc.x,dm,fm,1,em,aa.meth _ (),mc,r,1,hM,λv H1 s1 hv=>?_
  exact fin v H1 s1 hv
structure Gw (g:Gc)(o:oq (Mc×Rn))(H H':Hp):Prop where
 kept:∀b ob,H b=u_ ob->b≠g.x->(∀mc r,o=u_ (mc,r)->b≠mc.x/\b≠mc.db/\b≠mc.dg)->H' b=u_ ob
 tk:Tk H H'
inductive Xy (C CM CO:Addr):Sp
 |mk (g:Gc)(s:Gs)(v:V)(d:D)(_:vs= [-g.x,v])(_:l6 C CM H g s)(_:nm g.n=v_)(_:Is H d v)(_:g.o≠g.x)(_:(∃dx fs,H g.o=u_ (.ins CO dx fs)/\fs.lookup ("runner":Str)=U_))(_:((s.run=U_/\∃z,s.mb= .str z/\∀H' s',Gw g s.run H H'->l6 C CM H' g s'->MM H g d {s with ra:= [-[-[-"rule",!z],d]]} s'->Q .non H')\/∃mc r u q,s.run=u_ (mc,r)/\mc.own=g.n/\QX mc.rs/\Dc mc.rs r/\r.th= .tup [-"asks",-[!u,q]]/\AU u d=v_/\∀H',Gw g s.run H H'->l6 C CM H' g (oS {s with run:=u_ (mc,mi mc.rs mc.own r d)} (mi mc.rs mc.own r d))->Q .non H'))
def Ado {g:Gc}{s:Gs}{mc:Mc}{r r':Rn}(h:l6 C CM H g s)(U:s.run=u_ (mc,r))(v:Mv mc H H')(Z:yy CM H' mc r'):l6 C CM H' g {s with run:=u_ (mc,r')}:=by
 erw[h,dx,fs,mv,av,rv,ev,e,f,i,j,k,l];rw[U] at k;erw[k,rfl,hn,hm];erw[id hm,dm,fm,aa,ru,tv,gv,em,ac,i1,i2,i3,O,i5,i6];have n1:g.x≠mc.db:=(Yz.ne e i3).symm;have n2:g.x≠mc.dg:=λz=>by rw[<-z,e] at O;cases O
 exact⟨dx,fs,mv,av,_,ev,v.kept _ _ e hn.symm n1 n2,f,i.mono v.tk,j.mono v.tk,[1:hn:Z],l.mono v.tk⟩
def LV:#[C,10,a.ZL,a.ZH,["self","answer"],(Xy a.qK a.qm a.qr)]:=by
 have jT:=#[BE,T,C];have JI:=#[En,T];have Ys:=#[Nj,T,C];exists 9,T.iW,qak
 erw[h,U,st,v,d,rfl,hG,hn,hv,am,[ao,ap,ho,aq],h];have hs:=uE;erw[id hG,dx,fs,mv,av,rv,ev,e,f,i,j,hR,l];exists 3,%[|#[qH,#[qq,yT,#[qO,5,pv 0,rfl],qT,qw _],%[#[Qf,#[qG,#v[#[qG,#v[#[qG,#v[ql,#[qO,5,pv 0,rfl]]],pv 1]]]]]|#[qX,#[Qm,pv 0,T.qQ,T.lG,jT,#v[pv 1]]]],%[#[qX,#[Qm,#[qO,5,pv 0,rfl],T.qu,T.iE,Ys,#v[pv 1]]]|#[qX,#[QL,pv 0,T.qQ,T.lR,JI]]]]]
 exists 0,U.x,_,dx,fs,0,e,T.qQ,T.qV,f.Qs,1,0;rcases h with⟨O,z,hz,k⟩|⟨mc,r,u,q,O,au,ad,ae,af,Z,k⟩
 .rw[O] at hR;cases(show rv= .non from hR)
  refine lV (uj rfl) ?_;rw[hz] at i;obtain⟨rfl,hl⟩:=(show mv= .str z/\↑z<=Vg from i)
  have aw:↑fs<1000:=by have:=f.len;omega
  exists 0,U.x,_,dx,fs,0,e,T.qQ,T.yF,f.YM,(sml rfl),λt1 ag=>?_;have m1:=qf ag (-[V.str "rule",V.str z]);have k1:Is (upd H t1 (-[V.str "rule",V.str z])) (-[-"rule",!z]) (-t1):=Is.new ⟨_,0,yx (),_,0,[1:hl],1⟩ ag
  exists 0,(sml rfl),λt2 ah=>?_;have m2:=qf ah (-[V.ref t1,v]);have k2:=Is.new (ds:= [-[-"rule",!z],d]) ⟨_,0,k1,_,0,hv.mono m1.tk,1⟩ ah
  exists (sml rfl),λt3 ak=>?_;have m3:=qf ak (-[V.ref t2]);have k3:=Is.new (ds:= [-[-[-"rule",!z],d]]) ⟨_,0,k2,1⟩ ak;have s3:=(m1.trans m2).trans m3
  exists 0,U.x,_,dx,fs,1,s3 _ _ e,T.qQ,T.y6,aw;have iz:Is H (!z) (!z):=[1:hl];obtain⟨p1,p2⟩:=W6 (C:=a.qK) (CM:=a.qm) (g:=U) (s:={st with ra:= [-[-[-"rule",!z],d]]}) (s3 _ _ e) (f.set_rule_asks (u:=-t3)) (by show Is _ st.mb _;rw[hz];exact iz.mono s3.tk) k3 (by show WN _ _ _ _ st.run;rw[O];rfl) (l.mono s3.tk)
  erw[id p1,aa,ac,_,_,_,_,e3,f3,_];have al:=s3.tk.trans p2.tk
  exists 0,U.x,aa,ac,1,e3,f3.meth _ (),0,U,_,v,d,1,p1,O,hn,hv.mono al,⟨ao,ap,p2.kept _ _ (s3 _ _ ho) am,aq⟩,λH4 s4 v4 G4 b4=>k H4 s4 [λb ob h n _=>v4.kept b ob (p2.kept b ob (s3 b ob h) n) n:al.trans v4.tk] G4 ⟨b4.mb,b4.ra,b4.lack,b4.rule,λrs h=>?_⟩
  erw[b4.go rs h,mc,c1,c2,c3,c4];have fr:∀b,upd (upd (upd (upd H t1 (-[V.str "rule",V.str z])) t2 (-[V.ref t1,v])) t3 (-[V.ref t2])) U.x (.ins a.qK dx (iG "rule_asks" (-t3) fs)) b=U_->H b=none:=λb hb=>by
   cases hc:H b with
   |none=>rfl
   |some ob=>
    by_cases c:b=U.x
    .rw[c,qg] at hb;cases hb
    .rw[p2.kept b ob (s3 b ob hc) c] at hb;cases hb
  exact⟨mc,fr _ c1,fr _ c2,fr _ c3,c4⟩
 .rw[O] at hR;erw[hR,rfl,aA,hM];erw[id hM,dm,fm,aB,ru,tv,gv,em,ax,i1,i2,i3,i4,i5,i6];refine iZ (um (λz=>by cases z)) ?_
  have ay:↑mc.own<=100:=by rw[au];have:=xS hn;omega
  exists 0,U.x,_,dx,fs,0,e,T.qQ,T.qV,f.Qs,mc.x,dm,fm,1,em,ax.meth _ (),0,mc,r,v,u,q,d,1,hM,ae,af,hv,ad,ay,Z,λH1 v1 M1=>?_
  .have G1:=Ado hG O v1 M1;erw[id G1,aa,ac,_,_,_,_,e3,f3,_];have hok:=AR (own:=mc.own) ad ae (by rw[af];show decide (("asks":Str)="asks")=v_;exact uj rfl) (AT Z)
   exists 5
   refine⟨0,U.x,aa,ac,1,e3,f3.meth _ (),U,_,mc,0,G1,1,.inr hok.two,λH2 v2 G2=>k H2 [λb ob h n1 n2=>v2.kept b ob (v1.kept b ob h (n2 mc r O).1 (n2 mc r O).2.1 (n2 mc r O).2.2) n1:v1.tk.trans v2.tk] G2⟩
abbrev gfs (n:Str)(o t:o3):om (Str×V):= [("name",!n),("order",-o),("made_by",.non),("rule_asks",-t),("rule_run",.non),("end",.non)]
def E1 (n:Str)(o t:o3):GFl (gfs n o t) (!n) (-o) .non (-t) .non .non:=by
 exists 1,1,1,1,1,1,?_,(by show 6<=20;decide)
 intro m hm;simp![GMT,uI,uL,uS] at hm;rcases hm with rfl|rfl|rfl|rfl|rfl<;>rfl
abbrev s0G:Gs:=⟨.non,[],U_,.non⟩
inductive Ln (C CM CO:Addr):Sp
 |mk (x dx o:Addr)(n k:Str)(sv:V)(e:D)(_:vs= [-x,!n,sv,-o])(_:H x=u_ (.ins C dx []))(_:Is H (-[!k,e]) sv)(_:nm n=v_)(_:o≠x)(_:(∃dx fs,H o=u_ (.ins CO dx fs)/\fs.lookup ("runner":Str)=U_))(_:∀H' s',(∀b ob,H b=u_ ob->b≠x->H' b=u_ ob)->Tk H H'->l6 C CM H' ⟨x,o,n⟩ s'->(k="made"->s'={s0G with mb:=e})->(k≠"made"->MM H ⟨x,o,n⟩ e s0G s')->Q .non H')
def Aac {x:o3}{fs:om (Str×V)}{P:Hp->Prop}(e:H x=u_ (.ins C dx fs))(h:∀H1,H1 x=u_ (.ins C dx fs')->(∀b ob,H b=u_ ob->b≠x->H1 b=u_ ob)->Tk H H1->P H1):P (upd H x (.ins C dx fs')):=h _ qg (λb ob h n=>by rwa[qi n]) (Tk.updI e)
def LW:#[C,10,a.JQ,a.Zf,["self","name","source","order"],(Ln a.qK a.qm a.qr)]:=by
 have jT:=#[BE,T,C];exists 9,T.mC,Kj
 erw[h,x,dx,o,n,k,sv,d,rfl,hx,aa,hn,nox,[ac,ad,ho,ae],q];have hs:=uE;exists 3,%[#[Qf,pv 1],#[Qf,pv 3],#[Qf,qT],#[Qf,#[qG,qd]],#[Qf,qT],#[Qf,qT]|#[qH,#[qq,QN,#[qC,qD,pv 2],ql,qw _],%[|#[Qf,#[qC,qD,pv 2]]],%[|#[qX,#[Qm,pv 0,T.qQ,T.lG,jT,#v[#[qC,qD,pv 2]]]]]]]
 exists 0,0,x,_,dx,0,hx,T.qQ,T.Yn,()
 refine Aac (P:=ni _ _ _ _) hx λH1 x1 k1 t1=>?_
 exists 5
 refine⟨0,0,x,_,dx,0,x1,T.qQ,T.X9,by show 1<1000;decide,?_⟩
 refine Aac (P:=ni _ _ _ _) x1 λH2 x2 k2 t2=>?_
 exists 5
 refine⟨0,x,_,dx,0,x2,T.qQ,T.yF,by show 2<1000;decide,?_⟩
 refine Aac (P:=ni _ _ _ _) x2 λH3 x3 k3 t3=>?_
 exists sml rfl,λt ht=>?_;have nxt:=(qk x3 ht).symm;have s4:=qf ht (.tup ([]:om V))
 exists 5
 refine⟨0,x,_,dx,0,s4 _ _ x3,T.qQ,T.y6,by show 3<1000;decide,?_⟩
 refine Aac (P:=ni _ _ _ _) (s4 _ _ x3) λH5 x5 k5 t5=>?_
 exists 5
 refine⟨0,x,_,dx,0,x5,T.qQ,T.qV,by show 4<1000;decide,?_⟩
 refine Aac (P:=ni _ _ _ _) x5 λH6 x6 k6 t6=>?_
 exists 5
 refine⟨0,x,_,dx,0,x6,T.qQ,T.Q8,by show 5<1000;decide,?_⟩
 refine Aac (P:=λH=>_) x6 λZ O k7 t7=>?_;have kp:∀b ob,H b=u_ ob->b≠x->Z b=u_ ob:=λb ob h nb=>k7 b ob (k6 b ob (k5 b ob (s4 b ob (k3 b ob (k2 b ob (k1 b ob h nb) nb) nb)) nb) nb) nb;have U:=(((((t1.trans t2).trans t3).trans s4.tk).trans t5).trans t6).trans t7;have O:Z x=u_ (.ins a.qK dx (gfs n o t)):=O;have eT:Z t=u_ (.tup ([]:om V)):=k7 _ _ (k6 _ _ (k5 _ _ qg nxt) nxt) nxt;have i0:Is Z (-[]) (-t):=⟨t,[],1,eT,1⟩;have G0:l6 a.qK a.qm Z ⟨x,o,n⟩ s0G:=⟨dx,_,_,_,_,_,O,E1 n o t,1,i0,1,1⟩;have af:=aa.mono U;erw[af,p,ws,rfl,hp,w1,r1,rfl,[rfl,ag],w2,r2,rfl,h2,h3];cases(show r2= [] from h3)
 exists 0,p,_,_,0,1,SqT.of hp,1,1,0;by_cases ck:k="made"
 .refine lV (uj (by rw[ck])) ⟨0,p,_,_,0,1,SqT.of hp,1,0,x,_,dx,0,O,T.qQ,T.yF,(by show 6<1000;decide),?_⟩
  erw[W6 (C:=a.qK) (CM:=a.qm) (g:=[x:o:n]) (s:={s0G with mb:=d}) O ((E1 n o t).set_made_by (u:=w2)) h2 i0 rfl rfl,p1,p2]
  exact q _ _ (λb ob h nb=>p2.kept b ob (kp b ob h nb) nb) (U.trans p2.tk) p1 (λ_=>rfl) λz=>A8 ck z
 .refine iZ (um (λz=>ck (V.str.inj z))) ?_
  exists 0,x,dx,0,O,(E1 n o t).meth _ (),0,p,_,_,0,1,SqT.of hp,1,[x:o:n],s0G,w2,d,1,G0,1,hn,h2,⟨ac,ad,kp _ _ ho nox,ae⟩,λH8 s8 v8 G8 b8=>q H8 s8 (λb ob h nb=>v8.kept b ob (kp b ob h nb) nb) (U.trans v8.tk) G8 (λz=>A8 z ck) λ_=>⟨b8.mb,b8.ra,b8.lack,b8.rule,λrs h=>?_⟩
  erw[b8.go rs h,mc,c1,c2,c3,c4];have fr:∀b,Z b=U_->H b=none:=λb hb=>by
   cases hc:H b with
   |none=>rfl
   |some ob=>
    by_cases c:b=x
    .rw[c,O] at hb;cases hb
    .rw[kp b ob hc c] at hb;cases hb
  exact⟨mc,fr _ c1,fr _ c2,fr _ c3,c4⟩
abbrev Yi:D->D
 | .non=>-[-"lack"]
 | .tup [!k,e]=>if k="leaf" then .tup [-"value",e] else .non
 |_=> .non
abbrev Qt:D->D
 | .tup [!k,e]=>if k="said" then .tup [-"value",e] else -[!k,e]
 |d=>d
inductive Ou:Sp
 |mk (v:V)(d:D)(_:vs= [v])(_:Is H d v)(_:(d= .non\/∃k e,d=-[!k,e]))(_:∀u H',ic H H'->Is H' (Yi d) u->Q u H')
inductive Lv:Sp
 |mk (v:V)(k:Str)(e:D)(_:vs= [v])(_:Is H (-[!k,e]) v)(_:∀u H',ic H H'->Is H' (Qt (-[!k,e])) u->Q u H')
def BF:#[T,1,a.Wh,a.Z6,["end"],Lv]:=by
 exists 9,T.l7,nZ
 erw[h,v,k,e,rfl,U,q];have hs:=uE;have O:=U;erw[U,p,ws,rfl,Z,w1,r1,rfl,[rfl,aa],w2,r2,rfl,h2,h3];cases(show r2= [] from h3)
 exists 3,%[|#[qo,#[yd,#[qq,QN,#[qC,qD,pv 0],ql,qw _],#[qG,#v[ql,#[qC,qD,pv 0]]],pv 0]]]
 exists 0,p,_,_,0,1,SqT.of Z,1,1,0;by_cases c:k="said"
 .refine lV (uj (by rw[c])) ⟨0,p,_,_,0,1,SqT.of Z,1,(sml rfl),λt ht=>?_⟩
  refine q _ _ (qf ht _) ?_;unfold Qt
  try dsimp only
  rw[A6 c];exact Is.new ⟨_,0,yx (),_,0,h2,1⟩ ht
 .refine iZ (um (λz=>c (V.str.inj z))) [0:q _ H (ic.refl _) ?_];unfold Qt
  try dsimp only
  rw[A4 c];exact O
def Al:#[T,1,a.j7,a.Ja,["source"],Ou]:=by
 exists 9,T.iD,zQ
 erw[h,v,d,rfl,U,hd,q];have hs:=uE;exists 3,%[#[qH,#[qq,yT,pv 0,qT,qw _],%[|#[qo,#[qG,#v[ql]]]],qt]|#[qo,#[yd,#[qq,QN,#[qC,qD,pv 0],ql,qw _],#[qG,#v[ql,#[qC,qD,pv 0]]],qT]]]
 exists 0,1,0;rcases hd with rfl|⟨k,e,rfl⟩
 .cases(show v= .non from U)
  refine lV (uj rfl) [(sml rfl):λt O=>?_];exact q _ _ (qf O _) (Is.new ⟨_,0,yx (),1⟩ O)
 .erw[U,p,ws,rfl,Z,w1,r1,rfl,[rfl,aa],w2,r2,rfl,h2,h3];cases(show r2= [] from h3)
  refine iZ (um (λz=>by cases z)) ?_
  exists 0,p,_,_,0,1,SqT.of Z,1,1,0;by_cases c:k="leaf"
  .refine lV (uj (by rw[c])) ⟨0,p,_,_,0,1,SqT.of Z,1,(sml rfl),λt O=>?_⟩
   refine q _ _ (qf O _) ?_;unfold Yi
   try dsimp only
   rw[A6 c];exact Is.new ⟨_,0,yx (),_,0,h2,1⟩ O
  .refine iZ (um (λz=>c (V.str.inj z))) (q _ H (ic.refl _) ?_);unfold Yi
   try dsimp only
   rw[A4 c];exact(rfl:V.non=V.non)
end
structure Sy where
 G:Type
 fin:G->Bool
 want:G->oq Str
 own:G->G
 tk:G->oq D->G
 stuck:G->Str->G
 said:G->oq D
 g0:Str->oq G
 once:Str->oq D
 lft:G->Nat
 M:Nat
 ns:om Str
structure Sy.Ok (Y:Sy):Prop where
 fs:∀g m,Y.fin (Y.stuck g m)=v_
 ss:∀g m,Y.said (Y.stuck g m)=U_
 sf:∀g v,Y.said g=u_ v->Y.fin g=v_
 lo:∀g,Y.fin g=Vc->Y.want g=U_->Y.lft (Y.own g)<Y.lft g
 lt:∀g m a,Y.fin g=Vc->Y.want g=u_ m->Y.lft (Y.tk g a)<Y.lft g
 lk:∀g m,Y.fin g=Vc->Y.lft (Y.stuck g m)<Y.lft g
 l0:∀m g,Y.g0 m=u_ g->Y.lft g<=Y.M
 gn:∀m g,Y.g0 m=u_ g->m>Y.ns
namespace Sy
variable {Y:Sy}
nonrec abbrev Orc:=Str->oq (oq D)
abbrev step (Y:Sy)(f:Orc)(g:Y.G):Y.G:=if Y.fin g=v_ then g else match Y.want g with
 |none=>Y.own g
 |some m=>match f m with
  |some a=>Y.tk g a
  |none=>Y.stuck g m
abbrev it (Y:Sy)(f:Orc):Nat->Y.G->Y.G
 |0,g=>g
 |k+1,g=>it Y f k (step Y f g)
def ZX {f:Orc}{g:Y.G}(h:Y.fin g=v_):step Y f g=g:=by unfold step;rw[A6 h]
def ZJ {f:Orc}{g:Y.G}(h:Y.fin g=v_):∀k,it Y f k g=g
 |0=>rfl
 |k+1=>by show it Y f k (step Y f g)=g;rw[ZX h];exact ZJ h k
def WB {f:Orc}:∀(k j:Nat) (g:Y.G),it Y f (k+j) g=it Y f j (it Y f k g)
 |0,j,g=>by rw[T0];rfl
 |k+1,j,g=>by
  rw[Nat.add_right_comm];show it Y f (k+j) (step Y f g)=_;rw[WB k j]
  rfl
def wF {f:Orc}(k:Nat)(g:Y.G):it Y f (k+1) g=step Y f (it Y f k g):=WB k 1 g
def Bh (h:Y.Ok){f:Orc}{g:Y.G}(O:Y.fin g=Vc):Y.lft (step Y f g)<Y.lft g:=by
 unfold step;rw[O,A4 ud];cases U:Y.want g with
 |none=>exact h.lo g O U
 |some m=>
  show Y.lft (match f m with|some a=>Y.tk g a|none=>Y.stuck g m)<_
  cases f m with
  |some a=>exact h.lt g m a O U
  |none=>exact h.lk g m O
def it_end (h:Y.Ok){f:Orc}:∀(k:Nat) (g:Y.G),Y.lft g<=k->Y.fin (it Y f k g)=v_
 |0,g,hl=>by
  show Y.fin g=v_;cases O:Y.fin g with
  |true=>rfl
  |false=>have:=Bh (f:=f) h O;omega
 |k+1,g,hl=>by
  show Y.fin (it Y f k (step Y f g))=v_;cases O:Y.fin g with
  |true=>rw[ZX O,ZJ O];exact O
  |false=>exact it_end h k _ (by have:=Bh (f:=f) h O;omega)
variable {j:Nat}
def Nx {f:Orc}{g:Y.G}{k:Nat}(O:Y.fin (it Y f k g)=v_)(U:Y.fin (it Y f j g)=v_):it Y f k g=it Y f j g:=by
 rcases tU k j with h|h
 .erw[Va h,d,rfl];rw[WB,ZJ O]
 .erw[Va h,d,rfl];rw[WB,ZJ U]
def Ay (h:Y.Ok){f f':Orc}(hm:∀m a,f m=u_ a->f' m=u_ a):∀(k:Nat) (g:Y.G),it Y f' k g=it Y f k g\/((∀j,it Y f j (it Y f k g)=it Y f k g)/\Y.said (it Y f k g)=U_)
 |0,g=> .inl rfl
 |k+1,g=>by
  show it Y f' k (step Y f' g)=it Y f k (step Y f g)\/_;by_cases c:step Y f' g=step Y f g
  .rw[c];exact Ay h hm k _
  .right;have U:Y.fin g=false:=by
    cases U:Y.fin g with
    |false=>rfl
    |true=>exact A8 (by rw[ZX U,ZX U]) c
   have e:∃m,step Y f g=Y.stuck g m:=by
    unfold step at c⊢;rw[U,A4 ud] at c⊢;rw[A4 ud] at c;cases Z:Y.want g with
    |none=>rw[Z] at c;exact A8 rfl c
    |some m=>
     rw[Z] at c;simp only at c⊢;cases O:f m with
     |none=>exact[m:1]
     |some a=>rw[O,hm m a O] at c;exact A8 rfl c
   erw[e,m,e];have e2:it Y f (k+1) g=Y.stuck g m:=by
    show it Y f k (step Y f g)=_;rw[e];exact ZJ (h.fs g m) k
   rw[e2];exact[ZJ (h.fs g m):h.ss g m]
def Ax (h:Y.Ok){f f':Orc}(hm:∀m a,f m=u_ a->f' m=u_ a){k:Nat}{g:Y.G}{v:D}(O:Y.said (it Y f k g)=u_ v):it Y f' k g=it Y f k g:=by
 rcases Ay h hm k g with e|⟨_,e⟩
 .exact e
 .rw[O] at e;cases e
abbrev Fh (Y:Sy):Nat->Orc
 |0,m=>match Y.g0 m with
  |none=>u_ (Y.once m)
  |some _=>U_
 |h+1,m=>match Y.g0 m with
  |none=>u_ (Y.once m)
  |some g=>(Y.said (it Y (Fh Y h) Y.M g)).map u_
variable {m:Str}
def WF (h:Y.g0 m=U_):∀k,Fh Y k m=u_ (Y.once m)
 |0=>by simp![Fh,h]
 |k+1=>by simp![Fh,h]
def Fh_run {g:Y.G}(h:Y.g0 m=u_ g)(k:Nat):Fh Y (k+1) m=(Y.said (it Y (Fh Y k) Y.M g)).map some:=by simp![Fh,h]
def KI {g:Y.G}(h:Y.g0 m=u_ g):Fh Y 0 m=none:=by simp![Fh,h]
def IP (h:Y.Ok):∀(k:Nat) (m:Str) (a:oq D),Fh Y k m=u_ a->Fh Y (k+1) m=u_ a
 |0,m,a,e=>by
  cases O:Y.g0 m with
  |none=>rw[WF O] at e⊢;exact e
  |some g=>rw[KI O] at e;cases e
 |k+1,m,a,e=>by
  cases O:Y.g0 m with
  |none=>rw[WF O] at e⊢;exact e
  |some g=>
   rw[Fh_run O] at e⊢;cases U:Y.said (it Y (Fh Y k) Y.M g) with
   |none=>rw[U] at e;cases e
   |some v=>
    rw[Ax h (IP h k) U];exact e
def S8 (h:Y.Ok){k:Nat}(O:k<=j){a:oq D}(e:Fh Y k m=u_ a):Fh Y j m=u_ a:=by
 erw[Va O,d,rfl]
 induction d with
 |zero=>exact e
 |succ d U=>exact IP h _ _ _ (U ())
open Classical in
abbrev F (Y:Sy):Orc:=λm=>if h:∃a k,Fh Y k m=u_ a then u_ (choose h) else U_
def F_iff (h:Y.Ok){a:oq D}:F Y m=u_ a↔∃k,Fh Y k m=u_ a:=by
 unfold F;constructor
 .intro e;by_cases c:∃a k,Fh Y k m=u_ a
  .rw[dif_pos c] at e;have:=Ro c;rwa[uM e] at this
  .rw[dif_neg c] at e;cases e
 .rintro⟨k,e⟩;have c:∃a k,Fh Y k m=u_ a:=[a:k:e];rw[dif_pos c];erw[Ro c,j,e2];have e3:=S8 h (Nat.le_max_left k j) e;have O:=S8 h (Nat.le_max_right k j) e2;rw[e3] at O;exact O.symm
def Aae (h:Y.Ok){k:Nat}{a:oq D}(e:Fh Y k m=u_ a):F Y m=u_ a:=(F_iff h).mpr [k:e]
def kY (h:Y.Ok)(O:Y.g0 m=U_):F Y m=u_ (Y.once m):=Aae h (WF O 0)
def Dq (h:Y.Ok)(g:Y.G):∃k,∀j,k<=j->step Y (Fh Y j) g=step Y (F Y) g:=by
 unfold step;by_cases U:Y.fin g=v_
 .exact⟨(0),λj _=>by rw[A6 U,A6 U]⟩
 .cases hw:Y.want g with
  |none=>exact[(0):λj _=>rfl]
  |some m=>
   cases O:F Y m with
   |some a=>
    erw[(F_iff h).mp O,k,e];exact⟨k,λj Z=>by simp![S8 h Z e,O]⟩
   |none=>
    exists (0),λj _=>?_;have:Fh Y j m=none:=by
     cases e:Fh Y j m with
     |none=>rfl
     |some a=>rw[Aae h e] at O;cases O
    simp![this,O]
def EL (h:Y.Ok):∀(n:Nat) (g:Y.G),∃k,∀j,k<=j->it Y (Fh Y j) n g=it Y (F Y) n g
 |0,g=>[(0):λ_ _=>rfl]
 |n+1,g=>by
  erw[Dq h g,k1,h1];erw[EL h n (step Y (F Y) g),k2,h2];exists max k1 k2,λj O=>?_;show it Y (Fh Y j) n (step Y (Fh Y j) g)=it Y (F Y) n (step Y (F Y) g);rw[h1 j (),h2 j ()]
def F_run (h:Y.Ok){g:Y.G}(U:Y.g0 m=u_ g):F Y m=(Y.said (it Y (F Y) Y.M g)).map some:=by
 cases Z:Y.said (it Y (F Y) Y.M g) with
 |some v=>
  erw[EL h Y.M g,k,e];refine Aae h (k:=k+1) ?_;rw[Fh_run U,e k (ur _),Z]
  rfl
 |none=>
  show F Y m=U_;cases e:F Y m with
  |none=>rfl
  |some a=>
   erw[(F_iff h).mp e,k,e];cases k with
   |zero=>rw[KI U] at e;cases e
   |succ k=>
    rw[Fh_run U] at e;cases O:Y.said (it Y (Fh Y k) Y.M g) with
    |none=>rw[O] at e;cases e
    |some v=>
     rw[<-Ax h (λm a q=>Aae h q) O,Z] at O;cases O
abbrev Wt (Y:Sy)(n m:Str):Prop:=∃g k,Y.g0 n=u_ g/\Y.fin (it Y (F Y) k g)=Vc/\Y.want (it Y (F Y) k g)=u_ m
def De (h:Y.Ok){n:Str}(w:Wt Y n m){k:Nat}{a:oq D}(e:Fh Y k n=u_ a):∃j b,j<k/\Fh Y j m=u_ b:=by
 erw[w,g,i,hg,hf,hw];cases k with
 |zero=>rw[KI hg] at e;cases e
 |succ k=>
  exists k;rw[Fh_run hg] at e;cases U:Y.said (it Y (Fh Y k) Y.M g) with
  |none=>rw[U] at e;cases e
  |some v=>
   have O:=h.sf _ _ U;have eM:=Ax h (f':=F Y) (λm a q=>Aae h q) U;rcases Ay h (f:=Fh Y k) (f':=F Y) (λm a q=>Aae h q) i g with ei|⟨ei,es⟩
   .rw[ei] at hf hw;cases hm:Fh Y k m with
    |some b=>exact[b:V7 k:1]
    |none=>
     have e1:it Y (Fh Y k) (i+1) g=Y.stuck (it Y (Fh Y k) i g) m:=by
      rw[wF];unfold step;rw[hf,A4 ud,hw];simp![hm]
     have e2:Y.fin (it Y (Fh Y k) (i+1) g)=true:=by rw[e1];exact h.fs _ _
     rw[<-Nx e2 O,e1,h.ss] at U;cases U
   .have Z:it Y (Fh Y k) (i+Y.M) g=it Y (Fh Y k) i g:=by rw[WB];exact ei _
    have e3:it Y (Fh Y k) (Y.M+i) g=it Y (Fh Y k) Y.M g:=by rw[WB];exact ZJ O i
    rw[<-e3,Nat.add_comm,Z,es] at U;cases U
inductive Wts (Y:Sy):Str->Str->Prop
 |one {n m:Str}:Wt Y n m->Wts Y n m
 |more {n m l:Str}:Wts Y n m->Wt Y m l->Wts Y n l
def IU (h:Y.Ok){n:Str}(w:Wts Y n m):∀{k:Nat}{a:oq D},Fh Y k n=u_ a->∃j b,j<k/\Fh Y j m=u_ b:=by
 induction w with
 |one w=>exact λe=>De h w e
 |more _ w O=>
  intro k a e;erw[O e,j,b,Z,U];erw[De h w U,i,c,hi,e2];exact⟨i,c,(),e2⟩
def zd (h:Y.Ok){n:Str}(w:Wts Y n n):F Y n=none:=by
 have O:∀k a,Fh Y k n≠u_ a:=by
  intro k
  induction k using Nat.strongRecOn with
  |_ k U=>
   intro a e;erw[IU h w e,j,b,Z,e1];exact U j Z b e1
 cases e:F Y n with
 |none=>rfl
 |some a=>
  erw[(F_iff h).mp e,k,e];exact A8 e (O k a)
structure Ss (Y:Sy) where
 stk:om (Str×Y.G)
 don:om (Str×Y.G)
abbrev Yk (l:om (Str×Y.G))(m:Str):oq Y.G:=(l.find? λp=>decide (p.1=m)).map (·.2)
abbrev yet (S:Ss Y)(m:Str):oq (oq (oq D)):=if m>S.stk.map (·.1) then u_ U_ else match Y.g0 m with
 |none=>u_ (u_ (Y.once m))
 |some _=>(Yk S.don m).map λg=>(Y.said g).map u_
abbrev nxt (S:Ss Y):Ss Y:=match S.stk with
 | []=>S
 |(n,g)::r=>if Y.fin g=v_ then[r:S.don++ [(n,g)]] else match Y.want g with
  |none=>[(n,Y.own g)::r:S.don]
  |some m=>match yet S m with
   |some (u_ a)=>[(n,Y.tk g a)::r:S.don]
   |some U_=>[(n,Y.stuck g m)::r:S.don]
   |none=>match Y.g0 m with
    |some g'=>[(m,g')::(n,g)::r:S.don]
    |none=>S
abbrev nx (S:Ss Y):Nat->Ss Y
 |0=>S
 |k+1=>nxt (nx S k)
abbrev rest (S:Ss Y):om Str:=Y.ns.filter λm=>decide (m∉S.stk.map (·.1))&&decide (m∉S.don.map (·.1))
abbrev lfts:om (Str×Y.G)->Nat
 | []=>0
 |(_,g)::r=>Y.lft g+1+lfts r
abbrev mu (S:Ss Y):Nat:=lfts S.stk+(Y.M+2)*↑(rest S)
variable {S:Ss Y}
def jW (h:yet S m=U_):m∉S.stk.map (·.1)/\(∃g,Y.g0 m=u_ g)/\m∉S.don.map (·.1):=by
 unfold yet at h;by_cases c:m>S.stk.map (·.1)
 .rw[A6 c] at h;cases h
 .rw[A4 c] at h;cases O:Y.g0 m with
  |none=>rw[O] at h;cases h
  |some g=>
   rw[O] at h;simp![T5] at h;exists c,[g:1],λhm=>?_;erw[Ae.mp hm,p,U,rfl];have h3:(S.don.find? λq=>decide (q.1=p.1))=none:=by simpa [Yk] using h
   rw[Uv] at h3;exact h3 p U (by simp)
variable {l:om Str}
def KC {p q:Str->Bool}(Z:m>l)(hp:p m=v_)(hq:q m=Vc)(O:∀x,q x=v_->p x=v_):↑(l.filter q)<↑(l.filter p):=by
 induction l with
 |nil=>cases Z
 |cons x r U=>
  have le:↑(r.filter q)<=↑(r.filter p):=by
   clear U Z
   induction r with
   |nil=>exact ur _
   |cons y r U=>
    rw[vV,vV];cases h1:q y with
    |true=>rw[O y h1,A6 rfl,A6 rfl];simp![uw];omega
    |false=>
     rw[A4 ud];split
     .simp![uw];omega
     .exact U
  rw[vV,vV];rcases Aa.mp Z with rfl|hm
  .rw[hp,hq,A6 rfl,A4 ud,uw];omega
  .have:=U hm;cases h1:q x with
   |true=>rw[O x h1,A6 rfl,A6 rfl];simp![uw];omega
   |false=>
    rw[A4 ud];split
    .simp![uw];omega
    .exact this
def nxt_mu (h:Y.Ok)(hs:S.stk≠ []):mu (nxt S)<mu S:=by
 erw[S,stk,don];cases stk with
 |nil=>exact A8 rfl hs
 |cons p r=>
  erw[p,n,g];have same:∀g',Y.lft g'<Y.lft g->mu (⟨(n,g')::r,don⟩:Ss Y)<mu ⟨(n,g)::r,don⟩:=by
   intro g' hl;show Y.lft g'+1+lfts r+(Y.M+2)*_<Y.lft g+1+lfts r+(Y.M+2)*_;have e:rest (⟨(n,g')::r,don⟩:Ss Y)=rest ⟨(n,g)::r,don⟩:=rfl;rw[e];omega
  unfold nxt;simp only;cases O:Y.fin g with
  |true=>
   rw[A6 rfl];show lfts r+(Y.M+2)*_<Y.lft g+1+lfts r+(Y.M+2)*_;have e:rest (⟨r,don++ [(n,g)]⟩:Ss Y)=rest ⟨(n,g)::r,don⟩:=by
    unfold rest
    congr 1
    funext x
    simp![uq,uC,Ug,Ac,uI,uL,uS,<-Bool.decide_and];rw[ve];constructor
    .rintro⟨a,b⟩;exact[λz=>z.elim (λz=>b (.inr z)) a:λz=>b (.inl z)]
    .rintro⟨a,b⟩;exact[λz=>a (.inr z):λz=>z.elim b λz=>a (.inl z)]
   rw[e];omega
  |false=>
   rw[A4 ud];cases hw:Y.want g with
   |none=>exact same _ (h.lo g O hw)
   |some m=>
    simp only;cases hy:yet ([(n,g)::r:don]:Ss Y) m with
    |some o=>
     cases o with
     |some a=>exact same _ (h.lt g m a O hw)
     |none=>exact same _ (h.lk g m O)
    |none=>
     simp only;erw[jW hy,h1,[g',U],h2];rw[U];show Y.lft g'+1+(Y.lft g+1+lfts r)+(Y.M+2)*↑(rest ([(m,g')::(n,g)::r:don]:Ss Y))<Y.lft g+1+lfts r+(Y.M+2)*↑(rest ([(n,g)::r:don]:Ss Y));have e:↑(rest (⟨(m,g')::(n,g)::r,don⟩:Ss Y))<↑(rest (⟨(n,g)::r,don⟩:Ss Y)):=by
      refine KC (m:=m) (h.gn m g' U) ?_ ?_ ?_
      .simp![uG,vk];exact[h1:h2]
      .simp
      .intro x Z;simp![uG,vk] at Z⊢;exact[λz=>Z.1 (ug _ z):Z.2]
     have l0:=h.l0 m g' U;have e2:=Nat.mul_le_mul_left (Y.M+2) (Nat.succ_le_of_lt e);rw[Nat.mul_succ] at e2;omega
abbrev Chn (Y:Sy):om (Str×Y.G)->Prop
 | []=>True
 |(n,g)::r=>(∃s k,Y.g0 n=u_ s/\g=it Y (F Y) k s)/\Chn Y r/\∀p r',r=p::r'->Y.fin p.2=Vc/\Y.want p.2=u_ n
structure SOk (n0:Str)(S:Ss Y):Prop where
 chn:Chn Y S.stk
 nd:(S.stk.map (·.1)++S.don.map (·.1)).Nodup
 don:∀p>S.don,∃s,Y.g0 p.1=u_ s/\p.2=it Y (F Y) Y.M s
 bot:(S.stk.map (·.1)).getLast? =u_ n0\/S.stk= []/\(S.don.map (·.1)).getLast? =u_ n0
def IC {n:Str}{g:Y.G}:∀{r:om (Str×Y.G)}{m:Str},Chn Y ((n,g)::r)->m>r.map (·.1)->Wts Y m n:=by
 intro r
 induction r generalizing n g with
 |nil=>intro m _ h;cases h
 |cons p r ih=>
  intro m hc hm;erw[p,O,g'];erw[hc,_,U,c3];erw[c3 (O,g') r rfl,f1,w1];erw[U.1,s,k,hs,Z];have w:Wt Y O n:=⟨s,k,hs,by rwa[<-Z],by rwa[<-Z]⟩
  rcases Aa.mp hm with rfl|hm
  .exact .one w
  .exact .more (ih U hm) w
def zk {l:om (Str×Y.G)}{g:Y.G}(h:Yk l m=u_ g):(m,g)>l:=by
 unfold Yk at h;cases e:l.find? λp=>decide (p.1=m) with
 |none=>rw[e] at h;cases h
 |some p=>
  rw[e] at h;cases uM h;have:=HR e;have hm:p.1=m:=uA this;rw[<-hm];exact Ua e
variable {n0:Str}
def Abr (h:Y.Ok)(hs:SOk n0 S):SOk n0 (nxt S):=by
 erw[S,stk,don];cases stk with
 |nil=>exact hs
 |cons p r=>
  erw[p,n,g];erw[hs,chn,nd,O,bot];erw[chn,[s,k,U,hk],c2,c3];have on:∀g',Y.fin g=Vc->step Y (F Y) g=g'->SOk n0 (⟨(n,g')::r,don⟩:Ss Y):=by
   intro g' hf e;exists [⟨s,k+1,U,?_⟩:c2:c3],nd,O,.inl ?_
   .rw[wF,<-hk,e]
   .rcases bot with b|⟨b,_⟩
    .exact b
    .cases b
  unfold nxt;simp only;cases hf:Y.fin g with
  |true=>
   rw[A6 rfl];exists c2,?_,λq hq=>?_,?_
   .show(r.map (·.1)++(don++ [(n,g)]).map (·.1)).Nodup;have ac:(n::(r.map (·.1)++don.map (·.1))).Nodup:=nd;rw[uq,<-vI];show((r.map (·.1)++don.map (·.1))++ [n]).Nodup;exact(FK (l₁:= [n]) (l₂:=r.map (·.1)++don.map (·.1))).nodup_iff.mp ac
   .rcases Ac.mp hq with hq|hq
    .exact O q hq
    .cases Ab.mp hq;exists s,U;show g=_;rw[hk];refine Nx (by rwa[<-hk]) (it_end h _ _ (h.l0 n s U))
   .rcases bot with b|⟨b,_⟩
    .cases r with
     |nil=>
      right;exists 1;have hn:n=n0:=by simpa using b
      show((don++ [(n,g)]).map (·.1)).getLast? =u_ n0;rw[uq,hn];simp
     |cons q r=>
      left
      simpa [UW] using b
    .cases b
  |false=>
   rw[A4 ud];have aa:step Y (F Y) g=match Y.want g with
     |none=>Y.own g
     |some m=>match F Y m with
      |some a=>Y.tk g a
      |none=>Y.stuck g m:=by
    unfold step;rw[hf,A4 ud]
   cases hw:Y.want g with
   |none=>exact on _ hf (by rw[aa,hw])
   |some m=>
    rw[hw] at aa;simp only at aa⊢;cases Z:yet ([(n,g)::r:don]:Ss Y) m with
    |some o=>
     have hF:F Y m=o:=by
      unfold yet at Z;by_cases c:m>((n,g)::r).map (·.1)
      .rw[A6 c] at Z;cases Z;have w:Wt Y n m:=⟨s,k,U,by rwa[<-hk],by rwa[<-hk]⟩
       rcases Aa.mp c with rfl|hm
       .exact zd h (.one w)
       .exact zd h (.more (IC (g:=g) [⟨s,k,U,hk⟩:c2:c3] hm) w)
      .rw[A4 c] at Z;cases hg:Y.g0 m with
       |none=>
        rw[hg] at Z;cases Z;exact kY h hg
       |some gm=>
        rw[hg] at Z;simp only at Z;cases hd:Yk don m with
        |none=>rw[hd] at Z;cases Z
        |some gd=>
         rw[hd] at Z;cases Z;erw[O _ (zk hd),s',e1,e2];rw[hg] at e1;cases e1;have e3:gd=it Y (F Y) Y.M gm:=e2;rw[F_run h hg,e3]
     cases o with
     |some a=>exact on _ hf (by rw[aa,hF])
     |none=>exact on _ hf (by rw[aa,hF])
    |none=>
     simp only;erw[jW Z,h1,[g',hg],h2];rw[hg];exists [⟨g',(0),hg,1⟩:[⟨s,k,U,hk⟩:c2:c3]:λq r' e=>?_],?_,O,.inl ?_
     .cases e;exact[hf:hw]
     .show(m::(((n,g)::r).map (·.1)++don.map (·.1))).Nodup;rw[vZ];exists λz=>?_,nd;rcases Ac.mp z with z|z
      .exact h1 z
      .exact h2 z
     .rcases bot with b|⟨b,_⟩
      .show(m::n::r.map (·.1)).getLast? =u_ n0;rwa[UW]
      .cases b
def nx_ok (h:Y.Ok){n0:Str}{S:Ss Y}(O:SOk n0 S):∀k,SOk n0 (nx S k)
 |0=>O
 |k+1=>Abr h (nx_ok h O k)
def An {S:Ss Y}{k:Nat}(h:(nx S k).stk= []):∀j,nx S (k+j)=nx S k
 |0=>rfl
 |j+1=>by
  show nxt (nx S (k+j))=_;rw[An h j];unfold nxt;rw[h]
def nx_one {k:Nat}(O:(nx S k).stk= [])(U:(nx S j).stk= []):nx S k=nx S j:=by
 rcases tU k j with h|h
 .erw[Va h,d,rfl];exact(An O d).symm
 .erw[Va h,d,rfl];exact An U d
abbrev S0 (Y:Sy)(n:Str):Ss Y:=match Y.g0 n with
 |none=>[[]:[]]
 |some g=>[[(n,g)]:[]]
def S0_ok {n:Str}{g:Y.G}(O:Y.g0 n=u_ g):SOk n (S0 Y n):=by
 unfold S0;rw[O];exact⟨⟨⟨g,(0),O,1⟩,trivial,λ_ _ e=>by cases e⟩,by simp,λ_ h=>(by cases h),.inl rfl⟩
end Sy
end K45
namespace K45
open PySem L2 PyProof.Rows
abbrev ThS (d:D):Prop:=(∃z,d=flt z)\/(∃e,d= .tup [-"said",e]/\isT e=v_)\/∃(u z:Str),d= .tup [-"asks",-[!u,!z]]/\isT (!z)=v_/\(u="names"\/(u="thing"\/u="has")/\nm z=v_)
def EQ {d:D}(h:mG d=v_):∃z,d= .str z/\nm z=true:=by
 cases d with
 |str z=>exact[z:1:h]
 |_=>cases h
variable {own:Str}{n:Nat}{r:Rw}{e:D}
def OQ {B:Str->D}{p:Int}(hr:Ji n 300 r)(h:Tr B)(O:mE own r B p= .stop e):ThS e:=by
 unfold mE at O;erw[id hr,ks,hk,hp];erw[r,U,ps];by_cases c1:U>MKR
 .rw[A6 c1] at O;simp only at O;generalize made U B own ps=dm at O;have aa:(if isT dm=v_ then Out.go (Bi B (b0 ps) dm) (p+1) else .stop (flt "big"))= .stop e->ThS e:=by
   intro hq;by_cases c:isT dm=v_
   .rw[A6 c] at hq;cases hq
   .rw[A4 c] at hq;cases hq;exact .inl ⟨0⟩
  cases dm with
  |non=>cases O;exact .inl ⟨0⟩
  |_=>exact aa O
 rw[A4 c1] at O;by_cases c2:U>ASK
 .rw[A6 c2] at O;cases O;erw[wK _ hk c2,_,_,ek];simp only at ek;subst ek;erw[Z0 hp,z0,z1,rfl,h0,h1];have hT:=h z1 h1;show ThS (sQ U (B z1));unfold sQ;by_cases d1:U="names"
  .rw[A6 d1];by_cases Z:isStr (B z1)=v_
   .rw[A6 Z];obtain⟨z,ez⟩:∃z,B z1= !z:=by
     cases hb:B z1 with
     |str z=>exact[z:1]
     |_=>rw[hb] at Z;cases Z
    rw[ez] at hT⊢;exact .inr (.inr ⟨_,z,1,hT,.inl rfl⟩)
   .rw[A4 Z];exact .inl ⟨0⟩
  .rw[A4 d1];by_cases Z:mG (B z1)=v_
   .rw[A6 Z];erw[EQ Z,z,ez,hz];rw[ez] at hT⊢;refine .inr (.inr ⟨_,z,1,hT,.inr [?_:hz]⟩);split
    .exact .inl rfl
    .exact .inr rfl
   .rw[A4 Z];exact .inl ⟨0⟩
 rw[A4 c2] at O;by_cases c3:U="say"
 .rw[A6 c3] at O;cases O;subst c3;have ek:=AB _ hk rfl;simp only at ek;subst ek;erw[AcY hp,z0,rfl,h0];exact .inr (.inl [0:h z0 h0])
 rw[A4 c3] at O;by_cases c4:U="fault"
 .rw[A6 c4] at O;cases O;exact .inl ⟨0⟩
 rw[A4 c4] at O;by_cases c5:Nw U B ps=v_
 .rw[A6 c5] at O;cases O
 .rw[A4 c5] at O;cases O
def s9 {rs:om Rw}{own:Str}(U:QX rs):∀(f:Nat) (B:Str->D) (p:Int) (n:Nat) (gs:om D),Tr B->1<=p->p<=↑rs+1->ThS (mM rs own gs f B p n).th
 |0,B,p,n,gs,hT,h1,h2=>by
  show ThS (if GT.gt p ↑rs then flt "silent" else flt "long")
  split<;>exact .inl ⟨0⟩
 |f+1,B,p,n,gs,hT,h1,h2=>by
  unfold mM;by_cases c:GT.gt p ↑rs
  .rw[A6 c];exact .inl ⟨0⟩
  .rw[A4 c];have O:=U.ok _ (KR h1 ())
   have hok:=wr (own:=own) O hT h1 ()
   cases Z:mE own (Jf rs p) B p with
   |go B' p'=>
    rw[Z] at hok;exact s9 U f B' p' (n+1) gs hok.1 hok.2.1 hok.2.2
   |stop e=>exact OQ O hT Z
variable {rs:om Rw}
def IM (O:QX rs){r:Rn}{a:D}(h:Dc rs r)(U:QI r.th=v_)(ha:XV a):ThS (mi rs own r a).th:=by
 erw[h.ask U,k1,_];unfold mi;cases hn:yY a with
 |true=>rw[A6 rfl];exact .inl ⟨0⟩
 |false=>
  rw[A4 ud];have Z:isT a=true:=by
   rcases ha with rfl|ha
   .cases hn
   .exact ha
  exact s9 O _ _ _ _ _ (KP h.tr Z) (by have:=h.p1;omega) ()
def MY {rs:om Rw}{own:Str}:∀(f:Nat) (B:Str->D) (p:Int) (n:Nat) (gs:om D),QI (mM rs own gs f B p n).th=v_->1<=f/\n<=(mM rs own gs f B p n).n
 |0,B,p,n,gs,h=>by
  have h:QI (if GT.gt p ↑rs then flt "silent" else flt "long")=true:=h
  split at h<;>exact A8 h ()
 |f+1,B,p,n,gs,h=>by
  exists ()
  unfold mM at h⊢;by_cases c:GT.gt p ↑rs
  .rw[A6 c] at h;exact A8 h (show¬QI (flt "silent")=v_ by decide+kernel)
  .rw[A4 c] at h⊢;cases U:mE own (Jf rs p) B p with
   |go O p'=>
    rw[U] at h;have:=(MY f O p' (n+1) gs h).2;show n<=(mM rs own gs f O p' (n+1)).n;omega
   |stop e=>
    show n<=(if QI e=v_ then n else n+1)
    split<;>omega
def Ab9 {r:Rn}{a:D}(h:QI (mi rs own r a).th=v_):r.n+1<300/\r.n+1<=(mi rs own r a).n:=by
 unfold mi at h⊢;cases hn:yY a with
 |true=>rw[hn,A6 rfl] at h;exact A8 h (show¬QI (flt "lack")=v_ by decide+kernel)
 |false=>
  rw[hn,A4 ud] at h;rw[A4 ud];have:=MY _ _ _ _ _ h;exact[():this.2]
structure Gp where
 n:Str
 mb:D
 ra:om D
 run:oq (om Rw×Rn)
 en:oq D
abbrev nc (r:Rn):oq D:=if QI r.th=v_ then U_ else u_ r.th
abbrev mh (g:Gp)(d:D):Gp:=if yY d=v_ then{g with en:=u_ (flt "lack")} else match QJ d with
 |none=>{g with en:=u_ (flt "rule")}
 |some rs=>{g with run:=u_ (rs,R0 rs g.n),en:=nc (R0 rs g.n)}
abbrev Q1 (g:Gp)(d:D):Gp:=match g.run with
 |none=>mh {g with ra:= [-[-[-"rule",g.mb],d]]} d
 |some (rs,r)=>{g with run:=u_ (rs,mi rs g.n r d),en:=nc (mi rs g.n r d)}
abbrev yb (g:Gp):D:=match g.run with
 |none=>-[-"rule",g.mb]
 |some (_,r)=>xj r.th
abbrev xl (qs:om (Str×D))(k z:Str):D:=if k="has" then .str (if z>qs.map (·.1) then "yes" else "no") else CF (Bp [] ((qs.map (·.1)).filter λy=>Go y z))
abbrev mW (k:Str):Bool:=decide (k="has")||decide (k="names")
abbrev yJ (g:Gp):oq Str:=match yb g with
 | .tup [!k,!z]=>if mW k=v_ then U_ else u_ z
 |_=>U_
abbrev nE (qs:om (Str×D))(g:Gp):Gp:=match yb g with
 | .tup [!k,!z]=>Q1 g (xl qs k z)
 |_=>{g with en:=u_ (flt "name")}
abbrev YZ:D->oq D
 | .tup [!k,v]=>if k="said" then u_ v else U_
 |_=>U_
abbrev Y1 (g:Gp):oq D:=g.en.bind YZ
abbrev Od (g:Gp)(m:Str):Gp:={g with en:=u_ (-[-"stuck",!m])}
abbrev Aq (g:Gp):Nat:=match g.en with
 |some _=>0
 |none=>match g.run with
  |none=>302
  |some (_,r)=>1+(300-r.n)
abbrev g0D (m:Str):D->oq Gp
 | .tup [!k,e]=>if k="leaf" then U_ else if k="made" then u_ ⟨m,e,[],U_,U_⟩ else u_ (mh ⟨m,.non,[],U_,U_⟩ e)
 |_=>U_
abbrev KH:D->oq D
 | .tup [.str _,e]=>u_ e
 |_=>U_
abbrev SyP (qs:om (Str×D)):Sy:=⟨Gp,λg=>g.en.isSome,yJ,nE qs,λg a=>Q1 g (a.getD .non),Od,Y1,λm=>g0D m (qF qs m),λm=>KH (qF qs m),Aq,(302),qs.map (·.1)⟩
variable {g:Gp}
def EE (h:g.run=U_)(d:D):g.en=U_->Aq (mh g d)<302:=by
 intro O;unfold mh;split
 .show(0:Nat)<302;omega
 .cases U:QJ d with
  |none=>show(0:Nat)<302;omega
  |some rs=>
   show(match nc (R0 rs g.n) with|some _=>0|none=>1+(300-(R0 rs g.n).n))<302
   cases nc (R0 rs g.n) with
   |some d=>show(0:Nat)<302;omega
   |none=>show(1+(300-(R0 rs g.n).n):Nat)<302;omega
def BN (O:g.en=U_)(d:D):Aq (Q1 g d)<Aq g:=by
 unfold Q1;cases U:g.run with
 |none=>
  have e:Aq g=302:=by unfold Aq;rw[O,U]
  rw[e];exact EE (g:=⟨g.n,g.mb,[-[-[-"rule",g.mb],d]],U_,g.en⟩) rfl d O
 |some p=>
  erw[p,rs,r];have e:Aq g=1+(300-r.n):=by unfold Aq;rw[O,U]
  rw[e];show(match nc (mi rs g.n r d) with|some _=>0|none=>1+(300-(mi rs g.n r d).n))<_
  unfold nc;by_cases c:QI (mi rs g.n r d).th=v_
  .rw[A6 c];have:=Ab9 c;show 1+(300-(mi rs g.n r d).n)<1+(300-r.n);omega
  .rw[A4 c];show 0<1+(300-r.n);omega
variable {qs:om (Str×D)}{z:Str}
def Yy (h:z∉qs.map (·.1)):qF qs z= .non:=by
 unfold qF;have:(qs.find? λp=>decide (p.1=z))=none:=by
  rw[Uv];intro p O e;exact h (Ae.mpr [p:O:uA e])
 rw[this]
 rfl
def QB (qs:om (Str×D)):(SyP qs).Ok where
 fs:=λ_ _=>rfl
 ss:=λg m=>by
  show YZ (-[-"stuck",!m])=U_;unfold YZ;exact A4 ()
 sf:=λg v h=>by
  have h:Y1 g=u_ v:=h;unfold Y1 at h;show g.en.isSome=v_;cases O:g.en with
  |none=>rw[O] at h;cases h
  |some d=>rfl
 lo:=λg U Z=>by
  have O:g.en=none:=by
   cases O:g.en with
   |none=>rfl
   |some d=>have U:g.en.isSome=false:=U;rw[O] at U;cases U
  show Aq (nE qs g)<Aq g;unfold nE;split
  .exact BN O _
  .have:0<Aq g:=by
    unfold Aq;rw[O];simp only;split<;>omega
   exact this
 lt:=λg m a U Z=>by
  have O:g.en=none:=by
   cases O:g.en with
   |none=>rfl
   |some d=>have U:g.en.isSome=false:=U;rw[O] at U;cases U
  exact BN O _
 lk:=λg m U=>by
  have O:g.en=none:=by
   cases O:g.en with
   |none=>rfl
   |some d=>have U:g.en.isSome=false:=U;rw[O] at U;cases U
  show 0<Aq g;unfold Aq;rw[O];simp only;split<;>omega
 l0:=λm g h=>by
  have h:g0D m (qF qs m)=u_ g:=h;show Aq g<=302;unfold g0D at h;split at h
  .split at h
   .cases h
   .split at h
    .cases h;exact ur _
    .cases h;exact V4 (EE rfl _ rfl)
  .cases h
 gn:=λm g h=>by
  have h:g0D m (qF qs m)=u_ g:=h;show m>qs.map (·.1);by_cases c:m>qs.map (·.1)
  .exact c
  .rw[Yy c] at h;cases h
abbrev EnS (d:D):Prop:=(∃z,d=flt z)\/(∃e,d= .tup [-"said",e]/\isT e=v_)\/∃z,d=-[-"stuck",!z]
structure GI (g:Gp):Prop where
 n:nm g.n=v_
 run:∀rs r,g.run=u_ (rs,r)->QX rs/\Dc rs r/\ThS r.th/\(g.en=U_->QI r.th=v_)
 no:g.run=U_->g.en=U_->∃z,g.mb= .str z/\nm z=v_
 en:∀d,g.en=u_ d->EnS d
 ra:nL g.ra=v_/\dpL g.ra<=30/\↑g.ra<=1
def AbV {r:Rn}(h:ThS r.th){d:D}(e:nc r=u_ d):EnS d:=by
 unfold nc at e;by_cases c:QI r.th=v_
 .rw[A6 c] at e;cases e
 .rw[A4 c] at e;cases e;rcases h with h|h|⟨u,z,h,_⟩
  .exact .inl h
  .exact .inr (.inl h)
  .rw[h] at c;exact A8 (show decide (("asks":Str)="asks")=v_ from uj rfl) c
def Ii {r:Rn}(e:nc r=U_):QI r.th=true:=by
 unfold nc at e;by_cases c:QI r.th=v_
 .exact c
 .rw[A4 c] at e;cases e
def SW {n:Str}(h:QX rs):ThS (R0 rs n).th:=s9 h 300 B0 1 0 [] Ty () (by have:=h.n0;omega)
def NC (d:D)(h1:nm g.n=v_)(h2:g.run=U_)(h3:nL g.ra=v_/\dpL g.ra<=30/\↑g.ra<=1):GI (mh g d):=by
 unfold mh;split
 .exact⟨h1,λrs r e=>(by rw[show g.run=u_ (rs,r) from e] at h2;cases h2),(λ_ e=>by cases e),λd e=>by cases e;exact .inl ⟨0⟩,h3⟩
 .cases U:QJ d with
  |none=>exact⟨h1,λrs r e=>(by rw[show g.run=u_ (rs,r) from e] at h2;cases h2),(λ_ e=>by cases e),λd e=>by cases e;exact .inl ⟨0⟩,h3⟩
  |some rs=>
   have O:=(wV U).2;exact⟨h1,λZ r e=>by cases e;exact⟨O,MJ O,SW O,λe=>Ii e⟩,λe _=>(by cases e),λd e=>AbV (SW O) e,h3⟩
def AA (h:GI g)(U:g.en=U_){d:D}(ha:XV d):GI (Q1 g d):=by
 unfold Q1;cases Z:g.run with
 |none=>
  erw[h.no Z U,z,hz,_];refine NC d h.n rfl ?_;have O:nD d=v_/\dp d<=12:=by
   rcases ha with rfl|ha
   .exact⟨1,by simp[dp]⟩
   .exact[ZK (yG ha):Jb ha]
  rw[hz];exists ?_,?_,ur _
  .simp![nL,nD,O.1,U5]
  .simp![dpL,dp];have:=O.2;omega
 |some p=>
  erw[p,rs,r];erw[h.run rs r Z,k1,k2,k3,k4];have hs:=IM (own:=g.n) k1 k2 (k4 U) ha;exact⟨h.n,λaa r' e=>by cases e;exact⟨k1,AR k1 k2 (k4 U) ha,hs,λe=>Ii e⟩,λe _=>(by cases e),λd e=>AbV hs e,h.ra⟩
def NB (h:GI g)(m:Str):GI (Od g m):=⟨h.n,λrs r e=>⟨(h.run rs r e).1,(h.run rs r e).2.1,(h.run rs r e).2.2.1,(λz=>by cases z)⟩,(λ_ e=>by cases e),λd e=>by cases e;exact .inr (.inr [m:1]),h.ra⟩
def ou:∀(zs O:om Str),isT (CF O)=v_->isT (CF (Bp O zs))=v_
 | [],O,h=>h
 |z::r,O,h=>by
  unfold Bp;split
  .rename_i c;exact ou r _ c
  .exact h
def Wn (U:Qk qs){k:Str}(z:Str)(hk:mW k=v_):isT (xl qs k z)=v_/\AU k (xl qs k z)=true:=by
 unfold xl;by_cases c:k="has"
 .rw[A6 c,c];split<;>exact[():()]
 .rw[A4 c];have O:isT (CF (Bp [] ((qs.map (·.1)).filter λy=>Go y z)))=true:=ou _ [] ()
  exists O;have Z:Mj (CF (Bp [] ((qs.map (·.1)).filter λy=>Go y z)))=true:=by
   show List.all (rZ D.str _) mG=v_;rw[Um];intro x hx;erw[Ae.mp hx,y,hy,rfl];rcases Bo _ _ _ hy with h|h
   .cases h
   .exact U.1.1.1 y (List.mem_filter.mp h).1
  unfold AU;rw[A4 (show¬yY (CF _)=v_ from ud),A6 O,A4 c,Z,Bool.or_true]
def jN (h:GI g)(he:g.en=U_)(U:yJ g=U_):∃rs r k z,g.run=u_ (rs,r)/\r.th= .tup [-"asks",-[!k,!z]]/\mW k=v_/\isT (!z)=v_/\nE qs g=Q1 g (xl qs k z):=by
 unfold yJ at U;cases Z:g.run with
 |none=>
  erw[h.no Z he,z,hz,_];have e:yb g=-[-"rule",!z]:=by unfold yb;rw[Z,hz]
  rw[e] at U;simp![show mW "rule"=Vc by decide+kernel,A4 ud] at U
  cases U
 |some p=>
  erw[p,rs,r];erw[h.run rs r Z,k1,k2,k3,k4];have O:=k4 he;rcases k3 with⟨z,e⟩|⟨d,e,_⟩|⟨u,z,e,ht,hu⟩
  .rw[e] at O;exact A8 O (by show¬decide (("fault":Str)="asks")=v_;decide+kernel)
  .rw[e] at O;exact A8 O (by show¬decide (("said":Str)="asks")=v_;decide+kernel)
  .have e2:yb g=-[!u,!z]:=by unfold yb;rw[Z];show xj r.th=_;rw[e];rfl
   rw[e2] at U;simp only at U;cases hk:mW u with
   |false=>rw[hk,A4 ud] at U;cases U
   |true=>exact⟨rs,r,u,z,1,e,hk,ht,by unfold nE;rw[e2]⟩
variable {m:Str}
def kS (h:GI g)(he:g.en=U_)(O:yJ g=u_ m):nm m=v_/\((g.run=U_/\g.mb= !m)\/∃rs r,g.run=u_ (rs,r)/\r.th=-[-"asks",-[-"thing",!m]]):=by
 unfold yJ at O;cases Z:g.run with
 |none=>
  erw[h.no Z he,z,hz,hn];have e:yb g=-[-"rule",!z]:=by unfold yb;rw[Z,hz]
  rw[e] at O;simp![show mW "rule"=Vc by decide+kernel,A4 ud] at O
  cases O;exact[hn:.inl [1:hz]]
 |some p=>
  erw[p,rs,r];erw[h.run rs r Z,k1,k2,k3,k4];have U:=k4 he;rcases k3 with⟨z,e⟩|⟨d,e,_⟩|⟨u,z,e,ht,hu⟩
  .rw[e] at U;exact A8 U (by show¬decide (("fault":Str)="asks")=v_;decide+kernel)
  .rw[e] at U;exact A8 U (by show¬decide (("said":Str)="asks")=v_;decide+kernel)
  .have e2:yb g=-[!u,!z]:=by unfold yb;rw[Z];show xj r.th=_;rw[e];rfl
   rw[e2] at O;simp only at O;rcases hu with rfl|⟨rfl|rfl,hn⟩
   .rw[A6 ()] at O;cases O
   .rw[A4 ()] at O
    cases O;exact[hn:.inr ⟨rs,r,1,e⟩]
   .rw[A6 ()] at O;cases O
def EZ (U:Qk qs)(h:GI g)(O:g.en=U_)(Z:yJ g=U_):GI (nE qs g):=by
 erw[jN (qs:=qs) h O Z,rs,r,k,z,_,_,hk,_,e];rw[e];exact AA h O (.inr (Wn U z hk).1)
def j0 (U:Qk qs)(h:m>qs.map (·.1)):nm m=v_/\∃k e,qF qs m= .tup [!k,e]/\(k="made"->∃z,e= .str z/\nm z=v_)/\(k≠"made"->(k="leaf"\/k="rule")/\isT e=v_):=by
 have hs:=U.1.2 _ (SK U.1.1.2 h);erw[hs,[k,e,O],h2,_];have O:qF qs m=-[!k,e]:=O;have h2:sr (qF qs m)=true:=h2;rw[O] at h2;have e1:sr (-[!k,e])=if eqD (!k) (-"made")=v_ then mG e else(eqD (!k) (-"leaf")||eqD (!k) (-"rule"))&&isT e:=rfl
 rw[e1] at h2;have Z:∀y:Str,eqD (!k) (!y)=decide (k=y):=λy=>rfl;rw[Z,Z,Z] at h2;exists U.1.1.1 m h,k,e,O,λc=>?_,λc=>?_
 .rw[uj c,A6 rfl] at h2;exact EQ h2
 .rwa[um c,A4 ud,uG,HG,vk,vk] at h2
def Ko (U:Qk qs)(h:g0D m (qF qs m)=u_ g):GI g/\g.n=m:=by
 have hm:m>qs.map (·.1):=(QB qs).gn m g h;erw[j0 U hm,hn,k,e,hd,h1,h2];rw[hd] at h;unfold g0D at h;simp only at h;have O:nL ([]:om D)=v_/\dpL ([]:om D)<=30/\↑([]:om D)<=1:=⟨1,by simp[dpL],uQ _⟩
 split at h
 .cases h
 .split at h
  .rename_i c
   cases h;erw[h1 c,z,rfl,hz];exact⟨⟨hn,λrs r e=>(by cases e),λ_ _=>[z:1:hz],λd e=>(by cases e),O⟩,1⟩
  .cases h;exists NC e hn rfl O;unfold mh;split
   .rfl
   .split<;>rfl
def DM (h:GI g){v:D}(e:Y1 g=u_ v):isT v=true:=by
 unfold Y1 at e;cases O:g.en with
 |none=>rw[O] at e;cases e
 |some d=>
  rw[O] at e;have e:YZ d=u_ v:=e;rcases h.en d O with⟨z,rfl⟩|⟨x,rfl,U⟩|⟨z,rfl⟩
  .exact A8 e (by unfold YZ flt;simp only;rw[A4 ()];exact λh=>by cases h)
  .have e3:YZ (-[-"said",x])=u_ x:=by unfold YZ;dsimp only;exact A6 rfl
   rw[e3] at e;cases e;exact U
  .exact A8 e (by unfold YZ;simp only;rw[A4 ()];exact λh=>by cases h)
def Dl (g:Gp)(d:D):(Q1 g d).n=g.n:=by
 unfold Q1;split
 .unfold mh;split
  .rfl
  .split<;>rfl
 .rfl
def Abc (qs:om (Str×D))(g:Gp):(nE qs g).n=g.n:=by
 unfold nE;split
 .exact Dl _ _
 .rfl
abbrev SGI {qs:om (Str×D)}(S:Sy.Ss (SyP qs)):Prop:=∀p:Str×Gp,p>S.stk\/p>S.don->GI p.2/\p.2.n=p.1
def MN (Z:Qk qs){S:Sy.Ss (SyP qs)}(h:SGI S){a:oq D}(e:Sy.yet S m=u_ (u_ a)):XV (a.getD .non):=by
 unfold Sy.yet at e;split at e
 .cases e
 .split at e
  .rename_i O
   cases e;have O:g0D m (qF qs m)=none:=O;show XV ((KH (qF qs m)).getD .non);by_cases hm:m>qs.map (·.1)
   .erw[j0 Z hm,hn,k,e,hd,h1,h2];rw[hd] at O⊢;unfold g0D at O;simp only at O;by_cases c:k="leaf"
    .exact .inr (h2 (by rw[c];decide+kernel)).2
    .rw[A4 c] at O;split at O<;>cases O
   .rw[Yy hm];exact .inl rfl
  .cases hd:Sy.Yk S.don m with
   |none=>rw[hd] at e;cases e
   |some g=>
    rw[hd] at e;have e:(Y1 g).map u_=u_ a:=uM e;cases U:Y1 g with
    |none=>rw[U] at e;cases e
    |some v=>
     rw[U] at e;cases e;exact .inr (DM (h (m,g) (.inr (Sy.zk hd))).1 U)
def Ev (hq:Qk qs){S:Sy.Ss (SyP qs)}(h:SGI S):SGI (Sy.nxt S):=by
 erw[S,stk,don];cases stk with
 |nil=>exact h
 |cons p r=>
  erw[p,n,g];erw[h (n,g) (.inl uh),U,hn];have on:∀g':Gp,GI g'->g'.n=n->SGI #[Y,(n,g')::r,don]:=by
   intro g' h1 h2 p O;rcases O with O|O
   .rcases Aa.mp O with rfl|O
    .exact[h1:h2]
    .exact h p (.inl (ug _ O))
   .exact h p (.inr O)
  unfold Sy.nxt;simp only;by_cases hf:(SyP qs).fin g=v_
  .rw[A6 hf];intro p O;rcases O with O|O
   .exact h p (.inl (ug _ O))
   .rcases Ac.mp O with O|O
    .exact h p (.inr O)
    .cases Ab.mp O;exact[U:hn]
  .rw[A4 hf];have Z:Gp.en g=none:=by
    cases Z:Gp.en g with
    |none=>rfl
    |some d=>exact A8 (show(Gp.en g).isSome=v_ by rw[Z];rfl) hf
   cases hw:(SyP qs).want g with
   |none=>exact on _ (EZ hq U Z hw) ((Abc qs g).trans hn)
   |some m=>
    simp only;cases hy:Sy.yet #[Y,(n,g)::r,don] m with
    |some o=>
     cases o with
     |some a=>exact on _ (AA U Z (MN hq h hy)) ((Dl _ _).trans hn)
     |none=>exact on _ (NB U m) hn
    |none=>
     erw[Sy.jW hy,_,[g',e],_];simp only;rw[e];intro p O;rcases O with O|O
     .rcases Aa.mp O with rfl|O
      .exact Ko hq e
      .exact h p (.inl O)
     .exact h p (.inr O)
structure Oc where
 (x dx px ls du dr df:o3)
abbrev ofs (o:Oc):om (Str×V):= [("given_project",-o.px),("stack",-o.ls),("under_way",-o.du),("full_runs",-o.dr),("found",-o.df)]
abbrev OMT:om Str:= ["go_through","enter","settle","runner","leave","go_on","answer_yet","begin_anew"]
def PY (o:Oc):(ofs o).lookup ("given_project":Str)=u_ (-o.px):=rfl
def L5 (o:Oc):(ofs o).lookup ("stack":Str)=u_ (-o.ls):=rfl
def PV (o:Oc):(ofs o).lookup ("under_way":Str)=u_ (-o.du):=rfl
def Abo (o:Oc):(ofs o).lookup ("full_runs":Str)=u_ (-o.dr):=rfl
def L6 (o:Oc):(ofs o).lookup ("found":Str)=u_ (-o.df):=rfl
def wC (o:Oc):∀m>OMT,(ofs o).lookup m=none:=by
 intro m hm;simp![OMT,uI,uL,uS] at hm;rcases hm with rfl|rfl|rfl|rfl|rfl|rfl|rfl|rfl<;>rfl
structure Kp (L:om o3)(H H':Hp):Prop where
 kept:∀b ob,H b=u_ ob->b∉L->H' b=u_ ob
 tk:Tk H H'
variable {L:om o3}{H H':Hp}
def Kp.of (s:ic H H'):Kp L H H':=[λb ob h _=>s b ob h:s.tk]
variable {H1 H2:Hp}
def Kp.trans (h:Kp L H H1)(k:Kp L H1 H2):Kp L H H2:=[λb ob e n=>k.kept b ob (h.kept b ob e n) n:h.tk.trans k.tk]
variable {p:o3}
def Kp.updD {xs ys:om (Key×V)}(h:H p=u_ (.dK xs))(O:p>L):Kp L H (upd H p (.dK ys)):=⟨λb ob e n=>by have nb:b≠p:=(λz=>n (by rwa[z]));rwa[qi nb],Tk.updD h⟩
def Wx {κ:Type}[DecidableEq κ](k j:κ):∀kvs:om (κ×V),iO (JW kvs k) j=if j=k then U_ else iO kvs j
 | []=>by show U_=_;split<;>rfl
 |p::r=>by
  by_cases c:p.1=k
  .rw[Ik c,Wx k j r];by_cases d:j=k
   .rw[A6 d,A6 d]
   .rw[A4 d,A4 d,QK (λz=>d (z.symm.trans c))]
  .rw[Il c];by_cases d:p.1=j
   .rw[QV d,A4 (λz=>c (d.trans z)),QV d]
   .rw[QK d,Wx k j r,QK d]
variable {C:o3}
def yS.kp {x:o3}(h:yS C H x qs)(k:Kp L H H')(U:∀p>L,(∃xs,H p=u_ (.lst xs))\/(∃xs,H p=u_ (.dK xs))\/H p=U_):yS C H' x qs:=by
 erw[h,dx,d,o,vs,O,e2,e3,Z];have n1:x∉L:=λz=>by rcases U x z with⟨_,e⟩|⟨_,e⟩|e<;>rw[e] at O<;>cases O
 have n2:d∉L:=λz=>by rcases U d z with⟨_,e⟩|⟨_,e⟩|e<;>rw[e] at e2<;>cases e2
 exact⟨dx,d,o,vs,k.kept _ _ O n1,k.kept _ _ e2 n2,e3,Z.mono k.tk⟩
structure OAt (CO CP:o3)(H:Hp)(o:Oc)(qs:om (Str×D)):Prop where
 e:H o.x=u_ (.ins CO o.dx (ofs o))
 p:yS CP H o.px qs
def OAt.kp {CO CP:o3}{o:Oc}(h:OAt CO CP H o qs)(k:Kp L H H')(O:∀p>L,(∃xs,H p=u_ (.lst xs))\/(∃xs,H p=u_ (.dK xs))\/H p=U_):OAt CO CP H' o qs:=by
 exists k.kept _ _ h.e (λz=>?_),h.p.kp k O;have U:=h.e;rcases O o.x z with⟨_,e⟩|⟨_,e⟩|e<;>rw[e] at U<;>cases U
abbrev SS {qs:om (Str×D)}(S:Sy.Ss (SyP qs))(uk:om (Key×V)):Prop:=∀m:Str,(iO uk (Vf m)).isSome=decide (m>S.stk.map (·.1))
abbrev Dd {qs:om (Str×D)}(H:Hp)(S:Sy.Ss (SyP qs))(fk:om (Key×V)):Prop:=∀(m:Str) (g:Gp),g0D m (qF qs m)=u_ g->
 (∀g':Gp,Sy.Yk S.don m=u_ g'->∃v,iO fk (Vf m)=u_ v/\Is H (Qt (g'.en.getD .non)) v)/\(Sy.Yk S.don m=U_->iO fk (Vf m)=U_)
def Dd.mono {S:Sy.Ss (SyP qs)}{fk:om (Key×V)}(h:Dd H S fk)(t:Tk H H'):Dd H' S fk:=λm g O=>⟨λg' e=>let⟨v,a,b⟩:=(h m g O).1 g' e;[v:a:b.mono t],(h m g O).2⟩
abbrev MH:oq (oq D)->D->Prop
 |some (u_ v),d=>d=-[-"value",v]
 |some U_,d=>d=-[-"lack"]
 |none,d=>∃k r,d= .tup (.str k::r)/\k≠"value"/\k≠"lack"
abbrev nrg (d:D):Prop:=∃k r,d= .tup (.str k::r)/\(k="value"\/k="lack"\/k="fault"\/k="stuck")
abbrev Ab8 (qs:om (Str×D))(don:om (Str×Gp))(m:Str):D:=match g0D m (qF qs m) with
 |none=>Yi (qF qs m)
 |some _=>Qt (((Sy.Yk (Y:=SyP qs) don m).bind λg:Gp=>g.en).getD .non)
abbrev AV {qs:om (Str×D)}(H:Hp)(S:Sy.Ss (SyP qs))(m:Str)(v:V):Prop:=match Sy.yet S m with
 |none=>v= .non
 |some o=>∃d,Is H d v/\MH o d/\(m∉S.stk.map (·.1)->nrg d/\d=Ab8 qs S.don m)
inductive AaI (CO CP:Addr):Sp
 |mk (o:Oc)(m:Str)(qs:List (Str×D))(S:Sy.Ss (SyP qs))(uk fk:List (Key×V))(_:vs= [-o.x,!m])(_:OAt CO CP H o qs)(_:Qk qs)(_:SGI S)(_:H o.du=u_ (.dK uk))(_:SS S uk)(_:H o.df=u_ (.dK fk))(_:Dd H S fk)(_:↑fk<=100000)(_:(∀p>S.don,(SyP qs).fin p.2=v_))(_:∀(v:V)(H':Hp)(fk':List (Key×V)),Kp [o.df] H H'->H' o.df=u_ (.dK fk')->Dd H' S fk'->↑fk'<=↑fk+1->(Sy.yet S m=U_->↑fk'=↑fk)->AV H' S m v->Q v H')
inductive DG (CO:Addr):Sp
 |mk (x dx px:Addr)(_:vs= [-x,-px])(_:H x=u_ (.ins CO dx []))(_:∀(o:Oc)(H':Hp),o.x=x->o.dx=dx->o.px=px->(∀b ob,H b=u_ ob->b≠x->H' b=u_ ob)->Tk H H'->H o.ls=U_->H o.du=U_->H o.dr=U_->H o.df=U_-> [o.ls,o.du,o.dr,o.df].Nodup->H' x=u_ (.ins CO dx (ofs o))->H' o.ls=u_ (.lst [])->H' o.du=u_ (.dK [])->H' o.dr=u_ (.dK [])->H' o.df=u_ (.dK [])->Q .non H')
inductive Ll:Sp
 |mk (x:_)(y:_)(_:vs= [x,y])(_:Q .non H)
def LJ (O:Qk qs)(h:g0D m (qF qs m)=U_):∃k,Yi (qF qs m)= .tup k/\MH (u_ (KH (qF qs m))) (¬k)/\nrg (¬k):=by
 by_cases hm:m>qs.map (·.1)
 .erw[j0 O hm,hn,k,e,hd,h1,h2];rw[hd] at h⊢;unfold g0D at h;simp only at h;by_cases c:k="leaf"
  .exists [-"value",e],?_,1,[_:0:.inl rfl];unfold Yi;simp only;exact A6 c
  .rw[A4 c] at h;split at h<;>cases h
 .rw[Yy hm];exact[0:1:[_:0:.inr (.inl rfl)]]
def Pj (O:Qk qs)(h:g0D m (qF qs m)=u_ g):Yi (qF qs m)= .non:=by
 erw[j0 O ((QB qs).gn m g h),hn,k,e,hd,h1,h2];rw[hd] at h⊢;unfold g0D at h;simp only at h;by_cases c:k="leaf"
 .rw[A6 c] at h;cases h
 .unfold Yi;simp only;exact A4 c
def Ab7 (h:GI g)(Z:g.en.isSome=v_):MH ((Y1 g).map u_) (Qt (g.en.getD .non)):=by
 cases U:g.en with
 |none=>rw[U] at Z;cases Z
 |some d=>
  unfold Y1;rw[U];show MH ((YZ d).map u_) (Qt d);rcases h.en d U with⟨z,rfl⟩|⟨x,rfl,hx⟩|⟨z,rfl⟩
  .have O:YZ (flt z)=none:=by unfold YZ flt;dsimp only;exact A4 ()
   have e2:Qt (flt z)=flt z:=by unfold Qt flt;dsimp only;exact A4 ()
   rw[O,e2];exact⟨"fault",[!z],1,(),()⟩
  .have O:YZ (-[-"said",x])=u_ x:=by unfold YZ;dsimp only;exact A6 rfl
   have e2:Qt (-[-"said",x])=-[-"value",x]:=by unfold Qt;dsimp only;exact A6 rfl
   rw[O,e2];exact rfl
  .have O:YZ (-[-"stuck",!z])=none:=by unfold YZ;dsimp only;exact A4 ()
   have e2:Qt (-[-"stuck",!z])=-[-"stuck",!z]:=by unfold Qt;dsimp only;exact A4 ()
   rw[O,e2];exact⟨"stuck",[!z],1,(),()⟩
def SQ (h:GI g)(O:g.en.isSome=v_):nrg (Qt (g.en.getD .non)):=by
 cases U:g.en with
 |none=>rw[U] at O;cases O
 |some d=>
  show nrg (Qt d);rcases h.en d U with⟨z,rfl⟩|⟨x,rfl,Z⟩|⟨z,rfl⟩
  .have e2:Qt (flt z)=flt z:=by unfold Qt flt;dsimp only;exact A4 ()
   rw[e2];exact[_:0:.inr (.inr (.inl rfl))]
  .have e2:Qt (-[-"said",x])=-[-"value",x]:=by unfold Qt;dsimp only;exact A6 rfl
   rw[e2];exact[_:0:.inl rfl]
  .have e2:Qt (-[-"stuck",!z])=-[-"stuck",!z]:=by unfold Qt;dsimp only;exact A4 ()
   rw[e2];exact[_:0:.inr (.inr (.inr rfl))]
section
variable {P:og}{w:oh}{K:o0}{mg:Str->oq o6}{base:o9}{a:Ad}{g:Ga}
def LS:#[T,1,a.Y7,a.jd,["self","going"],Ll]:=by
 exists 9,T.i9,xY,O
 erw[h,x,y,rfl,q];exists 3,%[|O2]
 exact q
def PU:#[T,1,a.yA,a.yM,["self","project"],(DG a.qr)]:=by
 exists 9,T.iw,jx
 erw[h,x,dx,px,rfl,hx,q];have hs:=uE;exists 3,%[#[Qf,pv 1],#[Qf,#[QR,qd]],#[Qf,jI],#[Qf,jI]|#[Qf,jI]]
 exists 0,0,x,_,dx,0,hx,T.qx,T.Qe,()
 exists (sml rfl),λl1 h1=>?_;have n1:x≠l1:=qk qg h1
 exists 5
 refine⟨0,x,_,dx,0,(qi n1).trans qg,T.qx,T.QE,by show 1<1000;decide,?_⟩
 intro l2 h2;have U:x≠l2:=qk qg h2
 exists 5
 refine⟨0,x,_,dx,0,(qi U).trans qg,T.qx,T.Qz,by show 2<1000;decide,?_⟩
 intro Z h3;have n3:x≠Z:=qk qg h3
 exists 5
 refine⟨0,x,_,dx,0,(qi n3).trans qg,T.qx,T.Q5,by show 3<1000;decide,?_⟩
 intro l4 h4;have n4:x≠l4:=qk qg h4
 exists 5
 refine⟨0,x,_,dx,0,(qi n4).trans qg,T.qx,T.QC,by show 4<1000;decide,?_⟩
 rw[qi n1.symm] at h1;have O:l2≠l1:=λz=>by rw[z,qi n1.symm,qg] at h2;cases h2
 have k2:H l2=none:=by rwa[qi U.symm,qi O,qi U.symm] at h2
 have aa:Z≠l2:=λz=>by rw[z,qi U.symm,qg] at h3;cases h3
 have ac:Z≠l1:=λz=>by rw[z,qi n1.symm,qi O.symm,qi n1.symm,qg] at h3;cases h3
 have k3:H Z=none:=by rwa[qi n3.symm,qi aa,qi n3.symm,qi ac,qi n3.symm] at h3
 have ad:l4≠Z:=λz=>by rw[z,qi n3.symm,qg] at h4;cases h4
 have ae:l4≠l2:=λz=>by rw[z,qi U.symm,qi aa.symm,qi U.symm,qg] at h4;cases h4
 have af:l4≠l1:=λz=>by rw[z,qi n1.symm,qi ac.symm,qi n1.symm,qi O.symm,qi n1.symm,qg] at h4;cases h4
 have k4:H l4=none:=by rwa[qi n4.symm,qi ad,qi n4.symm,qi ae,qi n4.symm,qi af,qi n4.symm] at h4
 have kp:∀b ob,H b=u_ ob->b≠x->(upd (upd (upd (upd (upd (upd (upd (upd (upd H x (.ins a.qr dx (iG "given_project" (V.ref px) []))) l1 (.lst [])) x (.ins a.qr dx (iG "stack" (V.ref l1) (iG "given_project" (V.ref px) [])))) l2 (.dK [])) x (.ins a.qr dx (iG "under_way" (V.ref l2) (iG "stack" (V.ref l1) (iG "given_project" (V.ref px) []))))) Z (.dK [])) x (.ins a.qr dx (iG "full_runs" (V.ref Z) (iG "under_way" (V.ref l2) (iG "stack" (V.ref l1) (iG "given_project" (V.ref px) [])))))) l4 (.dK [])) x (.ins a.qr dx (iG "found" (V.ref l4) (iG "full_runs" (V.ref Z) (iG "under_way" (V.ref l2) (iG "stack" (V.ref l1) (iG "given_project" (V.ref px) []))))))) b=u_ ob:=λb ob h nb=>by
  rwa[qi nb,qi (qk h k4),qi nb,qi (qk h k3),qi nb,qi (qk h k2),qi nb,qi (qk h h1),qi nb]
 refine q ⟨x,dx,px,l1,l2,Z,l4⟩ _ rfl rfl rfl kp ?_ h1 k2 k3 k4 ?_ ?_ ?_ ?_ ?_ ?_
 .exists 5
  refine[λb xs e=>kp b _ e (λz=>?_):λb xs e=>[xs:kp b _ e (λz=>?_)]:λb xs e=>[xs:kp b _ e (λz=>?_)]]<;>(rw[z,hx] at e;cases e)
 .simp![vZ,uI,uL,uS,V9,V2,vQ,and_true];exact[[O.symm:ac.symm:af.symm]:[aa.symm:ae.symm]:ad.symm]
 .exact qg
 .rw[qi n1.symm,qi af.symm,qi n1.symm,qi ac.symm,qi n1.symm,qi O.symm,qi n1.symm];exact qg
 .rw[qi U.symm,qi ae.symm,qi U.symm,qi aa.symm,qi U.symm];exact qg
 .rw[qi n3.symm,qi ad.symm,qi n3.symm];exact qg
 .rw[qi n4.symm];exact qg
def LP:#[T,2,a.yW,a.jp,["self","project"],(DG a.qr)]:=by
 have U:=#[PU,T];exists 9,T.lC,Xz,Z
 erw[h,x,dx,px,rfl,O,q];exists 3,%[|#[qX,#[Qm,20,pv 0,T.qx,T.iw.h,U,Z.mono (),T.iw.b,.nil,qy,#v[pv 1],_,_,_]]]
 exact⟨0,x,dx,0,O,1,0,x,dx,px,1,O,q⟩
def Ec:#[T,2,a.yC,a.yL,["self","name"],(AaI a.qr a.qJ)]:=by
 have qS:=#[YG,T];have QY:=#[Al,T];exists 9,T.io,yu
 erw[h,o,m,qs,S,uk,fk,rfl,hO,hq,hG,ac,hU,aa,hF,hl,Z,k];have hs:=uE;exists 3,%[#[qH,#[kj,#[pc_din,QZ hr,pv 1,#[qO,5,pv 0,rfl]]],%[|#[qo,#[qG,#v[ql]]]],qt],#[qE,(2),yu.nd,#[qp,QY,hr.mono (),T.iD,#v[#[Qm,#[qO,5,pv 0,rfl],T.Q6,T.ii,qS,#v[pv 1]]]]],#[qH,#[qq,zY,pv 2,qT,qw _],%[|#[Jo,#[qO,5,pv 0,rfl],pv 1,pv 2]],qt]|#[qo,#[KG,7,QZ hr,#[qO,5,pv 0,rfl],pv 1,⟨1,1,1,1⟩]]]
 exists 0,0,o.x,_,o.dx,_,0,hO.e,T.qx,T.Qz,PV o,o.du,0,mV.k (k:=Vf m) ac,0;rw[hU m];by_cases c:m>S.stk.map (·.1)
 .have ey:Sy.yet S m=u_ none:=by unfold Sy.yet;rw[A6 c]
  refine lV (uj c) [(sml rfl):λt ht=>?_];have s1:=qf ht (-[V.str "ring"]);refine k _ _ fk (Kp.of s1) (s1 _ _ aa) (hF.mono s1.tk) (HH _) (λ_=>rfl) ?_;unfold AV;rw[ey];exact⟨_,Is.new (ds:= [-"ring"]) ⟨_,0,yx (),1⟩ ht,⟨"ring",[],1,(),()⟩,λz=>A8 c z⟩
 refine iZ (um c) ?_
 exists 0,o.x,_,o.dx,_,0,hO.e,T.qx,T.Qe,PY o;erw[id hO.p,ad,dp,op,ah,hx,hd,hk,hv]
 exists o.px,ad,0,hx,Yj,0,o.px,m,qs,1,hO.p,λv h1 h2=>?_;have ae:Is H (qF qs m) v:=by
  by_cases cm:m>qs.map (·.1)
  .exact h1 cm
  .rw[h2 cm,Yy cm];exact rfl
 exists v,qF qs m,1,ae,?_,λu H1 s1 hu=>?_
 .by_cases cm:m>qs.map (·.1)
  .erw[j0 hq cm,_,k,e,hd,_];exact .inr [k:e:hd]
  .exact .inl (Yy cm)
 have O:=s1 _ _ aa
 exists 0,1,0;cases hg:g0D m (qF qs m) with
 |none=>
  erw[LJ hq hg,l,e1,e2,e3];rw[e1] at hu;have af:u≠ .non:=jL hu (by intro z;cases z)
  have ey:Sy.yet S m=u_ (u_ (KH (qF qs m))):=by have U:=hg;unfold Sy.yet;rw[A4 c,show(SyP qs).g0 m=_ from U];rfl
  refine lV (by simp[af]) ?_
  have kp:Kp [o.df] H (upd H1 o.df (.dK (lJ fk (Vf m) u))):=(Kp.of s1).trans (Kp.updD O uh)
  exists 0,0,o.x,_,o.dx,_,0,s1 _ _ hO.e,T.qx,T.QC,L6 o,0,o.df,0,IQ.k (k:=Vf m) O ()
  have ag:=hO.kp kp (by intro p hp;cases Ab.mp hp;exact .inr (.inl [_:aa]))
  exists 0,o.x,_,o.dx,_,0,ag.e,T.qx,T.QC,L6 o,o.df,1,.inl [_:.inl qg],0,_,mV.k (k:=Vf m) qg;rw[X8,A6 rfl];refine k _ _ _ kp qg ?_ (yo _ _ _) (λz=>by rw[ey] at z;cases z) ?_
  .intro m' g' U;rw[X8,A4 (λz=>by injection z with z;rw[z,hg] at U;cases U)]
   exact(hF.mono kp.tk) m' g' U
  .unfold AV;rw[ey];exact⟨_,(hu.mono (Tk.updD O)),e2,λ_=>⟨e3,by unfold Ab8;rw[hg];exact e1.symm⟩⟩
 |some g=>
  rw[Pj hq hg] at hu;cases(show u= .non from hu)
  refine iZ (by simp) ?_
  exists 0,o.x,_,o.dx,_,0,s1 _ _ hO.e,T.qx,T.QC,L6 o,o.df,1,.inl [_:.inl O],0,_,mV.k (k:=Vf m) O;refine k _ _ fk (Kp.of s1) O (hF.mono s1.tk) (HH _) (λ_=>rfl) ?_;have ey:Sy.yet S m=(Sy.Yk S.don m).map λg=>(Y1 g).map some:=by have U:=hg;unfold Sy.yet;rw[A4 c,show(SyP qs).g0 m=_ from U];rfl
  erw[hF m g hg,f1,f2];unfold AV;rw[ey];cases hd:Sy.Yk S.don m with
  |none=>
   rw[f2 hd];exact rfl
  |some g'=>
   erw[f1 g' hd,y,e1,e2];rw[e1];exact⟨_,e2.mono s1.tk,Ab7 (hG (m,g') (.inr (Sy.zk hd))).1 (Z (m,g') (Sy.zk hd)),λ_=>⟨SQ (hG (m,g') (.inr (Sy.zk hd))).1 (Z (m,g') (Sy.zk hd)),by unfold Ab8;rw[hg,hd];rfl⟩⟩
structure nB (g:Gc)(s:Gs)(p:Gp):Prop where
 n:g.n=p.n
 mb:s.mb=p.mb
 ra:s.ra=p.ra
 run:(s.run.map λq=>(q.1.rs,q.2))=p.run
 own:∀mc r,s.run=u_ (mc,r)->mc.own=g.n
 en:s.en=p.en.getD .non
abbrev Aaa:oq (Mc×Rn)->om o3
 |none=> []
 |some (mc,_)=> [mc.x,mc.db,mc.dg]
abbrev plc (g:Gc)(s:Gs):om o3:=g.x::Aaa s.run
def nB.none {g:Gc}{s:Gs}{p:Gp}(h:nB g s p)(e:p.run=U_):s.run=none:=by
 have:=h.run;rw[e] at this;cases O:s.run with
 |none=>rfl
 |some q=>rw[O] at this;cases this
def nB.some {g:Gc}{s:Gs}{p:Gp}(h:nB g s p){rs:om Rw}{r:Rn}(e:p.run=u_ (rs,r)):∃mc:Mc,s.run=u_ (mc,r)/\mc.rs=rs/\mc.own=g.n:=by
 have:=h.run;rw[e] at this;cases O:s.run with
 |none=>rw[O] at this;cases this
 |some q=>
  erw[q,mc,r'];rw[O] at this;cases this;exact⟨mc,1,1,h.own mc r' O⟩
variable {CM:o3}
def l6.frame {g:Gc}{s:Gs}(h:l6 C CM H g s)(O:∀b>plc g s,∀ob,H b=u_ ob->H' b=u_ ob)(t:Tk H H'):l6 C CM H' g s:=by
 erw[h,dx,fs,mv,av,rv,ev,e,f,i,j,k,l];exists dx,fs,mv,av,rv,ev,O _ uh _ e,f,i.mono t,j.mono t,?_,l.mono t;cases U:s.run with
 |none=>rwa[U] at k
 |some q=>
  erw[q,mc,r];have hp:plc g s= [g.x,mc.x,mc.db,mc.dg]:=by unfold plc Aaa;rw[U]
  rw[hp] at O;rw[U] at k;erw[k,k1,k2,dm,fm,Z,ru,tv,gv,em,aa,i1,i2,[bf,ib,jb],i4,i5,i6];exact⟨k1,k2,dm,fm,Z,ru,tv,gv,O _ (by simp) _ em,aa,i1.mono t,i2.mono t,⟨bf,O _ (by simp) _ ib,λz hz=>(jb z hz).mono t⟩,O _ (by simp) _ i4,i5.mono t,i6.mono t⟩
def l6.there {g:Gc}{s:Gs}(h:l6 C CM H g s):∀b>plc g s,∃ob,H b=u_ ob:=by
 erw[h,dx,fs,mv,av,rv,ev,e,f,i,j,k,l];intro b O;rcases Aa.mp O with rfl|O
 .exact[_:e]
 .cases U:s.run with
  |none=>rw[U] at O;cases O
  |some q=>
   erw[q,mc,r];rw[U] at O k;erw[k,k1,k2,dm,fm,Z,ru,tv,gv,em,aa,i1,i2,[bf,ib,jb],i4,i5,i6];simp![Aaa,uI,uL,uS] at O;rcases O with rfl|rfl|rfl
   .exact[_:em]
   .exact[_:ib]
   .exact[_:i4]
def IJ {g:Gc}{d:D}{s s':Gs}{p:Gp}(b:MM H g d s s')(h:nB g s p)(U:p.run=U_)(he:p.en=U_):nB g s' (mh p d)/\∀c>plc g s',c=g.x\/H c=none:=by
 have hr:=h.none U;have Z:s.en= .non:=by rw[h.en,he];rfl
 have nil:s'.run=U_->∀c>plc g s',c=g.x\/H c=none:=λe c O=>by
  unfold plc at O;rw[e] at O;rcases Aa.mp O with z|z
  .exact .inl z
  .cases z
 unfold mh;by_cases c:d= .non
 .erw[b.lack c,b1,b2];rw[A6 (by rw[c];rfl)]
  exact⟨⟨h.n,b.mb.trans h.mb,b.ra.trans h.ra,(by show _=p.run;rw[b1,U];rfl),(λmc r e=>by rw[b1] at e;cases e),b2⟩,nil b1⟩
 .rw[A4 (λz=>c (by cases d with|non=>rfl|_=>cases z))]
  cases hd:QJ d with
  |none=>
   erw[b.rule c hd,b1,b2];exact⟨⟨h.n,b.mb.trans h.mb,b.ra.trans h.ra,(by show _=p.run;rw[b1,U];rfl),(λmc r e=>by rw[b1] at e;cases e),b2⟩,nil b1⟩
  |some rs=>
   erw[b.go rs hd,mc,c1,c2,c3,c4,c5,c6,c7];exists ⟨h.n,b.mb.trans h.mb,b.ra.trans h.ra,?_,λaa r e=>?_,?_⟩,λc O=>?_
   .rw[c6];show u_ (mc.rs,R0 rs g.n)=u_ (rs,R0 rs p.n);rw[c4,h.n]
   .rw[c6] at e;cases e;exact c5
   .rw[c7,h.n,Z];show _=(nc (R0 rs p.n)).getD .non;unfold nc;split<;>rfl
   .unfold plc at O;rw[c6] at O;simp![Aaa,uI,uL,uS] at O;rcases O with z|rfl|rfl|rfl
    .exact .inl z
    .exact .inr c1
    .exact .inr c2
    .exact .inr c3
abbrev n9:oq (om Rw×Rn)->om D
 |none=> []
 |some (_,r)=>r.gs
abbrev Xv (p:Gp):D:=-[.tup (p.ra++n9 p.run),p.en.getD .non]
def BY {g:Gc}{s:Gs}{p:Gp}(h:nB g s p):Ms s=Xv p:=by
 unfold Ms Xv;rw[h.ra,h.en];have e:AaV s.run=n9 p.run:=by
  rw[<-h.run];cases s.run with
  |none=>rfl
  |some q=>rfl
 rw[e]
def Mr {p:Gp}(h:GI p):↑p.ra+↑(n9 p.run)<=1000:=by
 have h1:=h.ra.2.2;cases O:p.run with
 |none=>show _+0<=1000;omega
 |some q=>
  erw[q,rs,r];have h2:=(h.run rs r O).2.1;have h3:=h2.gs.2.2;have h4:=h2.n;show _+↑r.gs<=1000;omega
inductive Lp (CO CP CG CM:Addr):Sp
 |mk (o:Oc)(m:Str)(qs:List (Str×D))(xs:List V)(uk:List (Key×V))(p:Gp)(_:vs= [-o.x,!m])(_:OAt CO CP H o qs)(_:Qk qs)(_:H o.ls=u_ (.lst xs))(_:↑xs<=100000)(_:H o.du=u_ (.dK uk))(_:↑uk<=100000)(_:g0D m (qF qs m)=u_ p)(_:∀(g:Gc)(s:Gs)(H':Hp),Kp [o.ls,o.du] H H'->H' o.ls=u_ (.lst (xs++ [-g.x]))->H' o.du=u_ (.dK (lJ uk (Vf m) (.bl v_)))->l6 CG CM H' g s->nB g s p->g.o=o.x->(∀b>plc g s,H b=U_)->Q .non H')
inductive Dx (CO CP CG CM:Addr):Sp
 |mk (o:Oc)(qs:List (Str×D))(g:Gc)(s:Gs)(p:Gp)(rk fk:List (Key×V))(_:vs= [-o.x,-g.x])(_:OAt CO CP H o qs)(_:l6 CG CM H g s)(_:nB g s p)(_:GI p)(_:p.en.isSome=v_)(_:H o.dr=u_ (.dK rk))(_:↑rk<=100000)(_:H o.df=u_ (.dK fk))(_:↑fk<=100000)(_:o.dr≠o.df)(_:o.dr∉plc g s)(_:o.df∉plc g s)(_:∀(v1 v2:V)(H':Hp),Kp [o.dr,o.df] H H'->H' o.dr=u_ (.dK (lJ rk (Vf g.n) v1))->Is H' (Xv p) v1->H' o.df=u_ (.dK (lJ fk (Vf g.n) v2))->Is H' (Qt (p.en.getD .non)) v2->Q .non H')
def LY:#[C,12,a.Y6,a.Y9,["self","name"],(Lp a.qr a.qJ a.qK a.qm)]:=by
 have qS:=#[YG,T];have O:=#[LW,T,C];exists 9,T.iI,xI
 erw[h,o,m,qs,xs,uk,p,rfl,hO,hq,U,ap,Z,aq,hp,k];have hs:=uE;exists 3,%[#[qX,#[jU,vd,vJ,vK,YU,#[qO,5,pv 0,rfl],#v[#[zJ,T.M_Going,O,hr.mono (),T.m_Going,T.mC,qy,#v[pv 1,#[Qm,#[qO,5,pv 0,rfl],T.Q6,T.ii,qS,#v[pv 1]],pv 0]]]]]|#[Jo,#[qO,5,pv 0,rfl],pv 1,YA]]
 exists 0,o.x,_,o.dx,_,0,hO.e,T.qx,T.QE,L5 o,.inl [1:_:SqL.of U]
 exists 0,0,o.x,_,o.dx,_,0,hO.e,T.qx,T.Qe,PY o;erw[id hO.p,ak,dp,op,au,hx,hd,hk,hv]
 exists o.px,ak,0,hx,Yj,0,o.px,m,qs,1,hO.p,λsv h1 h2=>?_;have hm:m>qs.map (·.1):=(QB qs).gn m p hp;have af:=h1 hm;erw[j0 hq hm,hn,kk,e,al,g1,g2];rw[al] at af hp
 exists 0,λx dx aa ag nx=>?_;have s0:ic H (upd (upd H dx (.own x)) x (.ins a.qK dx [])):=λb o h=>by rwa[qi (qk h aa),qi (qk h ag)]
 have nox:o.x≠x:=qk hO.e aa
 exists x,dx,o.x,m,kk,sv,e,1,qg,af.mono s0.tk,hn,nox,⟨_,_,s0 _ _ hO.e,wC o _ ()⟩,λH1 s1 am aw G1 b1 b2=>[1:?_]
 have ac:ic H H1:=λb ob h=>am b ob (s0 b ob h) (qk h aa);have rel:nB ⟨x,o.x,m⟩ s1 p/\∀c>plc ⟨x,o.x,m⟩ s1,H c=none:=by
  unfold g0D at hp;simp only at hp;split at hp
  .cases hp
  .split at hp
   .rename_i c
    cases hp;have e1:=b1 c;rw[e1]
    exists ⟨1,1,1,1,(λ_ _ z=>by cases z),1⟩,λc hc=>?_
    rcases Aa.mp hc with rfl|hc
    .exact aa
    .cases hc
   .rename_i c
    cases hp;obtain⟨r1,r2⟩:=IJ (p:=⟨m,.non,[],U_,U_⟩) (b2 c) ⟨1,1,1,1,(λ_ _ z=>by cases z),1⟩ rfl rfl
    exists r1,λc hc=>?_;rcases r2 c hc with rfl|hc
    .exact aa
    .exact s0.free hc
 exists o.ls,xs,0,1,ac _ _ U,()
 have ah:Kp [o.ls,o.du] H1 (upd H1 o.ls (.lst (xs++ [-x]))):=⟨λb ob h n=>by rw[qi (λz=>n (by rw[z];exact uh))];exact h,iY.tk (p:=o.ls) (λb ob h n=>by rwa[qi n]) (ac _ _ U) qg⟩
 have n1:o.du≠o.ls:=λz=>by rw[z,U] at Z;cases Z
 have ad:upd H1 o.ls (.lst (xs++ [-x])) o.du=u_ (.dK uk):=by rw[qi n1];exact ac _ _ Z
 have n2:o.x≠o.ls:=λz=>by have:=hO.e;rw[z,U] at this;cases this
 have n3:o.x≠o.du:=λz=>by have:=hO.e;rw[z,Z] at this;cases this
 exists 0,o.x,_,o.dx,_,0,(by rw[qi n2];exact ac _ _ hO.e),T.qx,T.Qz,PV o,0,o.du,0,IQ.k (k:=Vf m) ad ()
 have ao:=((Kp.of (L:= [o.ls,o.du]) ac).trans ah).trans (Kp.updD (ys:=lJ uk (Vf m) (.bl v_)) ad (ug _ uh));refine k [x:o.x:m] s1 _ ao (by rw[qi n1.symm];exact qg) qg (G1.frame (λb hb ob h=>?_) ((ah.trans (Kp.updD (ys:=lJ uk (Vf m) (.bl v_)) ad (ug _ uh)))).tk) rel.1 rfl rel.2
 have ae:=rel.2 b hb;have m1:b≠o.ls:=λz=>by rw[z,U] at ae;cases ae
 have m2:b≠o.du:=λz=>by rw[z,Z] at ae;cases ae
 rw[qi m2,qi m1];exact h
def Eg:#[T,3,a.YW,a.Y0,["self","going"],(Dx a.qr a.qJ a.qK a.qm)]:=by
 have O:=#[PK,T];have Xl:=#[BF,T];have XO:=#[LS,T];exists 9,T.iS,xf
 erw[h,o,qs,g,st,p,rk,fk,rfl,hO,hG,hR,hI,ad,aa,ax,ae,ay,af,nr,nf,k];have hs:=uE;exists 3,%[#[Jo,#[qO,5,pv 0,rfl],#[qO,5,pv 1,rfl],#[QL,pv 1,T.qQ,T.mD,O]],#[Jo,#[qO,5,pv 0,rfl],#[qO,5,pv 1,rfl],#[qp,Xl,hr.mono (),T.l7,#v[#[qO,5,pv 1,rfl]]]]|#[qX,#[Qm,pv 0,T.qx,T.i9,XO,#v[pv 1]]]]
 erw[id hG,dx,fs,mv,av,rv,ev,e,f,i,j,aA,l];have au:o.dr≠g.x:=λz=>nr (by rw[z];exact uh)
 have aB:o.df≠g.x:=λz=>nf (by rw[z];exact uh)
 have ag:o.x≠o.dr:=λz=>by have:=hO.e;rw[z,aa] at this;cases this
 have ah:o.x≠o.df:=λz=>by have:=hO.e;rw[z,ae] at this;cases this
 have ak:↑(AaV st.run)=↑(n9 p.run):=by
  have:=BY hR;unfold Ms Xv at this;simp![D.tup.injEq,UU] at this;have:=this.1;rw[hR.ra] at this;rw[List.append_cancel_left this]
 exists 0,g.x,dx,fs,1,e,f.meth _ (),g,st,1,hG,(by rw[hR.ra,ak];exact Mr hI),λv1 H1 s1 i1=>?_
 rw[BY hR] at i1
 exists 0,o.x,_,o.dx,_,0,s1 _ _ hO.e,T.qx,T.Q5,Abo o,0,g.x,_,dx,fs,0,s1 _ _ e,T.qQ,T.Yn,f.Zl,o.dr,0,IQ.k (k:=Vf g.n) (s1 _ _ aa) ()
 have ac:Kp [o.dr,o.df] H (upd H1 o.dr (.dK (lJ rk (Vf g.n) v1))):=(Kp.of s1).trans (Kp.updD (s1 _ _ aa) uh);generalize U:upd H1 o.dr (.dK (lJ rk (Vf g.n) v1))=H2 at ac⊢;have al:H2 o.dr=u_ (.dK (lJ rk (Vf g.n) v1)):=by rw[<-U];exact qg
 have e2:H2 g.x=u_ (.ins a.qK dx fs):=by rw[<-U,qi au.symm];exact s1 _ _ e
 have am:H2 o.x=u_ (.ins a.qr o.dx (ofs o)):=by rw[<-U,qi ag];exact s1 _ _ hO.e
 have Z:H2 o.df=u_ (.dK fk):=by rw[<-U,qi af.symm];exact s1 _ _ ae
 have i2:Is H2 (Xv p) v1:=i1.mono (by rw[<-U];exact Tk.updD (s1 _ _ aa))
 have l2:Is H2 (p.en.getD .non) ev:=by rw[<-hR.en];exact l.mono ac.tk
 obtain⟨kk,ee,ao⟩:∃kk ee,p.en.getD .non=-[!kk,ee]:=by
  cases ap:p.en with
  |none=>rw[ap] at ad;cases ad
  |some d=>
   rcases hI.en d ap with⟨z,rfl⟩|⟨x,rfl,_⟩|⟨z,rfl⟩
   .exact[_:0]
   .exact[_:0]
   .exact[_:0]
 exists 0,g.x,_,dx,fs,0,e2,T.qQ,T.Q8,f.f_end,ev,kk,ee,1,(by rwa[<-ao]),λv2 H3 s3 i3=>?_
 rw[<-ao] at i3
 exists 0,o.x,_,o.dx,_,0,s3 _ _ am,T.qx,T.QC,L6 o,0,g.x,_,dx,fs,0,s3 _ _ e2,T.qQ,T.Yn,f.Zl,o.df,0,IQ.k (k:=Vf g.n) (s3 _ _ Z) ()
 have aq:Tk H3 (upd H3 o.df (.dK (lJ fk (Vf g.n) v2))):=Tk.updD (s3 _ _ Z);have aw:Kp [o.dr,o.df] H (upd H3 o.df (.dK (lJ fk (Vf g.n) v2))):=(ac.trans (Kp.of s3)).trans (Kp.updD (s3 _ _ Z) (ug _ uh))
 exists 0,o.x,o.dx,0,(by rw[qi ah];exact s3 _ _ am),wC o _ (),0,_,0
 exact k v1 v2 _ aw (by rw[qi af];exact s3 _ _ al) (i2.mono (s3.tk.trans aq)) qg (i3.mono aq)
end
variable {v:V}
def oQ:VB ("looked_up":Str) [(("by_name":Str),v)]=none:=by rfl
def AbI (k:Str):inV (V.str k) [V.str "has",V.str "names"]=mW k:=by
 have h:=zL k ["has","names"];refine h.trans ?_;unfold mW;rw[<-Bool.decide_or,ve];simp
section
variable {C CM CO:o3}{H:Hp}{g:Gc}{s:Gs}{p:Gp}{Q:VK}{E:XK}
def NR (G:l6 C CM H g s)(R:nB g s p)(I:GI p)(O:p.en=U_)(U:yJ p=u_ m)(k:∀kd v H',ic H H'->mW kd=Vc->Is H' (-[!kd,!m]) v->Q v H'):XA C CM [-g.x] H Q E:=by
 erw[kS I O U,hn,h];exists g,s,1,G;rcases h with⟨h1,h2⟩|⟨rs,r,h1,h2⟩
 .exact .inl ⟨R.none h1,m,by rw[R.mb,h2],λv H' s' i=>k _ v H' s' () i⟩
 .erw[R.some h1,mc,Z,e2,e3];exact .inr ⟨mc,r,_,Z,h2,λv i=>k _ v H (ic.refl _) () i⟩
def IW (G:l6 C CM H g s)(R:nB g s p)(I:GI p)(O:p.en=U_)(U:yJ p=U_)(k:∀rs r kd z v,p.run=u_ (rs,r)->r.th= .tup [-"asks",-[!kd,!z]]->mW kd=v_->isT (!z)=v_->nE qs p=Q1 p (xl qs kd z)->Is H (-[!kd,!z]) v->Q v H):XA C CM [-g.x] H Q E:=by
 erw[jN (qs:=qs) I O U,rs,r,kd,z,h1,h2,h3,h4,h5];erw[R.some h1,mc,Z,e2,e3];exact⟨g,s,1,G,.inr ⟨mc,r,_,Z,h2,λv i=>k rs r kd z v h1 h2 h3 h4 h5 i⟩⟩
def Dk (G:l6 C CM H g s)(R:nB g s p)(I:GI p)(Z:p.en=U_){d:D}{v:V}(hv:Is H d v)(U:∀rs r,p.run=u_ (rs,r)->∃u q,r.th= .tup [-"asks",-[!u,q]]/\AU u d=v_)(aa:g.o≠g.x)(ho:∃dx fs,H g.o=u_ (.ins CO dx fs)/\fs.lookup ("runner":Str)=U_)
  (k:∀H' s',Gw g s.run H H'->l6 C CM H' g s'->nB g s' (Q1 p d)->(∀b>plc g s',b>plc g s\/H b=U_)->Q .non H'):Xy C CM CO [-g.x,v] H Q E:=by
 refine⟨g,s,v,d,1,G,by rw[R.n];exact I.n,hv,aa,ho,?_⟩
 cases O:p.run with
 |none=>
  erw[I.no O Z,z,hz,_];have hr:=R.none O;refine .inl ⟨hr,z,by rw[R.mb,hz],λH' s' w G' b=>?_⟩
  obtain⟨r1,r2⟩:=IJ (p:=⟨p.n,p.mb,[-[-[-"rule",p.mb],d]],U_,U_⟩) b ⟨R.n,R.mb,(by show _= [D.tup [-[-"rule",p.mb],d]];rw[hz]),(by show s.run.map _=U_;rw[hr];rfl),R.own,(by show s.en= .non;rw[R.en,Z];rfl)⟩ rfl rfl
  refine k H' s' w G' ?_ λc hc=>?_
  .have:Q1 p d=mh ⟨p.n,p.mb,[-[-[-"rule",p.mb],d]],U_,U_⟩ d:=by
    unfold Q1;rw[O];show mh ⟨p.n,p.mb,_,U_,p.en⟩ d=_;rw[Z]
   rwa[this]
  .rcases r2 c hc with rfl|h
   .exact .inl uh
   .exact .inr h
 |some q=>
  erw[q,rs,r];erw[R.some O,mc,e1,e2,e3];erw[I.run rs r O,k1,k2,k3,k4];erw[U rs r O,u,q,h1,h2];subst e2;refine .inr ⟨mc,r,u,q,e1,e3,k1,k2,h1,h2,λH' w G'=>?_⟩;have ee:Q1 p d={p with run:=u_ (mc.rs,mi mc.rs p.n r d),en:=nc (mi mc.rs p.n r d)}:=by unfold Q1;rw[O]
  refine k H' _ w G' ?_ ?_
  .rw[ee,e3,R.n];unfold oS nc;by_cases c:QI (mi mc.rs p.n r d).th=v_
   .rw[A6 c,A6 c];exact⟨R.n,R.mb,R.ra,1,(λac r' z=>by cases z;exact e3),(by show s.en= .non;rw[R.en,Z];rfl)⟩
   .rw[A4 c,A4 c];exact⟨R.n,R.mb,R.ra,1,(λac r' z=>by cases z;exact e3),1⟩
  .intro b hb;left;unfold plc at hb⊢;rw[e1];unfold oS at hb;split at hb<;>exact hb
end
abbrev LO (o:Oc):om o3:= [o.ls,o.du,o.dr,o.df]
structure Bs (CO CP:o3)(H0:Hp)(o:Oc)(qs:om (Str×D)):Prop where
 oa:OAt CO CP H0 o qs
 ls:∃xs,H0 o.ls=u_ (.lst xs)
 du:∃xs,H0 o.du=u_ (.dK xs)
 dr:∃xs,H0 o.dr=u_ (.dK xs)
 df:∃xs,H0 o.df=u_ (.dK xs)
 nd:(LO o).Nodup
 q:Qk qs
section
variable {CO CP:o3}{H0 H H':Hp}{o:Oc}{qs:om (Str×D)}
def Bs.at (b:Bs CO CP H0 o qs)(k:Kp (LO o) H0 H):OAt CO CP H o qs:=b.oa.kp k (by
 intro p O;simp![LO,uI,uL,uS] at O;rcases O with rfl|rfl|rfl|rfl
 .exact .inl b.ls
 .exact .inr (.inl b.du)
 .exact .inr (.inl b.dr)
 .exact .inr (.inl b.df))
def Bs.new (b:Bs CO CP H0 o qs){c:o3}(h:H0 c=U_):c≠o.x/\c≠o.ls/\c≠o.du/\c≠o.dr/\c≠o.df:=by
 erw[b.ls,_,h1];erw[b.du,_,h2];erw[b.dr,_,h3];erw[b.df,_,h4];exact⟨(qk b.oa.e h).symm,(qk h1 h).symm,(qk h2 h).symm,(qk h3 h).symm,(qk h4 h).symm⟩
def Bs.nlo (b:Bs CO CP H0 o qs){c:o3}(h:H0 c=U_):c∉LO o:=by
 erw[b.new h,_,h1,h2,h3,h4];simp![LO,uI,uL,uS,V9];exact⟨h1,h2,h3,h4⟩
def Av (b:Bs CO CP H0 o qs)(k:Kp (LO o) H0 H)(h:∀c ob,H c=u_ ob->c∉o.df::L->H' c=u_ ob)(t:Tk H H')(O:∀c>L,H0 c=U_):Kp (LO o) H0 H':=⟨λc ob e n=>h c ob (k.kept c ob e n) (λz=>by
 rcases Aa.mp z with rfl|z
 .exact n (by simp[LO])
 .rw[O c z] at e;cases e),k.tk.trans t⟩
end
section
variable {qs:om (Str×D)}{n:Str}{p:Gp}{r don:om (Str×Gp)}
def Sc (U:p.en=U_)(Z:yJ p=U_):Sy.nxt #[Y,(n,p)::r,don]=[(n,nE qs p)::r:don]:=by
 have hf:(SyP qs).fin p=false:=by show p.en.isSome=Vc;rw[U];rfl
 have O:(SyP qs).want p=none:=Z;unfold Sy.nxt;simp only;rw[hf,A4 ud,O]
 rfl
def Abq (U:p.en=U_)(Z:yJ p=u_ m){a:oq D}(hy:Sy.yet #[Y,(n,p)::r,don] m=u_ (u_ a)):Sy.nxt #[Y,(n,p)::r,don]=[(n,Q1 p (a.getD .non))::r:don]:=by
 have hf:(SyP qs).fin p=false:=by show p.en.isSome=Vc;rw[U];rfl
 have O:(SyP qs).want p=u_ m:=Z;unfold Sy.nxt;simp only;rw[hf,A4 ud,O];simp only;rw[hy]
 rfl
def Sa (U:p.en=U_)(Z:yJ p=u_ m)(hy:Sy.yet #[Y,(n,p)::r,don] m=u_ U_):Sy.nxt #[Y,(n,p)::r,don]=[(n,Od p m)::r:don]:=by
 have hf:(SyP qs).fin p=false:=by show p.en.isSome=Vc;rw[U];rfl
 have O:(SyP qs).want p=u_ m:=Z;unfold Sy.nxt;simp only;rw[hf,A4 ud,O];simp only;rw[hy]
 rfl
def L7 (Z:p.en=U_)(hw:yJ p=u_ m)(U:Sy.yet #[Y,(n,p)::r,don] m=U_):∃p',g0D m (qF qs m)=u_ p'/\Sy.nxt #[Y,(n,p)::r,don]=[(m,p')::(n,p)::r:don]:=by
 have hf:(SyP qs).fin p=false:=by show p.en.isSome=Vc;rw[Z];rfl
 have O:(SyP qs).want p=u_ m:=hw;erw[Sy.jW U,_,[p',e],_];exists p',e;unfold Sy.nxt;simp only;rw[hf,A4 ud,O];simp only;rw[U];simp only;rw[e]
def Sb {d:D}(O:p.en=u_ d):Sy.nxt #[Y,(n,p)::r,don]=[r:don++ [(n,p)]]:=by
 have U:(SyP qs).fin p=true:=by show p.en.isSome=v_;rw[O];rfl
 unfold Sy.nxt;simp only;rw[U,A6 rfl]
 rfl
end
def kE {d:D}(h:XV d):AU "thing" d=true:=by
 unfold AU;rcases h with rfl|h
 .rfl
 .cases hn:yY d with
  |true=>rfl
  |false=>
   rw[A4 ud,A6 h,A4 ()]
   rfl
structure Rnd {qs:om (Str×D)}(CG CM:o3)(H0 H H1:Hp)(o:Oc)(S:Sy.Ss (SyP qs))(L0:om o3)(g:Gc)(s1:Gs)(n:Str)(p1:Gp)(r:om (Str×Gp))(fk1:om (Key×V))(top:Nat):Prop where
 st:∃j,#[Y,(n,p1)::r,S.don]=Sy.nx S j
 len:↑fk1+Sy.mu #[Y,(n,p1)::r,S.don]<=top
 kp:∀b ob,H b=u_ ob->b∉o.df::L0->H1 b=u_ ob
 tk:Tk H H1
 df:H1 o.df=u_ (.dK fk1)
 fd:Dd H1 S fk1
 go:l6 CG CM H1 g s1
 rel:nB g s1 p1
 pl:∀b>plc g s1,b>L0\/H b=U_/\H0 b=U_
 gi:SGI #[Y,(n,p1)::r,S.don]
inductive AaL (CO CP CG CM:Addr):Sp
 |mk (H0:Hp)(o:Oc)(qs:List (Str×D))(g:Gc)(s:Gs)(n:Str)(p:Gp)(r don:List (Str×Gp))(uk fk:List (Key×V))(top:Nat)(_:vs= [-o.x,-g.x])(_:Bs CO CP H0 o qs)(_:Kp (LO o) H0 H)(_:H o.du=u_ (.dK uk))(_:SS #[Y,(n,p)::r,don] uk)(_:(∀q>don,q.2.en.isSome=v_))(_:top<=100000)(_:g.o=o.x)(_:(∀b>plc g s,H0 b=U_))(_:Rnd CG CM H0 H H o #[Y,(n,p)::r,don] (plc g s) g s n p r fk top)(_:∀(v:V)(H':Hp)(s':Gs)(p':Gp)(fk':List (Key×V)),Rnd CG CM H0 H H' o #[Y,(n,p)::r,don] (plc g s) g s' n p' r fk' top->((v= .non/\p'.en.isSome=v_)\/∃m,v= .str m/\p'.en=U_/\yJ p'=u_ m/\Sy.yet #[Y,(n,p')::r,don] m=U_)->Q v H')
def Rnd.more {qs:om (Str×D)}{CG CM CO CP:o3}{H0 H H1 H2 H3:Hp}{o:Oc}{S:Sy.Ss (SyP qs)}{L0:om o3}{g:Gc}{s1 s3:Gs}{n:Str}{p1 p3:Gp}{r:om (Str×Gp)}{fk1 U:om (Key×V)}{top:Nat}(b:Bs CO CP H0 o qs)(k0:Kp (LO o) H0 H)(hL:∀b>L0,H0 b=U_)(h:Rnd CG CM H0 H H1 o S L0 g s1 n p1 r fk1 top)(k2:Kp [o.df] H1 H2)(f2:H2 o.df=u_ (.dK U))(d2:Dd H2 S U)(l2:↑U<=↑fk1+1)
  (ac:∀b ob,H2 b=u_ ob->b∉plc g s1->H3 b=u_ ob) (t3:Tk H2 H3) (G3:l6 CG CM H3 g s3) (R3:nB g s3 p3) (ae:∀b>plc g s3,b>plc g s1\/H2 b=U_) (e:Sy.nxt #[Y,(n,p1)::r,S.don]=[(n,p3)::r:S.don]):
  Rnd CG CM H0 H H3 o S L0 g s3 n p3 r U top/\Sy.mu #[Y,(n,p3)::r,S.don]<Sy.mu #[Y,(n,p1)::r,S.don]:=by
 have ad:=Sy.nxt_mu (QB qs) (S:=#[Y,(n,p1)::r,S.don]) (by intro z;cases z)
 rw[e] at ad;have af:∀b>plc g s1,H0 b=none:=λb hb=>(h.pl b hb).elim (hL b) (·.2);have nf:o.df∉plc g s1:=λz=>(b.new (af _ z)).2.2.2.2 rfl;have ag:∀b ob,H1 b=u_ ob->b∉o.df::plc g s1->H3 b=u_ ob:=λc ob q z=>ac c ob (k2.kept c ob q (λy=>z (by rw[Ab.mp y];exact uh))) (λy=>z (ug _ y))
 refine⟨⟨?_,by have:=h.len;omega,λc ob q z=>?_,(h.tk.trans k2.tk).trans t3,ac _ _ f2 nf,d2.mono t3,G3,R3,λc Z=>?_,?_⟩,ad⟩
 .erw[h.st,j,hj];exact⟨j+1,by show _=Sy.nxt (Sy.nx S j);rw[<-hj,e]⟩
 .refine ag c ob (h.kp c ob q z) λy=>?_;rcases Aa.mp y with rfl|y
  .exact z uh
  .rcases h.pl c y with y|⟨y,_⟩
   .exact z (ug _ y)
   .rw[q] at y;cases y
 .rcases ae c Z with Z|Z
  .exact h.pl c Z
  .have O:H1 c=none:=by
    cases hq:H1 c with
    |none=>rfl
    |some ob=>
     by_cases y:c=o.df
     .rw[y,f2] at Z;cases Z
     .rw[k2.kept c ob hq (λz=>y (Ab.mp z))] at Z;cases Z
   by_cases c0:c>L0
   .exact .inl c0
   .right;have aa:H c=none:=by
     cases hq:H c with
     |none=>rfl
     |some ob=>
      by_cases y:c=o.df
      .rw[y,h.df] at O;cases O
      .rw[h.kp c ob hq (λz=>by rcases Aa.mp z with z|z;exact y z;exact c0 z)] at O;cases O
    exists aa;cases hq:H0 c with
    |none=>rfl
    |some ob=>
     by_cases y:c>LO o
     .have:=Av b k0 h.kp h.tk hL;simp![LO,uI,uL,uS] at y;have keep:∀x,(∃xs,H0 x=u_ (.lst xs))\/(∃xs,H0 x=u_ (.dK xs))->H1 x≠none:=λx hx hn=>by
       rcases hx with⟨xs,hx⟩|⟨xs,hx⟩
       .erw[this.tk.lst x xs hx,ys,hy];rw[hy] at hn;cases hn
       .erw[this.tk.dct x xs hx,ys,hy];rw[hy] at hn;cases hn
      rcases y with rfl|rfl|rfl|rfl
      .exact A8 O (keep _ (.inl b.ls))
      .exact A8 O (keep _ (.inr b.du))
      .exact A8 O (keep _ (.inr b.dr))
      .exact A8 O (keep _ (.inr b.df))
     .rw[k0.kept c ob hq y] at aa;cases aa
 .have:=Ev b.q h.gi;rwa[e] at this
section
variable {P:og}{w:oh}{K:o0}{mg:Str->oq o6}{base:o9}{a:Ad}{g:Ga}
def Abl:#[C,11,a.Y2,a.ja,["self","going"],(AaL a.qr a.qJ a.qK a.qm)]:=by
 have WP:=#[Ed,T];have JV:=#[LV,T,C];have yq:=#[oI,T];have Qb:=#[Ec,T];exists 9,T.jJ,yn
 erw[h,H0,o,qs,Z,st,n,p,r,don,uk,fk,top,rfl,hB,hK,aK,hU,ap,aX,aq,hL,h0,k];have hs:=uE;exists 3,%[#[ZV,6,uT,#[qq,yT,#[qO,5,pv 1,rfl],qT,qw _],%[#[qE,(2),yn.nd,#[QL,pv 1,T.qQ,T.me,WP]],#[qH,#[qq,Q0,#[qC,qD,pv 2],#[qG,#v[ql,ql]],#[w]],%[#[qX,#[Qm,pv 1,T.qQ,T.iW,JV,#v[#[Qm,#[qO,5,pv 0,rfl],T.Q6,T.iH,yq,#v[pv 2]]]]]|Ag],qt],#[qE,(3),yn.nd,#[Qm,pv 0,T.qx,T.io,Qb,#v[#[qC,qD,pv 2]]]],#[qH,#[qq,yT,pv 3,qT,qw _],%[|#[qo,#[qC,qD,pv 2]]],qt]|#[qH,#[qq,QN,#[qC,qD,pv 3],ql,qw _],%[|#[qX,#[Qm,pv 1,T.qQ,T.iW,JV,#v[#[qC,qD,pv 3]]]]],%[|#[qH,#[qq,QN,#[qC,qD,pv 3],ql,qw _],%[|#[qX,#[Qm,pv 1,T.qQ,T.iW,JV,#v[qT]]]],%[|#[Qf,8,pv 1,#[qG,#v[ql,#[qC,qD,pv 2]]],rfl]]]]]]]|#[qo,qT]]
 let J_:Nat->L2.St->Hp->Prop:=λmm σ H1=>∃(s1:Gs) (p1:Gp) (fk1:om (Key×V)) (u3 u4:oq V),σ= [u_ (-o.x),u_ (-Z.x),u3,u4]/\mm=Sy.mu #[Y,(n,p1)::r,don]/\Rnd a.qK a.qm H0 H H1 o #[Y,(n,p)::r,don] (plc Z st) Z s1 n p1 r fk1 top
 exists J_,⟨_,st,p,fk,U_,U_,1,1,h0⟩;rintro mm σ H1 ⟨s1,p1,fk1,u3,u4,rfl,rfl,O⟩;have aL:=Av hB hK O.kp O.tk hL;have aa:=hB.at aL;have au:∀b>plc Z s1,H0 b=none:=λb hb=>(O.pl b hb).elim (hL b) (·.2);erw[O.gi (n,p1) (.inl uh),hI,aZ];have hI:GI p1:=hI;have aw:H1 o.du=u_ (.dK uk):=O.kp _ _ aK (λz=>by
  rcases Aa.mp z with z|z
  .have:=hB.nd;simp[LO] at this;exact this.2.1.2 z
  .exact(hB.new (hL _ z)).2.2.1 rfl)
 erw[id O.go,dx,fs,mv,av,rv,ev,e,f,i,j,a1,l];have a2:↑fs<1000:=by have:=f.len;omega
 exists 0,Z.x,_,dx,fs,0,e,T.qQ,T.Q8,f.f_end,1,0;cases he:p1.en with
 |some d=>
  have l':Is H1 d ev:=by have:=l;rwa[O.rel.en,he] at this
  have aM:d≠ .non:=by rcases hI.en d he with⟨z,rfl⟩|⟨x,rfl,_⟩|⟨z,rfl⟩<;>(intro z;cases z)
  refine iZ (um (jL l' aM)) ?_;exact k _ H1 s1 p1 fk1 O (.inl ⟨1,by rw[he];rfl⟩)
 |none=>
  have l':Is H1 .non ev:=by have:=l;rwa[O.rel.en,he] at this
  cases(show ev= .non from l')
  refine lV (uj rfl) ?_
  exists λσ' H'=>∃m',m'<Sy.mu #[Y,(n,p1)::r,don]/\J_ m' σ' H',λ_ _ h=>h;exists 8,B1,b1;have ax:Z.o≠Z.x:=by rw[aq];exact(hB.new (hL _ uh)).1.symm
  have ak:∀H2:Hp,(∀b ob,H1 b=u_ ob->b∉o.df::plc Z s1->H2 b=u_ ob)->∃dx fs,H2 Z.o=u_ (.ins a.qr dx fs)/\fs.lookup ("runner":Str)=none:=λH2 h2=>⟨_,_,(by rw[aq];exact h2 _ _ aa.e (λz=>by
   rcases Aa.mp z with z|z
   .have:=aa.e;rw[z,O.df] at this;cases this
   .exact(hB.new (au _ z)).1 rfl)),wC o _ ()⟩
  cases hw:yJ p1 with
  |none=>
   exists 0,Z.x,dx,fs,1,e,f.meth _ ()
   refine IW (E:=E0) (qs:=qs) O.go O.rel hI he hw λrs rr kd z v ay al ac hz aA hv=>b1 _ _ ?_;exists 8,B2,b2;erw[id hv,q,ws,rfl,hq,w1,r1,rfl,[rfl,aN],w2,r2,rfl,[rfl,aB],h3];cases(show r2= [] from h3)
   exists 0,q,_,_,0,1,SqT.of hq,1,(sml rfl),λt ht=>?_;have s2:=qf ht (-[V.str "has",V.str "names"])
   exists t,0,.inr (SqT.of qg),1,1,0;refine lV ((AbI kd).trans ac) ?_;erw[id aa.p,aO,dp,op,a3,hx,hd,hk,a4];have a5:↑z<=300:=by
    have:=yG hz;simp![iR,QA,uG,vk] at this;exact this.1
   erw[Wn hB.q z ac,a6,aP];generalize a7:upd H1 t (-[V.str "has",V.str "names"])=H2 at s2⊢;have fin:∀(u:V) (H3:Hp),ic H2 H3->Is H3 (xl qs kd z) u->Xy a.qK a.qm a.qr [-Z.x,u] H3 (λ_ H4=>∃m',m'<Sy.mu #[Y,(n,p1)::r,don]/\J_ m' [u_ (-o.x),u_ (-Z.x),u_ (-q),u4] H4) E0:=λu H3 s3 hu=>by
    have U:=s2.trans s3;refine Dk (O.go.same U) O.rel hI he hu (λaQ r' e'=>?_) ax (ak H3 λb ob h _=>U b ob h) λH4 s4 w4 G4 R4 aR=>?_
    .rw[ay] at e';cases e';exact⟨kd,_,al,aP⟩
    .rw[<-aA] at R4;have kq:∀b ob,H3 b=u_ ob->b∉plc Z s1->H4 b=u_ ob:=λb ob h n=>w4.kept b ob h (λy=>n (by rw[y];exact uh)) (λmc r' y=>by
      unfold plc at n;rw[y] at n;simp![Aaa,uI,uL,uS,V9] at n;exact[n.2.1:n.2.2.1:n.2.2.2])
     erw[O.more hB hK hL (Kp.of U) (U _ _ O.df) (O.fd.mono U.tk) (HH _) kq w4.tk G4 R4 aR (Sc he hw),m1,m2];exact⟨_,m2,s4,_,fk1,_,0,1,m1⟩
   exists 0,Z.x,dx,fs,1,s2 _ _ e,f.meth _ ()
   exists 0,o.x,_,o.dx,_,0,s2 _ _ aa.e,T.qx,T.Qe,PY o
   exists o.px,aO,0,s2 _ _ hx,oQ,0,o.px,q,kd,z,qs,1,aa.p.same s2,hB.q,s2 _ _ hq,()
   have aC:kd="has"\/kd≠"has"/\kd="names":=by
    unfold mW at ac;by_cases c:kd="has"
    .exact .inl c
    .rw[um c,TD] at ac;exact .inr [c:uA ac]
   rcases aC with c|⟨c',c⟩
   .refine .inl [c:fin _ H2 (ic.refl _) ?_];unfold xl;rw[A6 c];exact yx (by split<;>decide)
   .refine .inr [c:λu H3 s3 hu=>fin u H3 s3 ?_];unfold xl;rwa[A4 c']
  |some m=>
   erw[kS hI he hw,a8,al]
   exists 0,Z.x,dx,fs,1,e,f.meth _ ()
   refine NR (E:=E0) O.go O.rel hI he hw λkd v H2 s2 ac hv=>b1 _ _ ?_;exists 8,B2,b2;erw[id hv,q,ws,rfl,hq,w1,r1,rfl,[rfl,aN],w2,r2,rfl,[rfl,aB],h3];cases(show r2= [] from h3)
   exists 0,q,_,_,0,1,SqT.of hq,1,(sml rfl),λt ht=>?_;have s3:=qf ht (-[V.str "has",V.str "names"])
   exists t,0,.inr (SqT.of qg),1,1,0;refine iZ ((AbI kd).trans ac) (b2 _ _ ?_);exists 8,B3,b3;generalize upd H2 t (-[V.str "has",V.str "names"])=H3 at s3⊢;have U:=s2.trans s3;have aD:=s3 _ _ hq;have aE:SGI #[Y,(n,p1)::r,don]:=O.gi
   exists 0,o.x,o.dx,0,U _ _ aa.e,wC o _ ()
   exists 0,q,_,_,0,1,SqT.of aD,1,o,m,qs,#[Y,(n,p1)::r,don],uk,fk1,1,[U _ _ aa.e:aa.p.same U],hB.q,aE,U _ _ aw,hU,U _ _ O.df,O.fd.mono U.tk,(by have:=O.len;omega),ap,λu H4 am k4 f4 d4 l4 aS y4=>?_
   have ad:Kp [o.df] H1 H4:=(Kp.of U).trans k4;have aF:H4 q=u_ (-[V.str kd,V.str m]):=k4.tk.tup _ _ aD;have aT:o.df∉plc Z s1:=λz=>(hB.new (au _ z)).2.2.2.2 rfl;have G4:l6 a.qK a.qm H4 Z s1:=O.go.frame (λb hb ob h=>ad.kept b ob h (λz=>aT (by rwa[<-Ab.mp z]))) ad.tk
   erw[id G4,ao,ae,a9,bb,bc,bd,e4,af,i4,j4,aG,bg];refine b3 _ _ ?_;exists 8,B4,b4
   exists 0,1,0;unfold AV at y4;cases hy:Sy.yet #[Y,(n,p1)::r,don] m with
   |none=>
    rw[hy] at y4;cases(show u= .non from y4)
    refine lV (uj rfl) ⟨0,q,_,_,0,1,SqT.of aF,1,?_⟩;refine k _ H4 s1 p1 am ⟨O.st,(by rw[aS hy];exact O.len),λb ob h z=>ad.kept b ob (O.kp b ob h z) (λy=>z (by rw[Ab.mp y];exact uh)),O.tk.trans ad.tk,f4,d4,G4,O.rel,O.pl,O.gi⟩ (.inr ⟨m,1,he,hw,hy⟩)
   |some oa=>
    rw[hy] at y4;erw[y4,d,hd,ha,_];have sh:∃kk rr,d= .tup (.str kk::rr):=by
     cases oa with
     |none=>erw[ha,kk,rr,h,_];exact[kk:rr:h]
     |some x=>cases x with
      |none=>exact[_:_:ha]
      |some y=>exact[_:_:ha]
    erw[sh,kk,rr,rfl];erw[id hd,qa,wa,rfl,ag,w1,r1,rfl,[rfl,aY],h3];refine iZ (um (λz=>by cases z)) (b4 _ _ ?_)
    exists 0,qa,_,_,0,1,SqT.of ag,qz (j:=0) rfl,1,0;have fin:∀(dd:D) (u:V),Is H4 dd u->XV dd->Sy.nxt #[Y,(n,p1)::r,don]=⟨(n,Q1 p1 dd)::r,don⟩->Xy a.qK a.qm a.qr [-Z.x,u] H4 (λ_ H5=>∃m',m'<Sy.mu #[Y,(n,p1)::r,don]/\J_ m' [u_ (-o.x),u_ (-Z.x),u_ (-q),u_ (-qa)] H5) E0:=λdd u hu hok ah=>by
     refine Dk G4 O.rel hI he hu (λaQ r' e'=>?_) ax (ak H4 λb ob h n=>ad.kept b ob h (λz=>n (by rw[Ab.mp z];exact uh))) λH5 s5 w5 G5 R5 aU=>?_
     .rcases al with⟨h1,_⟩|⟨rs,rr,h1,h2⟩
      .rw[h1] at e';cases e'
      .rw[h1] at e';cases e';exact⟨"thing",_,h2,kE hok⟩
     .have kq:∀b ob,H4 b=u_ ob->b∉plc Z s1->H5 b=u_ ob:=λb ob h n=>w5.kept b ob h (λy=>n (by rw[y];exact uh)) (λmc r' y=>by
       unfold plc at n;rw[y] at n;simp![Aaa,uI,uL,uS,V9] at n;exact[n.2.1:n.2.2.1:n.2.2.2])
      erw[O.more hB hK hL ad f4 d4 l4 kq w5.tk G5 R5 aU ah,m1,m2];exact⟨_,m2,s5,_,am,_,0,1,m1⟩
    cases oa with
    |some x=>
     have hok:=MN hB.q aE hy;have ah:=Abq he hw hy;cases x with
     |some y=>
      cases(show D.tup (.str kk::rr)= .tup [-"value",y] from ha)
      erw[h3,w5,r5,rfl,h5,h6];cases(show r5= [] from h6)
      refine lV (uj rfl) ?_;exact⟨0,Z.x,ao,ae,1,e4,af.meth _ (),0,qa,_,_,0,1,SqT.of ag,1,fin y w5 h5 hok ah⟩
     |none=>
      cases(show D.tup (.str kk::rr)= .tup [-"lack"] from ha)
      refine iZ () ?_
      exists 0,qa,_,_,0,1,SqT.of ag,qz (j:=0) rfl,1,0;refine lV (uj rfl) ?_;exact⟨0,Z.x,ao,ae,1,e4,af.meth _ (),fin .non .non rfl hok ah⟩
    |none=>
     erw[ha,k2,r2,e5,c1,c2];cases e5;refine iZ (um (λz=>c1 (V.str.inj z))) ?_
     exists 0,qa,_,_,0,1,SqT.of ag,qz (j:=0) rfl,1,0;refine iZ (um (λz=>c2 (V.str.inj z))) ?_
     exists 0,q,_,_,0,1,SqT.of aF,1,(sml rfl),λt5 aH=>?_;have s5:=qf aH (-[V.str "stuck",V.str m]);have aI:↑ae<1000:=by have:=af.len;omega
     exists 0,Z.x,_,ao,ae,1,s5 _ _ e4,T.qQ,T.Q8,aI;have aV:=Is.new (H:=H4) (ds:= [-"stuck",!m]) (p:=t5) ⟨_,0,yx (),_,0,[1:aB],1⟩ aH
     erw[W6 (C:=a.qK) (CM:=a.qm) (g:=Z) (s:={s1 with en:= .tup [-"stuck",!m]}) (s5 _ _ e4) (af.set_end (u:=-t5)) (i4.mono s5.tk) (j4.mono s5.tk) (aG.same s5) aV,g1,g2]
     have aJ:nB Z {s1 with en:= .tup [-"stuck",!m]} (Od p1 m):=⟨O.rel.n,O.rel.mb,O.rel.ra,O.rel.run,O.rel.own,1⟩
     have aW:Kp [o.df] H1 (upd H4 t5 (-[V.str "stuck",V.str m])):=ad.trans (Kp.of s5);obtain⟨m1,m2⟩:=O.more hB hK hL aW (s5 _ _ f4) (d4.mono s5.tk) l4 (λb ob h n=>g2.kept b ob h (λy=>n (by rw[y];exact uh))) g2.tk g1 aJ (λb hb=> .inl hb) (Sa he hw hy)
     exact⟨_,m2,_,_,am,_,0,1,m1⟩
abbrev Xs (CG CM:o3)(H:Hp)(ox:o3):om (Gc×Gs)->om (Str×Gp)->Prop
 | [],[]=>True
 |q::t,p::l=>l6 CG CM H q.1 q.2/\nB q.1 q.2 p.2/\q.1.o=ox/\Xs CG CM H ox t l
 |_,_=>False
abbrev O4:om (Gc×Gs)->om o3
 | []=> []
 |q::t=>plc q.1 q.2++O4 t
abbrev Sep:om (Gc×Gs)->Prop
 | []=>True
 |q::t=>(∀b>plc q.1 q.2,b∉O4 t)/\Sep t
def Xs.frame {CG CM ox:o3}{H H':Hp}:∀{st:om (Gc×Gs)}{l:om (Str×Gp)},Xs CG CM H ox st l->(∀b>O4 st,∀ob,H b=u_ ob->H' b=u_ ob)->Tk H H'->Xs CG CM H' ox st l
 | [],[],_,_,_=>trivial
 | [],_::_,h,_,_=>h.elim
 |_::_,[],h,_,_=>h.elim
 |q::t,p::l,⟨h1,h2,h3,h4⟩,hk,tk=>⟨h1.frame (λb O=>hk b (vf _ O)) tk,h2,h3,Xs.frame h4 (λb O=>hk b (uN _ O)) tk⟩
def Xs.there {CG CM ox:o3}{H:Hp}:∀{st:om (Gc×Gs)}{l:om (Str×Gp)},Xs CG CM H ox st l->∀b>O4 st,∃ob,H b=u_ ob
 | [],[],_=>λb O=>by cases O
 | [],_::_,h=>h.elim
 |_::_,[],h=>h.elim
 |q::t,p::l,⟨h1,h2,h3,h4⟩=>λb O=>by
  rcases Ac.mp O with O|O
  .exact h1.there b O
  .exact Xs.there h4 b O
def Xs.len {CG CM ox:o3}{H:Hp}:∀{st:om (Gc×Gs)}{l:om (Str×Gp)},Xs CG CM H ox st l->↑st=↑l
 | [],[],_=>rfl
 | [],_::_,h=>h.elim
 |_::_,[],h=>h.elim
 |q::t,p::l,⟨h1,h2,h3,h4⟩=>by rw[uw,uw,Xs.len h4]
def BM {Y:Sy}:∀l:om (Str×Y.G),↑l<=Sy.lfts l
 | []=>ur _
 |(_,g)::r=>by
  have:=BM r;show ↑r+1<=Y.lft g+1+Sy.lfts r;omega
def Adc (O:Qk qs)(n:Str):Sy.mu (Sy.S0 (SyP qs) n)<=20000:=by
 have U:=O.2.2;have Z:∀S:Sy.Ss (SyP qs),↑(Sy.rest S)<=60:=λS=>by
  have h1:↑(Sy.rest S)<=(qs.map (·.1)).length:=tI _ _;rw[uc] at h1;omega
 unfold Sy.mu;have h2:=Z (Sy.S0 (SyP qs) n);have h3:(SyP qs).M=302:=rfl;rw[h3];have h4:Sy.lfts (Sy.S0 (SyP qs) n).stk<=303:=by
  unfold Sy.S0;cases hg:(SyP qs).g0 n with
  |none=>exact uQ _
  |some g=>
   have:=(QB qs).l0 n g hg;show(SyP qs).lft g+1+0<=303;have h3:(SyP qs).M=302:=rfl;omega
 omega
structure OI {qs:om (Str×D)}(CG CM:o3)(H0 H:Hp)(o:Oc)(n0:Str)(S:Sy.Ss (SyP qs))(st:om (Gc×Gs))(uk rk fk:om (Key×V)):Prop where
 kp:Kp (LO o) H0 H
 nx:∃j,S=Sy.nx (Sy.S0 (SyP qs) n0) j
 ls:H o.ls=u_ (.lst (st.reverse.map λq=>V.ref q.1.x))
 du:H o.du=u_ (.dK uk)
 uo:SS S uk
 ul:↑uk+Sy.mu S<=20001
 dr:H o.dr=u_ (.dK rk)
 rks:rk.map (·.1)=S.don.map λp=>Vf p.1
 rv:L2.IsL H (S.don.map λp=>Xv p.2) (rk.map (·.2))
 rl:↑S.don+Sy.mu S<=20001
 df:H o.df=u_ (.dK fk)
 fd:Dd H S fk
 fl:↑fk+Sy.mu S<=20001
 stk:Xs CG CM H o.x st S.stk
 new:∀b>O4 st,H0 b=U_
 sep:Sep st
 gi:SGI S
 fin:∀q>S.don,(Gp.en q.2).isSome=v_
 nd:(S.stk.map (·.1)++S.don.map (·.1)).Nodup
def SV (n:Str)(j:Nat):((Sy.nx (Sy.S0 (SyP qs) n) j).stk.map (·.1)++(Sy.nx (Sy.S0 (SyP qs) n) j).don.map (·.1)).Nodup:=by
 cases O:(SyP qs).g0 n with
 |some g=>exact(Sy.nx_ok (QB qs) (Sy.S0_ok O) j).nd
 |none=>
  have e:Sy.nx (Sy.S0 (SyP qs) n) j=⟨[],[]⟩:=by
   have U:Sy.S0 (SyP qs) n=⟨[],[]⟩:=by unfold Sy.S0;rw[O]
   rw[U]
   induction j with
   |zero=>rfl
   |succ j Z=>show Sy.nxt _=_;rw[Z];rfl
  rw[e];exact vQ
inductive Oi (CO CP:Addr):Sp
 |mk (o:Oc)(qs:List (Str×D))(n:Str)(_:vs= [-o.x,!n])(_:Bs CO CP H o qs)(_:H o.ls=u_ (.lst []))(_:H o.du=u_ (.dK []))(_:H o.dr=u_ (.dK []))(_:H o.df=u_ (.dK []))(_:∀(H':Hp)(rk uk fk:List (Key×V))(don:List (Str×Gp))(j:Nat),H' o.du=u_ (.dK uk)->SS #[Y,[],don] uk->H' o.df=u_ (.dK fk)->Dd H' #[Y,[],don] fk->↑fk<=20001->SGI #[Y,[],don]->Kp (LO o) H H'->Sy.nx (Sy.S0 (SyP qs) n) j=⟨[],don⟩->H' o.dr=u_ (.dK rk)->(rk.map (·.1)=don.map λp=>Vf p.1)->L2.IsL H' (don.map λp=>Xv p.2) (rk.map (·.2))->(∀p>don,GI p.2/\p.2.en.isSome=v_)->↑don<=20001->Q .non H')
def KZ {α:Type}{xs:om α}{x:α}:atI (xs++ [x]) (-1)=u_ x:=by
 unfold atI ixN;have O:↑(xs++ [x])=↑xs+1:=by simp
 rw[A4 (),A6 ()]
 show(xs++ [x])[(-1+(↑(xs++ [x]):Int)).toNat]? =u_ x;rw[show(-1+(↑(xs++ [x]):Int)).toNat=↑xs by omega]
 simp
def Nm {Y:Sy}(S:Sy.Ss Y)(i:Nat):∀j,Sy.nx S (i+j)=Sy.nx (Sy.nx S i) j
 |0=>rfl
 |j+1=>by show Sy.nxt (Sy.nx S (i+j))=Sy.nxt (Sy.nx (Sy.nx S i) j);rw[Nm S i j]
def Abt {qs:om (Str×D)}(S:Sy.Ss (SyP qs)):∀j,Sy.mu (Sy.nx S j)<=Sy.mu S
 |0=>ur _
 |j+1=>by
  have h:=Abt S j;show Sy.mu (Sy.nxt (Sy.nx S j))<=_;by_cases c:(Sy.nx S j).stk= []
  .have e:Sy.nxt (Sy.nx S j)=Sy.nx S j:=by unfold Sy.nxt;rw[c]
   rwa[e]
  .have:=Sy.nxt_mu (QB qs) c;omega
def Pk:#[C,13,a.yI,a.yO,["self","name"],(Oi a.qr a.qJ)]:=by
 have Qb:=#[Ec,T];have Y5:=#[LY,T,C];have XI:=#[Abl,T,C];have xN:=#[Eg,T];exists 9,T.iK,QO
 erw[h,o,qs,n,rfl,hB,bF,bo,bG,bH,k];have hs:=uE;have hO:=hB.oa;exists 3,%[#[qH,#[qq,yT,#[Qm,pv 0,T.qx,T.io,Qb,#v[pv 1]],qT,qw _],%[|#[qX,#[Qm,pv 0,T.qx,T.iI,Y5,#v[pv 1]]]],qt]|#[ZV,6,uT,#[Bu,3,#[qO,5,pv 0,rfl],(λ_=>rfl)],%[#[qE,(2),QO.nd,#[qC,7,Qa,#[qO,5,pv 0,rfl],#[Aa7,6,MP,qh],(λ_ _=>rfl)]],#[qE,(3),QO.nd,#[Qm,pv 0,T.qx,T.jJ,XI,#v[pv 2]]]|#[qH,#[qq,yT,pv 3,qT,qw _],%[#[qX,#[Nf,9,vd,PySem.F.slot_list_pop,PySem.F.type_list_pop,Nq,#[qO,5,pv 0,rfl],_,_]],#[qX,#[LE,7,#[qO,5,pv 0,rfl],#[qO,5,pv 2,rfl],⟨1,1,1,1⟩]]|#[qX,#[Qm,pv 0,T.qx,T.iS,xN,#v[pv 2]]]],%[|#[qX,#[Qm,pv 0,T.qx,T.iI,Y5,#v[pv 3]]]]]]]]
 have bI:=Adc hB.q n;exists 8,N,hN;have bJ:∀(H1:Hp) (S:Sy.Ss (SyP qs)) (st:om (Gc×Gs)) (uk rk fk:om (Key×V)),OI a.qK a.qm H H1 o n S st uk rk fk->N [u_ (-o.x),u_ (!n),U_,U_] H1:=by
  intro H1 S st uk rk fk h1;refine hN _ _ ?_
  let J_:Nat->L2.St->Hp->Prop:=λmm σ H2=>∃(S:Sy.Ss (SyP qs)) (st:om (Gc×Gs)) (uk rk fk:om (Key×V)) (u3 u4:oq V),σ= [u_ (-o.x),u_ (!n),u3,u4]/\mm=Sy.mu S/\OI a.qK a.qm H H2 o n S st uk rk fk
  exists J_,⟨_,S,st,uk,rk,fk,U_,U_,1,1,h1⟩;clear h1 bo bG bH bF;rintro mm σ H2 ⟨S,st,uk,rk,fk,u3,u4,rfl,rfl,Z⟩;have bp:=hB.at Z.kp
  exists 0,o.x,_,o.dx,_,0,bp.e,T.qx,T.QE,L5 o,_,.inl [_:SqL.of Z.ls:1];obtain⟨(stk:om (Str×Gp)),(don:om (Str×Gp))⟩:=S;have ax:Xs a.qK a.qm H2 o.x st stk:=Z.stk;cases st with
  |nil=>
   cases stk with
   |cons p l=>exact ax.elim
   |nil=>
    refine iZ rfl ?_;erw[Z.nx,j,hj];exact k H2 rk uk fk don j Z.du Z.uo Z.df Z.fd (by have:=Z.fl;omega) Z.gi Z.kp hj.symm Z.dr Z.rks Z.rv (λp hp=>[(Z.gi p (.inr hp)).1:Z.fin p hp]) (by have:=Z.rl;have e:↑(#[Y,[],don].don)=↑don:=rfl;omega)
  |cons q t=>
   erw[q,gc,gs];cases stk with
   |nil=>exact ax.elim
   |cons p l=>
    erw[p,O,p];erw[ax,hG,bq,bK,hT];have hG:l6 a.qK a.qm H2 gc gs:=hG;have bq:nB gc gs p:=bq;have am:H2 o.ls=u_ (.lst ((t.reverse.map λq=>V.ref q.1.x)++ [V.ref gc.x])):=by
     have:=Z.ls;rwa[V3,uq] at this
    refine lV (by rw[V3,uq];show(!((rZ _ t.reverse)++ [V.ref gc.x]).isEmpty)=v_;simp) ?_
    exists λσ' H'=>∃m',m'<Sy.mu #[Y,(O,p)::l,don]/\J_ m' σ' H',λ_ _ h=>h;exists 8,B1,b1
    exists 0,o.x,_,o.dx,_,0,bp.e,T.qx,T.QE,L5 o,0,o.ls,_,_,0,1,SqL.of am,KZ,b1 _ _ ?_;exists 8,B2,b2;have ao:∀b>plc gc gs,H b=none:=λb U=>Z.new b (vf _ U);have ac:∀b>O4 t,H b=none:=λb U=>Z.new b (uN _ U);have bL:∃j,#[Y,(O,p)::l,don]=Sy.nx #[Y,(O,p)::l,don] j:=[(0):1]
    exists 0,o.x,o.dx,0,bp.e,wC o _ (),0,H,o,qs,gc,gs,O,p,l,don,uk,fk,(20001),1,hB,Z.kp,Z.du,Z.uo,Z.fin,(),bK,ao,⟨bL,Z.fl,λ_ _ h _=>h,Tk.refl _,Z.df,Z.fd,hG,bq,λb U=> .inl U,Z.gi⟩,λv H3 ak p3 ad hR hv=>?_
    have aV:Sy.mu #[Y,(O,p3)::l,don]<=Sy.mu #[Y,(O,p)::l,don]:=by
     erw[hR.st,j,hj];have hj:#[Y,(O,p3)::l,don]=Sy.nx #[Y,(O,p)::l,don] j:=hj;rw[hj];exact Abt _ _
    have bM:∃j,#[Y,(O,p3)::l,don]=Sy.nx (Sy.S0 (SyP qs) n) j:=by
     erw[hR.st,j,hj];erw[Z.nx,i,hi];have hj:#[Y,(O,p3)::l,don]=Sy.nx #[Y,(O,p)::l,don] j:=hj;exact⟨i+j,by rwa[Nm,<-hi]⟩
    have ap:Kp (LO o) H H3:=Av hB Z.kp hR.kp hR.tk ao;have ay:=hB.at ap;have aq:∀b>plc gc ak,H b=none:=λb U=>(hR.pl b U).elim (ao b) (·.2);have out:∀b,b>LO o->b≠o.df->b∉o.df::plc gc gs:=λb U hn z=>by
     rcases Aa.mp z with z|z
     .exact hn z
     .exact hB.nlo (ao b z) U
    have b4:o.ls≠o.du/\o.ls≠o.dr/\o.ls≠o.df/\o.du≠o.dr/\o.du≠o.df/\o.dr≠o.df:=by
     have h:=hB.nd;simp![LO,vZ,uI,uL,uS,V9,vQ,and_true,V2] at h;exact⟨h.1.1,h.1.2.1,h.1.2.2,h.2.1.1,h.2.1.2,h.2.2⟩
    erw[b4,d1,d2,d3,d4,d5,d6];have af:=hR.kp _ _ am (out _ (by simp[LO]) d3)
    have aA:=hR.kp _ _ Z.du (out _ (by simp[LO]) d5)
    have aB:=hR.kp _ _ Z.dr (out _ (by simp[LO]) d6)
    have bt:Xs a.qK a.qm H3 o.x t l:=hT.frame (λb U ob h=>hR.kp b ob h (λz=>by
     rcases Aa.mp z with z|z
     .exact(hB.new (ac b U)).2.2.2.2 z
     .exact Z.sep.1 b z U)) hR.tk
    have bu:∀b>plc gc ak,b∉O4 t:=λb U z=>by
     rcases hR.pl b U with U|⟨U,_⟩
     .exact Z.sep.1 b U z
     .erw[hT.there b z,ob,e];rw[e] at U;cases U
    have b5:GI p3:=(hR.gi (O,p3) (.inl uh)).1;have aW:p3.n=O:=(hR.gi (O,p3) (.inl uh)).2;have bN:=Z.ul;have bO:=hR.len;have b6:=Z.rl;have cp:↑don+Sy.mu #[Y,(O,p)::l,don]<=20001:=b6;have b7:↑ad+Sy.mu #[Y,(O,p3)::l,don]<=20001:=bO;have aC:=Sy.nxt_mu (QB qs) (S:=#[Y,(O,p3)::l,don]) (by intro z;cases z)
    have cq:↑rk=↑don:=by
     have:=A9 VI Z.rks;rwa[uc,uc] at this
    have aD:H3 o.df=u_ (.dK ad):=hR.df;have aO:l6 a.qK a.qm H3 gc ak:=hR.go;have ag:nB gc ak p3:=hR.rel;have aX:Dd H3 #[Y,(O,p3)::l,don] ad:=hR.fd;have aY:SGI #[Y,(O,p3)::l,don]:=hR.gi;erw[bM,i3,aP];refine b2 _ _ ?_
    exists 0,1,0;rcases hv with⟨rfl,au⟩|⟨m,rfl,au,hw,hy⟩
    ·
     refine lV (uj rfl) ?_;exists 8,C1,c1;obtain⟨d,hd⟩:∃d,p3.en=u_ d:=by
      cases h:p3.en with
      |none=>rw[h] at au;cases au
      |some d=>exact[d:1]
     have ae:=Sb (qs:=qs) (n:=O) (r:=l) (don:=don) hd
     exists 0,o.x,_,o.dx,_,0,ay.e,T.qx,T.QE,L5 o,.inl [1:_:SqL.of af]
     exists o.ls,_,V.ref gc.x,1,1,af,by simp
     rw[List.dropLast_concat];have aa:Kp [o.ls,o.du] H3 (upd H3 o.ls (.lst (t.reverse.map λq=>V.ref q.1.x))):=⟨λb ob h n=>by rw[qi (λz=>n (by rw[z];exact uh))];exact h,iY.tk (p:=o.ls) (λb ob h n=>by rwa[qi n]) af qg⟩
     obtain⟨H4,aE⟩:∃H4,H4=upd H3 o.ls (.lst (t.reverse.map λq=>V.ref q.1.x)):=⟨0⟩;rw[<-aE] at aa⊢;refine c1 _ _ ?_;exists 8,C2,c2;have e4:H4 o.x=u_ (.ins a.qr o.dx (ofs o)):=by rw[aE,qi (λz=>by have:=ay.e;rw[z,af] at this;cases this)];exact ay.e
     have aF:H4 o.ls=u_ (.lst (t.reverse.map λq=>V.ref q.1.x)):=by rw[aE];exact qg
     have al:H4 o.du=u_ (.dK uk):=by rwa[aE,qi d1.symm]
     have bP:∀b,H b=U_->b≠o.ls:=λb U=>(hB.new U).2.1;have b8:l6 a.qK a.qm H4 gc ak:=aO.frame (λb U ob h=>by rwa[aE,qi (bP b (aq b U))]) aa.tk
     erw[id b8,b9,ca,cr,cs,cu,cv,cb,f4,_];have aG:(iO uk (Vf gc.n)).isSome=true:=by
      rw[ag.n,aW];exact(Z.uo O).trans (uj uh)
     obtain⟨uv,cc⟩:∃uv,iO uk (Vf gc.n)=u_ uv:=by
      cases h:iO uk (Vf gc.n) with
      |none=>rw[h] at aG;cases aG
      |some uv=>exact[uv:1]
     exists 0,o.x,_,o.dx,_,0,e4,T.qx,T.Qz,PV o,o.du,1,.inl [_:.inl al],0,gc.x,_,b9,ca,0,cb,T.qQ,T.Yn,f4.Zl,uk,Vf gc.n,uv,al,1,cc;have ah:Kp [o.ls,o.du] H3 (upd H4 o.du (.dK (JW uk (Vf gc.n)))):=aa.trans (Kp.updD al (ug _ uh));obtain⟨H5,bv⟩:∃H5,H5=upd H4 o.du (.dK (JW uk (Vf gc.n))):=⟨0⟩;rw[<-bv] at ah⊢;refine c2 _ _ ?_;have bQ:H5 o.du=u_ (.dK (JW uk (Vf gc.n))):=by rw[bv];exact qg
     have bR:H5 o.ls=u_ (.lst (t.reverse.map λq=>V.ref q.1.x)):=by rwa[bv,qi d1]
     have aH:∀b,H b=U_->b∉ [o.ls,o.du]:=λb U z=>by
      simp![uI,uL,uS] at z;rcases z with z|z
      .exact(hB.new U).2.1 z
      .exact(hB.new U).2.2.1 z
     have cd:l6 a.qK a.qm H5 gc ak:=aO.frame (λb U ob h=>ah.kept b ob h (aH b (aq b U))) ah.tk;have bS:H5 o.dr=u_ (.dK rk):=ah.kept _ _ aB (by simp![uI,uL,uS,V9];exact[d2.symm:d4.symm])
     have bT:H5 o.df=u_ (.dK ad):=ah.kept _ _ aD (by simp![uI,uL,uS,V9];exact[d3.symm:d5.symm])
     have aQ:∀b,b∉LO o->b∉ [o.ls,o.du]:=λb U z=>U (by simp![LO,uI,uL,uS] at z⊢;rcases z with z|z;exact .inl z;exact .inr (.inl z))
     have bw:Kp (LO o) H H5:=[λb ob h n=>ah.kept b ob (ap.kept b ob h n) (aQ b n):ap.tk.trans ah.tk];have bU:=hB.at bw
     exists 0,o.x,o.dx,0,bU.e,wC o _ (),0,o,qs,gc,ak,p3,rk,ad,1,bU,cd,ag,b5,au,bS,(),bT,(),d6,λz=>(hB.new (aq _ z)).2.2.2.1 rfl,λz=>(hB.new (aq _ z)).2.2.2.2 rfl,λv1 v2 H6 aw aI i6 aZ j6=>?_
     have bV:∀b,b∉LO o->b∉ [o.dr,o.df]:=λb U z=>U (by simp![LO,uI,uL,uS] at z⊢;rcases z with z|z;exact .inr (.inr (.inl z));exact .inr (.inr (.inr z)))
     have ce:∀b,H b=U_->b∉ [o.dr,o.df]:=λb U=>bV b (hB.nlo U);have cf:Kp (LO o) H H6:=[λb ob h n=>aw.kept b ob (bw.kept b ob h n) (bV b n):bw.tk.trans aw.tk];have aJ:Tk H3 H6:=ah.tk.trans aw.tk;have bx:gc.n=O:=ag.n.trans aW;have aR:(#[Y,(O,p3)::l,don].stk.map (·.1)++#[Y,(O,p3)::l,don].don.map (·.1)).Nodup:=by
      rw[aP];exact SV n i3
     have bb:(O::(l.map (·.1)++don.map (·.1))).Nodup:=aR;have aK:O∉don.map (·.1):=λz=>(List.nodup_cons.mp bb).1 (uN _ z);have bA:O∉l.map (·.1):=λz=>(List.nodup_cons.mp bb).1 (vf _ z);have cg:iO rk (Vf O)=none:=by
      cases h:iO rk (Vf O) with
      |none=>rfl
      |some v=>
       have h1:=NW h;rw[Z.rks] at h1;erw[Ae.mp h1,q,hq,e];injection e with e
       exact A8 (Ae.mpr [q:hq:e]) aK
     rw[bx] at aI aZ;rw[Kc v1 cg] at aI;have bW:↑uk+Sy.mu #[Y,(O,p)::l,don]<=20001:=bN;have cw:=Cd uk (Vf gc.n:Key);have ch:=yo ad (Vf O:Key) v2;have a1:SS #[Y,l,don++ [(O,p3)]] (JW uk (Vf gc.n)):=by
      intro m';rw[Wx];by_cases c:m'=O
      .rw[A6 (by rw[c,bx]),c]
       exact(um bA).symm
      .rw[A4 (by rw[bx];exact λz=>c (Uy z))]
       refine(Z.uo m').trans ?_;rw[ve];exact⟨λz=>by rcases Aa.mp z with z|z;exact A8 z c;exact z,λz=>ug _ z⟩
     have a2:(rk++ [((Vf O:Key),v1)]).map (·.1)=(don++ [(O,p3)]).map λq:Str×Gp=>(Vf q.1:Key):=by
      rw[uq,uq];have:=Z.rks;rw[this]
      rfl
     have a3:L2.IsL H6 ((don++ [(O,p3)]).map λq:Str×Gp=>Xv q.2) ((rk++ [((Vf O:Key),v1)]).map (·.2)):=by
      rw[uq,uq];exact((Z.rv.mono (hR.tk.trans aJ))).append (L2.IsL.one i6)
     have a4:↑(don++ [(O,p3)])=↑don+1:=by rw[uF];rfl
     have a5:∀(m':Str) (g':Gp),g0D m' (qF qs m')=u_ g'->(∀g2:Gp,Sy.Yk (Y:=SyP qs) (don++ [(O,p3)]) m'=u_ g2->∃v,iO (lJ ad (Vf O) v2) (Vf m')=u_ v/\Is H6 (Qt (g2.en.getD .non)) v)/\(Sy.Yk (Y:=SyP qs) (don++ [(O,p3)]) m'=U_->iO (lJ ad (Vf O) v2) (Vf m')=U_):=by
      intro m' g' ci;rw[X8];by_cases c:m'=O
      .have aL:Sy.Yk (Y:=SyP qs) (don++ [(O,p3)]) m'=(u_ p3:oq Gp):=by
        have e1:(don.find? λq=>decide (q.1=m'))=none:=List.find?_eq_none.mpr λq hq e=>aK (by rw[<-c,<-uA e];exact TN hq)
        have e2:((don++ [(O,p3)]).find? λq:Str×Gp=>decide (q.1=m'))=u_ (O,p3):=by rw[rK,e1,c];simp
        show((don++ [(O,p3)]).find? λq:Str×Gp=>decide (q.1=m')).map (·.2)=u_ p3;rw[e2]
        rfl
       exists λg2 e2=>?_,λz=>?_
       .have e3:=aL.symm.trans e2;cases e3;rw[A6 (by rw[c])]
        exact[v2:1:j6]
       .have e3:=aL.symm.trans z;cases e3
      .have aL:Sy.Yk (Y:=SyP qs) (don++ [(O,p3)]) m'=Sy.Yk (Y:=SyP qs) don m':=by
        have e2:((don++ [(O,p3)]).find? λq:Str×Gp=>decide (q.1=m'))=don.find? λq:Str×Gp=>decide (q.1=m'):=by
         rw[rK];have:([(O,p3)].find? λq:Str×Gp=>decide (q.1=m'))=none:=by simp;exact λz=>c z.symm
         rw[this,Option.or_none]
        show((don++ [(O,p3)]).find? λq:Str×Gp=>decide (q.1=m')).map (·.2)=(don.find? λq:Str×Gp=>decide (q.1=m')).map (·.2);rw[e2]
       rw[A4 (λz=>c (Uy z))];have aM:(∀g2:Gp,Sy.Yk (Y:=SyP qs) don m'=u_ g2->∃v,iO ad (Vf m')=u_ v/\Is H6 (Qt (g2.en.getD .non)) v)/\(Sy.Yk (Y:=SyP qs) don m'=U_->iO ad (Vf m')=U_):=(aX.mono aJ) m' g' ci;exact[λg2 e2=>aM.1 g2 (aL.symm.trans e2):λz=>aM.2 (aL.symm.trans z)]
     have a6:Xs a.qK a.qm H6 o.x t l:=bt.frame (λb U ob h=>aw.kept b ob (ah.kept b ob h (aH b (ac b U))) (ce b (ac b U))) aJ;have a7:∀q>don++ [(O,p3)],q.2.en.isSome=true:=by
      intro q hq;rcases Ac.mp hq with hq|hq
      .exact Z.fin q hq
      .cases Ab.mp hq;exact au
     have eN:Sy.nx (Sy.S0 (SyP qs) n) (i3+1)=Sy.nxt #[Y,(O,p3)::l,don]:=by show Sy.nxt (Sy.nx _ i3)=_;rw[<-aP]
     have a8:=SV (qs:=qs) n (i3+1);rw[eN] at a8;have a9:=Ev hB.q aY;have bB:OI a.qK a.qm H H6 o n (Sy.nxt #[Y,(O,p3)::l,don]) t (JW uk (Vf gc.n)) (rk++ [(Vf O,v1)]) (lJ ad (Vf O) v2):=by
      exists cf,[i3+1:eN.symm],aw.kept _ _ bR (by simp![uI,uL,uS,V9];exact[d2:d3]),aw.kept _ _ bQ (by simp![uI,uL,uS,V9];exact[d4:d5]),?_,(),aI,?_,?_,?_,aZ,?_,(),?_,ac,Z.sep.2,a9,?_,a8
      .rwa[ae]
      .rwa[ae]
      .rwa[ae]
      .have e:(Sy.nxt #[Y,(O,p3)::l,don]).don.length=↑don+1:=by rwa[ae]
       omega
      .rwa[ae]
      .rwa[ae]
      .rwa[ae]
     exact⟨_,Vq aC aV,_,t,_,_,_,_,0,1,bB⟩
    ·
     refine iZ (um (λz=>by cases z)) ?_
     erw[L7 (qs:=qs) au hw hy,p',cj,ae];rw[ae] at aC;erw[Sy.jW hy,y1,_,y3];have bX:=BM (Y:=SyP qs) ((O,p3)::l);have aS:↑((O,p3)::l)<=Sy.mu #[Y,(O,p3)::l,don]:=uY bX (V8 _ _);have cx:↑t=↑l:=hT.len;have bW:↑uk+Sy.mu #[Y,(O,p)::l,don]<=20001:=bN
     exists 0,o.x,o.dx,0,ay.e,wC o _ (),0,o,m,qs,_,uk,p',1,ay,hB.q,af,?_,aA,(),cj,λgn sn H4 aa aF al bC bD bE aT=>?_
     .rw[uF,uc,List.length_reverse,vG];rw[uw] at aS;omega
     have aQ:∀b,b∉LO o->b∉ [o.ls,o.du]:=λb U z=>U (by simp![LO,uI,uL,uS] at z⊢;rcases z with z|z;exact .inl z;exact .inr (.inl z))
     have ck:Kp (LO o) H H4:=[λb ob h n=>aa.kept b ob (ap.kept b ob h n) (aQ b n):ap.tk.trans aa.tk];have aH:∀b,H b=U_->b∉ [o.ls,o.du]:=λb U=>aQ b (hB.nlo U);have aN:∀b>plc gn sn,H b=none:=λb U=>by
      have h3:=aT b U;cases h:H b with
      |none=>rfl
      |some ob=>
       by_cases c:b>LO o
       .simp![LO,uI,uL,uS] at c;rcases c with rfl|rfl|rfl|rfl
        .rw[af] at h3;cases h3
        .rw[aA] at h3;cases h3
        .rw[aB] at h3;cases h3
        .rw[aD] at h3;cases h3
       .rw[ap.kept b ob h c] at h3;cases h3
     exists _,Vq aC aV,[(m,p')::(O,p3)::l:don],(gn,sn)::(gc,ak)::t,lJ uk (Vf m) (.bl v_),rk,ad,_,0,1;have ch:=yo uk (Vf m:Key) (.bl v_)
     exists 5
     refine⟨ck,⟨i3+1,by show _=Sy.nxt (Sy.nx _ i3);rw[<-aP,ae]⟩,?_,al,?_,(),aa.kept _ _ aB (by simp![uI,uL,uS,V9];exact[d2.symm:d4.symm]),Z.rks,Z.rv.mono (hR.tk.trans aa.tk),?_,aa.kept _ _ aD (by simp![uI,uL,uS,V9];exact[d3.symm:d5.symm]),?_,(),?_,?_,?_,?_,Z.fin,?_⟩
     .rw[aF,V3,V3,uq,uq]
      rfl
     .intro m';rw[X8];by_cases c:m'=m
      .rw[A6 (by rw[c])]
       exact(uj (by rw[c];exact uh)).symm
      .rw[A4 (λz=>c (Uy z))];refine(Z.uo m').trans ?_;rw[ve];exact⟨λz=>ug _ z,λz=>by rcases Aa.mp z with z|z;exact A8 z c;exact z⟩
     .show ↑don+_<=_;omega
     .exact aX.mono aa.tk
     .exact⟨bC,bD,bE,aO.frame (λb U ob h=>aa.kept b ob h (aH b (aq b U))) aa.tk,ag,bK,bt.frame (λb U ob h=>aa.kept b ob h (aH b (ac b U))) aa.tk⟩
     .intro b U;rcases Ac.mp U with U|U
      .exact aN b U
      .rcases Ac.mp U with U|U
       .exact aq b U
       .exact ac b U
     .exists λb U z=>?_,bu,Z.sep.2;have h3:=aT b U;rcases Ac.mp z with z|z
      .erw[aO.there b z,ob,e];rw[e] at h3;cases h3
      .erw[bt.there b z,ob,e];rw[e] at h3;cases h3
     .have:=Ev hB.q aY;rwa[ae] at this
     .have:=SV (qs:=qs) n (i3+1);have e:Sy.nx (Sy.S0 (SyP qs) n) (i3+1)=⟨(m,p')::(O,p3)::l,don⟩:=by show Sy.nxt (Sy.nx _ i3)=_;rw[<-aP,ae]
      rwa[e] at this
 have u0:SS #[Y,[],[]] []:=λm=>by rw[KY];rfl
 have f0:Dd H #[Y,[],[]] []:=λm g hg=>⟨(λg' e=>by cases e),λ_=>KY⟩
 have g0:SGI #[Y,[],[]]:=λp hp=>by rcases hp with hp|hp<;>cases hp
 exists 0,o.x,o.dx,0,hO.e,wC o _ (),0,o,n,qs,#[Y,[],[]],[],[],1,hO,hB.q,g0,bo,u0,bH,f0,(),(λ_ z=>by cases z),λv H1 fk1 k1 f1 d1 l1 bY y1=>?_
 have aR:=hB.nd;simp![LO,vZ,uI,uL,uS,V9,vQ,and_true,V2] at aR;erw[aR,[n1,n2,n3],[n4,n5],n6];have nin:∀b,b≠o.df->b∉ [o.df]:=λb U z=>U (Ab.mp z);have aU:Kp (LO o) H H1:=⟨λb ob h z=>k1.kept b ob h (λy=>z (by rw[Ab.mp y];simp[LO])),k1.tk⟩
 have bZ:=hB.at aU;have bc:=k1.kept _ _ bF (nin _ n3);have bd:=k1.kept _ _ bo (nin _ n5);have bg:=k1.kept _ _ bG (nin _ n6)
 exists 1,0;unfold AV at y1;cases hg:(SyP qs).g0 n with
 |none=>
  have ey:Sy.yet #[Y,[],[]] n=u_ (u_ ((SyP qs).once n)):=by
   unfold Sy.yet;rw[A4 (by intro z;cases z),hg]
  rw[ey] at y1;erw[y1,d,i1,i2,_];have cm:d≠ .non:=by
   cases h:(SyP qs).once n with
   |none=>rw[h] at i2;intro z;rw[z] at i2;cases i2
   |some x=>rw[h] at i2;intro z;rw[z] at i2;cases i2
  refine iZ (um (jL i1 cm)) ?_;have e0:Sy.S0 (SyP qs) n=⟨[],[]⟩:=by unfold Sy.S0;rw[hg]
  rw[e0] at bI;have l1:↑fk1<=0+1:=l1;exact bJ H1 [[]:[]] [] [] [] fk1 ⟨aU,[(0):e0.symm],bc,bd,u0,(by show 0+_<=_;omega),bg,1,1,(by show 0+_<=_;omega),f1,d1,(),trivial,(λb U=>by cases U),trivial,g0,(λq hq=>by cases hq),vQ⟩
 |some p=>
  have ey:Sy.yet #[Y,[],[]] n=none:=by
   unfold Sy.yet;rw[A4 (by intro z;cases z),hg]
   rfl
  rw[ey] at y1;cases(show v= .non from y1)
  refine lV (uj rfl) ?_;have e0:Sy.S0 (SyP qs) n=⟨[(n,p)],[]⟩:=by unfold Sy.S0;rw[hg]
  rw[e0] at bI;have bY:↑fk1=0:=bY ey
  exists 0,o.x,o.dx,0,bZ.e,wC o _ (),0,o,n,qs,[],[],p,1,bZ,hB.q,bc,(),bd,(),hg,λgn sn H2 k2 am b3 bC bD bE aT=>?_
  have cn:Kp (LO o) H H2:=⟨λb ob h z=>k2.kept b ob (aU.kept b ob h z) (λy=>z (by simp![LO,uI,uL,uS] at y⊢;rcases y with y|y;exact .inl y;exact .inr (.inl y))),aU.tk.trans k2.tk⟩
  have aN:∀b>plc gn sn,H b=none:=λb U=>by
   have h3:=aT b U;cases h:H b with
   |none=>rfl
   |some ob=>
    by_cases c:b=o.df
    .rw[c,f1] at h3;cases h3
    .rw[k1.kept b ob h (nin b c)] at h3;cases h3
  have bh:∀b,b≠o.ls->b≠o.du->b∉ [o.ls,o.du]:=λb h1 h2 z=>by
   simp![uI,uL,uS] at z;rcases z with z|z
   .exact h1 z
   .exact h2 z
  refine bJ H2 [[(n,p)]:[]] [(gn,sn)] (lJ [] (Vf n) (.bl v_)) [] fk1 ⟨cn,[(0):e0.symm],am,b3,?_,?_,k2.kept _ _ bg (bh _ (Ud n2) (Ud n4)),1,1,(by show 0+_<=_;omega),k2.kept _ _ f1 (bh _ (Ud n3) (Ud n5)),d1.mono k2.tk,(),⟨bC,bD,bE,trivial⟩,?_,⟨λb U z=>(by cases z),trivial⟩,?_,(λq hq=>by cases hq),?_⟩
  .intro m';rw[X8];by_cases c:m'=n
   .rw[A6 (by rw[c])]
    exact(uj (by rw[c];exact uh)).symm
   .rw[A4 (λz=>c (Uy z)),KY];exact(um (λz=>c (Ab.mp z))).symm
  .have:=yo [] (Vf n:Key) (.bl v_);rw[HX] at this;omega
  .intro b U;rcases Ac.mp U with U|U
   .exact aN b U
   .cases U
  .intro q hq;rcases hq with hq|hq
   .cases Ab.mp hq;exact Ko hB.q hg
   .cases hq
  .exact List.nodup_cons.mpr ⟨(λz=>by cases z),vQ⟩
end
namespace Sy
variable {Y:Sy}
variable {n0:Str}
def Aag (h:Y.Ok){n:Str}{g:Y.G}{r don:om (Str×Y.G)}(hs:SOk n0 ([(n,g)::r:don]:Ss Y))(hf:Y.fin g=Vc)(hw:Y.want g=u_ m){o:oq (oq D)}(O:yet ([(n,g)::r:don]:Ss Y) m=u_ o):F Y m=o:=by
 erw[hs,[[s,k,U,hk],c2,c3],nd,Z,bot];unfold yet at O;by_cases c:m>((n,g)::r).map (·.1)
 .rw[A6 c] at O;cases O;have w:Wt Y n m:=⟨s,k,U,by rwa[<-hk],by rwa[<-hk]⟩
  rcases Aa.mp c with rfl|hm
  .exact zd h (.one w)
  .exact zd h (.more (IC (g:=g) [⟨s,k,U,hk⟩:c2:c3] hm) w)
 .rw[A4 c] at O;cases hg:Y.g0 m with
  |none=>
   rw[hg] at O;cases O;exact kY h hg
  |some gm=>
   rw[hg] at O;simp only at O;cases hd:Yk don m with
   |none=>rw[hd] at O;cases O
   |some gd=>
    rw[hd] at O;cases O;erw[Z _ (zk hd),s',e1,e2];rw[hg] at e1;cases e1;have e3:gd=it Y (F Y) Y.M gm:=e2;rw[F_run h hg,e3]
abbrev S5 (Y:Sy)(ns:om Str)(n:Str)(g:Y.G):Prop:=∃s k,Y.g0 n=u_ s/\g=it Y (F Y) k s/\∀i,i<k->Y.fin (it Y (F Y) i s)=Vc->∀m,Y.want (it Y (F Y) i s)=u_ m->Y.g0 m=U_\/m>ns
def S5.more {ns O:om Str}{n:Str}{g:Y.G}(h:S5 Y ns n g)(hn:∀m>ns,m>O):S5 Y O n g:=by
 erw[h,s,k,h1,h2,h3];exact⟨s,k,h1,h2,λi hi U m Z=>(h3 i hi U m Z).imp id (hn m)⟩
abbrev ZT (S:Ss Y):om Str:=S.stk.map (·.1)++S.don.map (·.1)
abbrev Clo (S:Ss Y):Prop:=∀p,p>S.stk\/p>S.don->S5 Y (ZT S) p.1 p.2
variable {S:Ss Y}
def Sd (h:Y.Ok)(hs:SOk n0 S)(c:Clo S):Clo (nxt S):=by
 erw[S,stk,don];cases stk with
 |nil=>exact c
 |cons p r=>
  erw[p,n,g];have c0:=c (n,g) (.inl uh);have on:∀g',Y.fin g=Vc->step Y (F Y) g=g'->(∀m,Y.want g=u_ m->Y.g0 m=U_\/m>ZT (⟨(n,g)::r,don⟩:Ss Y))->Clo (⟨(n,g')::r,don⟩:Ss Y):=by
   intro g' hf e hm p O;have U:∀m>ZT (⟨(n,g)::r,don⟩:Ss Y),m>ZT (⟨(n,g')::r,don⟩:Ss Y):=λm hm=>hm;have top:S5 Y (ZT (⟨(n,g')::r,don⟩:Ss Y)) n g':=by
    erw[c0,s,k,h1,h2,h3];have h2:g=it Y (F Y) k s:=h2;exists s,k+1,h1,by rw[wF,<-h2,e],λi hi aa m hw=>?_
    by_cases ci:i<k
    .exact(h3 i ci aa m hw).imp id (U m)
    .have:i=k:=by omega
     subst this;rw[<-h2] at hw;exact(hm m hw).imp id (U m)
   rcases O with O|O
   .rcases Aa.mp O with rfl|O
    .exact top
    .exact(c p (.inl (ug _ O))).more U
   .exact(c p (.inr O)).more U
  unfold nxt;simp only;cases hf:Y.fin g with
  |true=>
   rw[A6 rfl];have U:∀m>ZT (⟨(n,g)::r,don⟩:Ss Y),m>ZT (⟨r,don++ [(n,g)]⟩:Ss Y):=by
    intro m hm;unfold ZT at hm⊢;simp![uC,uq,Ug,Uk,uI,Ac,uL,uS] at hm⊢;rcases hm with hm|hm|hm
    .exact .inr (.inr hm)
    .exact .inl hm
    .exact .inr (.inl hm)
   intro p O;rcases O with O|O
   .exact(c p (.inl (ug _ O))).more U
   .rcases Ac.mp O with O|O
    .exact(c p (.inr O)).more U
    .cases Ab.mp O;exact c0.more U
  |false=>
   rw[A4 ud];have Z:step Y (F Y) g=match Y.want g with
     |none=>Y.own g
     |some m=>match F Y m with
      |some a=>Y.tk g a
      |none=>Y.stuck g m:=by
    unfold step;rw[hf,A4 ud]
    all_goals rfl
   cases hw:Y.want g with
   |none=>exact on _ hf (by rw[Z,hw]) λm z=>by rw[hw] at z;cases z
   |some m=>
    rw[hw] at Z;simp only at Z⊢;cases hy:yet ([(n,g)::r:don]:Ss Y) m with
    |some o=>
     have hF:=Aag h hs hf hw hy;have hm:∀m',Y.want g=u_ m'->Y.g0 m'=U_\/m'>ZT (⟨(n,g)::r,don⟩:Ss Y):=by
      intro m' z;rw[hw] at z;cases z;unfold yet at hy;by_cases cm:m>((n,g)::r).map (·.1)
      .exact .inr (vf _ cm)
      .rw[A4 cm] at hy;cases hg:Y.g0 m with
       |none=>exact .inl rfl
       |some gm=>
        rw[hg] at hy;simp only at hy;cases hd:Yk don m with
        |none=>rw[hd] at hy;cases hy
        |some gd=>exact .inr (uN _ (Ae.mpr [_:zk hd:1]))
     cases o with
     |some a=>exact on _ hf (by rw[Z,hF]) hm
     |none=>exact on _ hf (by rw[Z,hF]) hm
    |none=>
     simp only;erw[jW hy,h1,[g',hg],h2];rw[hg];have U:∀m'>ZT (⟨(n,g)::r,don⟩:Ss Y),m'>ZT (⟨(m,g')::(n,g)::r,don⟩:Ss Y):=λm' hm=>ug _ hm;intro p O;rcases O with O|O
     .rcases Aa.mp O with rfl|O
      .exact⟨g',(0),hg,1,λi hi=>A8 hi (UE i)⟩
      .exact(c p (.inl O)).more U
     .exact(c p (.inr O)).more U
def Nl (h:Y.Ok){n0:Str}{S:Ss Y}(O:SOk n0 S)(c:Clo S):∀k,Clo (nx S k)
 |0=>c
 |k+1=>Sd h (nx_ok h O k) (Nl h O c k)
def Acc {n:Str}{g:Y.G}(U:Y.g0 n=u_ g):Clo (S0 Y n):=by
 unfold S0;rw[U];intro p O;rcases O with O|O
 .cases Ab.mp O;exact⟨g,(0),U,1,λi hi=>A8 hi (UE i)⟩
 .cases O
variable {i:Nat}
def end_clo (h:Y.Ok){g0:Y.G}(U:Y.g0 n0=u_ g0){k:Nat}{don:om (Str×Y.G)}(hk:nx (S0 Y n0) k=[[]:don]){p:Str×Y.G}(hp:p>don){s:Y.G}(Z:Y.g0 p.1=u_ s)(hf:Y.fin (it Y (F Y) i s)=Vc)(hw:Y.want (it Y (F Y) i s)=u_ m):Y.g0 m=U_\/m>don.map (·.1):=by
 have c:=Nl h (S0_ok U) (Acc U) k;have ok:=nx_ok h (S0_ok U) k;rw[hk] at c ok;erw[c p (.inr hp),s',k',h1,h2,h3];rw[Z] at h1;cases h1;erw[ok.don p hp,s2,e1,e2];rw[Z] at e1;cases e1;have O:Y.fin (it Y (F Y) k' s)=true:=by
  rw[<-h2,e2];exact it_end h _ _ (h.l0 _ _ Z)
 have aa:i<k':=by
  rcases V6 i k' with z|z
  .exact z
  .erw[Va z,d,rfl];rw[WB,ZJ O,O] at hf;cases hf
 rcases h3 i aa hf m hw with z|z
 .exact .inl z
 .exact .inr (by simpa [ZT] using z)
end Sy
section
variable {qs qs':om (Str×D)}
nonrec abbrev FP (qs:om (Str×D)):Sy.Orc:=Sy.F (SyP qs)
nonrec abbrev itP (qs:om (Str×D)) (k:Nat) (g:Gp):Gp:=Sy.it (SyP qs) (FP qs) k g
def zC (g:Gp):Sy.step (SyP qs) (FP qs) g=if g.en.isSome=v_ then g else match yJ g with
  |none=>nE qs g
  |some m=>match FP qs m with
   |some a=>Q1 g (a.getD .non)
   |none=>Od g m:=rfl
abbrev QD (p:Gp):om D:=p.ra++runPG' p.run
where runPG':oq (om Rw×Rn)->om D
 |none=> []
 |some (_,r)=>r.gs
abbrev GA (g:Gp):Prop:=g.run=U_->g.en=U_->g.ra= []
def Wg {rs:om Rw}{own:Str}{gs:om D}:∀(f:Nat) (B:Str->D) (p:Int) (n:Nat),(mM rs own gs f B p n).gs=gs
 |0,B,p,n=>rfl
 |f+1,B,p,n=>by
  unfold mM;by_cases c:GT.gt p ↑rs
  .rw[A6 c]
  .rw[A4 c];cases U:mE own (Jf rs p) B p with
   |go O p'=>exact Wg f O p' (n+1)
   |stop e=>rfl
def AS {r:Rn}{a:D}:(mi rs own r a).gs=r.gs++ [-[xj r.th,a]]:=by
 unfold mi;split
 .rfl
 .exact Wg _ _ _ _
def Co (h:g.run=U_)(d:D):QD (mh g d)=g.ra/\GA (mh g d):=by
 unfold mh;split
 .exists ?_,λ_ z=>by cases z
  show g.ra++QD.runPG' g.run=g.ra;rw[h];exact v9 _
 .cases hd:QJ d with
  |none=>
   exists ?_,λ_ z=>by cases z
   show g.ra++QD.runPG' g.run=g.ra;rw[h];exact v9 _
  |some rs=>
   exists ?_,λz=>by cases z
   show g.ra++(R0 rs g.n).gs=g.ra;rw[show(R0 rs g.n).gs= [] from Wg _ _ _ _]
   exact v9 _
def X3 (ha:GA g)(Z:g.en=U_)(d:D):QD (Q1 g d)=QD g++ [-[yb g,d]]/\GA (Q1 g d):=by
 unfold Q1;cases O:g.run with
 |none=>
  have U:=ha O Z;erw[Co (g:=⟨g.n,g.mb,[-[-[-"rule",g.mb],d]],U_,g.en⟩) rfl d,h1,h2];exists h1.trans ?_,h2;have e1:QD g= []:=by unfold QD;rw[U,O];rfl
  have e2:yb g=-[-"rule",g.mb]:=by unfold yb;rw[O]
  rw[e1,e2]
  rfl
 |some p=>
  erw[p,rs,r];exists ?_,λz=>by cases z
  show g.ra++(mi rs g.n r d).gs=QD g++_;have e2:yb g=xj r.th:=by unfold yb;rw[O]
  have e3:QD g=g.ra++r.gs:=by unfold QD;rw[O];rfl
  rw[AS,e2,e3,vI]
def WS {d:D}(h:g0D m d=u_ g):GA g/\QD g= []:=by
 unfold g0D at h;split at h
 .split at h
  .cases h
  .split at h
   .cases h;exact[λ_ _=>rfl:1]
   .cases h;erw[Co (g:=⟨m,.non,[],U_,U_⟩) rfl _,h1,h2];exact[h2:h1]
 .cases h
def Eb (U:Qk qs)(O:g0D m (qF qs m)=U_):XV ((KH (qF qs m)).getD .non):=by
 by_cases hm:m>qs.map (·.1)
 .erw[j0 U hm,hn,k,e,hd,h1,h2];rw[hd] at O⊢;unfold g0D at O;simp only at O;by_cases c:k="leaf"
  .exact .inr (h2 (by rw[c];decide+kernel)).2
  .rw[A4 c] at O;split at O<;>cases O
 .rw[Yy hm];exact .inl rfl
def zu (Z:Qk qs){f:Sy.Orc}(hf:∀m a,f m=u_ a->XV (a.getD .non))(h:GI g)(ha:GA g):GI (Sy.step (SyP qs) f g)/\GA (Sy.step (SyP qs) f g):=by
 have e:Sy.step (SyP qs) f g=if g.en.isSome=v_ then g else match yJ g with
  |none=>nE qs g
  |some m=>match f m with
   |some a=>Q1 g (a.getD .non)
   |none=>Od g m:=rfl
 rw[e];cases O:g.en with
 |some d=>exact[h:ha]
 |none=>
  simp![vS,A4 ud];cases U:yJ g with
  |none=>
   erw[jN (qs:=qs) h O U,rs,r,k,z,_,_,hk,_,e];exists EZ Z h O U;show GA (nE qs g);rw[e];exact(X3 ha O _).2
  |some m=>
   simp only;cases hm:f m with
   |some a=>exact[AA h O (hf m a hm):(X3 ha O _).2]
   |none=>exact⟨NB h m,λ_ z=>by cases z⟩
def Sr (O:Qk qs){f:Sy.Orc}(U:∀m a,f m=u_ a->XV (a.getD .non)):∀(k:Nat) {g:Gp},GI g->GA g->GI (Sy.it (SyP qs) f k g)/\GA (Sy.it (SyP qs) f k g)
 |0,g,h,ha=>[h:ha]
 |k+1,g,h,ha=>Sr O U k (zu O U h ha).1 (zu O U h ha).2
def Act (U:Qk qs):∀(k:Nat) (m:Str) (a:oq D),Sy.Fh (SyP qs) k m=u_ a->XV (a.getD .non)
 |0,m,a,h=>by
  cases O:(SyP qs).g0 m with
  |none=>rw[Sy.WF O] at h;cases h;exact Eb U O
  |some g=>rw[Sy.KI O] at h;cases h
 |k+1,m,a,h=>by
  cases O:(SyP qs).g0 m with
  |none=>rw[Sy.WF O] at h;cases h;exact Eb U O
  |some g=>
   rw[Sy.Fh_run O] at h;have Z:=Sr U (Act U k) 302 (Ko U O).1 (WS O).1;cases hs:(SyP qs).said (Sy.it (SyP qs) (Sy.Fh (SyP qs) k) (SyP qs).M g) with
   |none=>rw[hs] at h;cases h
   |some v=>
    rw[hs] at h;cases h;exact .inr (DM Z.1 hs)
def S9 (O:Qk qs)(m:Str)(a:oq D)(h:FP qs m=u_ a):XV (a.getD .non):=by
 erw[(Sy.F_iff (QB qs)).mp h,k,h];exact Act O k m a h
def js (O:Qk qs)(U:g0D m (qF qs m)=u_ g)(k:Nat):GI (itP qs k g)/\GA (itP qs k g):=Sr O (S9 O) k (Ko O U).1 (WS U).1
end
abbrev Dn (qs:om (Str×D))(n:Str)(don:om (Str×Gp)):Prop:=∃j,Sy.nx (Sy.S0 (SyP qs) n) j=[[]:don]
section
variable {qs:om (Str×D)}{n:Str}{don don':om (Str×Gp)}
def AbZ (h:Dn qs n don)(k:Dn qs n don'):don=don':=by
 erw[h,i,hi];erw[k,j,O];have e:=Sy.nx_one (S:=Sy.S0 (SyP qs) n) (k:=i) (j:=j) (by rw[hi]) (by rw[O])
 rw[hi,O] at e;exact A9 Sy.Ss.don e
def KB (O:g0D n (qF qs n)=U_)(h:Dn qs n don):don= []:=by
 have U:Sy.S0 (SyP qs) n=⟨[],[]⟩:=by unfold Sy.S0;rw[show(SyP qs).g0 n=U_ from O]
 exact AbZ h [(0):U]
def SI (O:g0D n (qF qs n)=u_ g)(h:Dn qs n don):Sy.SOk (Y:=SyP qs) n [[]:don]:=by
 erw[h,j,U];rw[<-U];exact Sy.nx_ok (QB qs) (Sy.S0_ok O) j
def SJ (O:g0D n (qF qs n)=u_ g)(h:Dn qs n don):(don.map (·.1)).getLast? =u_ n:=by
 rcases(SI O h).bot with b|⟨_,b⟩
 .cases b
 .exact b
def XQ (h:Dn qs n don){p:Str×Gp}(O:p>don):∃s,g0D p.1 (qF qs p.1)=u_ s/\p.2=Sy.it (SyP qs) (Sy.F (SyP qs)) 302 s:=by
 cases U:g0D n (qF qs n) with
 |none=>rw[KB U h] at O;cases O
 |some g=>exact(SI U h).don p O
def AI (h:Dn qs n don):(don.map (·.1)).Nodup:=by
 cases O:g0D n (qF qs n) with
 |none=>rw[KB O h];exact vQ
 |some g=>exact(SI O h).nd
end
abbrev sP (p:Gp):D:= .tup (p.ra++n9 p.run)
abbrev mF (p:Gp):D:=p.en.getD .non
def Mp {p:Gp}(h:GI p)(O:p.en.isSome=v_):nD (sP p)=v_/\dp (sP p)<=31/\nD (mF p)=v_/\dp (mF p)<=20:=by
 have h1:nL (p.ra++n9 p.run)=v_/\dpL (p.ra++n9 p.run)<=30:=by
  cases hr:p.run with
  |none=>exact⟨BJ h.ra.1 rfl,AG 30 h.ra.2.1 (by simp[dpL,n9])⟩
  |some q=>
   erw[q,rs,r];have h2:=(h.run rs r hr).2.1.gs;exact[BJ h.ra.1 h2.1:AG 30 h.ra.2.1 h2.2.1]
 refine⟨h1.1,by show 1+_<=31;omega,?_⟩
 unfold mF;cases U:p.en with
 |none=>rw[U] at O;cases O
 |some d=>
  show nD d=v_/\dp d<=20;rcases h.en d U with⟨z,rfl⟩|⟨x,rfl,Z⟩|⟨z,rfl⟩
  .exact⟨1,by show dp (-[-"fault",!z])<=20;simp[dp,dpL]⟩
  .have:=Jb Z;exists ?_,?_
   .simp![nD,nL,ZK (yG Z),U5]
   .simp![dp,dpL];omega
  .exact⟨1,by simp[dp,dpL]⟩
variable {don:om (Str×Gp)}
def AbY {n:Str}(h:Dn qs n don)(hm:g0D m (qF qs m)=U_\/m>don.map (·.1)):Sy.yet #[Y,[],don] m=u_ (FP qs m):=by
 cases U:(SyP qs).g0 m with
 |none=>
  unfold Sy.yet;rw[A4 (by intro z;cases z),U]
  show u_ (u_ ((SyP qs).once m))=u_ (FP qs m);rw[show FP qs m=_ from Sy.kY (QB qs) U]
 |some g=>
  rcases hm with hm|hm
  .rw[show(SyP qs).g0 m=U_ from hm] at U;cases U
  .erw[Ae.mp hm,[O,p],hp,rfl];have hd:Sy.Yk (Y:=SyP qs) don O=u_ p:=by
    have Z:=AI h;unfold Sy.Yk;have:(don.find? λq=>decide (q.1=O))=u_ (O,p):=by
     clear h hm
     induction don with
     |nil=>cases hp
     |cons q r ih=>
      rw[uC,vZ] at Z;rcases Aa.mp hp with rfl|hp
      .rw[vb,uj rfl]
      .have aa:q.1≠O:=λz=>Z.1 (by rw[z];exact Ae.mpr [_:hp:1])
       rw[vb,um aa];exact ih hp Z.2
    have e2:(rm (λq:Str×Gp=>decide (q.1=O)) don).map (·.2)=u_ p:=by rw[this];rfl
    exact e2
   erw[XQ h hp,s,e2,e3];have e2:(SyP qs).g0 O=u_ s:=e2;rw[U] at e2;cases e2;unfold Sy.yet;rw[A4 (by intro z;cases z),U]
   show(Sy.Yk (Y:=SyP qs) don O).map (λg=>((SyP qs).said g).map u_)=u_ (FP qs O);rw[hd];show u_ (((SyP qs).said p).map u_)=u_ (FP qs O);rw[show FP qs O=_ from Sy.F_run (QB qs) U]
   have e3:p=Sy.it (SyP qs) (Sy.F (SyP qs)) 302 g:=e3;rw[e3]
   rfl
end K45
namespace K45
open PySem L2 PyProof.Rows
structure AdD (CO CP:o3)(H0 H:Hp)(qs:om (Str×D))(n:Str)(o:Oc)(rk uk fk:om (Key×V))(don:om (Str×Gp)):Prop where
 sm:ic H0 H
 oa:OAt CO CP H o qs
 dr:H o.dr=u_ (.dK rk)
 ks:rk.map (·.1)=don.map λp=>Vf p.1
 vs:L2.IsL H (don.map λp=>Xv p.2) (rk.map (·.2))
 du:H o.du=u_ (.dK uk)
 uo:SS #[Y,[],don] uk
 df:H o.df=u_ (.dK fk)
 fd:Dd H #[Y,[],don] fk
 fl:↑fk<=20101
 dn:Dn qs n don
 sg:SGI #[Y,[],don]
 gi:∀p>don,GI p.2/\p.2.en.isSome=v_
 len:↑don<=20001
 new:H0 o.x=U_/\H0 o.dr=U_/\H0 o.du=U_/\H0 o.df=U_
 ne:o.dr≠o.df/\o.du≠o.df
inductive AaM (bn:Addr):Sp
 |mk (z:Str)(_:vs= [!z])(hz:↑z<=1000)(_:nm z=v_->∀H',ic H H'->Q .non H')(_:nm z=Vc->∀(e:Addr)(H':Hp),ic H H'->E_ (-e) (u_ bn) H')
inductive OG:Sp
 |mk (t:_)(z:_)(_:vs= [-t])(_:H t=u_ (-[!z]))(_:nm z=v_)(_:∀H',ic H H'->Q .non H')
inductive Ot (CO CP:Addr):Sp
 |mk (px t:Addr)(n:Str)(qs:List (Str×D))(_:vs= [-px,-t])(_:H t=u_ (-[!n]))(_:nm n=v_)(_:yS CP H px qs)(_:Qk qs)(_:∀H' o rk uk fk don,o.px=px->AdD CO CP H H' qs n o rk uk fk don->↑fk<=20001->Q (-o.x) H')
inductive OE (CO CP:Addr):Sp
 |mk (px:Addr)(n:Str)(qs:List (Str×D))(_:vs= [-px,!n])(_:nm n=v_)(_:yS CP H px qs)(_:Qk qs)(_:∀H' o rk uk fk don,o.px=px->AdD CO CP H H' qs n o rk uk fk don->↑fk<=20001->Q (-o.x) H')
variable {qs:om (Str×D)}{don:om (Str×Gp)}
def AH {n:Str}(h:Dn qs n don):g0D n (qF qs n)=U_\/n>don.map (·.1):=by
 cases O:g0D n (qF qs n) with
 |none=>exact .inl rfl
 |some g=>exact .inr (List.mem_of_getLast? (SJ O h))
section
variable {P:og}{w:oh}{K:o0}{mg:Str->oq o6}{base:o9}{a:Ad}{g:Ga}
def Ni (T:Tx K mg a)(C:Fx K w mg g a):FnOk P w K mg base (CX1 P w) 2 a.ZE a.ZA ["name"] (AaM g.bn):=by
 have O:=#[xB,T];refine T.iB.F.okX Kt () (λ_ _ _ _ H _ Q E U h=>?_)
 erw[h,z,rfl,Z,k1,k2];exists 3,%[|#[qH,#[Qo,#[Qc,#[qp,O,U.mono (),T.iJ,#v[pv 0]]]],%[|#[Kl,22,C.x_BadName,_,C.m_BadName,ql,_,_]],qt]]
 exists 0,!z,!z,1,yx (),λH1 s1=>[0:?_]
 have e:mG (!z)=nm z:=rfl;rw[e];cases hn:nm z with
 |false=>exact ky [1:λe=>k2 hn e H1 s1]
 |true=>exact iL (k1 hn H1 s1)
def PN:#[C,3,a.zf,a.XS,["names"],OG]:=by
 have Jx:=#[Ni,T,C];exists 9,T.mq,xq
 erw[h,t,z,rfl,U,hz,k];exists 3,%[|#[Ym,#[Wy,pv 0],#[qM,(1),xq.nd],%[|#[qX,#[qp,16,Jx,hr.mono (),_,T.iB.m,T.iB.F.kp,T.iB.b,.nil,DY,#v[pv 1],_,_,_]]]]]
 exists 0,t,1,[_:SqT.of U];refine Xf (xs:= [!z]) (λi σ H'=>(∃u,σ= [u_ (-t),u])/\ic H H') [⟨0⟩:ic.refl _] (λi σ H' _ h=>SqT.of (h.2 _ _ U)) ?_ ?_
 .rintro i x σ H' Z ⟨⟨u,rfl⟩,s1⟩;have O:x= !z:=by
   cases i with
   |zero=>exact(uM Z).symm
   |succ i=>cases Z
  subst O;exact⟨0,z,1,by have:=xS hz;omega,λ_ H2 s2=>[⟨0⟩:s1.trans s2],λz=>A8 (hz.symm.trans z) R_⟩
 .rintro σ H' ⟨_,s1⟩;exact k H' s1
def Px:#[C,14,a.ZB,a.Zb,["project","names"],(Ot a.qr a.qJ)]:=by
 have aq:=#[PN,T,C];have zA:=#[LP,T];have jR:=#[Pk,T,C];exists 9,T.mz,jE
 erw[h,px,t,n,qs,rfl,ht,hn,hP,hq,k1];exists 3,%[#[qX,#[qp,aq,hr.mono (),T.mq,#v[pv 1]]],#[qE,(2),jE.nd,#[zJ,T.M_PlainOrder,zA,hr.mono (),T.m_PlainOrder,T.lC,qy,#v[pv 0]]],#[Ym,#[Wy,pv 1],#[qM,(3),jE.nd],%[|#[qX,#[Qm,pv 2,T.qx,T.iK,jR,#v[pv 3]]]]]|#[qo,pv 2]]
 exists 8,N1,q1
 exists 0,t,n,1,ht,hn,λH1 s1=>q1 _ _ ?_;exists 8,N2,q2
 exists 0,λx dx hx au nx=>?_;have s0:ic H1 (upd (upd H1 dx (.own x)) x (.ins a.qr dx [])):=λb o h=>by rwa[qi (qk h hx),qi (qk h au)]
 exists x,dx,px,1,qg,λo H2 eo aw ax kp tk f1 f2 f3 f4 nd ac ad ae af ag=>[1:q2 _ _ ?_];exists 8,N3,q3;have ay:ic H1 H2:=λb ob h=>kp b ob (s0 b ob h) (qk h hx);have O:=s1.trans ay;have ah:=O _ _ ht;subst eo aw ax;have hB:Bs a.qr a.qJ H2 o qs:=⟨[ac:hP.same O],[_:ad],[_:ae],[_:af],[_:ag],nd,hq⟩
 exists 0,t,1,[_:SqT.of ah];have fr:∀b,upd (upd H1 o.dx (.own o.x)) o.x (.ins a.qr o.dx []) b=U_->H b=none:=λb U=>by
  cases e:H b with
  |none=>rfl
  |some ob=>rw[s0 b ob (s1 b ob e)] at U;cases U
 let J_:Nat->L2.St->Hp->Prop:=λi σ H'=>(∃u,σ= [u_ (-o.px),u_ (-t),u_ (-o.x),u])/\((i=0/\H'=H2)\/(i=1/\∃rk uk fk don,AdD a.qr a.qJ H H' qs n o rk uk fk don/\↑fk<=20001))
 refine Xf (xs:= [!n]) J_ [⟨0⟩:.inl [1:1]] (λi σ H' _ h=>?_) ?_ ?_
 .rcases h.2 with⟨_,rfl⟩|⟨_,rk,uk,fk,don,h,_⟩
  .exact SqT.of ah
  .exact SqT.of (h.sm _ _ ht)
 .rintro i x' σ H' ak ⟨⟨u,rfl⟩,h⟩;have Z:x'= .str n/\i=0:=by
   cases i with
   |zero=>exact[(uM ak).symm:1]
   |succ i=>cases ak
  erw[Z,rfl,rfl];rcases h with⟨_,rfl⟩|⟨z,_⟩
  .exists 0,o.x,o.dx,0,ac,wC o _ (),0,o,qs,n,1,hB,ad,ae,af,ag,λH3 rk uk fk don j al aA am aB aC aD k3 aE ao aF aG aH ap=>?_
   have out:∀b,H b≠U_->b∉LO o:=λb U z=>by
    simp![LO,uI,uL,uS] at z;rcases z with rfl|rfl|rfl|rfl
    .exact U (fr _ f1)
    .exact U (fr _ f2)
    .exact U (fr _ f3)
    .exact U (fr _ f4)
   have aa:=nd;simp![vZ,uI,uL,uS,V9,vQ,and_true,V2] at aa;have Z:H o.x=none:=by
    cases e:H o.x with
    |none=>rfl
    |some ob=>rw[s1 _ _ e] at hx;cases hx
   exact⟨⟨0⟩,.inr ⟨1,rk,uk,fk,don,⟨λb ob e=>k3.kept b ob (O b ob e) (out b (by rw[e];intro z;cases z)),hB.at k3,ao,aF,aG,al,aA,am,aB,(),[j:aE],aD,aH,ap,⟨Z,fr _ f3,fr _ f2,fr _ f4⟩,[aa.2.2:aa.2.1.2]⟩,aC⟩⟩
  .cases z
 .rintro σ H' ⟨⟨u,rfl⟩,h⟩;rcases h with⟨z,_⟩|⟨_,rk,uk,fk,don,h,hl⟩
  .cases z
  .exact q3 _ _ [0:k1 H' o rk uk fk don rfl h hl]
def Er:#[C,15,a.Zn,a.Zs,["project","name"],(OE a.qr a.qJ)]:=by
 have O:=#[Px,T,C];exists 9,T.lO,qai,U
 erw[h,px,n,qs,rfl,hn,Z,hq,k1];have hs:=uE;exists 3,%[|#[qo,#[qp,O,U.mono (),T.mz,#v[pv 0,#[qG,#v[pv 1]]]]]]
 exists 0,0,(sml rfl),λt ht=>?_;have s1:=qf ht (-[V.str n]);exact⟨px,t,n,qs,1,qg,hn,Z.same s1,hq,λH' o rk uk fk don e h hl=>k1 H' o rk uk fk don e ⟨s1.trans h.sm,h.oa,h.dr,h.ks,h.vs,h.du,h.uo,h.df,h.fd,h.fl,h.dn,h.sg,h.gi,h.len,⟨s1.free h.new.1,s1.free h.new.2.1,s1.free h.new.2.2.1,s1.free h.new.2.2.2⟩,h.ne⟩ hl⟩
end
def ZW (p:Gp):sP p= .tup (QD p):=by
 unfold sP QD;cases p.run with
 |none=>rfl
 |some q=>rfl
abbrev Aaf (qs:om (Str×D))(x:D):Prop:=∃kd z a,x= .tup [-[!kd,!z],a]/\↑z<=1000/\((mW kd=v_/\a=xl qs kd z)\/(mW kd=Vc/\(kd="thing"\/kd="rule")/\∃y,FP qs z=u_ y/\a=y.getD .non))
variable {g:Gp}{m:Str}
def sU (h:GI g)(O:yJ g=u_ m):∃kd,yb g= .tup [!kd,!m]/\mW kd=false:=by
 unfold yJ at O;split at O
 .rename_i k z e
  by_cases c:mW k=v_
  .rw[A6 c] at O;cases O
  .rw[A4 c] at O;cases O;exact⟨k,e,by simpa using c⟩
 .cases O
variable {kd:Str}
def Aah (h:GI g)(he:g.en=U_)(U:yb g=-[!kd,!m]):↑m<=1000:=by
 unfold yb at U;cases Z:g.run with
 |none=>
  rw[Z] at U;erw[h.no Z he,z,hz,hn];simp![hz] at U;cases U;have:=xS hn;omega
 |some p=>
  erw[p,rs,r];rw[Z] at U;erw[h.run rs r Z,_,_,ht,O];have O:=O he;rcases ht with⟨z,e⟩|⟨e1,e,_⟩|⟨u,z,e,hT,_⟩
  .rw[e] at O;exact A8 (show decide (("fault":Str)="asks")=v_ from O) ()
  .rw[e] at O;exact A8 (show decide (("said":Str)="asks")=v_ from O) ()
  .simp![e] at U;have U:(D.tup [!u,!z])=-[!kd,!m]:=U;cases U;have:=YJ hT;have:↑m<=600:=this;omega
def AcE (h:GI g)(he:g.en=U_)(O:yb g=-[!kd,!m])(hk:mW kd=Vc):kd="thing"\/kd="rule":=by
 unfold yb at O;cases hr:g.run with
 |none=>
  rw[hr] at O;have O:D.tup [-"rule",g.mb]=-[!kd,!m]:=O;injection O with O
  injection O with O _
  injection O with O
  exact .inr O.symm
 |some p=>
  erw[p,rs,r];rw[hr] at O;have O:xj r.th=-[!kd,!m]:=O;have Z:=(h.run rs r hr).2.2;have U:=Z.2 he;rcases Z.1 with⟨z,e1⟩|⟨e0,e1,_⟩|⟨u,z,e1,_,hu⟩
  .rw[e1] at U;exact A8 (show decide (("fault":Str)="asks")=v_ from U) ()
  .rw[e1] at U;exact A8 (show decide (("said":Str)="asks")=v_ from U) ()
  .rw[e1] at O;have O:D.tup [!u,!z]=-[!kd,!m]:=O;cases O;rcases hu with rfl|⟨rfl|rfl,_⟩
   .exact A8 hk ()
   .exact .inl rfl
   .exact A8 hk ()
section
variable {qs:om (Str×D)}
def AaH (hq:Qk qs)(h:GI g)(ha:GA g)(hF:∀x>QD g,Aaf qs x):∀x>QD (Sy.step (SyP qs) (FP qs) g),Aaf qs x:=by
 have aa:∀{d:D},g.en=U_->(∀kd z,yb g= .tup [!kd,!z]->(mW kd=v_/\d=xl qs kd z)\/(mW kd=Vc/\(kd="thing"\/kd="rule")/\∃y,FP qs z=u_ y/\d=y.getD .non))->(∃kd z,yb g=-[!kd,!z])->∀x>QD (Q1 g d),Aaf qs x:=by
  intro d O h1 ⟨kd,z,e⟩ x U;rw[(X3 ha O d).1] at U;rcases Ac.mp U with U|U
  .exact hF x U
  .cases Ab.mp U;exact⟨kd,z,d,by rw[e],Aah h O e,h1 kd z e⟩
 rw[zC];cases O:g.en with
 |some d=>exact hF
 |none=>
  simp![vS,A4 ud];cases hw:yJ g with
  |none=>
   erw[jN (qs:=qs) h O hw,rs,r,k,z,ac,ad,hk,_,e];show∀x>QD (nE qs g),_;rw[e];have Z:yb g=-[!k,!z]:=by
    unfold yb;rw[ac];show xj r.th=_;rw[ad]
    rfl
   exact aa O (λkd y e2=>by rw[Z] at e2;cases e2;exact .inl [hk:1]) [k:z:Z]
  |some m=>
   simp only;erw[sU h hw,kd,Z,hk];cases ae:FP qs m with
   |some a=>exact aa O (λaf y e2=>by rw[Z] at e2;cases e2;exact .inr ⟨hk,AcE h O Z hk,a,ae,1⟩) [kd:m:Z]
   |none=>exact hF
def Ad3 (O:Qk qs):∀(k:Nat) {g:Gp},GI g->GA g->(∀x>QD g,Aaf qs x)->∀x>QD (itP qs k g),Aaf qs x
 |0,g,h,ha,t=>t
 |k+1,g,h,ha,t=>by
  erw[zu O (S9 O) h ha,h1,h2];exact Ad3 O k h1 h2 (AaH O h ha t)
def NN (U:Qk qs)(O:g0D m (qF qs m)=u_ g)(k:Nat):∀x>QD (itP qs k g),Aaf qs x:=
 Ad3 U k (Ko U O).1 (WS O).1 (λx Z=>by rw[(WS O).2] at Z;cases Z)
abbrev nI (qs:om (Str×D)) (m:Str):D:=match g0D m (qF qs m) with
 |none=>Yi (qF qs m)
 |some g=>Qt ((itP qs 302 g).en.getD .non)
def Mw {n:Str}{p:Gp}(h:Dn qs n don)(U:(m,p)>don):Sy.Yk (Y:=SyP qs) don m=u_ p:=by
 have O:=AI h;unfold Sy.Yk;have:(don.find? λq=>decide (q.1=m))=u_ (m,p):=by
  clear h
  induction don with
  |nil=>cases U
  |cons q r ih=>
   rw[uC,vZ] at O;rcases Aa.mp U with rfl|U
   .rw[vb,uj rfl]
   .have Z:q.1≠m:=λz=>O.1 (by rw[z];exact Ae.mpr [_:U:1])
    rw[vb,um Z];exact ih U O.2
 have e2:(rm (λq:Str×Gp=>decide (q.1=m)) don).map (·.2)=u_ p:=by rw[this];rfl
 exact e2
def Adz {n:Str}(h:Dn qs n don)(hm:g0D m (qF qs m)=U_\/m>don.map (·.1)):Ab8 qs don m=nI qs m:=by
 unfold Ab8 nI;cases U:g0D m (qF qs m) with
 |none=>rfl
 |some g=>
  rcases hm with hm|hm
  .rw[U] at hm;cases hm
  .erw[Ae.mp hm,[Z,p],hp,rfl];erw[XQ h hp,s,O,e2];have O:g0D Z (qF qs Z)=u_ s:=O;rw[U] at O;cases O;have e2:p=itP qs 302 g:=e2;simp![Mw h hp];rw[<-e2]
   rfl
abbrev AcW (d:D):oq Str:=match d with
 | .tup [!k,!m]=>if k="stuck" then u_ m else U_
 |_=>U_
variable {e:D}{x:Str}
def Ba (h:ThS e):e≠ -[-"stuck",!x]:=by
 intro z;rcases h with⟨y,rfl⟩|⟨y,rfl,_⟩|⟨u,y,rfl,_⟩
 .injection z with z;injection z with z _;injection z with z;revert z;decide+kernel
 .injection z with z;injection z with z _;injection z with z;revert z;decide+kernel
 .injection z with z;injection z with z _;injection z with z;revert z;decide+kernel
def AbU {r:Rn}(h:ThS r.th)(k:nc r=u_ e):ThS e:=by
 unfold nc at k;by_cases c:QI r.th=v_
 .rw[A6 c] at k;cases k
 .rw[A4 c] at k;cases k;exact h
def NM {d:D}(k:(mh g d).en=u_ e):ThS e:=by
 unfold mh at k;split at k
 .cases k;exact .inl ⟨0⟩
 .cases O:QJ d with
  |none=>rw[O] at k;cases k;exact .inl ⟨0⟩
  |some rs=>rw[O] at k;exact AbU (SW (wV O).2) k
def Dm {d:D}(h:GI g)(U:g.en=U_)(ha:XV d)(k:(Q1 g d).en=u_ e):ThS e:=by
 unfold Q1 at k;cases O:g.run with
 |none=>rw[O] at k;exact NM k
 |some p=>
  erw[p,rs,r];rw[O] at k;erw[h.run rs r O,h1,h2,h3,h4];exact AbU (IM h1 h2 (h4 U) ha) k
def Bg (hq:Qk qs){m x:Str}{s:Gp}(U:g0D m (qF qs m)=u_ s):∀k,(itP qs k s).en=u_ (-[-"stuck",!x])->∃i,(itP qs i s).en=U_/\yJ (itP qs i s)=u_ x/\FP qs x=U_
 |0,O=>by
  have O:s.en=u_ _:=O;unfold g0D at U;split at U
  .split at U
   .cases U
   .split at U
    .cases U;cases O
    .cases U;exact A8 rfl (Ba (NM O))
  .cases U
 |k+1,O=>by
  have e0:itP qs (k+1) s=Sy.step (SyP qs) (FP qs) (itP qs k s):=Sy.wF (Y:=SyP qs) k s;rw[e0,zC] at O;erw[js hq U k,gi,ga];cases Z:(itP qs k s).en with
  |some d=>
   rw[Z] at O;simp![RG,Vb] at O;exact Bg hq U k O
  |none=>
   rw[Z] at O;simp![vS,A4 ud] at O;cases hw:yJ (itP qs k s) with
   |none=>
    rw[hw] at O;erw[jN (qs:=qs) gi Z hw,rs,r,k',z,ad,ae,aa,_,e];have O:(nE qs (itP qs k s)).en=_:=O;have ac:=EZ hq gi Z hw;rw[e] at O ac;exact A8 rfl (Ba (Dm gi Z (.inr (Wn hq z aa).1) O))
   |some m'=>
    rw[hw] at O;simp only at O;cases hF:FP qs m' with
    |some a=>
     rw[hF] at O;exact A8 rfl (Ba (Dm gi Z (S9 hq _ _ hF) O))
    |none=>
     rw[hF] at O;have O:u_ (D.tup [-"stuck",!m'])=u_ (-[-"stuck",!x]):=O;cases O;exact⟨k,Z,hw,hF⟩
def AaE (h:EnS e)(k:AcW (Qt e)=u_ x):e=-[-"stuck",!x]:=by
 rcases h with⟨z,rfl⟩|⟨y,rfl,_⟩|⟨z,rfl⟩
 .have e2:Qt (flt z)=flt z:=by unfold Qt flt;dsimp only;exact A4 ()
  rw[e2] at k;have k:(if("fault":Str)="stuck" then u_ z else U_)=u_ x:=k
  rw[A4 ()] at k
  cases k
 .have e2:Qt (-[-"said",y])=-[-"value",y]:=by unfold Qt;dsimp only;exact A6 rfl
  rw[e2] at k;cases y with
  |str w=>
   have k:(if("value":Str)="stuck" then u_ w else U_)=u_ x:=k
   rw[A4 ()] at k
   cases k
  |_=>cases k
 .have e2:Qt (-[-"stuck",!z])=-[-"stuck",!z]:=by unfold Qt;dsimp only;exact A4 ()
  rw[e2] at k;have k:(if("stuck":Str)="stuck" then u_ z else U_)=u_ x:=k
  rw[A6 rfl] at k;cases k
  rfl
def Q7 {s:Gp}(O:g0D m (qF qs m)=u_ s):(itP qs 302 s).en.isSome=true:=Sy.it_end (Y:=SyP qs) (QB qs) 302 s ((QB qs).l0 m s O)
def AaD (hq:Qk qs){n:Str}(h:Dn qs n don)(hm:m>don.map (·.1))(Z:AcW (nI qs m)=u_ x):x>don.map (·.1):=by
 erw[Ae.mp hm,[m',p],hp,rfl];erw[XQ h hp,s,O,e2];have O:g0D m' (qF qs m')=u_ s:=O;unfold nI at Z;rw[O] at Z;simp only at Z;have hf:=Q7 O;cases he:(itP qs 302 s).en with
 |none=>rw[he] at hf;cases hf
 |some e=>
  rw[he] at Z;have ee:=AaE ((js hq O 302).1.en e he) Z;rw[ee] at he;erw[Bg hq O 302 he,i,h1,h2,h3];have U:∃g,g0D n (qF qs n)=u_ g:=by
   cases c:g0D n (qF qs n) with
   |none=>rw[KB c h] at hp;cases hp
   |some g=>exact[g:1]
  erw[U,g0,U];erw[h,j,hj];have fi:(SyP qs).fin (Sy.it (SyP qs) (Sy.F (SyP qs)) i s)=false:=by
   show(itP qs i s).en.isSome=Vc;rw[h1]
   rfl
  rcases Sy.end_clo (QB qs) U hj hp O (i:=i) (m:=x) fi h2 with c|c
  .rw[show FP qs x=_ from Sy.kY (QB qs) c] at h3
   cases h3
  .exact c
end
inductive Lu (CP:Addr):Sp
 |mk (px:Addr)(n:Str)(qs:List (Str×D))(_:vs= [-px,!n])(_:nm n=v_)(_:yS CP H px qs)(_:Qk qs)(_:∀v H',ic H H'->Is H' (nI qs n) v->nrg (nI qs n)->Q v H')
section
variable {P:og}{w:oh}{K:o0}{mg:Str->oq o6}{base:o9}{a:Ad}{g:Ga}
def L4:#[C,16,a.Wb,a.Wr,["project","name"],(Lu a.qJ)]:=by
 have JJ:=#[Er,T,C];have Qb:=#[Ec,T];exists 9,T.mT,nY
 erw[h,px,n,qs,rfl,hn,hP,hq,k];exists 3,%[|#[qo,#[Qm,#[qp,JJ,hr.mono (),T.lO,#v[pv 0,pv 1]],T.qx,T.io,Qb,#v[pv 1]]]]
 exists 0,0,px,n,qs,1,hn,hP,hq,λH1 o rk uk fk don _ O hl=>?_
 exists o.x,o.dx,0,O.oa.e,wC o _ (),0,o,n,qs,#[Y,[],don],uk,fk,1,O.oa,hq,O.sg,O.du,O.uo,O.df,O.fd,(),(λp hp=>(O.gi p hp).2),λv H2 aa k2 f2 d2 l2 _ y2=>?_
 unfold AV at y2;rw[AbY O.dn (AH O.dn)] at y2;erw[y2,d,hd,ha,hg];obtain⟨Z,U⟩:=hg (λz=>by cases z)
 have U:d=nI qs n:=U.trans (Adz O.dn (AH O.dn));rw[U] at hd Z;refine k v H2 (λb ob e=>k2.kept b ob (O.sm b ob e) (λz=>?_)) hd Z;rw[Ab.mp z,O.new.2.2.2] at e;cases e
end
variable {x:Str}
def AbX (O:Qk qs){n:Str}(h:Dn qs n don)(U:x>don.map (·.1)):nm x=true:=by
 erw[Ae.mp U,[m,p],Z,rfl];erw[XQ h Z,s,e,_];exact O.1.1.1 _ ((QB qs).gn _ s e)
variable {e:D}
def MG {s:Gp}(O:g0D m (qF qs m)=u_ s)(U:(itP qs 302 s).en=u_ e):nI qs m=Qt e:=by
 unfold nI;rw[O]
 try dsimp only
 rw[U]
 rfl
inductive Ch (rs:List Rw)(own:Str):Rn->List D->Rn->Prop
 |nil (r:Rn):Ch rs own r [] r
 |cons {r r':Rn}{a:D}{as:List D}(u:Str)(d:D)(h1:r.th=-[-"asks",-[!u,d]])(h2:AU u a=v_)(h3:Ch rs own (mi rs own r a) as r'):Ch rs own r (a::as) r'
variable {rs:om Rw}{own:Str}
def Ch.snoc {a:D}{r O:Rn}{as:om D}(h:Ch rs own r as O)(u:Str)(d:D)(h1:O.th=-[-"asks",-[!u,d]])(h2:AU u a=v_):Ch rs own r (as++ [a]) (mi rs own O a):=by
 induction h with
 |nil r=>exact .cons u d h1 h2 (.nil _)
 |cons U d' k1 k2 _ Z=>exact .cons U d' k1 k2 (Z h1)
def IY {r:Rn}{u:Str}{d:D}(h:r.th=-[-"asks",-[!u,d]]):QI r.th=true:=by
 rw[h];show decide (("asks":Str)="asks")=v_;exact uj rfl
abbrev Acz:D->D
 | .tup [_,a]=>a
 |_=> .non
abbrev RC (g:Gp):Prop:=∀rs r,g.run=u_ (rs,r)->Ch rs g.n (R0 rs g.n) (r.gs.map Acz) r
def M5 (h:g.run=U_)(d:D):RC (mh g d):=by
 intro rs r e;by_cases hn:yY d=v_
 .have U:mh g d={g with en:=u_ (flt "lack")}:=A6 hn
  rw[U] at e;exact A8 (h.symm.trans e) (by intro z;cases z)
 .cases Z:QJ d with
  |none=>
   have U:mh g d={g with en:=u_ (flt "rule")}:=by unfold mh;rw[A4 hn,Z]
   rw[U] at e;exact A8 (h.symm.trans e) (by intro z;cases z)
  |some O=>
   have U:mh g d={g with run:=u_ (O,R0 O g.n),en:=nc (R0 O g.n)}:=by unfold mh;rw[A4 hn,Z]
   rw[U] at e⊢;cases e;have:(R0 rs g.n).gs= []:=Wg _ _ _ _;show Ch rs g.n (R0 rs g.n) ((R0 rs g.n).gs.map Acz) (R0 rs g.n);rw[this];exact .nil _
def DS {d:D}(O:RC g)(U:∀rs r,g.run=u_ (rs,r)->∃u e,r.th= .tup [-"asks",-[!u,e]]/\AU u d=v_):RC (Q1 g d):=by
 cases h:g.run with
 |none=>
  have e:Q1 g d=mh {g with ra:= [-[-[-"rule",g.mb],d]]} d:=by unfold Q1;rw[h]
  rw[e];exact M5 (g:={g with ra:= [-[-[-"rule",g.mb],d]]}) h d
 |some p=>
  erw[p,rs,r];have Z:Q1 g d={g with run:=u_ (rs,mi rs g.n r d),en:=nc (mi rs g.n r d)}:=by unfold Q1;rw[h]
  rw[Z];intro aa r' e;cases e;erw[U rs r h,u,x,h1,h2];have:=(O rs r h).snoc u x h1 h2;show Ch rs g.n (R0 rs g.n) ((mi rs g.n r d).gs.map Acz) (mi rs g.n r d);rw[AS,uq];exact this
section
variable {qs:om (Str×D)}
def OT (hq:Qk qs)(h:GI g)(hc:RC g):RC (Sy.step (SyP qs) (FP qs) g):=by
 rw[zC];cases he:g.en with
 |some d=>exact hc
 |none=>
  simp![vS,A4 ud];cases hw:yJ g with
  |none=>
   erw[jN (qs:=qs) h he hw,rs,r,k,z,aa,ac,hk,_,e];show RC (nE qs g);rw[e];exact DS hc λae r' e'=>by
    rw[aa] at e';cases e';exact⟨k,_,ac,(Wn hq z hk).2⟩
  |some m=>
   simp only;cases hF:FP qs m with
   |none=>exact λrs r e=>hc rs r e
   |some y=>
    refine DS hc λrs r e=>?_;erw[sU h hw,kd,U,hk];have Z:=(h.run rs r e).2.2;unfold yb at U;rw[e] at U;have U:xj r.th=-[!kd,!m]:=U;have O:=Z.2 he;rcases Z.1 with⟨z,e1⟩|⟨e0,e1,_⟩|⟨u,z,e1,_,hu⟩
    .rw[e1] at O;exact A8 (show decide (("fault":Str)="asks")=v_ from O) ()
    .rw[e1] at O;exact A8 (show decide (("said":Str)="asks")=v_ from O) ()
    .rw[e1] at U;have U:D.tup [!u,!z]=-[!kd,!m]:=U;cases U;have ad:kd="thing":=by
      rcases hu with rfl|⟨rfl|rfl,_⟩
      .exact A8 hk ()
      .rfl
      .exact A8 hk ()
     subst ad;exact⟨_,_,e1,kE (S9 hq _ _ hF)⟩
def AaX (O:Qk qs):∀(k:Nat) {g:Gp},GI g->GA g->RC g->RC (itP qs k g)
 |0,g,h,ha,t=>t
 |k+1,g,h,ha,t=>by
  erw[zu O (S9 O) h ha,h1,h2];exact AaX O k h1 h2 (OT O h t)
def Ac0 {d:D}(h:g0D m d=u_ g):RC g:=by
 unfold g0D at h;split at h
 .split at h
  .cases h
  .split at h
   .cases h;intro rs r e;cases e
   .cases h;exact M5 rfl _
 .cases h
def AaU (U:Qk qs)(O:g0D m (qF qs m)=u_ g)(k:Nat):RC (itP qs k g):=AaX U k (Ko U O).1 (WS O).1 (Ac0 O)
abbrev Db (z:Str):D:=-[-"stuck",!z]
abbrev Acu (z:Str):D:=-[-"asks",-[-"thing",!z]]
abbrev Hs (src:D)(pre:om D)(rl:D):Prop:=(src= .tup [-"rule",rl]/\pre= [])\/∃z:Str,src= .tup [-"made",!z]/\pre= [-[-[-"rule",!z],rl]]
inductive IG (src:D)(p:Gp):Prop
 |wait (z:Str)(h0:src=-[-"made",!z])(h1:p.mb= !z)(h2:p.run=U_)(h3:p.ra= [])(h4:p.en=U_\/p.en=u_ (Db z)):IG src p
 |lack (pre:List D)(rl:D)(h0:Hs src pre rl)(h1:p.ra=pre)(h2:p.run=U_)(h3:yY rl=v_)(h4:p.en=u_ (flt "lack")):IG src p
 |bad (pre:List D)(rl:D)(h0:Hs src pre rl)(h1:p.ra=pre)(h2:p.run=U_)(h3:yY rl=Vc)(h5:QJ rl=U_)(h4:p.en=u_ (flt "rule")):IG src p
 |run (pre:List D)(rl:D)(rs:List Rw)(r:Rn)(h0:Hs src pre rl)(h1:p.ra=pre)(h2:p.run=u_ (rs,r))(h3:yY rl=Vc)(h5:QJ rl=u_ rs)(h4:p.en=nc r\/∃z,p.en=u_ (Db z)/\r.th=Acu z):IG src p
variable {src:D}
def NA {pre:om D}{rl:D}(h:g.run=U_)(hs:Hs src pre rl)(hp:g.ra=pre):IG src (mh g rl)/\(mh g rl).n=g.n:=by
 cases hn:yY rl with
 |true=>
  have O:mh g rl={g with en:=u_ (flt "lack")}:=A6 hn
  rw[O];exact[.lack pre rl hs hp h hn rfl:1]
 |false=>
  have U:¬yY rl=true:=by rw[hn];exact ud
  cases Z:QJ rl with
  |none=>
   have O:mh g rl={g with en:=u_ (flt "rule")}:=by unfold mh;rw[A4 U,Z]
   rw[O];exact[.bad pre rl hs hp h hn Z rfl:1]
  |some rs=>
   have O:mh g rl={g with run:=u_ (rs,R0 rs g.n),en:=nc (R0 rs g.n)}:=by unfold mh;rw[A4 U,Z]
   rw[O];exact[.run pre rl rs _ hs hp rfl hn Z (.inl rfl):1]
def Adh (Z:Qk qs)(h:g0D m (qF qs m)=u_ g):IG (qF qs m) g:=by
 have hm:m>qs.map (·.1):=(QB qs).gn m g h;erw[j0 Z hm,_,k,e,hd,h1,h2];rw[hd] at h⊢;have h:(if k="leaf" then U_ else if k="made" then u_ (⟨m,e,[],U_,U_⟩:Gp) else u_ (mh ⟨m,.non,[],U_,U_⟩ e))=u_ g:=h
 by_cases U:k="leaf"
 .rw[A6 U] at h;cases h
 rw[A4 U] at h;by_cases O:k="made"
 .rw[A6 O] at h;cases h;erw[h1 O,z,rfl,_];subst O;exact .wait z rfl rfl rfl rfl (.inl rfl)
 .rw[A4 O] at h;cases h;have hk:k="rule":=by
   rcases(h2 O).1 with h|h
   .exact A8 h U
   .exact h
  subst hk;exact(NA (g:=⟨m,.non,[],U_,U_⟩) rfl (.inl [1:1]) rfl).1
def Sw (hq:Qk qs)(h:GI g)(hi:IG src g):IG src (Sy.step (SyP qs) (FP qs) g):=by
 rw[zC];cases he:g.en with
 |some d=>exact hi
 |none=>
  simp![vS,A4 ud];cases hi with
  |lack pre rl h0 h1 h2 h3 h4=>rw[he] at h4;cases h4
  |bad pre rl h0 h1 h2 h3 h5 h4=>rw[he] at h4;cases h4
  |wait z h0 h1 h2 h3 h4=>
   have hw:yJ g=u_ z:=by
    unfold yJ yb;rw[h2]
    try dsimp only
    rw[h1]
    try dsimp only
    exact A4 ()
   rw[hw]
   try dsimp only
   cases hF:FP qs z with
   |none=>exact .wait z h0 h1 h2 h3 (.inr rfl)
   |some y=>
    have e:Q1 g (y.getD .non)=mh {g with ra:= [-[-[-"rule",g.mb],y.getD .non]]} (y.getD .non):=by unfold Q1;rw[h2]
    show IG src (Q1 g (y.getD .non));rw[e];exact(NA (g:={g with ra:= [-[-[-"rule",g.mb],y.getD .non]]}) h2 (.inr ⟨z,h0,by rw[h1]⟩) rfl).1
  |run pre rl rs r h0 h1 h2 h3 h5 h4=>
   have tk:∀d,IG src (Q1 g d):=λd=>by
    have e:Q1 g d={g with run:=u_ (rs,mi rs g.n r d),en:=nc (mi rs g.n r d)}:=by unfold Q1;rw[h2]
    rw[e];exact .run pre rl rs _ h0 h1 rfl h3 h5 (.inl rfl)
   cases hw:yJ g with
   |none=>
    erw[jN (qs:=qs) h he hw,aa,r',k,z,ac,ad,hk,_,e];show IG src (nE qs g);rw[e];exact tk _
   |some m=>
    try dsimp only
    cases hF:FP qs m with
    |some y=>exact tk _
    |none=>
     erw[sU h hw,kd,U,hk];have Z:=(h.run rs r h2).2.2;unfold yb at U;rw[h2] at U;have U:xj r.th=-[!kd,!m]:=U;have O:=Z.2 he;refine .run pre rl rs r h0 h1 h2 h3 h5 (.inr [m:1:?_]);rcases Z.1 with⟨z,e1⟩|⟨e0,e1,_⟩|⟨u,z,e1,_,hu⟩
     .rw[e1] at O;exact A8 (show decide (("fault":Str)="asks")=v_ from O) ()
     .rw[e1] at O;exact A8 (show decide (("said":Str)="asks")=v_ from O) ()
     .rw[e1] at U⊢;have U:D.tup [!u,!z]=-[!kd,!m]:=U;cases U;rcases hu with rfl|⟨rfl|rfl,_⟩
      .exact A8 hk ()
      .rfl
      .exact A8 hk ()
def AaF (g:Gp):(Sy.step (SyP qs) (FP qs) g).n=g.n:=by
 rw[zC];split
 .rfl
 .split
  .exact Abc qs g
  .split
   .exact Dl g _
   .rfl
def AbJ (O:Qk qs){src:D}:∀(k:Nat) {g:Gp},GI g->GA g->IG src g->IG src (itP qs k g)/\(itP qs k g).n=g.n
 |0,g,h,ha,t=>[t:1]
 |k+1,g,h,ha,t=>by
  erw[zu O (S9 O) h ha,h1,h2];erw[AbJ O k h1 h2 (Sw O h t),U,Z];exact[U:Z.trans (AaF g)]
inductive Fn (qs:List (Str×D))(m:Str)(src:D)(as:List D)(en:D):Prop
 |wait (z:Str)(h0:src=-[-"made",!z])(h1:as= [])(h2:en=Db z):Fn qs m src as en
 |lack (pre:List D)(rl:D)(h0:Hs src pre rl)(h1:as=pre)(h3:yY rl=v_)(h4:en=flt "lack"):Fn qs m src as en
 |bad (pre:List D)(rl:D)(h0:Hs src pre rl)(h1:as=pre)(h3:yY rl=Vc)(h5:QJ rl=U_)(h4:en=flt "rule"):Fn qs m src as en
 |run (pre:List D)(rl:D)(rs:List Rw)(r:Rn)(h0:Hs src pre rl)(h1:as=pre++r.gs)(h3:yY rl=Vc)(h5:QJ rl=u_ rs)(h6:Ch rs m (R0 rs m) (r.gs.map Acz) r)(h7:Dc rs r)(h8:ThS r.th)(h4:en=r.th\/∃z,en=Db z/\r.th=Acu z):Fn qs m src as en
def Ic (hq:Qk qs)(Z:g0D m (qF qs m)=u_ g):Fn qs m (qF qs m) (QD (itP qs 302 g)) (mF (itP qs 302 g)):=by
 erw[Ko hq Z,hG,hn];erw[AbJ hq 302 hG (WS Z).1 (Adh hq Z),hi,aa];have O:=Q7 Z;have ac:=AaU hq Z 302;have U:=(js hq Z 302).1;generalize itP qs 302 g=p at hi aa O ac U;unfold mF QD;cases hi with
 |wait z h0 h1 h2 h3 h4=>
  rcases h4 with h4|h4
  .rw[h4] at O;cases O
  .rw[h2,h3,h4];exact .wait z h0 rfl rfl
 |lack pre rl h0 h1 h2 h3 h4=>
  rw[h2,h4,h1];exact .lack pre rl h0 (v9 _) h3 rfl
 |bad pre rl h0 h1 h2 h3 h5 h4=>
  rw[h2,h4,h1];exact .bad pre rl h0 (v9 _) h3 h5 rfl
 |run pre rl rs r h0 h1 h2 h3 h5 h4=>
  have hc:=ac rs r h2;rw[aa,hn] at hc;have hO:=(U.run rs r h2).2.1;have ad:=(U.run rs r h2).2.2.1;rw[h2,h1];refine .run pre rl rs r h0 rfl h3 h5 hc hO ad ?_;rcases h4 with h4|⟨z,h4,h6⟩
  .rw[h4] at O⊢;unfold nc at O⊢;by_cases c:QI r.th=v_
   .rw[A6 c] at O;cases O
   .rw[A4 c];exact .inl rfl
  .rw[h4];exact .inr [z:1:h6]
end
namespace Sy
variable {Y:Sy}
abbrev Bf (l:om (Str×Y.G))(n:Str)(g:Y.G):Prop:=∃g',(g=g'\/∃m,g=Y.stuck g' m)/\S5 Y (l.map (·.1)) n g'
def Bf.more {l O:om (Str×Y.G)}{n:Str}{g:Y.G}(h:Bf l n g)(hn:∀p>l,p>O):Bf O n g:=by
 erw[h,g',h1,h2];exists g',h1,h2.more λm hm=>?_;erw[Ae.mp hm,p,U,rfl];exact Ae.mpr [p:hn p U:1]
structure Bfs (S:Ss Y):Prop where
 st:∀p>S.stk,Bf S.don p.1 p.2
 dn:∀l1 p l2,S.don=l1++p::l2->Bf l1 p.1 p.2
def Cz {α:Type}{l l1 l2:om α}{x p:α}(h:l++ [x]=l1++p::l2):(l=l1/\x=p)\/∃O,l=l1++p::O:=by
 rcases Tn l2 with rfl|⟨O,y,rfl⟩
 .exact .inl (RY h rfl|>.imp id λz=>(pA z).1)
 .right;exists O;have:l++ [x]=(l1++p::O)++ [y]:=by rw[h];simp
  exact(RY this rfl).1
variable {n0:Str}{S:Ss Y}
def Abs (h:Y.Ok)(hs:SOk n0 S)(c:Bfs S):Bfs (nxt S):=by
 erw[S,stk,don];cases stk with
 |nil=>exact c
 |cons p r=>
  erw[p,n,g];have c0:=c.st (n,g) uh;have put:∀g',Bf don n g'->Bfs (⟨(n,g')::r,don⟩:Ss Y):=λg' hb=>⟨λp Z=>by
   rcases Aa.mp Z with rfl|Z
   .exact hb
   .exact c.st p (ug _ Z),c.dn⟩
  have c1:Y.fin g=Vc->S5 Y (don.map (·.1)) n g:=λO=>by
   erw[c0,g1,h1,h2];rcases h1 with h1|⟨m,h1⟩
   .have h1:g=g1:=h1;rwa[h1]
   .have h1:g=Y.stuck g1 m:=h1;rw[h1,h.fs g1 m] at O;cases O
  have on:∀g',Y.fin g=Vc->step Y (F Y) g=g'->(∀m,Y.want g=u_ m->Y.g0 m=U_\/m>don.map (·.1))->Bf don n g':=by
   intro g' O e hm;erw[c1 O,s,k,h1,h2,h3];exists g',.inl rfl,s,k+1,h1,by rw[wF,<-h2,e],λi hi ac m hw=>?_
   by_cases ci:i<k
   .exact h3 i ci ac m hw
   .have:i=k:=by omega
    subst this;rw[<-h2] at hw;exact hm m hw
  unfold nxt;simp only;cases O:Y.fin g with
  |true=>
   rw[A6 rfl];exists λp Z=>(c.st p (ug _ Z)).more λq hq=>vf _ hq,λl1 p l2 e=>?_;rcases Cz e with⟨rfl,rfl⟩|⟨l3,e⟩
   .exact c0
   .exact c.dn l1 p l3 e
  |false=>
   rw[A4 ud];have aa:step Y (F Y) g=match Y.want g with
     |none=>Y.own g
     |some m=>match F Y m with
      |some a=>Y.tk g a
      |none=>Y.stuck g m:=by
    unfold step;rw[O,A4 ud]
    all_goals rfl
   cases hw:Y.want g with
   |none=>exact put _ (on _ O (by rw[aa,hw]) λm z=>by rw[hw] at z;cases z)
   |some m=>
    rw[hw] at aa;simp only at aa⊢;cases U:yet ([(n,g)::r:don]:Ss Y) m with
    |some o=>
     cases o with
     |some a=>
      have hF:=Aag h hs O hw U;refine put _ (on _ O (by rw[aa,hF]) λm' z=>?_)
      rw[hw] at z;cases z;unfold yet at U;by_cases cm:m>((n,g)::r).map (·.1)
      .rw[A6 cm] at U;cases U
      .rw[A4 cm] at U;cases hg:Y.g0 m with
       |none=>exact .inl rfl
       |some gm=>
        rw[hg] at U;simp only at U;cases hd:Yk don m with
        |none=>rw[hd] at U;cases U
        |some gd=>exact .inr (Ae.mpr [_:zk hd:1])
     |none=>exact put _ [g:.inr [m:1]:c1 O]
    |none=>
     simp only;erw[jW U,h1,[g',hg],h2];rw[hg];exists λp Z=>?_,c.dn;rcases Aa.mp Z with rfl|Z
     .exact⟨_,.inl rfl,g',(0),hg,1,λi hi=>A8 hi (UE i)⟩
     .exact c.st p Z
def nx_bf (h:Y.Ok){n0:Str}{S:Ss Y}(O:SOk n0 S)(c:Bfs S):∀k,Bfs (nx S k)
 |0=>c
 |k+1=>Abs h (nx_ok h O k) (nx_bf h O c k)
def S0_bf {n:Str}{g:Y.G}(O:Y.g0 n=u_ g):Bfs (S0 Y n):=by
 unfold S0;rw[O];exists λp U=>?_,λl1 p l2 e=>?_
 .cases Ab.mp U;exact⟨_,.inl rfl,g,(0),O,1,λi hi=>A8 hi (UE i)⟩
 .have e: []=l1++p::l2:=e;simp at e
end Sy
section
variable {qs:om (Str×D)}
def AaG (ha:GA g):∀x>QD (Sy.step (SyP qs) (FP qs) g),x>QD g\/(g.en=U_/\∃d,x=-[yb g,d]):=by
 have U:∀d,g.en=U_->∀x>QD (Q1 g d),x>QD g\/(g.en=U_/\∃d,x=-[yb g,d]):=by
  intro d Z x O;rw[(X3 ha Z d).1] at O;rcases Ac.mp O with O|O
  .exact .inl O
  .cases Ab.mp O;exact .inr [Z:d:1]
 rw[zC];cases Z:g.en with
 |some d=>exact λx O=> .inl O
 |none=>
  simp![vS,A4 ud];have U:∀d,∀x>QD (Q1 g d),x>QD g\/(True/\∃d,x=-[yb g,d]):=λd x O=>(U d Z x O).imp id λz=>[trivial:z.2];cases hw:yJ g with
  |none=>
   show∀x>QD (nE qs g),_;unfold nE;split
   .exact U _
   .exact λx O=> .inl O
  |some m=>
   simp only;cases FP qs m with
   |some a=>exact U _
   |none=>exact λx O=> .inl O
def Adg (U:Qk qs):∀(k:Nat) {g:Gp},GI g->GA g->∀x>QD (itP qs k g),x>QD g\/∃i,i<k/\(itP qs i g).en=U_/\∃d,x=-[yb (itP qs i g),d]
 |0,g,h,ha=>λx O=> .inl O
 |k+1,g,h,ha=>by
  erw[zu U (S9 U) h ha,h1,h2];intro x O;rcases Adg U k h1 h2 x O with O|⟨i,hi,hd⟩
  .rcases AaG ha x O with O|O
   .exact .inl O
   .exact .inr [(0):Hw k:O]
  .exact .inr [i+1:Nat.succ_lt_succ hi:hd]
variable {z:Str}
def Cp (hq:Qk qs){n:Str}{l1 l2:om (Str×Gp)}{p:Str×Gp}(h:Dn qs n don)(e:don=l1++p::l2){an:D}(U:D.tup [-[!kd,!z],an]>QD p.2)(hk:mW kd=Vc):g0D z (qF qs z)=U_\/z>l1.map (·.1):=by
 have hp:p>don:=by rw[e];simp
 erw[XQ h hp,s,Z,e2];cases hg:g0D n (qF qs n) with
 |none=>rw[KB hg h] at hp;cases hp
 |some g=>
  erw[id h,j,hj];have hb:=Sy.nx_bf (QB qs) (Sy.S0_ok hg) (Sy.S0_bf hg) j;rw[hj] at hb;erw[hb.dn l1 p l2 e,g',O,s',k,h1,h2,h3];have h1:g0D p.1 (qF qs p.1)=u_ s':=h1;rw[Z] at h1;cases h1;have ea:QD p.2=QD (itP qs k s):=by
   have h2:g'=itP qs k s:=h2;rcases O with O|⟨m,O⟩
   .rw[O,h2]
   .have O:p.2=Od g' m:=O;rw[O,h2]
    rfl
  rw[ea] at U;rcases Adg hq k (Ko hq Z).1 (WS Z).1 _ U with U|⟨i,aa,hi,d,hd⟩
  .rw[(WS Z).2] at U;cases U
  .have hw:yJ (itP qs i s)=u_ z:=by
    have hd:yb (itP qs i s)=-[!kd,!z]:=by
     injection hd with hd
     injection hd with hd _
     exact hd.symm
    unfold yJ;rw[hd];show(if mW kd=v_ then U_ else u_ z)=u_ z
    rw[hk,A4 ud]
   exact h3 i aa (by show(itP qs i s).en.isSome=Vc;rw[hi];rfl) z hw
def AcD (h:GI g)(he:g.en=U_)(O:yb g=-[!kd,!m])(hk:kd≠"names"):nm m=true:=by
 unfold yb at O;cases hr:g.run with
 |none=>
  rw[hr] at O;have O:D.tup [-"rule",g.mb]=-[!kd,!m]:=O;erw[h.no hr he,z,hz,hn];rw[hz] at O;cases O;exact hn
 |some p=>
  erw[p,rs,r];rw[hr] at O;have O:xj r.th=-[!kd,!m]:=O;have Z:=(h.run rs r hr).2.2;have U:=Z.2 he;rcases Z.1 with⟨z,e1⟩|⟨e0,e1,_⟩|⟨u,z,e1,_,hu⟩
  .rw[e1] at U;exact A8 (show decide (("fault":Str)="asks")=v_ from U) ()
  .rw[e1] at U;exact A8 (show decide (("said":Str)="asks")=v_ from U) ()
  .rw[e1] at O;have O:D.tup [!u,!z]=-[!kd,!m]:=O;cases O;rcases hu with rfl|⟨_,hn⟩
   .exact A8 rfl hk
   .exact hn
def IK (Z:Qk qs){s:Gp}(O:g0D m (qF qs m)=u_ s){an:D}(U:D.tup [-[!kd,!z],an]>QD (itP qs 302 s))(hk:kd≠"names"):nm z=true:=by
 rcases Adg Z 302 (Ko Z O).1 (WS O).1 _ U with U|⟨i,_,hi,d,hd⟩
 .rw[(WS O).2] at U;cases U
 .injection hd with hd
  injection hd with hd _
  exact AcD (js Z O i).1 hi hd.symm hk
end
abbrev Aeb (qs ers:om (Str×D))(kd z:Str)(an:D):Prop:=(kd≠"names"->nm z=v_)/\((mW kd=v_/\an=xl qs kd z)\/(mW kd=Vc/\(kd="thing"\/kd="rule")/\((g0D z (qF qs z)=U_/\an=(KH (qF qs z)).getD .non)\/((∃s,g0D z (qF qs z)=u_ s)/\z>ers.map (·.1)/\qF ers z= .tup [-"said",an]/\isT an=v_))))
structure Rst (qs ers es:om (Str×D))(m:Str)(as:om D)(en:D):Prop where
 nin:m∉ers.map (·.1)
 run:∃s,g0D m (qF qs m)=u_ s
 asks:∀x>as,∃kd z an,x= .tup [-[!kd,!z],an]/\↑z<=1000/\Aeb qs ers kd z an
 fin:Fn qs m (qF qs m) as en
 few:↑as<=400
 nd:nL as=v_/\dpL as<=30/\nD en=v_/\dp en<=20
 stk:∀z,en=Db z->z>es.map (·.1)/\∃k x,qF es z= .tup [!k,x]/\k≠"said"
nonrec abbrev Pp:=om (Str×om D×D)
abbrev lD (ps:Pp):om (Str×D):=ps.map λs=>(s.1,s.2.2)
abbrev stD (s:Str×om D×D):D:=-[.str s.1,.tup s.2.1,s.2.2]
structure Rpp (qs:om (Str×D))(ps:Pp):Prop where
 nd:((lD ps).map (·.1)).Nodup
 st:∀i s,ps[i]? =u_ s->Rst qs ((lD ps).take i) (lD ps) s.1 s.2.1 s.2.2
abbrev nC (don:om (Str×Gp)):Pp:=don.map λq=>(q.1,QD q.2,mF q.2)
def AD (don:om (Str×Gp)):(lD (nC don)).map (·.1)=don.map (·.1):=by
 unfold lD nC;rw[uP,uP]
 rfl
def Cn {p:Gp}(h:GI p):↑(QD p)<=400:=by
 have h1:=h.ra.2.2;unfold QD;rw[uF];cases O:p.run with
 |none=>show _+0<=400;omega
 |some q=>
  erw[q,rs,r];have h2:=(h.run rs r O).2.1;have h3:=h2.gs.2.2;have h4:=h2.n;show _+↑r.gs<=400;omega
def Aj (hq:Qk qs){n:Str}(h:Dn qs n don):Rpp qs (nC don):=by
 have aq:((lD (nC don)).map (·.1)).Nodup:=by rw[AD];exact AI h
 exists aq,λi s hs=>?_;unfold nC at hs;rw[uK] at hs;cases hp:don[i]? with
 |none=>rw[hp] at hs;cases hs
 |some p=>
  rw[hp] at hs;cases hs;have ak:=vg hp;erw[Af.mp hp,hi,au];have ac:don=don.take i++p::don.drop (i+1):=by
   rw[<-au,<-uV hi,U6]
  erw[XQ h ak,s,e1,e2];have al:=(js hq e1 302).1;have ag:=Q7 e1;have aw:(lD (nC don)).take i=lD (nC (don.take i)):=by
   unfold lD nC;rw[<-UY,<-UY]
  have e2:p.2=itP qs 302 s:=e2;have am:∀{l:om (Str×Gp)}{q:Str×Gp},(l.map (·.1)).Nodup->q>l->qF (lD (nC l)) q.1=mF q.2:=λ{l q} hl ax=>Cg (by rw[AD];exact hl) (Ae.mpr [(q.1,QD q.2,mF q.2):Ae.mpr [q:ax:1]:1])
  have ay:((don.take i).map (·.1)).Nodup:=(AI h).sublist ((V0 i don).map _)
  try dsimp only
  rw[aw];exists ?_,[s:e1],λx hx=>?_,?_,?_,?_,λz hz=>?_
  .rw[AD];intro z;have:=AI h;rw[ac,uq,UH] at this;exact this.2.2 p.1 z p.1 (by rw[uC];exact uh) rfl
  .obtain⟨kd,z,an,rfl,aA,hc⟩:=NN hq e1 302 x (by rwa[<-e2])
   exists kd,z,an,1,aA,λhk=>IK hq e1 (by rwa[<-e2]) hk
   rcases hc with hc|⟨hk,aB,y,hF,ha⟩
   .exact .inl hc
   .refine .inr [hk:aB:?_];rcases Cp hq h ac hx hk with h0|ad
    .refine .inl [h0:?_];have ao:FP qs z=u_ (KH (qF qs z)):=Sy.kY (QB qs) h0;rw[hF] at ao;cases ao;exact ha
    .erw[Ae.mp ad,[z',pz],ae,rfl];erw[XQ h (Uc ae),sz,ez,aa];have ez:g0D z' (qF qs z')=u_ sz:=ez;have aa:pz=itP qs 302 sz:=aa;have Z:FP qs z'=(Y1 (itP qs 302 sz)).map some:=Sy.F_run (QB qs) ez;rw[hF] at Z;cases O:Y1 (itP qs 302 sz) with
     |none=>rw[O] at Z;cases Z
     |some v=>
      rw[O] at Z;have hy:y=u_ v:=uM Z;rw[hy] at ha;have ha:an=v:=ha;have ah:=(js hq ez 302).1;have af:=Q7 ez;have ap:mF (itP qs 302 sz)= .tup [-"said",v]/\isT v=true:=by
       unfold Y1 at O;unfold mF;cases U:(itP qs 302 sz).en with
       |none=>rw[U] at af;cases af
       |some e=>
        rw[U] at O;have O:YZ e=u_ v:=O;rcases ah.en e U with⟨y,rfl⟩|⟨y,rfl,hy⟩|⟨y,rfl⟩
        .have:YZ (flt y)=none:=(show(if("fault":Str)="said" then u_ (D.str y) else U_)=U_ from A4 ())
         rw[this] at O;cases O
        .have:YZ (-[-"said",y])=u_ y:=(show(if("said":Str)="said" then u_ y else U_)=u_ y from A6 rfl)
         rw[this] at O;cases O;exact[1:hy]
        .have:YZ (-[-"stuck",!y])=none:=(show(if("stuck":Str)="said" then u_ (D.str y) else U_)=U_ from A4 ())
         rw[this] at O;cases O
      refine .inr ⟨[sz:ez],by rwa[AD],?_,by rw[ha];exact ap.2⟩
      rw[am ay ae];show mF pz=_;rw[aa,ap.1,ha]
  .show Fn qs p.1 (qF qs p.1) (QD p.2) (mF p.2);rw[e2];exact Ic hq e1
  .show(QD p.2).length<=400;rw[e2];exact Cn al
  .have:=Mp al ag;rw[<-e2] at this;rw[ZW] at this;erw[this,a1,a2,a3,a4];simp![nD] at a1;simp![dp] at a2;exact⟨a1,by show dpL (QD p.2)<=30;omega,a3,a4⟩
  .have hz:mF p.2=Db z:=hz;have he:(itP qs 302 s).en=u_ (-[-"stuck",!z]):=by
    rw[e2] at hz;unfold mF at hz;cases U:(itP qs 302 s).en with
    |none=>rw[U] at ag;cases ag
    |some e=>rw[U] at hz;exact A9 u_ hz
   erw[Bg hq e1 302 he,_,_,_,aC];have aD:AcW (nI qs p.1)=u_ z:=by
    rw[MG e1 he];have e2:Qt (-[-"stuck",!z])=-[-"stuck",!z]:=by unfold Qt;dsimp only;exact A4 ()
    rw[e2];show(if("stuck":Str)="stuck" then u_ z else U_)=u_ z
    exact A6 rfl
   have ad:=AaD hq h (TN ak) aD;refine⟨by rwa[AD],?_⟩
   erw[Ae.mp ad,[z',pz],ae,rfl];erw[XQ h ae,sz,ez,aa];have ez:g0D z' (qF qs z')=u_ sz:=ez;have aa:pz=itP qs 302 sz:=aa;rw[am (AI h) ae];show∃k x,mF pz=_/\_;rw[aa];have Z:FP qs z'=(Y1 (itP qs 302 sz)).map some:=Sy.F_run (QB qs) ez;rw[aC] at Z;have ah:=(js hq ez 302).1;have af:=Q7 ez;unfold mF;cases U:(itP qs 302 sz).en with
   |none=>rw[U] at af;cases af
   |some e=>
    rcases ah.en e U with⟨y,rfl⟩|⟨y,rfl,hy⟩|⟨y,rfl⟩
    .exact["fault":0:()]
    .have:Y1 (itP qs 302 sz)=u_ y:=by unfold Y1;rw[U];show(if("said":Str)="said" then u_ y else U_)=u_ y;exact A6 rfl
     rw[this] at Z;cases Z
    .exact["stuck":0:()]
end K45
namespace K45
open PySem L2 PyProof.Rows
inductive Acv (x:V)(y:V)(H:Hp)(Q:VK):Prop
 |same (d:D)(h0:Is H d x)(h1:Is H d y)(h2:d= .non\/trD d=v_)(h3:dp d<=60)(h4:Q (.bl v_) H):Acv x y H Q
 |nt (p:Addr)(us:List V)(h0:x= .non)(h1:y=-p)(h2:H p=u_ (¬us))(h3:Q (.bl Vc) H):Acv x y H Q
variable {X:Cx}
def Ea (hu:X.A.units+64<Vl):OpR X (Vm .Eq) Acv:=by
 exists 2,x,y,v,u,Q,I,O,U,h;have Z:X.A.units<cLine:=by omega
 rcases h with⟨d,h1,h2,rfl|hd,hp,q⟩|⟨p,us,rfl,rfl,hp,q⟩
 .cases(show x= .non from h1)
  cases(show y= .non from h2)
  exact QN ot s σ H .non .non v u Q I O U ⟨1,by simpa using q⟩
 .refine BA hu ot s σ H x y v u Q I O U ⟨d,d,h1,h2,hd,hd,hp,?_⟩;rwa[(AF (MR hd)).mpr rfl]
 .cases O;cases U;erw[I.tuple (.inl (.of hp)),its,_,tq,_];exact ph tq Z X.prog X.w X.xe _ ⟨.bl Vc,H,I,1,q⟩
def NF {K:o0}{a:o3}{c:Int}{xs:om V}{g:TG}{tb:TS}{D:mU}{σ:L2.St}{H:Hp}(O:Nat->L2.St->Hp->Prop)(h0:O 0 σ H)(hl:∀i σ H,i<=↑xs->O i σ H->SqT K H a xs)
  (hs:∀i x σ H p,xs[i]? =u_ x->O i σ H->H p=U_->g (-p) σ (upd H p (-[.int (c+i),x])) λZ H2=>tb {D with nx:=O (i+1),ct:=O (i+1),bk:=D.nx} Z H2) (hd:∀σ H,O ↑xs σ H->D.nx σ H):
  ∃W:Nat->Nat->L2.St->Hp->Prop,(∃m,W 0 m σ H)/\∀i m σ H,W i m σ H->
   ((Ite K a c).stop i H/\D.nx σ H)\/((Ite K a c).go i H/\∃N:L2.St->Hp->Prop,(∀σ' H',N σ' H'->∃m',m'<m/\W (i+1) m' σ' H')/\∀x H',(Ite K a c).yld i H x H'->g x σ H' λZ H2=>tb {D with nx:=N,ct:=N,bk:=D.nx} Z H2):=by
 exists λi m σ H=>m=↑xs-i/\i<=↑xs/\O i σ H,⟨↑xs,by simp,uQ _,h0⟩
 rintro i m σ H ⟨rfl,hi,p⟩;have q:=hl i σ H hi p;by_cases U:i<↑xs
 .refine .inr ⟨⟨xs,xs[i],q,by simp[U]⟩,O (i+1),λσ' H' p'=>⟨↑xs-(i+1),(),1,U,p'⟩,λx H' y=>?_⟩
  erw[y,p2,y2,rfl,hp,rfl,y];exact hs i y2 σ _ p2 (y xs q) p hp
 .have e:i=↑xs:=by omega
  subst e;exact .inl [[xs:q:1]:hd σ H p]
inductive DE:Sp
 |mk (v:V)(d:D)(_:vs= [v])(_:Is H d v)(_:(d= .non\/∃k e,d=-[!k,e]))(_:∀H',ic H H'->Q (.bl (yY (Yi d))) H')
inductive CG (rs:List Rw)(own:Str):Rn->List D->Rn->Prop
 |nil (r:Rn):CG rs own r [] r
 |cons {r r':Rn}{a:D}{gs:List D}(u:Str)(d:D)(h1:r.th=-[-"asks",-[!u,d]])(h2:AU u a=v_)(h3:CG rs own (mi rs own r a) gs r'):CG rs own r (.tup [-[!u,d],a]::gs) r'
def Ab3 {rs:om Rw}{own:Str}:∀{as:om D}{r r':Rn},Ch rs own r as r'->∃gs,r'.gs=r.gs++gs/\CG rs own r gs r'
 |_,_,_,.nil r=>⟨[],by simp,.nil r⟩
 |_,r,_,.cons (a:=a) u d h1 h2 h3=>by
  erw[Ab3 h3,gs,e,h];exists .tup [-[!u,d],a]::gs,?_,.cons u d h1 h2 h;rw[e,AS,h1];simp[xj]
inductive Oj (C:Addr):Sp
 |mk (m:Mc)(r r':Rn)(t:Addr)(us:List V)(gs:List D)(_:vs= [-m.x,-t])(_:yy C H m r)(_:Dc m.rs r)(_:QX m.rs)(_:↑m.own<=100)(_:H t=u_ (¬us))(_:L2.IsL H gs us)(_:CG m.rs m.own r gs r')(_:∀H',Mv m H H'->yy C H' m r'->Dc m.rs r'->Q (.int (↑gs:Int)) H')
abbrev AdO (r:Rn)(en:D):Prop:=(en=r.th/\QI r.th=Vc/\∃k x,en= .tup [!k,x]/\k≠"stuck")\/∃z,en=Db z/\r.th=Acu z
inductive OF:Sp
 |mk (rv:V)(own:Str)(tr ta:Addr)(us:List V)(ev:V)(rs:List Rw)(r:Rn)(gs:List D)(_:vs= [rv,!own,-tr])(_:Is H (jQ rs) rv)(_:QX rs)(_:nm own=v_)(_:H tr=u_ (-[-ta,ev]))(_:H ta=u_ (¬us))(_:L2.IsL H gs us)(_:CG rs own (R0 rs own) gs r)(_:Is H r.th ev)(_:QI r.th=Vc)(_:∀H',ic H H'->Q (.bl v_) H')
inductive Lj:Sp
 |mk (rv:V)(own:Str)(ta:Addr)(us:List V)(ev:V)(rs:List Rw)(r:Rn)(gs:List D)(en:D)(_:vs= [rv,!own,-ta,ev])(_:Is H (jQ rs) rv)(_:QX rs)(_:nm own=v_)(_:H ta=u_ (¬us))(_:L2.IsL H gs us)(_:CG rs own (R0 rs own) gs r)(_:Is H en ev)(_:AdO r en)(_:∀H',ic H H'->Q (.bl v_) H')
inductive DD:Sp
 |mk (sv:V)(own:Str)(ta:Addr)(us:List V)(ev:V)(qs:List (Str×D))(src:D)(as:List D)(en:D)(_:vs= [sv,!own,-ta,ev])(_:Is H src sv)(_:nm own=v_)(_:H ta=u_ (¬us))(_:L2.IsL H as us)(_:Fn qs own src as en)(_:Is H en ev)(_:EnS en)(_:nD en=v_/\dp en<=20)(_:∀H',ic H H'->Q (.bl v_) H')
section
variable {P:og}{w:oh}{K:o0}{mg:Str->oq o6}{base:o9}{a:Ad}{g:Ga}
def oK:#[T,2,a.f_has_run,a.d_has_run,["source"],DE]:=by
 have Z:=#[Al,T];exists 9,T.mL,CD
 erw[h,v,d,rfl,iv,hd,k];have hs:=uE;exists 3,%[|#[qo,#[Qw,yT,#[qp,Z,hr.mono (),T.iD,#v[pv 0]],qT]]]
 exists 0,v,d,1,iv,hd,λu H1 s1 O=>[1:?_];have e:decide (u=V.non)=yY (Yi d):=by
  cases hd:yY (Yi d) with
  |true=>
   cases U:Yi d with
   |non=>rw[U] at O;exact uj O
   |_=>rw[U] at hd;cases hd
  |false=>exact um (jL O λz=>by rw[z] at hd;cases hd)
 rw[e];exact k _ s1
def Ee:#[C,8,a.jy,a.jq,["machine","asks"],(Oj a.qm)]:=by
 have Qq:=#[oH,T];have Ys:FnOk P w K mg base (CX1 P w) 6 a.Yv a.Yu ["self","tree"] (MW a.qm):=(Nj T C).up0;exists 9,T.iM,yz
 erw[h,m,r0,r',t,us,gs,rfl,M0,ah,hR,ak,ht,ac,al,k];have hs:=uE;have U:↑us=↑gs:=↑ac;exists 3,%[#[Ym,#[Bx,8,_,T.wv,pv 1,_],#[oz,6,rfl,Qy #[qM,(2),yz.nd] (Qy #[qM,(3),yz.nd] JH),_,_],%[#[qH,#[qq,#[jX,hr.units],#[QL,pv 0,T.qu,T.iC,Qq],#[qG,#v[ql,#[qC,qD,pv 3]]],qw _],%[|#[qo,pv 2]],qt]|#[O0,26,pv 0,T.qu,T.iE.h,Ys,hr.mono (),T.iE.b,#v[#[qC,qD,pv 3]],[1:1],_,C.m_BadAnswer,C.e_BadAnswer,(λ_ _=>%[|#[qo,pv 2]]),_,_,_,_,_]]]|#[qo,#[qA,qN,T.yR,uO,#v[pv 1]]]]
 exists 8,N1,q1
 exists 0,t,us,1,SqT.of ht,λhsz=>?_
 let J_:Nat->L2.St->Hp->Prop:=λi σ H'=>∃(r:Rn) (x2 x3:oq V),σ= [u_ (-m.x),u_ (-t),x2,x3]/\yy a.qm H' m r/\Dc m.rs r/\CG m.rs m.own r (gs.drop i) r'/\Mv m H H'
 refine NF (c:=0) (xs:=us) J_ ⟨r0,_,0,M0,ah,al,Mv.refl _ _⟩ (λi σ H' hi ⟨_,_,_,_,_,_,_,mv⟩=>SqT.of (mv.tk.tup _ _ ht)) ?_ ?_
 .rintro i y σ H' p hy ⟨r,x2,x3,rfl,M,hO,hc,mv⟩ hp;have ad:i<↑gs:=by rw[<-U];exact(Af.mp hy).1
  have am:gs.drop i=gs[i]::gs.drop (i+1):=uV ad;rw[am] at hc;generalize ao:gs[i]=gi at hc;obtain⟨y',ae,iy⟩:=ac.get (i:=i) (d:=gi) (by rw[ui ad,ao])
  rw[hy] at ae;cases ae;have s1:=qf hp (-[.int (0+(i:Int)),y]);have M1:=M.same s1;have Z:=mv.trans (Mv.of s1);have e1:(upd H' p (-[.int (0+(i:Int)),y])) p=u_ (-[.int (0+(i:Int)),y]):=qg;generalize upd H' p (-[.int (0+(i:Int)),y])=H1 at s1 M1 Z e1⊢;have ap:=iy.mono Z.tk;cases hc with
  |cons u d h1 h2 h3=>
   rename_i an
   erw[ap,tp,up,rfl,af,v1,r1,rfl,i1,v2,r2,rfl,i2,aq];cases(show r2= [] from aq)
   exists p,0,SqT.of e1,1,_,0,_,0,1;show ni _ _ _ _ H1;exists 8,B1,b1;erw[id M1,au,aw,_,_,_,_,ax,ay,_]
   exists 0,m.x,au,aw,1,ax,ay.meth _ (),m,r,1,M1,λv5 i5=>?_
   rw[h1] at i5
   exists 0,tp,_,_,0,1,SqT.of af,qz (j:=0) rfl,sml rfl,λl hl=>?_;have s2:=qf hl (-[-"asks",v1]);have aa:=hO.gd;rw[h1] at aa;have O:=ZK aa.1;have ag:dpL [-"asks",-[!u,d]]<=60:=by
    have:=aa.2;simp![dp] at this⊢;omega
   simp![nD] at O
   exists [-"asks",-[!u,d]],[-"asks",-[!u,d]],i5.mono s2.tk,Is.new (ds:= [-"asks",-[!u,d]]) ⟨_,0,yx (),_,0,i1,1⟩ hl,O,O,ag,0
   rw[(eqNL_iff O).mpr rfl];refine iL (b1 _ _ ?_);have M2:=M1.same s2;have aA:=Z.trans (Mv.of s2);erw[id M2,aB,aC,_,_,_,_,aD,aE,_]
   exists 0,m.x,aB,aC,1,aD,aE.meth _ (),0,tp,_,_,0,1,SqT.of (s2 _ _ af),qz (j:=1) rfl,m,r,v2,u,d,an,1,M2,hO,h1,i2.mono s2.tk,hR,ak,h2,λH3 aF M3=>?_
   exact⟨mi m.rs m.own r an,_,0,M3,AR hR hO (IY h1) (AT h2),h3,aA.trans aF⟩
 .rintro σ H' ⟨r,x2,x3,rfl,M,hO,hc,mv⟩;rw[U,rO] at hc;cases hc;refine q1 _ _ ?_
  exists 0,t,us,1,.inr (SqT.of (mv.tk.tup _ _ ht));rw[U];exact k _ mv M hO
variable {C dx:o3}{H:Hp}{v:V}{rs:om Rw}{own:Str}{Q:VK}
def Nt {br bn:o3}{E:XK}{x:o3}(hv:Is H (jQ rs) v)(hR:QX rs)(O:nm own=v_)(hx:H x=U_)(Z:H dx=U_)(q:∀(db dg:o3) (H':Hp),H db=U_->H dg=U_->ic H H'->yy C H' ⟨x,db,dg,rs,own⟩ (R0 rs own)->Q .non H'):
  KO C br bn [-x,v,!own] (upd (upd H dx (.own x)) x (.ins C dx [])) Q E:=by
 have U:ic H (upd (upd H dx (.own x)) x (.ins C dx [])):=λb o h=>by rwa[qi (qk h hx),qi (qk h Z)]
 have hl:=xS O;exists x,dx,v,!own,jQ rs,!own,1,qg,hv.mono U.tk,yx (),λh=>?_,λ_ h=>?_,λaa af e1 ac e2 _ _ H1 db dg kept ad ae M1=>?_
 .rw[hR.read] at h;cases h
 .rw[show mG (!own)=nm own from rfl,O] at h;cases h
 .cases e2;have:aa=rs:=by
   have h1:=ac.read;rw[<-e1,hR.read] at h1;exact(uM h1).symm
  subst this;exact q db dg H1 (U.free ad) (U.free ae) (λb o h=>kept b o (U b o h) (qk h hx)) M1
variable {H1 H2:Hp}
def DL {m:Mc}(s:ic H H1)(v:Mv m H1 H2)(h1:H m.x=U_)(h2:H m.db=U_)(h3:H m.dg=U_):ic H H2:=λb o e=>v.kept b o (s b o e) (qk e h1) (qk e h2) (qk e h3)
def PL:#[C,9,a.f_does,a.d_does,["rule","own","run"],OF]:=by
 have yX:=#[Ee,T,C];have yg:=#[k8,T,C];have Qq:=#[oH,T];have qW:=#[Ku,T];exists 9,T.E2,DK
 erw[h,rv,own,tr,ta,us,ev,rs,r,gs,rfl,hv,hR,aa,Z,ac,ad,am,ie,hw,k];have hs:=uE;have au:=xS aa;exists 3,%[#[qE,(3),DK.nd,#[zJ,T.Wm,yg,hr.mono (),T.wP,T.iN,DY,#v[pv 0,pv 1]]],#[qH,#[qq,D6,#[qp,yX,hr.mono (),T.iM,#v[pv 3,#[qC,qD,pv 2]]],#[qA,qN,T.yR,uO,#v[#[qC,qD,pv 2]]],qw _],%[|#[qo,YA]],qt]|#[qo,#[ZC,#[Aa8,4,#[QL,pv 3,T.qu,T.im,qW]],#[XL,#[Qw,#[oG,1,hr.units],#[QL,pv 3,T.qu,T.iC,Qq],#[qC,qD,pv 2]]]]]]
 exists 8,N1,q1
 exists 0,0,λx dx hx ao nx=>Nt hv hR aa hx ao λdb dg H1 ap aq s1 M1=>[1:q1 _ _ ?_];exists 8,N2,q2
 exists 5
 refine⟨0,0,tr,_,_,0,1,SqT.of (s1 _ _ Z),qz (j:=0) rfl,⟨x,db,dg,rs,own⟩,R0 rs own,r,ta,us,gs,1,M1,MJ hR,hR,by show ↑own<=100;omega,s1 _ _ ac,ad.mono s1.tk,am,λH2 mv M2 hO=>?_⟩
 have s2:ic H H2:=DL s1 mv hx ap aq
 exists 0,tr,_,_,0,1,SqT.of (s2 _ _ Z),qz (j:=0) rfl,ta,us,1,.inr (SqT.of (s2 _ _ ac)),_,0,1,0;rw[↑ad];refine iZ (um ()) (q2 _ _ ?_)
 erw[id M2,ae,af,_,_,_,_,ag,ah,_];erw[hO.two,wd,ed,U]
 exists 0,x,ae,af,1,ag,ah.meth _ (),⟨x,db,dg,rs,own⟩,r,1,M2,.inr [wd:ed:U]
 rw[hw]
 exists 0
 exists 0,lV rfl ?_;have O:nL [!wd,ed]=true:=by
  have:=ZK hO.gd.1;rw[U] at this
  simpa only [nD] using this
 have ak:dpL [!wd,ed]<=60:=by
  have:=hO.gd.2;rw[U] at this;simp![dp] at this⊢;omega
 exists 0,x,ae,af,1,ag,ah.meth _ (),⟨x,db,dg,rs,own⟩,r,1,M2,λv5 i5=>?_
 have al:=ie.mono s2.tk;rw[U] at i5 al
 exists 0,tr,_,_,0,1,SqT.of (s2 _ _ Z),qz (j:=1) rfl,_,_,i5,al,O,O,ak;rw[(eqNL_iff O).mpr rfl];exact k _ s2
def LM:#[C,10,a.wX,a.WE,["rule","own","asks","end"],Lj]:=by
 have O:=#[PL,T,C];have yX:=#[Ee,T,C];have yg:=#[k8,T,C];have Qq:=#[oH,T];exists 9,T.mR,Zj
 erw[h,rv,own,ta,us,ev,rs,r,gs,en,rfl,hv,hR,Z,aa,ac,ad,ie,hE,k];have hs:=uE;have ay:=xS Z;exists 3,%[#[qH,#[qq,LI,#[qC,qD,pv 3],ql,qw _],%[|#[qo,#[qp,O,hr.mono (),T.E2,#v[pv 0,pv 1,#[qG,#v[pv 2,pv 3]]]]]],qt],#[qE,(4),Zj.nd,#[zJ,T.Wm,yg,hr.mono (),T.wP,T.iN,DY,#v[pv 0,pv 1]]]|#[qo,#[ZC,#[Qw,QN,#[qp,yX,hr.mono (),T.iM,#v[pv 4,pv 2]],#[qA,qN,T.yR,uO,#v[pv 2]]],#[XL,#[Qw,#[oG,1,hr.units],#[QL,pv 4,T.qu,T.iC,Qq],#[qG,#v[ql,#[qG,#v[ql,#[qC,qD,pv 3]]]]]]]]]]
 exists 8,N1,q1;rcases hE with⟨e0,hw,kk,ex,ee,hk⟩|⟨z,ee,ae⟩
 .rw[ee] at ie;erw[id ie,te,ue,rfl,U,w1,r1,rfl,[rfl,af],ag]
  exists 0,te,_,_,0,1,SqT.of U,qz (j:=0) rfl,1,0,lV (by simpa using hk) ?_
  exists 0,0,0,0,sml rfl,λtr ah=>?_;have m1:=qf ah (-[-ta,-te])
  exists rv,own,tr,ta,us,-te,rs,r,gs,1,hv.mono m1.tk,hR,Z,qg,m1 _ _ aa,ac.mono m1.tk,ad,?_,hw,λH' s'=>k H' (m1.trans s');rw[<-e0,ee];exact ie.mono m1.tk
 .rw[ee] at ie;erw[id ie,te,ue,rfl,U,w1,r1,rfl,[rfl,af],w2,r2,rfl,[rfl,ak],al];cases(show r2= [] from al)
  exists 0,te,_,_,0,1,SqT.of U,qz (j:=0) rfl,1,0,iZ (by simp) (q1 _ _ ?_)
  exists 8,N2,q2
  exists 0,0,λx dx hx am nx=>Nt hv hR Z hx am λdb dg H1 ao ap s1 M1=>[1:q2 _ _ ?_]
  exists 5
  refine⟨0,0,⟨x,db,dg,rs,own⟩,R0 rs own,r,ta,us,gs,1,M1,MJ hR,hR,by show ↑own<=100;omega,s1 _ _ aa,ac.mono s1.tk,ad,λH2 mv M2 hO=>?_⟩
  have s2:ic H H2:=DL s1 mv hx ao ap
  exists 0,ta,us,1,.inr (SqT.of (s2 _ _ aa)),1,0;rw[↑ac];refine lV (uj rfl) ?_;erw[id M2,aq,au,_,_,_,_,aw,ax,_]
  exists 0,x,aq,au,1,aw,ax.meth _ (),⟨x,db,dg,rs,own⟩,r,1,M2,λv5 i5=>?_
  exists 0,te,_,_,0,1,SqT.of (s2 _ _ U),qz (j:=1) rfl,sml rfl,λt1 h1=>[sml rfl:λt2 h2=>?_];have n1:=qf h1 (-[V.str "thing",V.str z]);have n2:=qf h2 (-[V.str "asks",V.ref t1]);have j1:=Is.new (ds:= [-"thing",!z]) ⟨_,0,yx (),_,0,[1:ak],1⟩ h1
  have j2:=Is.new (ds:= [-"asks",-[-"thing",!z]]) ⟨_,0,yx (),_,0,j1,1⟩ h2
  rw[ae] at i5;have nl:nL [-"asks",-[-"thing",!z]]=true:=rfl
  exists _,_,i5.mono (n1.trans n2).tk,j2,nl,nl,by simp[dpL,dp]
  rw[(eqNL_iff nl).mpr rfl];exact k _ ((s2.trans n1).trans n2)
inductive GoR (own:Str)(rl:D)(gs:List D)(en:D):Prop
 |lack (h0:yY rl=v_)(h1:gs= [])(h2:en=flt "lack"):GoR own rl gs en
 |bad (h0:yY rl=Vc)(h1:QJ rl=U_)(h2:gs= [])(h3:en=flt "rule"):GoR own rl gs en
 |run (rs:List Rw)(r:Rn)(h0:yY rl=Vc)(h1:QJ rl=u_ rs)(h3:CG rs own (R0 rs own) gs r)(h5:AdO r en):GoR own rl gs en
def Adu {r:Rn}{en:D}(h8:ThS r.th)(O:EnS en)(h4:en=r.th\/∃z,en=Db z/\r.th=Acu z):AdO r en:=by
 rcases h4 with h4|h4
 .left;rcases O with⟨z,e⟩|⟨x,e,_⟩|⟨z,e⟩
  .exact⟨h4,by rw[<-h4,e];exact(show decide (("fault":Str)="asks")=Vc by decide+kernel),_,_,e,()⟩
  .exact⟨h4,by rw[<-h4,e];exact(show decide (("said":Str)="asks")=Vc by decide+kernel),_,_,e,()⟩
  .rw[h4] at e;exact A8 e (Ba h8)
 .exact .inr h4
variable {qs:om (Str×D)}{src:D}
def Ads {as:om D}{en:D}(h:Fn qs own src as en)(O:EnS en):(∃z:Str,src= .tup [-"made",!z]/\as= []/\en=Db z)\/∃pre gs rl,Hs src pre rl/\as=pre++gs/\GoR own rl gs en:=by
 cases h with
 |wait z h0 h1 h2=>exact .inl ⟨z,h0,h1,h2⟩
 |lack pre rl h0 h1 h3 h4=>exact .inr ⟨pre,[],rl,h0,by rwa[v9],.lack h3 rfl h4⟩
 |bad pre rl h0 h1 h3 h5 h4=>exact .inr ⟨pre,[],rl,h0,by rwa[v9],.bad h3 h5 rfl h4⟩
 |run pre rl rs r h0 h1 h3 h5 h6 h7 h8 h4=>
  erw[Ab3 h6,gs,e,U];rw[show(R0 rs own).gs= [] from Wg _ _ _ _,T2] at e
  rw[e] at h1;exact .inr ⟨pre,gs,rl,h0,h1,.run rs r h3 h5 U (Adu h8 O h4)⟩
def Eo:#[C,11,a.XJ,a.XE,["source","name","asks","end"],DD]:=by
 have U:=#[LM,T,C];have Wl:=#[oJ,T,C];exists 9,T.mo,Yf
 erw[h,sv,own,ta,us,ev,qs,src,as,en,rfl,aw,aA,ad,ae,hF,ie,hE,aK,k];have hs:=uE;have two:=Ads hF hE;have O:∃kk e,src=-[!kk,e]:=by
  rcases two with⟨z,h,_⟩|⟨_,_,_,⟨h,_⟩|⟨z,h,_⟩,_⟩
  .exact[_:_:h]
  .exact[_:_:h]
  .exact[_:_:h]
 erw[O,kk,e0,O];rw[O] at aw;erw[aw,ts,uu,rfl,am,w1,r1,rfl,[rfl,_],w2,r2,rfl,ap,aB];cases(show r2= [] from aB)
 exists 3,%[#[qE,(4),Yf.nd,#[qC,qD,pv 0]],#[qH,#[qq,QN,#[qC,qD,pv 0],ql,qw _],%[#[qH,#[qq,#[KK,1,hr.units0],pv 2,#[qG,qd],qw _],%[|#[qo,#[Qw,#[oG,1,hr.units],pv 3,#[qG,#v[ql,#[qC,qD,pv 0]]]]]],qt],#[qH,#[qq,#[jX,hr.units],#[qC,qD,#[qC,qD,pv 2]],#[qG,#v[ql,#[qC,qD,pv 0]]],qw _],%[|#[qo,YA]],qt],#[qE,(4),Yf.nd,#[qC,qD,#[qC,qD,pv 2]]]|#[qE,(2),Yf.nd,#[ZY,10,DH,pv 2,#[WC,qh],qah]]],qt],#[qH,#[qq,yT,pv 4,qT,qw _],%[|#[qo,#[ZC,#[Qw,#[KK,1,hr.units0],pv 2,#[qG,qd]],#[XL,#[Qw,#[oG,1,hr.units],pv 3,#[qG,#v[ql,ql]]]]]]],qt],#[qH,#[Qo,#[Qc,#[qp,Wl,hr.mono (),T.mK,#v[pv 4]]]],%[|#[qo,#[ZC,#[Qw,#[KK,1,hr.units0],pv 2,#[qG,qd]],#[XL,#[Qw,#[oG,1,hr.units],pv 3,#[qG,#v[ql,ql]]]]]]],qt]|#[qo,#[qp,U,hr.mono (),T.mR,#v[pv 4,pv 1,pv 2,pv 3]]]]
 exists 8,N1,q1
 exists 0,ts,_,_,0,1,SqT.of am,qz (j:=1) rfl,q1 _ _ ?_;exists 8,N2,q2;have ax:∀(Z:V) (rl:D) (gs:om D) (af:o3) (ag:om V) (H1:Hp),ic H H1->Is H1 rl Z->H1 af=u_ (¬ag)->L2.IsL H1 gs ag->GoR own rl gs en->N2 [u_ (-ts),u_ (!own),u_ (-af),u_ ev,u_ Z] H1:=by
  intro Z rl gs af ag H1 s1 ir ah aa ao;refine q2 _ _ ?_;exists 8,N3,q3
  exists 0,1,0;cases ao with
  |lack h0 h1 h2=>
   have aC:rl= .non:=by
    cases rl with
    |non=>rfl
    |_=>cases h0
   rw[aC] at ir;cases(show Z= .non from ir)
   refine lV (uj rfl) ?_;rw[h1] at aa;cases(show ag= [] from aa)
   exists 0,uQ _,λt0 h0=>⟨af,t0,[],1,1,SqT.of (qf h0 _ _ _ ah),SqT.of qg,0,lV rfl ?_⟩;have m0:=qf h0 (.tup ([]:om V))
   exists 0,sml rfl,λt1 h1=>?_;have m1:=qf h1 (-[V.str "fault",V.str "lack"]);have i1:=Is.new (ds:= [-"fault",-"lack"]) ⟨_,0,yx (),_,0,yx (),1⟩ h1
   have ac:=ie.mono ((s1.trans m0).trans m1).tk;rw[h2] at ac
   exists [-"fault",-"lack"],[-"fault",-"lack"],ac,i1,1,1,by simp[dpL,dp]
   rw[(eqNL_iff (show nL [-"fault",-"lack"]=v_ from rfl)).mpr rfl]
   exact k _ ((s1.trans m0).trans m1)
  |bad h0 h1 h2 h3=>
   have aq:Z≠ .non:=jL ir λz=>by rw[z] at h0;cases h0
   refine iZ (um aq) (q3 _ _ ?_);exists 8,N4,q4
   exists 0,Z,rl,1,ir,λH2 s2=>[0:?_];rw[h1];refine ky ?_;rw[h2] at aa;cases(show ag= [] from aa)
   exists 0,uQ _,λt0 h0=>⟨af,t0,[],1,1,SqT.of (qf h0 _ _ _ (s2 _ _ ah)),SqT.of qg,0,lV rfl ?_⟩;have m0:=qf h0 (.tup ([]:om V))
   exists 0,sml rfl,λt1 h1=>?_;have m1:=qf h1 (-[V.str "fault",V.str "rule"]);have i1:=Is.new (ds:= [-"fault",-"rule"]) ⟨_,0,yx (),_,0,yx (),1⟩ h1
   have sm:=((s1.trans s2).trans m0).trans m1;have ac:=ie.mono sm.tk;rw[h3] at ac
   exists [-"fault",-"rule"],[-"fault",-"rule"],ac,i1,1,1,by simp[dpL,dp]
   rw[(eqNL_iff (show nL [-"fault",-"rule"]=v_ from rfl)).mpr rfl]
   exact k _ sm
  |run rs r h0 h1 h3 h5=>
   have aq:Z≠ .non:=jL ir λz=>by rw[z] at h0;cases h0
   refine iZ (um aq) (q3 _ _ ?_);exists 8,N4,q4
   exists 0,Z,rl,1,ir,λH2 s2=>[0:?_];rw[h1];refine iL (q4 _ _ ?_);erw[Bq h1,hR,aD];rw[aD] at ir;exact⟨0,0,0,0,Z,own,af,ag,ev,rs,r,gs,en,1,ir.mono s2.tk,hR,aA,s2 _ _ ah,aa.mono s2.tk,h3,ie.mono (s1.trans s2).tk,h5,λH3 s3=>k _ ((s1.trans s2).trans s3)⟩
 exists 0,ts,_,_,0,1,SqT.of am,qz (j:=0) rfl,1,0;rcases two with⟨z,h,ha,aE⟩|⟨pre,gs,rl,⟨h,ak⟩|⟨z,h,ak⟩,ha,ao⟩
 .rw[O] at h;cases h;erw[ap,rfl,au];refine lV (uj rfl) ?_;rw[ha] at ae;cases(show us= [] from ae)
  show ni _ _ _ _ H;exists 8,A1,a1
  exists 0,uQ _,λt0 h0=>⟨ta,t0,[],1,1,SqT.of (qf h0 _ _ _ ad),SqT.of qg,0,lV rfl ?_⟩;have m0:=qf h0 (.tup ([]:om V))
  exists 0,0,ts,_,_,0,1,SqT.of (m0 _ _ am),qz (j:=1) rfl,sml rfl,λt1 h1=>?_;have m1:=qf h1 (-[V.str "stuck",V.str z]);have i1:=Is.new (ds:= [-"stuck",!z]) ⟨_,0,yx (),_,0,[1:au],1⟩ h1
  have ac:=ie.mono (m0.trans m1).tk;rw[aE] at ac
  exists [-"stuck",!z],[-"stuck",!z],ac,i1,1,1,by simp[dpL,dp]
  rw[(eqNL_iff (show nL [-"stuck",!z]=v_ from rfl)).mpr rfl]
  exact k _ (m0.trans m1)
 .rw[O] at h;cases h;rw[ak,T2] at ha;rw[ha] at ae;refine iZ (um (λy=>by have:=V.str.inj y;revert this;decide+kernel)) (ax w2 _ gs ta us H (ic.refl _) ap ad ae ao)
 .rw[O] at h;cases h;erw[ap,rfl,au];rw[ha,ak] at ae;obtain⟨v1,rr,rfl,i1,aF⟩:=(show∃v1 rr,us=v1::rr/\Is H (-[-[-"rule",!z],rl]) v1/\L2.IsL H gs rr from by
   erw[ae,v1,rr,e,h1,h2];exact⟨v1,rr,e,h1,h2⟩)
  erw[i1,tp,up,rfl,ay,x1,aL,rfl,aG,x2,aH,rfl,aI,aJ];cases(show aH= [] from aJ)
  refine lV (uj rfl) ?_;show ni _ _ _ _ H;exists 8,A1,a1
  exists 0,uQ _,λt0 h0=>⟨ta,t0,0,1,SqT.of (qf h0 _ _ _ ad),SqT.of qg,0,iZ rfl (a1 _ _ ?_)⟩;have m0:=qf h0 (.tup ([]:om V));generalize upd H t0 (-[])=H1 at m0⊢;exists 8,A2,a2
  exists 0,ta,_,_,0,1,SqT.of (m0 _ _ ad),qz (j:=0) rfl,tp,_,_,0,1,SqT.of (m0 _ _ ay),qz (j:=0) rfl
  exists 0,ts,_,_,0,1,SqT.of (m0 _ _ am),qz (j:=1) rfl,sml rfl,λt1 h1=>?_;have m1:=qf h1 (-[V.str "rule",V.str z]);have j1:=Is.new (ds:= [-"rule",!z]) ⟨_,0,yx (),_,0,[1:au],1⟩ h1
  exists [-"rule",!z],[-"rule",!z],aG.mono (m0.trans m1).tk,j1,1,1,by simp[dpL,dp],0
  rw[(eqNL_iff (show nL [-"rule",!z]=v_ from rfl)).mpr rfl]
  refine iL (a2 _ _ ?_);have al:=m0.trans m1;generalize upd H1 t1 (-[V.str "rule",V.str z])=H2 at al⊢;exists 8,A3,a3
  exists 0,ta,_,_,0,1,SqT.of (al _ _ ad),qz (j:=0) rfl,tp,_,_,0,1,SqT.of (al _ _ ay),qz (j:=1) rfl,a3 _ _ ?_
  exists 0,0,ta,0,SqT.of (al _ _ ad),λhw=>?_,λ_ pp hp=>?_
  .exfalso;have h1:=hw.1;have h1:HT.sIx ↑(_::rr) 0 (u_ ((1:Nat):Int))=0:=h1;rw[HT.sIx_nat] at h1;rw[uw] at h1;omega
  .have hc:Cj (V.ref tp::rr) (u_ 1) U_=rr:=by
    rw[show(u_ (1:Int))=u_ ((1:Nat):Int) from rfl,wQ (by rw[uw];omega)]
    rfl
   rw[hc];have mp:=al.trans (qf hp (¬rr));exact ax x2 rl gs pp rr _ mp (aI.mono mp.tk) qg (aF.mono mp.tk) ao
def Aby {K:o0}{b A:o3}{H1:Hp}{tg:TG}{tc:TT}{te:TE}{tl:L2.St}{Q:VK}{xs:om V}(C:Nat->om V->Hp->Prop)(hb:H1 b=u_ (¬xs))(hn:↑xs<=Vg)(h0:C 0 [] (upd H1 A (.lst [])))(hC:∀i ys H,C i ys H->ic H1 H)
  (aa:∀i x ys H O U,xs[i]? =u_ x->C i ys H->H A=u_ (.lst ys)->tg x (O::U::tl) H λσ2 H2=>tc σ2 H2 λc H3=>if c=v_ then te σ2 H3 λy H4=>H4 A=u_ (.lst ys)/\(∃u0 u1,σ2=u0::u1::tl)/\C (i+1) (ys++ [y]) (upd H4 A (.lst (ys++ [y]))) else H3 A=u_ (.lst ys)/\(∃u0 u1,σ2=u0::u1::tl)/\C (i+1) ys H3)
  (hQ:∀ys H,C ↑xs ys H->H A=u_ (.lst ys)->Q (-A) H):CZ A (Itt K b) tg tc te (U_::U_::tl) H1 Q:=by
 exists ↑xs,λi σ ys H=>(∃O U,σ=O::U::tl)/\C i ys H,hn,[[U_:U_:1]:h0],?_,?_
 .rintro i σ ys H hi ⟨⟨O,U,rfl⟩,Z⟩ hl hy;have sm:=hC _ _ _ Z;have e0:xs[i]? =u_ xs[i]:=ui hi;exists ⟨_,_,SqT.of (sm _ _ hb),e0⟩;rintro x H' ⟨rfl,hx⟩;have e:=hx _ (SqT.of (sm _ _ hb));exact aa i x ys H' O U e Z hl
 .rintro σ ys H ⟨_,Z⟩ hl;exact[[_:SqT.of (hC _ _ _ Z _ _ hb):ur _]:hQ ys H Z hl]
abbrev jO (H:Hp)(d:o3)(ps:om (Str×D)):Prop:=∃vs:om (Str×V),H d=u_ (.dK (iP vs))/\vs.map (·.1)=ps.map (·.1)/\L2.IsL H (ps.map (·.2)) (vs.map (·.2))
variable {H':Hp}
def jO.same {d:o3}{ps:om (Str×D)}(h:jO H d ps)(s:ic H H'):jO H' d ps:=by
 erw[h,vs,h1,h2,h3];exact⟨vs,s _ _ h1,h2,h3.mono s.tk⟩
abbrev Aec (qs ers:om (Str×D))(kd z:Str)(an:D)(b:Bool):Prop:=(Aeb qs ers kd z an/\b=v_)\/(kd="thing"/\nm z=v_/\(∃s,g0D z (qF qs z)=u_ s)/\z∉ers.map (·.1)/\b=Vc)
inductive kH (CP:Addr):Sp
 |mk (px ed t:Addr)(av:V)(kd z:Str)(an:D)(qs ers:List (Str×D))(b:Bool)(_:vs= [-px,-ed,-t,av])(_:H t=u_ (-[!kd,!z]))(_:yS CP H px qs)(_:Qk qs)(_:jO H ed ers)(_:Is H an av)(_:↑z<=1000)(_:Aec qs ers kd z an b)(_:∀H',ic H H'->Q (.bl b) H')
inductive Lh (CP:Addr):Sp
 |mk (px sd ed ts ta:Addr)(us:List V)(ev:V)(m:Str)(as:List D)(en:D)(qs ers es:List (Str×D))(b:Bool)(_:vs= [-px,-sd,-ed,-ts])(_:H ts=u_ (-[!m,-ta,ev]))(_:H ta=u_ (¬us))(_:L2.IsL H as us)(_:Is H en ev)(_:yS CP H px qs)(_:Qk qs)(_:jO H sd es)(_:jO H ed ers)(_:nm m=v_)(_:(Rst qs ers es m as en/\EnS en/\b=v_)\/(m∉ers.map (·.1)/\(∃s,g0D m (qF qs m)=u_ s)/\(∃z,as= [-[-[-"thing",!z],-"x"]]/\nm z=v_/\(∃s,g0D z (qF qs z)=u_ s)/\z∉ers.map (·.1))/\b=Vc))(_:∀H',ic H H'->Q (if b=v_ then .non else -"answer") H')
def sW (U:Qk qs){n:Str}{sv:V}(h1:n>qs.map (·.1)->Is H (qF qs n) sv)(h2:n∉qs.map (·.1)->sv= .non):∃d,Is H d sv/\(d= .non\/∃k e,d=-[!k,e])/\d=qF qs n/\yY (Yi d)=(g0D n (qF qs n)).isSome:=by
 by_cases c:n>qs.map (·.1)
 .erw[j0 U c,_,kk,e,hd,_];exists _,h1 c,.inr [kk:e:hd],1;rw[hd];unfold Yi g0D
  try dsimp only
  by_cases O:kk="leaf"
  .rw[A6 O,A6 O];rfl
  .rw[A4 O,A4 O];split<;>rfl
 .exists .non,h2 c,.inl rfl,(Yy c).symm;cases Z:g0D n (qF qs n) with
  |none=>rfl
  |some s=>exact A8 ((QB qs).gn n s Z) c
def CT:#[C,5,a.jB,a.jv,["project","earlier","ask","answer"],(kH a.qJ)]:=by
 have QQ:=#[xB,T];have We:=#[oK,T];have qS:=#[YG,T];have yq:=#[oI,T];refine T.lq.F.ok jc () (λ_ _ _ s H vs Q E hr h=>?_)
 erw[h,px,ed,t,av,kd,z,an,qs,ers,b,rfl,ht,hP,hq,hT,ia,aZ,hA,k];have hs:=uE;exists 3,%[@qH _ _ _ _ _ _ _ _ #[Bt,7,#[qq,LI,#[qC,qD,pv 2],ql,qw _],#[qac,4,#[Qo,#[Qc,#[qp,QQ,hr.mono (),T.iJ,#v[#[qC,qD,pv 2]]]]]]].pt %[|#[qo,YA]] qt,#[qH,#[qq,Q0,#[qC,qD,pv 2],#[qG,#v[ql,ql]],#[w]],%[|#[qo,#[Qw,Ea hr.units,pv 3,#[Qm,pv 0,T.Q6,T.iH,yq,#v[pv 2]]]]],qt],#[qH,#[qq,Zt,#[qC,qD,pv 2],#[qG,#v[ql,ql]],#[w]],%[|#[qo,YA]],qt],#[qE,(4),jc.nd,#[Qm,pv 0,T.Q6,T.ii,qS,#v[#[qC,qD,pv 2]]]],#[qH,#[Qc,#[qp,We,hr.mono (),T.mL,#v[pv 4]]],%[|#[qo,#[Qw,Ea hr.units,#[KG,7,QZ hr,pv 1,#[qC,qD,pv 2],⟨1,1,1,1⟩],#[qG,#v[ql,pv 3]]]]],qt]|#[qo,#[Qw,Ea hr.units,pv 3,#[yd,#[qq,yT,pv 4,qT,qw _],qT,#[qC,qD,pv 4]]]]]
 exists 8,N1,q1;have aL:kd≠"names"->nm z=true:=by
  rcases hA with⟨h,_⟩|⟨_,h,_⟩
  .exact h.1
  .exact λ_=>h
 have ap:∀H1,ic H H1->N1 [u_ (-px),u_ (-ed),u_ (-t),u_ av,U_] H1:=by
  intro H1 s1;refine q1 _ _ ?_;have aq:=s1 _ _ ht;have au:=hP.same s1;have aM:=hT.same s1;have aN:=ia.mono s1.tk;erw[id au,aw,a1,op,a2,hx,_];exists 8,N2,q2
  exists 0,t,_,_,0,1,SqT.of aq,qz (j:=0) rfl,sml rfl,λl hl=>?_;have m2:=qf hl (-[V.str "has",V.str "names"])
  exists l,0,.inr (SqT.of qg),1,1,0;have s2:=s1.trans m2;have Z:=m2 _ _ aq;have ae:=au.same m2;have ax:=aM.same m2;have af:=aN.mono m2.tk;have ag:=m2 _ _ hx;generalize upd H1 l (-[V.str "has",V.str "names"])=H2 at s2 Z ae ax af ag⊢;have rest:mW kd=Vc->(kd="thing"\/kd="rule")->(g0D z (qF qs z)=U_->an=(KH (qF qs z)).getD .non/\b=v_)->(∀s,g0D z (qF qs z)=u_ s->(b=v_/\z>ers.map (·.1)/\qF ers z= .tup [-"said",an]/\isT an=v_)\/(b=Vc/\z∉ers.map (·.1)))->N2 [u_ (-px),u_ (-ed),u_ (-t),u_ av,U_] H2:=by
   intro hk ah aO ay;refine q2 _ _ ?_;exists 8,N3,q3
   exists 0,t,_,_,0,1,SqT.of Z,qz (j:=0) rfl,sml rfl,λl2 aP=>?_;have m3:=qf aP (-[V.str "thing",V.str "rule"])
   exists l2,0,.inr (SqT.of qg),1,1,0;have aQ:inV (V.str kd) [V.str "thing",V.str "rule"]=decide (kd>(["thing","rule"]:om Str)):=zL kd ["thing","rule"];refine iZ (by rw[aQ,uj (by rcases ah with rfl|rfl<;>simp)];rfl) (q3 _ _ ?_)
   have s3:=s2.trans m3;have ak:=m3 _ _ Z;have aA:=ae.same m3;have aB:=ax.same m3;have al:=af.mono m3.tk;have aC:=m3 _ _ ag;generalize upd H2 l2 (-[V.str "thing",V.str "rule"])=H3 at s3 ak aA aB al aC⊢;exists 8,N4,q4
   exists 0,px,aw,0,aC,Yj,0,t,_,_,0,1,SqT.of ak,qz (j:=1) rfl,px,z,qs,1,aA,λsv h1 h2=>q4 _ _ ?_;exists 8,N5,q5;erw[sW hq h1 h2,d,aD,hd,aR,aS]
   exists 0,sv,d,1,aD,hd,λH4 s4=>[0:?_];rw[aS];have aa:=s3.trans s4;cases O:g0D z (qF qs z) with
   |some sz=>
    refine lV rfl ?_;erw[aB.same s4,vs,ac,aE,aT];have aF:=s4 _ _ ak;have U:=al.mono s4.tk;by_cases cz:z>ers.map (·.1)
    .erw[oT aE aT cz,l1,l2];rcases ay sz O with⟨rfl,_,aG,hT⟩|⟨_,hn⟩
     .rw[aG] at l2
      exists 0,ed,1,.inl [_:.inl ac],0,t,_,_,0,1,SqT.of aF,qz (j:=1) rfl,_,mV.k (k:=Vf z) ac;rw[l1]
      exists 0,sml rfl,λt5 h5=>?_;have m5:=qf h5 (-[V.str "said",av]);have aH:=Jb hT;refine .same (-[-"said",an]) (l2.mono m5.tk) (Is.new (ds:= [-"said",an]) ⟨_,0,yx (),_,0,U,1⟩ h5) (.inr ?_) (by simp![dp,dpL];omega) (k _ (aa.trans m5))
      have h1:=MR (so hT);show puL [-"said",an]=v_;simp![puL,puD,h1,Uj]
     .exact A8 cz hn
    .rcases ay sz O with⟨_,hn,_⟩|⟨rfl,_⟩
     .exact A8 hn cz
     .exists 0,ed,1,.inl [_:.inl ac],0,t,_,_,0,1,SqT.of aF,qz (j:=1) rfl,_,mV.k (k:=Vf z) ac;rw[Ap (by rw[aE];exact cz)]
      exists 0,sml rfl,λt5 h5=>?_;exact .nt t5 _ rfl rfl qg (k _ (aa.trans (qf h5 _)))
   |none=>
    erw[aO O,ha,rfl];refine iZ rfl (q5 _ _ ?_);have U:=al.mono s4.tk;have ad:=aD.mono s4.tk
    exists 0,0,1,0;by_cases c:z>qs.map (·.1)
    .erw[j0 hq c,_,kk,e,am,_,aU];rw[am] at O;have aI:kk="leaf":=by
      by_cases ck:kk="leaf"
      .exact ck
      .unfold g0D at O
       try dsimp only at O
       rw[A4 ck] at O;split at O<;>cases O
     have hT:=(aU (by rw[aI];decide+kernel)).2
     have aH:=Jb hT;rw[aR,am] at ad;erw[ad,ts,us,rfl,aV,w1,r1,rfl,_,w2,r2,rfl,aW,aX];cases(show r2= [] from aX)
     refine iZ (um (λz=>by cases z)) ?_
     exists 0,ts,_,_,0,1,SqT.of aV,qz (j:=1) rfl;have ao:an=e:=by
      rw[ha,am,aI]
      rfl
     rw[ao] at U;exact .same e U aW (.inr (so hT)) () (k _ aa)
    .cases h2 c;refine lV (uj rfl) ?_;have ao:an= .non:=by rw[ha,Yy c];rfl
     rw[ao] at U;exact .same .non U rfl (.inl rfl) (by simp[dp]) (k _ aa)
  rcases hA with⟨⟨_,⟨hk,ha⟩|⟨hk,ah,hc⟩⟩,rfl⟩|⟨rfl,_,⟨sz,O⟩,aY,rfl⟩
  .refine lV ((AbI kd).trans hk) ?_
   exists 0,0,px,aw,0,ag,oQ,0,px,t,kd,z,qs,1,ae,hq,Z,()
   have aJ:=(Wn hq z hk).1;have aH:=Jb aJ;have fin:∀(v6:V) (H6:Hp),ic H2 H6->Is H6 (xl qs kd z) v6->Acv av v6 H6 (λv H'=>Q v H'):=λv6 H6 s6 i6=> .same (xl qs kd z) (by rw[<-ha];exact af.mono s6.tk) i6 (.inr (so aJ)) () (k _ (s2.trans s6))
   have aK:kd="has"\/kd≠"has"/\kd="names":=by
    unfold mW at hk;by_cases c:kd="has"
    .exact .inl c
    .rw[um c,TD] at hk;exact .inr [c:uA hk]
   rcases aK with c|⟨c',c⟩
   .refine .inl [c:fin _ H2 (ic.refl _) ?_];unfold xl;rw[A6 c];exact yx (by split<;>decide)
   .refine .inr [c:λv6 H6 s6 i6=>fin v6 H6 s6 ?_];unfold xl;rwa[A4 c']
  .refine iZ ((AbI kd).trans hk) (rest hk ah (λh0=>?_) λs O=> .inl ?_)
   .rcases hc with⟨_,h⟩|⟨⟨s,O⟩,_⟩
    .exact[h:1]
    .rw[h0] at O;cases O
   .rcases hc with⟨h,_⟩|⟨_,h1,h2,h3⟩
    .rw[O] at h;cases h
    .exact⟨1,h1,h2,h3⟩
  .refine iZ ((AbI "thing").trans ()) (rest () (.inl rfl) (λh0=>?_) λs O=> .inr [1:aY])
   rw[O] at h0;cases h0
 exists 0,t,_,_,0,1,SqT.of ht,qz (j:=0) rfl,1,0;by_cases ck:kd="names"
 .exact iZ (by simp[ck]) (iZ rfl (ap H (ic.refl _)))
 .refine lV (by simpa using ck) ?_
  exists 0,t,_,_,0,1,SqT.of ht,qz (j:=1) rfl,!z,!z,1,yx (),λH1 s1=>[0:?_]
  have e:mG (!z)=true:=aL ck;rw[e];exact iL (ap H1 s1)
def SR (n:Nat)(b:Bool)(h:b=v_\/n=1):(HJ n b).all id=b:=by
 rcases h with rfl|rfl
 .simp
 .cases b<;>rfl
def LK:#[C,12,a.Zd,a.Ze,["project","ends","earlier","step"],(Lh a.qJ)]:=by
 have zR:=#[CT,T,C];have We:=#[oK,T];have qS:=#[YG,T];have Kz:=#[Eo,T,C];refine T.my.F.ok YB () (λ_ _ _ s H vs Q E hr h=>?_)
 erw[h,px,sd,ed,ts,ta,us,ev,m,as,en,qs,ers,es,b,rfl,U,al,ae,ie,hP,hq,hS,hT,am,hc,k];have hs:=uE;have a5:=xS am;have ao:m∉ers.map (·.1):=by
  rcases hc with⟨h,_⟩|⟨h,_⟩
  .exact h.nin
  .exact h
 have ap:∃s,g0D m (qF qs m)=u_ s:=by
  rcases hc with⟨h,_⟩|⟨_,h,_⟩
  .exact h.run
  .exact h
 have af:∀x>as,∃kd z an,x= .tup [-[!kd,!z],an]/\↑z<=1000/\Aec qs ers kd z an b:=by
  rcases hc with⟨h,_,hb⟩|⟨_,_,⟨z,ha,hz,hg,hn⟩,hb⟩
  .intro x Z;erw[h.asks x Z,kd,z,an,e,hl,hA];exact⟨kd,z,an,e,hl,.inl [hA:hb]⟩
  .intro x Z;rw[ha] at Z;cases Ab.mp Z;exact⟨_,_,0,by have:=xS hz;omega,.inr ⟨1,hz,hg,hn,hb⟩⟩
 have aq:b=v_\/↑as=1:=by
  rcases hc with⟨_,_,hb⟩|⟨_,_,⟨z,ha,_⟩,_⟩
  .exact .inl hb
  .right;rw[ha];rfl
 erw[id hP,aG,a6,op,a7,Z,_];have au:↑us=↑as:=↑ae;exists 3,%[#[qE,(4),YB.nd,#[qC,qD,pv 3]],#[qE,(5),YB.nd,#[qC,qD,pv 3]],#[qE,(6),YB.nd,#[Qm,pv 0,T.Q6,T.ii,qS,#v[pv 4]]],@qH _ _ _ _ _ _ _ _ #[XN,#[kj,#[pc_din,QZ hr,pv 4,pv 2]],#[j8,#[Qo,#[Qc,#[qp,We,hr.mono (),T.mL,#v[pv 6]]]]]].pt %[|#[qo,ql]] qt,#[qH,#[Qo,#[Qc,#[qA,#[ze,1,rfl],T.z_all,HY,#v[#[xO,["ask","answer","project","earlier"],(2),[0,2],IR (qj Y3) ["project","ends","earlier","step","name","end","source"],#[wW,#[qC,qD,pv 3]],(λ_ _ _ _ _ _=>#[Ah,1,K,3,(2),1,rfl,rfl,Qy #[qM,(0),(show Vr (["ask","answer","project","earlier"]:om Str) by decide+kernel)] (Qy #[qM,(1),(show Vr (["ask","answer","project","earlier"]:om Str) by decide+kernel)] JH),_,_]),(λ_ _ _ _ _ _=>#[qp,zR,hr.mono (),T.lq,#v[pv 2,pv 3,pv 0,pv 1]])]]]]],%[|#[qo,ql]],qt],#[qH,#[Qo,#[Qc,#[qp,Kz,hr.mono (),T.mo,#v[pv 6,pv 4,#[qC,qD,pv 3],pv 5]]]],%[|#[qo,ql]],qt],@qH _ _ _ _ _ _ _ _ #[Bt,7,#[qq,QN,#[qC,qD,pv 5],ql,qw _],@qac _ _ _ _ #[XN,#[kj,#[DX,5,QZ hr,#[qC,qD,pv 5],pv 1]],#[j8,#[qq,QN,#[qC,qD,#[QH,pv 1,#[qC,qD,pv 5]]],ql,qw _]]].pt].pt %[|#[qo,ql]] qt|#[qo,qT]]
 exists 8,N1,q1
 exists 0,ts,_,_,0,1,SqT.of U,qz (j:=0) rfl,q1 _ _ ?_;exists 8,N2,q2
 exists 0,ts,_,_,0,1,SqT.of U,qz (j:=2) rfl,q2 _ _ ?_;exists 8,N3,q3
 exists 0,px,aG,0,Z,Yj,0,px,m,qs,1,hP,λsv h1 h2=>q3 _ _ ?_;exists 8,N4,q4;erw[sW hq h1 h2,d,aw,hd,aH,aI];erw[id hT,vs,aJ,aK,aL]
 exists 0,0,ed,0,mV.k (k:=Vf m) aJ,0;rw[Kv aK aL m];refine iZ (um ao) ?_
 exists 0,sv,d,1,aw,hd,λH1 s1=>[0:?_];erw[ap,sm,hg];rw[aI,hg];refine iL (q4 _ _ ?_);exists 8,N5,q5;have ax:=s1 _ _ U;have ad:=s1 _ _ al
 exists 0,ts,_,_,0,1,SqT.of ax,qz (j:=1) rfl,ta,us,1,SqT.of ad,λaM A0 ay=>?_;refine Aby (tl:= [u_ (-px),u_ (-ed)]) (λi ys H'=>ys=(HJ i b).map V.bl/\ic H1 H') ad aM [1:qf ay _] (λi ys H' h=>h.2) ?_ ?_
 .rintro i x ys H' w0 w1 Z ⟨rfl,s'⟩ aN;have hi:i<↑as:=by rw[<-au];exact(Af.mp Z).1
  erw[ae.get (i:=i) (d:=as[i]) (ui hi),x',aA,ix];rw[Z] at aA;cases aA;erw[af _ (uR hi),kd,z,an,e,aB,ag];have ah:=s1.trans s';rw[e] at ix;erw[ix.mono ah.tk,t6,w6,rfl,aO,x7,r7,rfl,i7,x8,r8,rfl,i8,aP];cases(show r8= [] from aP)
  erw[i7,t7,w7,rfl,aQ,x9,r9,rfl,[rfl,a8],xa,ra,rfl,[rfl,a4],aR];cases(show ra= [] from aR)
  exists t6,0,SqT.of aO,1
  exists _,0,_,0,1
  try dsimp![YY,nG,GX]
  rw[A6 rfl]
  exists 0,0,0,0,px,ed,t7,x8,kd,z,an,qs,ers,b,1,aQ,hP.same ah,hq,hT.same ah,i8,aB,ag,λH3 s3=>?_
  exists 5
  refine⟨s3 _ _ aN,[_:0],?_,λb o e=>by rw[qi (qk e ay)];exact s3 _ _ (s' _ _ e)⟩
  rw[List.replicate_succ',uq]
  rfl
 rintro ys H2 ⟨rfl,s2⟩ aS
 exists A0,0,SqL.of aS;rw[SR _ b (by rwa[au])]
 have O:=s1.trans s2;rcases hc with⟨hR,hE,rfl⟩|⟨_,_,_,rfl⟩;rotate_left
 .exact[0:ky (k _ O)]
 exists 0,iL (q5 _ _ ?_);exists 8,N6,q6;have aC:=O _ _ al;have aD:=O _ _ U
 exists 0,0,0,ts,_,_,0,1,SqT.of aD,qz (j:=1) rfl,0,sv,m,ta,us,ev,qs,qF qs m,as,en,1,(by rw[<-aH];exact aw.mono O.tk),am,aC,ae.mono O.tk,hR.fin,ie.mono O.tk,hE,[hR.nd.2.2.1:hR.nd.2.2.2],λH3 s3=>[0:iL (q6 _ _ ?_)]
 exists 8,N7,q7;have aa:=O.trans s3;have aT:=ie.mono aa.tk;have aU:∃kk x,en=-[!kk,x]:=by
  rcases hE with⟨z,e⟩|⟨x,e,_⟩|⟨z,e⟩
  .exact[_:_:e]
  .exact[_:_:e]
  .exact[_:_:e]
 erw[aU,kk,ex,ac];have aE:=aT;rw[ac] at aE;erw[aE,te,ue,rfl,ak,v1,r1,rfl,[rfl,_],v2,r2,rfl,aV,aW];cases(show r2= [] from aW)
 exists 0,te,_,_,0,1,SqT.of ak,qz (j:=0) rfl,1,0;by_cases ck:kk="stuck"
 .refine lV (uj (by rw[ck])) ?_
  obtain⟨z,hz⟩:∃z,en=Db z:=by
   rcases hE with⟨z,e⟩|⟨x,e,_⟩|⟨z,e⟩
   .rw[ac] at e;injection e with e
    injection e with e _
    injection e with e
    rw[ck] at e;exact A8 e ()
   .rw[ac] at e;injection e with e
    injection e with e _
    injection e with e
    rw[ck] at e;exact A8 e ()
   .exact[z:e]
  erw[hR.stk z hz,aX,k',x',aY,aZ];rw[ac] at hz;unfold Db at hz;cases hz;erw[aV,rfl,aB];erw[hS.same aa,a9,aF,a1,a2];erw[oT a1 a2 aX,l1,l2];rw[aY] at l2;erw[l2,tz,uz,ez,a3,y1,z1,rfl,[rfl,_],_];rw[ez] at l1
  exists 0,te,_,_,0,1,SqT.of ak,qz (j:=1) rfl,0,sd,u_ (-tz),1,(by rw[<-l1];exact mV.k (k:=Vf z) aF),0,iZ rfl ?_
  exists 0,0,te,_,_,0,1,SqT.of ak,qz (j:=1) rfl,sd,0,(by rw[<-l1];exact mV.k (k:=Vf z) aF),tz,_,_,0,1,SqT.of a3,qz (j:=0) rfl,1,0
  exact iZ (um (λy=>aZ (V.str.inj y))) (q7 _ _ (k _ aa))
 .exact iZ (um (λy=>ck (V.str.inj y))) (iZ rfl (q7 _ _ (k _ aa)))
inductive Lo:Sp
 |mk (t:Addr)(us:List V)(ps:Pp)(_:vs= [-t])(_:H t=u_ (¬us))(_:L2.IsL H (ps.map stD) us)(_:((lD ps).map (·.1)).Nodup)(_:↑ps<=1000)(_:∀d H',H d=U_->ic H H'->jO H' d (lD ps)->Q (-d) H')
abbrev PpB (qs:om (Str×D))(ps:Pp)(b:Bool):Prop:=↑ps<=1000/\(∀s>ps,nm s.1=v_)/\((lD ps).map (·.1)).Nodup/\((Rpp qs ps/\(∀s>ps,EnS s.2.2)/\b=v_)\/((∃s r z,ps=s::r/\(∃g,g0D s.1 (qF qs s.1)=u_ g)/\s.2.1= [-[-[-"thing",!z],-"x"]]/\nm z=v_/\∃g,g0D z (qF qs z)=u_ g)/\b=Vc))
inductive DF (CP:Addr):Sp
 |mk (px t:Addr)(us:List V)(qs:List (Str×D))(ps:Pp)(b:Bool)(_:vs= [-px,-t])(_:H t=u_ (¬us))(_:L2.IsL H (ps.map stD) us)(_:yS CP H px qs)(_:Qk qs)(_:PpB qs ps b)(_:∀v H',ic H H'->(b=v_->v= .non)->(b=Vc->v≠ .non)->Q v H')
abbrev shD (qs:om (Str×D)) (ps:Pp) (n:Str):D:=if n>(lD ps).map (·.1) then Qt (qF (lD ps) n) else Yi (qF qs n)
inductive Li (CP bn:Addr):Sp
 |mk (px t:Addr)(us:List V)(n:Str)(qs:List (Str×D))(ps:Pp)(b:Bool)(_:vs= [-px,-t,!n])(_:H t=u_ (¬us))(_:L2.IsL H (ps.map stD) us)(_:yS CP H px qs)(_:Qk qs)(_:PpB qs ps b)(_:↑n<=1000)(_:nm n=v_->∀v H',ic H H'->Is H' (if b=v_ then shD qs ps n else .non) v->Q v H')(_:nm n=Vc->∀(e:Addr)(H':Hp),ic H H'->E_ (-e) (u_ bn) H')
def Id (ps:Pp):↑(lD ps)=↑ps:=by unfold lD;rw[uc]
variable {i:Nat}
def SH {ps:Pp}(hi:i<↑ps):(lD ps)[i]? =u_ (ps[i].1,ps[i].2.2):=by
 unfold lD;rw[uK,ui hi]
 rfl
def AbR {ps:Pp}(hi:i<↑ps)(O:((lD ps).map (·.1)).Nodup):ps[i].1∉((lD ps).take i).map (·.1):=by
 intro z;erw[Af.mp (SH hi),U,Z];have:=O;rw[<-U6 i (lD ps),uV U,uq,UH] at this;exact this.2.2 _ z _ (by rw[uC,Z];exact uh) rfl
variable {m:Str}{e:D}
def jO.put {d:o3}{es:om (Str×D)}{vs:om (Str×V)}(h1:H d=u_ (.dK (iP vs)))(h2:vs.map (·.1)=es.map (·.1))(h3:L2.IsL H (es.map (·.2)) (vs.map (·.2)))(hm:m∉es.map (·.1))(U:Is H e v):jO (upd H d (.dK (lJ (iP vs) (Vf m) v))) d (es++ [(m,e)]):=by
 have O:lJ (iP vs) (Vf m) v=iP (vs++ [(m,v)]):=by
  rw[Kc _ (Ap (by rwa[h2]))]
  unfold iP;rw[uq]
  rfl
 have tk:=Tk.updD (ys:=lJ (iP vs) (Vf m) v) h1;exists vs++ [(m,v)],by rw[qg,O],?_,?_
 .rw[uq,uq,h2]
  rfl
 .rw[uq,uq];exact(h3.mono tk).append (L2.IsL.one (U.mono tk))
def BD:#[T,1,a.Zr,a.Zo,["paper"],Lo]:=by
 refine T.lP.F.ok yD () (λ_ _ _ _ H vs Q E hr h=>?_)
 erw[h,t,us,ps,rfl,ht,Z,af,hl,k];have hs:=uE;have aa:↑us=↑ps:=by rw[↑Z,uc]
 exists 3,%[#[qE,(1),yD.nd,jI],#[Ym,#[Wy,pv 0],#[oz,6,rfl,Qy #[qM,(2),yD.nd] (Qy #[qM,(3),yD.nd] (Qy #[qM,(4),yD.nd] JH)),_,_],%[|#[qX,#[By,9,pv 1,pv 2,pv 4,⟨1,1,1,1⟩]]]]|#[qo,pv 1]]
 exists 8,N1,q1;refine λd hd=>q1 _ _ ?_;have m0:=qf hd (.dK ([]:om (Key×V)));have ac:jO (upd H d (.dK [])) d []:=⟨[],qg,1,1⟩;generalize upd H d (.dK [])=H0 at m0 ac⊢;exists 8,N2,q2
 exists 0,t,1,[_:SqT.of (m0 _ _ ht)]
 let J_:Nat->L2.St->Hp->Prop:=λi σ H'=>(∃u2 u3 u4,σ= [u_ (-t),u_ (-d),u2,u3,u4])/\ic H H'/\jO H' d ((lD ps).take i)
 refine Xf (xs:=us) J_ [[_:_:0]:m0:ac] (λi σ H' _ h=>SqT.of (h.2.1 _ _ ht)) ?_ ?_
 .rintro i x σ H1 hx ⟨⟨u2,u3,u4,rfl⟩,s1,vs,O,U,ag⟩;have hi:i<↑ps:=by rw[<-aa];exact(Af.mp hx).1
  obtain⟨x',ad,ix⟩:=Z.get (i:=i) (d:=stD ps[i]) (by rw[uK,ui hi];rfl)
  rw[hx] at ad;cases ad;erw[ix,tt,ut,rfl,ah,y1,r1,rfl,[rfl,_],y2,r2,rfl,_,y3,r3,rfl,i3,ak];cases(show r3= [] from ak)
  exists tt,0,SqT.of (s1 _ _ ah),1,_,0,_,0,_,0,1;have ae:=AbR hi af;have al:↑vs<=1000:=by
   have:=A9 VI U;rw[uc,uc,vy,Id] at this;omega
  exists 5
  refine⟨0,d,1,.inl [_:.inl O],0,0,iP vs,Vf ps[i].1,O,1,by unfold iP;rw[uc];omega,λv hv=>?_,λ_=>?_⟩
  .rw[Ap (by rwa[U])] at hv
   cases hv
  .exists [_:_:0],λb o e=>?_,?_
   .rw[qi (qk e hd)];exact s1 _ _ e
   .have:=jO.put O U ag ae (i3.mono s1.tk);rw[vj,SH hi];exact this
 .rintro σ H1 ⟨⟨u2,u3,u4,rfl⟩,s1,hT⟩;refine q2 _ _ [0:k d H1 hd s1 ?_];rwa[aa,<-Id,vW] at hT
def oN:#[C,13,a.XU,a.XZ,["project","paper"],(DF a.qJ)]:=by
 have JT:=#[BD,T];have O:=#[LK,T,C];refine T.lE.F.ok Q3 () (λ_ _ _ s H vs Q E hr h=>?_)
 erw[h,px,t,us,qs,ps,b,rfl,ht,Z,hP,hq,[hl,au,ad,hB],k];have hs:=uE;have ae:↑us=↑ps:=by rw[↑Z,uc]
 exists 3,%[#[qE,(2),Q3.nd,#[qp,JT,hr.mono (),T.lP,#v[pv 1]]],#[qE,(3),Q3.nd,jI],#[Ym,#[Bx,8,_,T.wv,pv 1,_],#[oz,6,rfl,Qy #[qM,(4),Q3.nd] (Qy #[qM,(5),Q3.nd] JH),_,_],%[#[qE,(6),Q3.nd,#[qp,O,hr.mono (),T.my,#v[pv 0,pv 2,pv 3,pv 5]]],#[qH,#[qq,zY,pv 6,qT,qw _],%[|#[qo,#[qG,#v[pv 4,pv 6]]]],qt]|#[Jo,pv 3,#[qC,qD,pv 5],#[qC,qD,pv 5]]]]|#[qo,qT]]
 exists 8,N1,q1
 exists 0,t,us,ps,1,ht,Z,ad,hl,λsd H1 aD s1 hS=>q1 _ _ ?_;exists 8,N2,q2;refine λed af=>q2 _ _ ?_;have m2:=qf af (.dK ([]:om (Key×V)));have ag:jO (upd H1 ed (.dK [])) ed []:=⟨[],qg,1,1⟩;have s2:=s1.trans m2;have aw:=hS.same m2;generalize upd H1 ed (.dK [])=H2 at m2 ag s2 aw⊢;exists 8,N3,q3
 exists 0,t,us,1,SqT.of (s2 _ _ ht),λhsz=>?_
 let J_:Nat->L2.St->Hp->Prop:=λi σ H'=>(∃u4 u5 u6,σ= [u_ (-px),u_ (-t),u_ (-sd),u_ (-ed),u4,u5,u6])/\ic H1 H'/\jO H' ed ((lD ps).take i)/\(i=0\/b=v_)
 refine NF (c:=0) (xs:=us) J_ ⟨[_:_:0],m2,ag,.inl rfl⟩ (λi σ H' hi h=>SqT.of (h.2.1 _ _ (s1 _ _ ht))) ?_ ?_
 .rintro i y σ H' p hy ⟨⟨u4,u5,u6,rfl⟩,s',ah,U⟩ hp;have hi:i<↑ps:=by rw[<-ae];exact(Af.mp hy).1
  obtain⟨y',ak,iy⟩:=Z.get (i:=i) (d:=stD ps[i]) (by rw[uK,ui hi];rfl)
  rw[hy] at ak;cases ak;have m4:=qf hp (-[.int (0+(i:Int)),y]);have e4:(upd H' p (-[.int (0+(i:Int)),y])) p=u_ (-[.int (0+(i:Int)),y]):=qg;have s4:=s'.trans m4;have aa:=ah.same m4;generalize upd H' p (-[.int (0+(i:Int)),y])=H4 at m4 e4 s4 aa⊢;have al:=s1.trans s4;erw[iy.mono al.tk,tt,ut,rfl,ac,y1,r1,rfl,[rfl,_],y2,r2,rfl,i2,y3,r3,rfl,i3,ax];cases(show r3= [] from ax)
  erw[i2,ta,ua,rfl,ay,aA]
  exists p,0,SqT.of e4,1,_,0,_,0,1;show ni _ _ _ _ H4;exists 8,B1,b1;have am:=AbR hi ad
  exists 0,0,0,0,px,sd,ed,tt,ta,ua,y3,ps[i].1,ps[i].2.1,ps[i].2.2,qs,(lD ps).take i,lD ps,b,1,ac,ay,aA,i3,hP.same al,hq,hS.same s4,aa,au _ (uR hi),?_,λH5 s5=>b1 _ _ ?_
  .rcases hB with⟨hR,hE,rfl⟩|⟨⟨s,r,z,rfl,hg,ha,hz,aB⟩,rfl⟩
   .exact .inl [hR.st i _ (ui hi):hE _ (uR hi):1]
   .rcases U with rfl|U
    .exact .inr ⟨am,hg,⟨z,ha,hz,aB,by rw[rL];exact uL⟩,1⟩
    .cases U
  exists 8,B2,b2
  exists 0,1,0;have ao:=s4.trans s5;cases b with
  |false=>
   refine lV rfl ?_
   exists 0,0,sml rfl,λt6 h6=>?_;exact k _ _ ((s1.trans ao).trans (qf h6 _)) (λz=>by cases z) (λ_ z=>by cases z)
  |true=>
   refine iZ rfl (b2 _ _ ?_);erw[aa.same s5,vs,ap,aq,aC];have aE:↑vs<=1000:=by
    have:=A9 VI aq;rw[uc,uc,vy,Id] at this;omega
   exists 0,tt,_,_,0,1,SqT.of (s5 _ _ ac),qz (j:=2) rfl,0,0,tt,_,_,0,1,SqT.of (s5 _ _ ac),qz (j:=0) rfl,ed,0,IQ.k (k:=Vf ps[i].1) ap (by unfold iP;rw[uc];omega),[_:_:0],λb o e=>?_,?_,.inr rfl
   .rw[qi (qk e af)];exact ao _ _ e
   .have:=jO.put ap aq aC am (i3.mono s5.tk);rw[vj,SH hi];exact this
 .rintro σ H' ⟨⟨u4,u5,u6,rfl⟩,s',ah,U⟩;refine q3 _ _ (k _ _ (s1.trans s') (λ_=>rfl) λhb=>?_);rcases U with h0|h0
  .rcases hB with⟨_,_,h⟩|⟨⟨s,r,z,rfl,_⟩,_⟩
   .rw[h] at hb;cases hb
   .rw[ae] at h0;cases h0
  .rw[h0] at hb;cases hb
def E5 {kk:Str}{ee:D}:g0D m (-[!kk,ee])=U_↔kk="leaf":=by
 unfold g0D;simp only;constructor
 .intro h;by_cases c:kk="leaf"
  .exact c
  .rw[A4 c] at h;split at h<;>cases h
 .intro h;rw[A6 h]
def Ab6 (hq:Qk qs)(m:Str):∃k r,nI qs m= .tup (.str k::r)/\↑k<=10/\nL r=v_/\dpL r<=40/\(k="value"->∃x,r= [x]/\isT x=v_):=by
 have one:∀(k:Str) (x:D),↑k<=10->isT x=v_->∃O r,D.tup [!k,x]= .tup (.str O::r)/\↑O<=10/\nL r=v_/\dpL r<=40/\(O="value"->∃x,r= [x]/\isT x=v_):=λk x hk U=>by
  have:=Jb U;exists k,[x],1,hk,?_,?_,λ_=>[x:1:U]
  .simp![nL,ZK (yG U),Uj]
  .simp![dpL];omega
 have two:∀(k z:Str),↑k<=10->k≠"value"->∃O r,D.tup [!k,!z]= .tup (.str O::r)/\↑O<=10/\nL r=v_/\dpL r<=40/\(O="value"->∃x,r= [x]/\isT x=v_):=λk z hk U=>⟨k,[!z],1,hk,1,by simp[dpL,dp],λh=>A8 h U⟩
 unfold nI;cases Z:g0D m (qF qs m) with
 |none=>
  try dsimp only
  by_cases c:m>qs.map (·.1)
  .erw[j0 hq c,_,k,e,hd,h1,h2];rw[hd] at Z⊢;have hl:k="leaf":=E5.mp Z;have hm:k≠"made":=by rw[hl];decide+kernel
   have e2:Yi (-[!k,e])=-[-"value",e]:=A6 hl;rw[e2];exact one _ e () (h2 hm).2
  .rw[Yy c];exact⟨"lack",[],1,(),1,by simp[dpL],λh=>A8 h ()⟩
 |some s=>
  try dsimp only
  have hf:=Q7 Z;cases he:(itP qs 302 s).en with
  |none=>rw[he] at hf;cases hf
  |some e=>
   rcases(js hq Z 302).1.en e he with⟨z,rfl⟩|⟨v,rfl,hv⟩|⟨z,rfl⟩
   .have e2:Qt (flt z)=flt z:=by unfold Qt flt;dsimp only;exact A4 ()
    show∃k r,Qt (flt z)=_/\_;rw[e2];exact two "fault" z () ()
   .have e2:Qt (-[-"said",v])=-[-"value",v]:=by unfold Qt;dsimp only;exact A6 rfl
    show∃k r,Qt (-[-"said",v])=_/\_;rw[e2];exact one _ v () hv
   .have e2:Qt (-[-"stuck",!z])=-[-"stuck",!z]:=by unfold Qt;dsimp only;exact A4 ()
    show∃k r,Qt (-[-"stuck",!z])=_/\_;rw[e2];exact two "stuck" z () ()
def AaS (U:Qk qs){ps:Pp}(Z:∀n>(lD ps).map (·.1),Qt (qF (lD ps) n)=nI qs n)(n:Str):(n>(lD ps).map (·.1)\/g0D n (qF qs n)=U_->shD qs ps n=nI qs n)/\(n∉(lD ps).map (·.1)->∀s,g0D n (qF qs n)=u_ s->shD qs ps n= .non):=by
 unfold shD;exists λh=>?_,λh s O=>?_
 .by_cases c:n>(lD ps).map (·.1)
  .rw[A6 c];exact Z n c
  .rw[A4 c];rcases h with h|h
   .exact A8 h c
   .unfold nI;rw[h]
 .rw[A4 h];have hn:n>qs.map (·.1):=(QB qs).gn n s O;erw[j0 U hn,_,kk,e,hd,_];rw[hd] at O⊢;have ck:kk≠"leaf":=λc=>by rw[E5.mpr c] at O;cases O
  exact A4 ck
def LL (T:Tx K mg a)(C:Fx K w mg g a):FnOk P w K mg base (CX1 P w) 14 a.f_shown a.d_shown ["project","paper","name"] (Li a.qJ g.bn):=by
 have Jx:=#[Ni,T,C];have jY:=#[oN,T,C];have JT:=#[BD,T];have Xl:=#[BF,T];have QY:=#[Al,T];have qS:=#[YG,T];refine T.mY.F.okX Bj () (λ_ _ _ s H vs Q E U h=>?_)
 erw[h,px,t,us,n,qs,ps,b,rfl,ht,ac,hP,hq,hB,al,k,k2];have hs:=uE;exists 3,%[#[qX,#[qp,16,Jx,U.mono (),_,T.iB.m,T.iB.F.kp,T.iB.b,.nil,Abb,#v[pv 2],_,_,_]],#[qH,#[qq,zY,#[qp,jY,U.mono (),T.lE,#v[pv 0,pv 1]],qT,qw _],%[|#[qo,qT]],qt],#[qE,(3),Bj.nd,#[qp,JT,U.mono (),T.lP,#v[pv 1]]],#[qH,#[kj,#[pc_din,QZ U,pv 2,pv 3]],%[|#[qo,#[qp,Xl,U.mono (),T.l7,#v[#[QH,6,QZ U,pv 3,pv 2,(λ_ _=>rfl)]]]]],qt]|#[qo,#[qp,QY,U.mono (),T.iD,#v[#[Qm,20,pv 0,T.Q6,T.ii.h,qS,U.mono (),T.ii.b,.nil,qy,#v[pv 2],_,_,_]]]]]
 exists 8,N1,q1
 exists 0,n,1,al,λhn H1 s1=>q1 _ _ ?_,k2;exists 8,N2,q2
 exists 0,0,px,t,us,qs,ps,b,1,s1 _ _ ht,ac.mono s1.tk,hP.same s1,hq,hB,λv H2 s2 h1 h2=>[1:0:?_];have O:=s1.trans s2;cases b with
 |false=>
  have hv:=h2 rfl;exact lV (by simpa using hv) (k hn _ _ O rfl)
 |true=>
  cases h1 rfl;refine iZ (by simp) (q2 _ _ ?_)
  exists 8,N3,q3;erw[hB,hl,ay,ad,am]
  exists 0,t,us,ps,1,O _ _ ht,ac.mono O.tk,ad,hl,λsd H3 aA s3 hS=>q3 _ _ ?_;exists 8,N4,q4;have aa:=O.trans s3;erw[id hS,vs,ae,af,ag]
  exists 0,0,sd,0,mV.k (k:=Vf n) ae,0;rw[Kv af ag n];by_cases c:n>(lD ps).map (·.1)
  .refine lV (uj c) ?_;erw[oT af ag c,l1,l2];have ao:∃kk x,qF (lD ps) n=-[!kk,x]:=by
    erw[Ae.mp c,[m,e],ah,rfl];rw[Cg ad ah];erw[Ae.mp ah,s,ap,aq];rcases am with⟨_,hE,_⟩|⟨_,z⟩
    .have:=hE s ap;cases aq;rcases this with⟨z,e⟩|⟨x,e,_⟩|⟨z,e⟩
     .exact[_:_:e]
     .exact[_:_:e]
     .exact[_:_:e]
    .cases z
   erw[ao,kk,ex,Z];rw[Z] at l2
   exists 0,0,sd,0,(by rw[<-l1];exact mV.k (k:=Vf n) ae),_,kk,ex,1,l2,λu H4 s4 i4=>k hn _ _ (aa.trans s4) ?_
   rw[A6 rfl];unfold shD;rwa[A6 c,Z]
  .refine iZ (um c) (q4 _ _ ?_);have ak:=hP.same aa;erw[id ak,au,aB,op,aC,hx,_]
   exists 0,px,au,0,hx,Yj,0,px,n,qs,1,ak,λsv h1 h2=>?_;erw[sW hq h1 h2,d,aw,hd,ax,_]
   exists sv,d,1,aw,hd,λu H4 s4 i4=>k hn _ _ (aa.trans s4) ?_;rw[A6 rfl];unfold shD;rw[A4 c,<-ax];exact i4
end
abbrev Acy:D->D
 | .tup (k::_)=>k
 |d=>d
def SB (ps:om (Str×D)):(ps.map prD).map Acy=(ps.map (·.1)).map D.str:=by
 rw[uP,uP]
 rfl
def sV {H:Hp}:∀{zs:om Str}{vs:om V},L2.IsL H (zs.map D.str) vs->vs=zs.map V.str
 | [],_,h=>h
 |z::r,_,h=>by
  erw[h,v,q,rfl,[rfl,_],h2];rw[sV h2]
  rfl
def AbA {K:o0}{a A:o3}{H1:Hp}{te:TE}{tl:L2.St}{Q:VK}{ps:om (Str×D)}{us:om V}(ha:H1 a=u_ (.lst us))(hl:L2.IsL H1 (ps.map prD) us)(hn:↑ps<=60)(hA:H1 A=U_)
  (O:∀p x H (R:VK),p>ps->ic H1 H->Is H (prD p) x->(∀y H',ic H H'->Is H' (.str p.1) y->R y H')->te (u_ x::tl) H R)
  (hQ:∀H',ic H1 H'->H' A=u_ (.lst ((ps.map (·.1)).map V.str))->Q (-A) H'):CZ A (Itl K a) (YY 0) nG te (U_::tl) H1 Q:=by
 have hs:=uE;refine EF (ds:=ps.map prD) Acy ha hl (by rw[uc];omega) hA (λd x H R hd s hx r=>?_) λH' ys s U Z=>hQ H' s ?_
 .erw[Ae.mp hd,p,hp,rfl];exact O p x H R hp s hx r
 .rw[SB] at Z;rw[<-sV Z];exact U
def Ar:∀{l m:om Str},l.Nodup->(∀x>l,x>m)->↑l<=↑m
 | [],m,_,_=>uQ _
 |x::r,m,hn,hs=>by
  rw[vZ] at hn;have O:=hs x uh;have h:=Ar (l:=r) (m:=m.erase x) hn.2 (λy U=>(List.mem_erase_of_ne (λz=>hn.1 (by rwa[<-z]))).mpr (hs y (ug _ U)))
  rw[List.length_erase_of_mem O] at h;have:0<↑m:=List.length_pos_of_mem O;rw[uw];omega
def Mf {K:o0}{d A:o3}{o:Obj}{H1:Hp}{Q:VK}{te:TE}{ps:om (Str×D)}{kvs:om (Key×V)}(f:Str×D->D)(hd:H1 d=u_ (.frz o (.dK kvs)))(hk:kvs.map (·.1)=ps.map λp=>Vf p.1)(hl:L2.IsL H1 (ps.map (·.2)) (kvs.map (·.2)))(hn:↑ps<=Vg)(hA:H1 A=U_)
  (aa:∀p v H (R:VK),p>ps->ic H1 H->Is H p.2 v->(∀y H',ic H H'->Is H' (f p) y->R y H')->te [u_ (.str p.1),u_ v] H R)
  (hQ:∀H' ys,ic H1 H'->H' A=u_ (.lst ys)->L2.IsL H' (ps.map f) ys->Q (-A) H'):CZ A (Iti d o) (Acx K 2 (E4 (YY 0) (E4 (YY 1) Adp))) nG te [U_,U_] H1 Q:=by
 have ln:↑kvs=↑ps:=by
  have:=A9 VI hk;rwa[uc,uc] at this
 exists ↑ps,λi σ ys H=>(∃w1 w2,σ= [w1,w2])/\L2.IsL H ((ps.take i).map f) ys/\ic H1 H,hn,[[U_:U_:1]:1:qf hA _],?_,?_
 .rintro i σ ys H hi ⟨⟨w1,w2,rfl⟩,hy,sm⟩ U ac;exists [kvs:sm _ _ hd:()],λx H' y=>?_
  erw[y,t,p,rfl,ht,rfl,y];have e3:=y kvs (sm _ _ hd);have s2:=qf ht (-[kV p.1,p.2]);have e4:p.1=Vf ps[i].1:=by
   have h1:(kvs.map (·.1))[i]? =u_ p.1:=by rw[uK,e3];rfl
   rw[hk,uK,ui hi] at h1;exact(uM h1).symm
  obtain⟨v,e1,e2⟩:=hl.get (d:=ps[i].2) (i:=i) (by rw[uK,ui hi];rfl)
  have e5:v=p.2:=by
   rw[uK,e3] at e1;exact(uM e1).symm
  subst e5;exists t,0,SqT.of qg,1,_,0,_,0,1
  try dsimp![nG]
  rw[A6 rfl,e4];have O:=sm.trans s2;rw[e4] at s2 O;refine aa ps[i] p.2 _ _ (uR hi) O (e2.mono O.tk) λy H4 s4 i4=>?_;have Z:=s4 _ _ (s2 _ _ U);refine⟨Z,[_:0],?_,λb o e=>by rw[qi (qk e hA)];exact s4 _ _ (O b o e)⟩
  have t:Tk H4 (upd H4 A (.lst (ys++ [y]))):=Tk.updL Z;have et:(ps.take (i+1)).map f=(ps.take i).map f++ [f ps[i]]:=by rw[vj,ui hi,uq];rfl
  rw[et];exact(((hy.mono s2.tk).mono s4.tk).mono t).append (L2.IsL.one (i4.mono t))
 .rintro σ ys H ⟨_,hy,sm⟩ U;rw[vW] at hy;exact[[kvs:sm _ _ hd:TQ ln]:hQ H ys sm U hy]
mutual
theorem Is.tupN {H H':Hp}(t:∀b xs,H b=u_ (¬xs)->H' b=u_ (¬xs)):∀{d:D}{v:V},nD d=v_->Is H d v->Is H' d v
 | .non,_,_,h=>h
 | .bl _,_,_,h=>h
 | .int _,_,_,h=>h
 | .str _,_,_,h=>h
 | .lst,_,n,_=>by cases n
 | .dct,_,n,_=>by cases n
 | .tup xs,_,n,h=>by
  erw[h,a,vs,e,ha,O];exact⟨a,vs,e,t a vs ha,IsL.tupN t n O⟩
theorem IsL.tupN {H H':Hp}(t:∀b xs,H b=u_ (¬xs)->H' b=u_ (¬xs)):∀{ds:om D}{vs:om V},nL ds=v_->L2.IsL H ds vs->L2.IsL H' ds vs
 | [],_,_,h=>h
 |_::_,_,n,h=>by
  erw[h,v,r,e,h1,h2];simp![nL,uG] at n;exact⟨v,r,e,Is.tupN t n.1 h1,IsL.tupN t n.2 h2⟩
end
section
variable {α:Type}{f:α->Str}
abbrev ddA (f:α->Str):om α->om α->om α
 |acc,[]=>acc
 |acc,x::r=>if f x>acc.map f then ddA f acc r else ddA f (acc++ [x]) r
def jD:∀(x O y:om α),ddA f O (x++y)=ddA f (ddA f O x) y
 | [],O,y=>rfl
 |x::r,O,y=>by
  show(if f x>O.map f then ddA f O (r++y) else ddA f (O++ [x]) (r++y))=ddA f (if f x>O.map f then ddA f O r else ddA f (O++ [x]) r) y
  by_cases c:f x>O.map f
  .rw[A6 c,A6 c];exact jD r O y
  .rw[A4 c,A4 c];exact jD r _ y
def NK:∀(l O:om α),(∀x>l,f x>O.map f)->ddA f O l=O
 | [],O,_=>rfl
 |x::r,O,h=>by
  show(if f x>O.map f then ddA f O r else ddA f (O++ [x]) r)=O
  rw[A6 (h x uh)];exact NK r O λy U=>h y (ug _ U)
def Iv:∀(l O:om α),((O++l).map f).Nodup->ddA f O l=O++l
 | [],O,_=>(v9 O).symm
 |x::r,O,h=>by
  have h':=h;rw[uq,uC,UH] at h';have c:f x∉O.map f:=λz=>h'.2.2 _ z _ uh rfl;show(if f x>O.map f then ddA f O r else ddA f (O++ [x]) r)=_
  rw[A4 c,Iv r (O++ [x]) (by rw[vI];exact h),vI]
  rfl
def Cf:∀(l O:om α),(O.map f).Nodup->((ddA f O l).map f).Nodup
 | [],O,h=>h
 |x::r,O,h=>by
  show((if f x>O.map f then ddA f O r else ddA f (O++ [x]) r).map f).Nodup
  by_cases c:f x>O.map f
  .rw[A6 c];exact Cf r O h
  .rw[A4 c];refine Cf r _ ?_;rw[uq];exact(FK (l₁:= [f x]) (l₂:=O.map f)).nodup_iff.mp (List.nodup_cons.mpr [c:h])
def zI:∀(l O:om α) (x:α),x>ddA f O l->x>O\/x>l
 | [],O,x,h=> .inl h
 |y::r,O,x,h=>by
  have h:x>(if f y>O.map f then ddA f O r else ddA f (O++ [y]) r):=h
  by_cases c:f y>O.map f
  .rw[A6 c] at h;exact(zI r O x h).imp id (ug _)
  .rw[A4 c] at h;rcases zI r _ x h with h|h
   .rcases Ac.mp h with h|h
    .exact .inl h
    .cases Ab.mp h;exact .inr uh
   .exact .inr (ug _ h)
def AK:∀(l O:om α),∃t,ddA f O l=O++t
 | [],O=>[[]:(v9 O).symm]
 |x::r,O=>by
  show∃t,(if f x>O.map f then ddA f O r else ddA f (O++ [x]) r)=O++t
  by_cases c:f x>O.map f
  .rw[A6 c];exact AK r O
  .rw[A4 c];erw[AK r (O++ [x]),t,e];exact⟨x::t,by rw[e,vI];rfl⟩
def JX:∀(l O:om α) (z:Str),z>O.map f\/z>l.map f->z>(ddA f O l).map f
 | [],O,z,h=>by
  rcases h with h|h
  .exact h
  .cases h
 |x::r,O,z,h=>by
  show z>(if f x>O.map f then ddA f O r else ddA f (O++ [x]) r).map f
  by_cases c:f x>O.map f
  .rw[A6 c];refine JX r O z ?_;rcases h with h|h
   .exact .inl h
   .rw[uC] at h;rcases Aa.mp h with rfl|h
    .exact .inl c
    .exact .inr h
  .rw[A4 c];refine JX r _ z ?_;rw[uq];rcases h with h|h
   .exact .inl (vf _ h)
   .rw[uC] at h;rcases Aa.mp h with rfl|h
    .exact .inl (uN _ uh)
    .exact .inr h
def Iw:∀(l U O:om α),ddA f U (ddA f O l)=ddA f (ddA f U O) l
 | [],U,O=>rfl
 |x::r,U,O=>by
  show ddA f U (if f x>O.map f then ddA f O r else ddA f (O++ [x]) r)=(if f x>(ddA f U O).map f then ddA f (ddA f U O) r else ddA f (ddA f U O++ [x]) r)
  by_cases c:f x>O.map f
  .rw[A6 c,A6 (JX O U _ (.inr c))];exact Iw r U O
  .rw[A4 c,Iw r U (O++ [x]),jD O U [x]];show ddA f (if f x>(ddA f U O).map f then ddA f U O else ddA f U O++ [x]) r=_
   split<;>rfl
def Ix:∀(l O:om α) (i:Nat) (s:α),(ddA f O l)[i]? =u_ s->i<↑O\/∃l1 l2,l=l1++s::l2/\f s∉O.map f/\f s∉l1.map f/\(ddA f O l).take i=ddA f O l1
 | [],O,i,s,h=> .inl (Af.mp h).1
 |x::r,O,i,s,h=>by
  have e:ddA f O (x::r)=if f x>O.map f then ddA f O r else ddA f (O++ [x]) r:=rfl
  by_cases c:f x>O.map f
  .rw[e,A6 c] at h⊢;rcases Ix r O i s h with h|⟨l1,l2,U,e2,e3,Z⟩
   .exact .inl h
   .refine .inr ⟨x::l1,l2,by rw[U];rfl,e2,λz=>?_,?_⟩
    .rw[uC] at z;rcases Aa.mp z with z|z
     .exact e2 (by rw[z];exact c)
     .exact e3 z
    .rw[Z];exact(A6 c).symm
  .rw[e,A4 c] at h⊢;rcases Ix r (O++ [x]) i s h with h'|⟨l1,l2,U,e2,e3,Z⟩
   .erw[AK (f:=f) r (O++ [x]),t,et];rw[uF,vG] at h';by_cases ci:i<↑O
    .exact .inl ci
    .have hi:i=↑O:=by omega
     right;rw[et] at h⊢;have hx:s=x:=by
      rw[hi,vI,vM (ur _),Tj] at h;exact(uM h).symm
     refine⟨[],r,by rw[hx];rfl,by rw[hx];exact c,λz=>(by cases z),?_⟩
     rw[hi,vI,Re]
     rfl
   .rw[uq] at e2;refine .inr ⟨x::l1,l2,by rw[U];rfl,λz=>e2 (vf _ z),λz=>?_,?_⟩
    .rw[uC] at z;rcases Aa.mp z with z|z
     .exact e2 (uN _ (by rw[z];exact uh))
     .exact e3 z
    .rw[Z];exact(A4 c).symm
end
abbrev ST (qs:om (Str×D))(s:Str×om D×D):Prop:=∃g,g0D s.1 (qF qs s.1)=u_ g/\s.2.1=QD (itP qs 302 g)/\s.2.2=mF (itP qs 302 g)
structure Pap (qs:om (Str×D))(R:Pp):Prop where
 tr:∀s>R,ST qs s
 nd:(R.map (·.1)).Nodup
 bf:∀l1 s l2,R=l1++s::l2->∀kd z an,D.tup [-[!kd,!z],an]>s.2.1->mW kd=Vc->g0D z (qF qs z)=U_\/z>l1.map (·.1)
 sk:∀s>R,∀z,s.2.2=Db z->z>R.map (·.1)
def KA (R:Pp):(lD R).map (·.1)=R.map (·.1):=by
 unfold lD;rw[uP]
 rfl
variable {qs:om (Str×D)}{don:om (Str×Gp)}
def oC (hq:Qk qs){n:Str}(h:Dn qs n don):Pap qs (nC don):=by
 have hR:=Aj hq h;have O:(nC don).map (·.1)=don.map (·.1):=by rw[<-KA,AD]
 refine⟨λs U=>?_,by rw[O];exact AI h,λl1 s l2 e kd z an hx hk=>?_,λs U z hz=>?_⟩
 .erw[Ae.mp U,p,hp,rfl];erw[XQ h hp,g,Z,e2];have e2:p.2=itP qs 302 g:=e2;exact⟨g,Z,by show QD p.2=_;rw[e2],by show mF p.2=_;rw[e2]⟩
 .unfold nC at e;erw[List.map_eq_append_iff.mp e,d1,aa,Z,e2,e3];erw[List.map_eq_cons_iff.mp e3,p,d2,e4,e5,e6];subst e5;have:=Cp hq h (l1:=d1) (p:=p) (l2:=d2) (by rw[Z,e4]) hx hk
  rw[<-e2,uP];exact this
 .erw[List.getElem?_of_mem U,i,hi];have:=(hR.st i s hi).stk z hz;rw[<-KA];exact this.1
variable {R:Pp}
def Pap.put {S:Pp}(U:Pap qs R)(O:Pap qs S):Pap qs (ddA (·.1) [] (R++S)):=by
 have has:∀z,z>R.map (·.1)\/z>S.map (·.1)->z>(ddA (λs:Str×om D×D=>s.1) [] (R++S)).map (·.1):=λz hz=>JX _ _ z (.inr (by rw[uq];exact Ac.mpr hz))
 exists λs Z=>?_,Cf _ _ vQ,λl1 s l2 e kd z an hx hk=>?_,λs Z z hz=>?_
 .rcases zI _ _ _ Z with h|h
  .cases h
  .rcases Ac.mp h with h|h
   .exact U.tr s h
   .exact O.tr s h
 .have hi:(ddA (λs:Str×om D×D=>s.1) [] (R++S))[↑l1]? =u_ s:=by rw[e,vM (ur _),Tj];rfl
  rcases Ix _ _ _ _ hi with h|⟨k1,k2,e1,_,e3,e4⟩
  .exact A8 h (UE _)
  .rw[e,Re] at e4;have aa:g0D z (qF qs z)=U_\/z>k1.map (·.1):=by
    rcases List.append_eq_append_iff.mp e1 with⟨a',h1,h2⟩|⟨c',h1,h2⟩
    .exact(O.bf a' s k2 h2 kd z an hx hk).imp id λh=>by rw[h1,uq];exact uN _ h
    .cases c' with
     |nil=>exact(O.bf [] s k2 h2.symm kd z an hx hk).imp id λh=>by cases h
     |cons c cr=>
      have ac:s=c/\k2=cr++S:=by
       injection h2 with h3 h4
       exact[h3:h4]
      rw[<-ac.1] at h1;exact U.bf k1 s cr h1 kd z an hx hk
   refine aa.imp id λh=>?_;rw[e4];exact JX _ _ z (.inr h)
 .rcases zI _ _ _ Z with h|h
  .cases h
  .rcases Ac.mp h with h|h
   .exact has z (.inl (U.sk s h z hz))
   .exact has z (.inr (O.sk s h z hz))
def KN (U:Qk qs){s:Str×om D×D}(h:ST qs s):EnS s.2.2/\nm s.1=v_/\Qt s.2.2=nI qs s.1:=by
 erw[h,g,O,_,e2];have Z:=Q7 O;exists ?_,U.1.1.1 _ ((QB qs).gn _ g O),?_
 .rw[e2];unfold mF;cases he:(itP qs 302 g).en with
  |none=>rw[he] at Z;cases Z
  |some e=>exact(js U O 302).1.en e he
 .rw[e2];unfold nI mF;rw[O]
def Pap.right (hq:Qk qs)(h:Pap qs R):PpB qs R v_/\(∀n>(lD R).map (·.1),Qt (qF (lD R) n)=nI qs n):=by
 have al:((lD R).map (·.1)).Nodup:=by rw[KA];exact h.nd
 have af:∀s>R,∀l:Pp,(∀x>l,x>R)->(l.map (·.1)).Nodup->s>l->qF (lD l) s.1=s.2.2:=λs _ l _ hl hs=>Cg (by rwa[KA]) (Ae.mpr [s:hs:1])
 have aC:↑R<=60:=by
  have:=Ar h.nd (m:=qs.map (·.1)) λx hx=>by
   erw[Ae.mp hx,s,hs,rfl];erw[h.tr s hs,g,e1,_];exact(QB qs).gn _ g e1
  rw[uc,uc] at this;exact uY this hq.2.2
 exists ⟨(),λs hs=>(KN hq (h.tr s hs)).2.1,al,.inl [[al:λi s hs=>?_]:λs hs=>(KN hq (h.tr s hs)).1:1]⟩,λn hn=>?_
 .have am:=vg hs;erw[Af.mp hs,hi,aw];have ac:R=R.take i++s::R.drop (i+1):=by rw[<-aw,<-uV hi,U6]
  erw[h.tr s am,g,e1,ea,ee];have ao:=(js hq e1 302).1;have ag:=Q7 e1;have ap:((lD R).take i).map (·.1)=(R.take i).map (·.1):=by rw[UY,KA,UY]
  have ax:((R.take i).map (·.1)).Nodup:=h.nd.sublist ((V0 i R).map _);exists ?_,[g:e1],λx hx=>?_,?_,?_,?_,λz hz=>?_
  .rw[ap];intro z;have:=h.nd;rw[ac,uq,UH] at this;exact this.2.2 s.1 z s.1 (by rw[uC];exact uh) rfl
  .obtain⟨kd,z,an,rfl,ay,hc⟩:=NN hq e1 302 x (by rwa[<-ea])
   exists kd,z,an,1,ay,λhk=>IK hq e1 (by rwa[<-ea]) hk
   rcases hc with hc|⟨hk,aA,y,hF,ha⟩
   .exact .inl hc
   .refine .inr [hk:aA:?_];rcases h.bf _ s _ ac kd z an hx hk with h0|ad
    .refine .inl [h0:?_];have aq:FP qs z=u_ (KH (qF qs z)):=Sy.kY (QB qs) h0;rw[hF] at aq;cases aq;exact ha
    .erw[Ae.mp ad,sz,aa,rfl];erw[h.tr sz (Uc aa),gz,ez,_,ah];have Z:FP qs sz.1=(Y1 (itP qs 302 gz)).map some:=Sy.F_run (QB qs) ez;rw[hF] at Z;cases O:Y1 (itP qs 302 gz) with
     |none=>rw[O] at Z;cases Z
     |some v=>
      rw[O] at Z;have hy:y=u_ v:=uM Z;rw[hy] at ha;have ha:an=v:=ha;have ak:=(js hq ez 302).1;have ae:=Q7 ez;have au:mF (itP qs 302 gz)= .tup [-"said",v]/\isT v=true:=by
       unfold Y1 at O;unfold mF;cases U:(itP qs 302 gz).en with
       |none=>rw[U] at ae;cases ae
       |some e=>
        rw[U] at O;have O:YZ e=u_ v:=O;rcases ak.en e U with⟨y,rfl⟩|⟨y,rfl,hy⟩|⟨y,rfl⟩
        .have:YZ (flt y)=none:=(show(if("fault":Str)="said" then u_ (D.str y) else U_)=U_ from A4 ())
         rw[this] at O;cases O
        .have:YZ (-[-"said",y])=u_ y:=(show(if("said":Str)="said" then u_ y else U_)=u_ y from A6 rfl)
         rw[this] at O;cases O;exact[1:hy]
        .have:YZ (-[-"stuck",!y])=none:=(show(if("stuck":Str)="said" then u_ (D.str y) else U_)=U_ from A4 ())
         rw[this] at O;cases O
      refine .inr ⟨[gz:ez],by rwa[ap],?_,by rw[ha];exact au.2⟩
      have e0:(lD R).take i=lD (R.take i):=by unfold lD;rw[<-UY]
      rw[e0,af sz (Uc aa) (R.take i) (λx hx=>Uc hx) ax aa,ah,au.1,ha]
  .rw[ea,ee];exact Ic hq e1
  .rw[ea];exact Cn ao
  .have:=Mp ao ag;rw[ZW,<-ea] at this;erw[this,a1,a2,a3,a4];simp![nD] at a1;simp![dp] at a2;exact⟨a1,(),by rwa[ee],by rwa[ee]⟩
  .have ad:=h.sk s am z hz;refine⟨by rwa[KA],?_⟩
   rw[ee] at hz;have he:(itP qs 302 g).en=u_ (-[-"stuck",!z]):=by
    unfold mF at hz;cases U:(itP qs 302 g).en with
    |none=>rw[U] at ag;cases ag
    |some e=>rw[U] at hz;exact A9 u_ hz
   erw[Bg hq e1 302 he,_,_,_,aB];erw[Ae.mp ad,sz,aa,rfl];erw[h.tr sz aa,gz,ez,_,ah];rw[af sz aa R (λx hx=>hx) h.nd aa,ah];have Z:FP qs sz.1=(Y1 (itP qs 302 gz)).map some:=Sy.F_run (QB qs) ez;rw[aB] at Z;have ak:=(js hq ez 302).1;have ae:=Q7 ez;unfold mF;cases U:(itP qs 302 gz).en with
   |none=>rw[U] at ae;cases ae
   |some e=>
    rcases ak.en e U with⟨y,rfl⟩|⟨y,rfl,hy⟩|⟨y,rfl⟩
    .exact["fault":0:()]
    .have:Y1 (itP qs 302 gz)=u_ y:=by unfold Y1;rw[U];show(if("said":Str)="said" then u_ y else U_)=u_ y;exact A6 rfl
     rw[this] at Z;cases Z
    .exact["stuck":0:()]
 .rw[KA] at hn;erw[Ae.mp hn,s,hs,rfl];rw[af s hs R (λx hx=>hx) h.nd hs];exact(KN hq (h.tr s hs)).2.2
nonrec abbrev dd (l:Pp):Pp:=ddA (λs:Str×om D×D=>s.1) [] l
abbrev tb (l:Pp):om (Str×D):=l.map λs=>(s.1,stD s)
def NZ (l:Pp):(tb l).map (·.1)=l.map (·.1):=by unfold tb;rw[uP];rfl
def Aee (l:Pp):(tb l).map (·.2)=l.map stD:=by unfold tb;rw[uP];rfl
def Kk (l:Pp)(s:Str×om D×D):dd (l++ [s])=if s.1>(dd l).map (·.1) then dd l else dd l++ [s]:=jD (f:=λs:Str×om D×D=>s.1) l [] [s]
def AL {α:Type}{f:α->Str}:∀(l O:om α),↑(ddA f O l)<=↑O+↑l
 | [],O=>ur _
 |x::r,O=>by
  show(if f x>O.map f then ddA f O r else ddA f (O++ [x]) r).length<=↑O+(↑r+1)
  split
  .have:=AL (f:=f) r O;omega
  .have:=AL (f:=f) r (O++ [x]);rw[uF,vG] at this;omega
def Ce (l:Pp):↑(dd l)<=↑l:=by have:=AL (f:=λs:Str×om D×D=>s.1) l [];simpa using this
def AbN (l:Pp):(l.map stD).map Acy=(l.map (·.1)).map D.str:=by
 rw[uP,uP]
 rfl
def BT (z:Str):∀zs:om Str,inV (!z) (zs.map V.str)=decide (z>zs)
 | []=>rfl
 |y::r=>by
  have O:=BT z r;unfold inV at O⊢;rw[uC,Uh,O];by_cases c:z=y
  .subst c;simp[eqV]
  .have:eqV (!y) (!z)=false:=by simp![eqV];exact beq_eq_false_iff_ne.mpr λh:y=z=>c h.symm
   simp[this,c]
inductive Lk (CP:Addr):Sp
 |mk (px:Addr)(n:Str)(qs:List (Str×D))(_:vs= [-px,!n])(_:nm n=v_)(_:yS CP H px qs)(_:Qk qs)(_:∀t us H' don,ic H H'->H' t=u_ (¬us)->L2.IsL H' ((nC don).map stD) us->Dn qs n don->Q (-t) H')
inductive MU:Sp
 |mk (t u:Addr)(us ws:List V)(R S:Pp)(_:vs= [-t,-u])(_:H t=u_ (¬us))(_:L2.IsL H (R.map stD) us)(_:H u=u_ (¬ws))(_:L2.IsL H (S.map stD) ws)(_:↑R<=400)(_:↑S<=400)(_:∀r vs H',ic H H'->H' r=u_ (¬vs)->L2.IsL H' ((dd (R++S)).map stD) vs->Q (-r) H')
abbrev IS (s:Str×om D×D):Prop:=nm s.1=v_/\s.2.1= []/\nD s.2.2=v_/\dp s.2.2<=5
inductive AaJ:Sp
 |mk (p l:Addr)(zs:List Str)(_:vs= [-p,-l])(_:mf H p)(_:H l=u_ (.lst (zs.map V.str)))(_:∀z>zs,nm z=v_)(_:0<↑zs)(_:↑zs<=20)(_:∀t us H' (R:Pp),iY p H H'->mf H' p->H' t=u_ (¬us)->L2.IsL H' (R.map stD) us->↑R<=6->(∀s>R,IS s)->Q (-t) H')
section
variable {P:og}{w:oh}{K:o0}{mg:Str->oq o6}{base:o9}{a:Ad}{g:Ga}
def LN:#[C,16,a.W0,a.kL,["project","name"],(Lk a.qJ)]:=by
 have JJ:=#[Er,T,C];exists 9,T.mt,wM
 erw[h,px,n,qs,rfl,hn,hP,hq,k];have hs:=uE;exists 3,%[#[qE,(2),wM.nd,#[qO,5,#[qp,JJ,hr.mono (),T.lO,#v[pv 0,pv 1]],rfl]]|#[qo,#[Qg,qY,T.QG,vw,#v[#[O9,3,#[xO,["met","run"],(2),[],IR (qj xb) ["project","name","full_runs"],#[O6,8,pv 2,_,_],(λ_ _ _ _ _ _=>#[Ah,1,K,3,(2),1,rfl,rfl,Qy #[qM,(0),(show Vr (["met","run"]:om Str) by decide+kernel)] (Qy #[qM,(1),(show Vr (["met","run"]:om Str) by decide+kernel)] JH),_,_]),(λ_ _ _ _ _ _=>#[qG,#v[pv 0,#[qC,#[Wf,1,K,rfl],pv 1],#[qC,#[Wf,1,K,rfl],pv 1]]])]]]]]]
 exists 8,N1,q1
 exists 0,0,px,n,qs,1,hn,hP,hq,λH1 o rk uk fk don _ h _=>?_
 exists o.x,_,o.dx,_,0,h.oa.e,T.qx,T.Q5,Abo o,q1 _ _ ?_;refine .inr ⟨o.dr,rk,h.dr,λob=>?_⟩
 exists 0,o.dr,ob,rk,1,qg,λA0 af=>?_;have aa:∀b xs,H1 b=u_ (¬xs)->upd H1 o.dr (.frz ob (.dK rk)) b=u_ (¬xs):=λb xs e=>by rw[qi (λz=>by rw[z,h.dr] at e;cases e)];exact e
 have ac:∀l:om (Str×Gp),(∀p>l,GI p.2/\p.2.en.isSome=v_)->nL (l.map λp=>Xv p.2)=true:=by
  intro l
  induction l with
  |nil=>exact λ_=>rfl
  |cons p r ih=>
   intro hl;erw[hl p uh,h1,h2];erw[Mp h1 h2,a1,_,a2,_];show((nD (sP p.2)&&(nD (mF p.2)&&v_))&&nL (r.map λp=>Xv p.2))=v_;rw[ih λq hq=>hl q (ug _ hq),a1,a2]
   rfl
 have ag:L2.IsL (upd H1 o.dr (.frz ob (.dK rk))) ((don.map λq=>(q.1,Xv q.2)).map (·.2)) (rk.map (·.2)):=by
  rw[uP];exact IsL.tupN aa (ac don h.gi) h.vs
 refine Mf (ps:=don.map λq=>(q.1,Xv q.2)) (λq=>match q.2 with| .tup [x,y]=> .tup [.str q.1,x,y]|z=>z) qg (by rw[uP,h.ks];rfl) ag (by rw[uc];have:=h.len;omega) af (λq v H2 R ah s2 U r=>?_) λH2 ys s2 Z ad=>?_
 .erw[Ae.mp ah,p,hp,rfl];have U:Is H2 (-[sP p.2,mF p.2]) v:=U;erw[U,b0,ws,rfl,ae,w1,r1,rfl,ak,w2,r2,rfl,al,h3];cases(show r2= [] from h3)
  exists 0,0,b0,_,_,0,1,SqT.of ae,1,0,b0,_,_,0,1,SqT.of ae,1,(sml rfl),λt ht=>?_;have ao:↑p.1<=100:=by
   have:=xS (AbX hq h.dn (Ae.mpr [p:hp:1]));omega
  exact r _ _ (qf ht _) (Is.new (ds:= [.str p.1,sP p.2,mF p.2]) ⟨_,0,yx (),_,0,ak,_,0,al,1⟩ ht)
 .exists s2 _ _ qg;have O:=s2 _ _ (qg (H:=H1) (a:=o.dr) (o:= .frz ob (.dK rk)));have nA:A0≠o.dr:=λz=>by rw[z,O] at Z;cases Z
  have am:ic H1 (upd H2 o.dr (.dK rk)):=λb u e=>by
   by_cases c:b=o.dr
   .rw[c,h.dr] at e;cases e;rw[c,qg]
   .rw[qi c];exact s2 _ _ (by rwa[qi c])
  exists A0,ys,1,.inl ⟨SqL.of (by rwa[qi nA]),λt ht=>?_⟩
  have m4:=qf ht (¬ys);have ey:(don.map λq=>(q.1,Xv q.2)).map (λq=>match q.2 with| .tup [x,y]=>D.tup [.str q.1,x,y]|z=>z)=(nC don).map stD:=by
   unfold nC;rw[uP,uP];refine Ui λp _=>?_;show D.tup [.str p.1,sP p.2,mF p.2]=_;rw[ZW]
   rfl
  rw[ey] at ad;have t3:Tk H2 (upd H2 o.dr (.dK rk)):=by
   exists 5
   refine[λb xs e=>?_:λb xs e=>[xs:?_]:λb xs e=>[xs:?_]]<;>(rw[qi (λz=>by rw[z,O] at e;cases e)];exact e)
  exact k t ys _ don ((h.sm.trans am).trans m4) qg ((ad.mono t3).mono m4.tk) h.dn
def Pu:#[T,1,a.xw,a.xt,["paper","other"],MU]:=by
 refine T.ik.F.ok YV () (λ_ _ _ _ H vs Q E hr h=>?_)
 erw[h,t,u,us,ws,R,S,rfl,ht,ao,hu,ap,hR,hS,k];have hs:=uE;exists 3,%[#[qE,(2),YV.nd,jI],#[Ym,#[Wy,#[Qh,zn,pv 0,pv 1]],#[qM,(3),YV.nd],%[|#[qX,#[By,9,pv 2,#[qC,qD,pv 3],pv 3,⟨1,1,1,1⟩]]]]|#[qo,#[CL,8,rfl,_,T.QG,vw,pv 2,_,_,_,_,_,_]]]
 exists 8,N1,q1;refine λd hd=>q1 _ _ ?_;have m0:=qf hd (.dK ([]:om (Key×V)));have ag:jO (upd H d (.dK [])) d []:=⟨[],qg,1,1⟩;generalize upd H d (.dK [])=H0 at m0 ag⊢;exists 8,N2,q2
 exists 0,0,AO (xs:=R.map stD) (ys:=S.map stD) ⟨t,us,1,m0 _ _ ht,ao.mono m0.tk⟩ ⟨u,ws,1,m0 _ _ hu,ap.mono m0.tk⟩ (by rw[uc,uc];omega) λp H1 s1 hp=>?_
 erw[hp,c,xs,rfl,hc,ac];rw[<-uq] at ac;have af:↑xs=↑(R++S):=by rw[↑ac,uc]
 have ah:jO H1 d []:=by
  erw[ag,vs,h1,h2,h3];cases vs with
  |nil=>exact⟨[],s1 _ _ h1,1,1⟩
  |cons _ _=>cases h2
 have aq:=m0.trans s1;generalize hL:R++S=L at ac af k;have aw:↑L<=800:=by rw[<-hL,uF];omega
 exists c,1,[_:SqT.of hc]
 let J_:Nat->L2.St->Hp->Prop:=λi σ H'=>(∃u3,σ= [u_ (-t),u_ (-u),u_ (-d),u3])/\(∀b o,H1 b=u_ o->b≠d->H' b=u_ o)/\Tk H1 H'/\jO H' d (tb (dd (L.take i)))
 refine Xf (xs:=xs) J_ ⟨⟨0⟩,λb o e _=>e,Tk.refl _,ah⟩ (λi σ H' _ h=>SqT.of (h.2.1 _ _ hc λz=>?_)) ?_ ?_
 .erw[ah,vs,h1,_];rw[z,h1] at hc;cases hc
 .rintro i x σ H2 hx ⟨⟨u3,rfl⟩,k2,ad,vs,U,aa,Z⟩;have hi:i<↑L:=by rw[<-af];exact(Af.mp hx).1
  obtain⟨x',ak,ix⟩:=ac.get (i:=i) (d:=stD L[i]) (by rw[uK,ui hi];rfl)
  rw[hx] at ak;cases ak;have al:=ix.mono ad;erw[id al,tt,ut,rfl,au,y1,r1,rfl,[rfl,_],y2,r2,rfl,_,y3,r3,rfl,i3,ax];have ay:↑vs<=800:=by
   have:=A9 VI aa;rw[uc,NZ,uc] at this;have h2:=Ce (L.take i);rw[vy] at h2;omega
  have am:L.take (i+1)=L.take i++ [L[i]]:=by rw[vj,ui hi];rfl
  have O:=Kv aa Z L[i].1;rw[NZ] at O
  exists 5
  refine⟨0,d,1,.inl [_:.inl U],0,tt,_,_,0,1,SqT.of au,qz (j:=0) rfl,0,iP vs,Vf L[i].1,U,1,by unfold iP;rw[uc];omega,λv hv=>?_,λhv=>?_⟩
  .rw[hv] at O;have ae:L[i].1>(dd (L.take i)).map (·.1):=uA O.symm
   exists ⟨0⟩,k2,ad;rw[am,Kk,A6 ae];exact⟨vs,U,aa,Z⟩
  .rw[hv] at O;have ae:L[i].1∉(dd (L.take i)).map (·.1):=of_decide_eq_false O.symm
   exists ⟨0⟩,λb o e nb=>?_,ad.trans (Tk.updD U),?_
   .rw[qi nb];exact k2 _ _ e nb
   .rw[am,Kk,A4 ae];have:=jO.put (e:=stD L[i]) U aa Z (by rwa[NZ]) al
    have e:tb (dd (L.take i)++ [L[i]])=tb (dd (L.take i))++ [(L[i].1,stD L[i])]:=by unfold tb;rw[uq];rfl
    rw[e];exact this
 .rintro σ H2 ⟨⟨u3,rfl⟩,k2,ad,vs,U,aa,Z⟩;rw[af,vW] at aa Z;rw[Aee] at Z;refine q2 _ _ ⟨0,d,iP vs,1,.inl U,λr hr=>?_⟩;have m3:=qf hr (.tup ((iP vs).map (·.2)));have e2:(iP vs).map (·.2)=vs.map (·.2):=by unfold iP;rw[uP];rfl
  rw[e2] at m3⊢;refine k r _ _ (λb o e=>m3 _ _ (k2 _ _ (aq _ _ e) (qk e hd))) qg (Z.mono m3.tk)
def Abj:#[T,2,a.JG,a.JP,["pot","names"],AaJ]:=by
 have qP:=#[JL,T];refine T.lS.F.ok yk () (λ_ _ _ s H vs Q E hr h=>?_)
 erw[h,p,l,zs,rfl,hP,hL,hN,ay,aA,k];have Z:=uE;exists 3,%[#[qE,(2),yk.nd,#[QR,qd]],#[Ym,#[yH,#v[#[qp,qP,hr.mono (),T.ig,#v[pv 0,qh]]]],#[qM,(3),yk.nd],%[#[qE,(4),yk.nd,#[qC,7,Qa,pv 1,#[qp,qP,hr.mono (),T.ig,#v[pv 0,#[qA,qN,T.yR,uO,#v[pv 1]]]],(λ_ _=>rfl)]]|#[qX,#[jU,vd,vJ,vK,YU,pv 2,#v[#[qG,#v[pv 4,#[qG,qd],#[qG,#v[ql,#[qC,7,Qa,#[QR,#v[ql,ql,#[qG,qd]]],#[qp,qP,hr.mono (),T.ig,#v[pv 0,qh]],(λ_ _=>rfl)]]]]]]]]]]|#[qo,#[Qg,qY,T.QG,vw,#v[pv 2]]]]
 exists 8,N1,q1
 exists uQ _,λd hd=>q1 _ _ ?_;have m0:=qf hd (.lst ([]:om V));have ag:upd H d (.lst []) d=u_ (.lst []):=qg;generalize upd H d (.lst [])=H0 at m0 ag⊢;have P0:=hP.same m0;have nd:d≠p:=(hP.free hd).symm;exists 8,N2,q2
 exists 0,p,(6),1,P0,(),(),λc H1 c0 c1 P1 K1=>?_
 obtain⟨n,rfl,hn⟩:∃n:Nat,c=(n:Int)/\n<6:=[c.toNat:():()]
 exists n,1,(),()
 let J_:Nat->L2.St->Hp->Prop:=λi σ H'=>(∃u3 u4,σ= [u_ (-p),u_ (-l),u_ (-d),u3,u4])/\mf H' p/\iY p H H'/\∃vs,∃R:Pp,H' d=u_ (.lst vs)/\L2.IsL H' (R.map stD) vs/\↑R=i/\∀s>R,IS s
 refine JE (n:=n) J_ ⟨[_:0],P1,(iY.of m0).trans K1,[],[],K1 _ _ ag nd,1,1,λs Z=>by cases Z⟩ ?_ ?_
 .rintro i σ Ha hi ⟨⟨u3,u4,rfl⟩,Pa,Ka,vs,R,aa,O,ah,hR⟩;have ac:=Ka _ _ hL (hP.ne_strs hL);show ni _ _ _ _ Ha;exists 8,B1,b1
  exists 0,0,0,l,0,.inl (SqL.of ac),p,(↑zs:Int),(by show [V.ref p,V.int (↑(zs.map V.str):Int)]=_;rw[uc]),Pa,(),(),λe Hb e0 e1 Pb Kb=>?_
  obtain⟨j,rfl,hj⟩:∃j:Nat,e=(j:Int)/\j<↑zs:=[e.toNat:():()]
  have ao:=Kb _ _ ac (Pa.ne_strs ac)
  exists l,_,_,V.str zs[j],1,1,SqL.of ao,qz (by rw[uK,ui hj];rfl),b1 _ _ ?_
  have ad:=hN zs[j] (uR hj);generalize zs[j]=z at ad⊢;have aB:=xS ad;have ak:=Kb _ _ aa nd;have ap:=O.mono (Pa.tk Pb Kb);have aq:=Ka.trans Kb
  exists 0,.inl [1:_:SqL.of ak],0,uQ _,λt0 h0=>?_;have n0:=qf h0 (.tup ([]:om V));have i0:Is (upd Hb t0 (-[])) (-[]) (-t0):=Is.new (ds:= []) rfl h0;generalize upd Hb t0 (-[])=Hc at n0 i0⊢
  exists uQ _,λt1 h1=>?_;have n1:=qf h1 (.tup ([]:om V));have i1:Is (upd Hc t1 (-[])) (-[]) (-t1):=Is.new (ds:= []) rfl h1;generalize upd Hc t1 (-[])=Hd at n1 i1⊢
  exists sml rfl,λl1 au=>?_;have n2:=qf au (.lst [V.str "x",V.str "",V.ref t1]);have e2:upd Hd l1 (.lst [V.str "x",V.str "",V.ref t1]) l1=u_ (.lst [V.str "x",V.str "",V.ref t1]):=qg
  exists 0;show Dv _ (upd Hd l1 (.lst [V.str "x",V.str "",V.ref t1])) _ _;generalize upd Hd l1 (.lst [V.str "x",V.str "",V.ref t1])=He at n2 e2⊢;have al:=(n0.trans n1).trans n2;have Pe:=Pb.same al
  exists p,(3),1,Pe,(),(),λm Hf aC aD Pf Kf=>?_
  have aw:l1≠p:=λh=>by
   erw[Pe,x,ex,_];rw[<-h,e2] at ex;cases ex
  have am:=Pe.tk Pf Kf;obtain⟨jm,rfl,aE⟩:∃j:Nat,m=(j:Int)/\j<3:=[m.toNat:():()]
  obtain⟨y,U,hy,iy,ny,aF⟩:∃y U,([V.str "x",V.str "",V.ref t1]:om V)[jm]? =u_ y/\Is Hf U y/\nD U=v_/\dp U<=4:=by
   rcases jm with _|_|_|jm
   .exact⟨_,-"x",1,yx (),1,by simp[dp]⟩
   .exact⟨_,-"",1,yx (),1,by simp[dp]⟩
   .exact⟨_,-[],1,(i1.mono n2.tk).mono am,1,by simp[dp,dpL]⟩
   .omega
  exists l1,_,_,y,1,1,SqL.of (Kf _ _ e2 aw),qz hy,sml rfl,λt2 h2=>?_;have n3:=qf h2 (-[V.str "said",y]);have i3:Is (upd Hf t2 (-[V.str "said",y])) (-[-"said",U]) (-t2):=Is.new (ds:= [-"said",U]) ⟨_,0,yx (),_,0,iy,1⟩ h2
  generalize upd Hf t2 (-[V.str "said",y])=Hg at n3 i3⊢
  exists sml rfl,λt3 h3=>?_;have n4:=qf h3 (-[V.str z,V.ref t0,V.ref t2]);have ta:=((((n1.trans n2).tk).trans am).trans n3.tk);have i4:Is (upd Hg t3 (-[V.str z,V.ref t0,V.ref t2])) (stD (z,[],-[-"said",U])) (-t3):=Is.new (ds:= [!z,-[],-[-"said",U]]) ⟨_,0,yx (),_,0,i0.mono ta,_,0,i3,1⟩ h3
  generalize upd Hg t3 (-[V.str z,V.ref t0,V.ref t2])=Hh at n4 i4⊢;have ae:iY p Hb Hh:=((iY.of al).trans Kf).trans (iY.of (n3.trans n4));have Ph:=Pf.same (n3.trans n4);have af:=ae _ _ ak nd;have ax:=ap.mono (Pb.tk Ph ae)
  exists 5
  refine⟨d,vs,0,1,af,by rw[↑O,uc];omega,[_:0],?_,λb o e nb=>?_,_,R++ [(z,[],-[-"said",U])],qg,?_,by rw[uF,ah];rfl,λs Z=>?_⟩
  .erw[Ph,x,ex,hx];exact⟨x,by rwa[qi nd.symm],hx⟩
  .rw[qi (qk e hd)];exact ae _ _ (aq _ _ e nb) nb
  .rw[uq];exact(ax.mono (Tk.updL af)).append (L2.IsL.one (i4.mono (Tk.updL af)))
  .rcases Ac.mp Z with Z|Z
   .exact hR s Z
   .cases Ab.mp Z
    exists ad,1,by simp![nD,nL,ny,Uj]
    simp![dp,dpL];omega
 .rintro σ Ha ⟨⟨u3,u4,rfl⟩,Pa,Ka,vs,R,aa,O,ah,hR⟩;refine q2 _ _ ⟨0,d,vs,1,.inl [SqL.of aa:λr hr=>?_]⟩;have m3:=qf hr (¬vs);exact k r _ _ R (Ka.trans (iY.of m3)) (Pa.same m3) qg (O.mono m3.tk) () hR
def Abm:#[T,1,a.f_law_due,a.d_law_due,["paper","other"],MU]:=by
 refine T.mI.F.ok zt () (λ_ _ _ s H vs Q E hr h=>?_)
 erw[h,t,u,us,ws,R,S,rfl,ht,aq,hu,au,hR,hS,k];have hs:=uE;exists 3,%[#[qE,(2),zt.nd,#[QR,qd]],#[Ym,#[Wy,#[Qh,zn,pv 0,pv 1]],#[qM,(3),zt.nd],%[|#[qH,#[qq,Zt,#[qC,qD,pv 3],#[xO,["one"],(1),[],Sm,#[wY,pv 2],(λ_ _ _ _ _ _=>#[qM,(0),(show Vr (["one"]:om Str) by decide+kernel)]),(λ_ _ _ _ _ _=>#[qC,#[Wf,1,K,rfl],pv 0])],#[w]],%[|#[qX,#[jU,vd,vJ,vK,YU,pv 2,#v[pv 3]]]],qt]]]|#[qo,#[Qg,qY,T.QG,vw,#v[pv 2]]]]
 exists 8,N1,q1
 exists uQ _,λd hd=>q1 _ _ ?_;have m0:=qf hd (.lst ([]:om V));have af:upd H d (.lst []) d=u_ (.lst []):=qg;generalize upd H d (.lst [])=H0 at m0 af⊢;exists 8,N2,q2
 exists 0,0,AO (xs:=R.map stD) (ys:=S.map stD) ⟨t,us,1,m0 _ _ ht,aq.mono m0.tk⟩ ⟨u,ws,1,m0 _ _ hu,au.mono m0.tk⟩ (by rw[uc,uc];omega) λp H1 s1 hp=>?_
 erw[hp,c,xs,rfl,hc,aa];rw[<-uq] at aa;have ae:↑xs=↑(R++S):=by rw[↑aa,uc]
 have ag:=s1 _ _ af;have aw:=m0.trans s1;generalize hL:R++S=L at aa ae k;have aF:↑L<=800:=by rw[<-hL,uF];omega
 exists c,1,[_:SqT.of hc]
 let J_:Nat->L2.St->Hp->Prop:=λi σ H'=>(∃u3,σ= [u_ (-t),u_ (-u),u_ (-d),u3])/\(∀b o,H1 b=u_ o->b≠d->H' b=u_ o)/\Tk H1 H'/\∃vs,H' d=u_ (.lst vs)/\L2.IsL H' ((dd (L.take i)).map stD) vs
 refine Xf (xs:=xs) J_ ⟨⟨0⟩,λb o e _=>e,Tk.refl _,[],ag,1⟩ (λi σ H' _ h=>SqT.of (h.2.1 _ _ hc λz=>?_)) ?_ ?_
 .rw[z,ag] at hc;cases hc
 .rintro i x σ H2 hx ⟨⟨u3,rfl⟩,k2,ac,vs,Z,O⟩;have hi:i<↑L:=by rw[<-ae];exact(Af.mp hx).1
  obtain⟨x',ah,ix⟩:=aa.get (i:=i) (d:=stD L[i]) (by rw[uK,ui hi];rfl)
  rw[hx] at ah;cases ah;have ak:=ix.mono ac;erw[id ak,tt,ut,rfl,ax,y1,r1,rfl,[rfl,_],y2,r2,rfl,_,y3,r3,rfl,i3,aG];have aH:↑vs<=800:=by
   rw[↑O,uc];have h2:=Ce (L.take i);rw[vy] at h2;omega
  have al:L.take (i+1)=L.take i++ [L[i]]:=by rw[vj,ui hi];rfl
  exists 0,tt,_,_,0,1,SqT.of ax,qz (j:=0) rfl,0,d,1,[_:SqL.of Z],λA1 ay=>?_;refine EF (tl:= []) (ds:=(dd (L.take i)).map stD) Acy Z O (by rw[<-↑O];omega) ay (λaI y H' Rr aA s' hy r=>?_) λH3 ys s3 am ao=>?_
  .erw[Ae.mp aA,sx,_,rfl];erw[hy,b1,ub,rfl,aB,z1,aJ,rfl,[rfl,aC],_];exact⟨0,b1,_,_,0,1,SqT.of aB,qz (j:=0) rfl,r _ _ (ic.refl _) [1:aC]⟩
  rw[AbN] at ao;have aD:=sV ao;rw[aD] at am
  exists 5
  refine⟨A1,0,.inl (SqL.of am),1,by rw[UD];exact List.all_eq_true.mpr λ_ _=>rfl,?_⟩
  have ap:(if v_=v_ then !(inV) (.str L[i].1) (((dd (L.take i)).map (·.1)).map V.str) else inV (.str L[i].1) (((dd (L.take i)).map (·.1)).map V.str))= !(decide) (L[i].1>(dd (L.take i)).map (·.1)):=by rw[A6 rfl,BT]
  rw[ap];have U:=s3 _ _ Z;have aE:=ak.mono s3.tk
  exists 0;by_cases ad:L[i].1>(dd (L.take i)).map (·.1)
  .rw[uj ad];refine iL ⟨⟨0⟩,λb o e nb=>s3 _ _ (k2 b o e nb),ac.trans s3.tk,vs,U,?_⟩;rw[al,Kk,A6 ad];exact O.mono s3.tk
  .rw[um ad];refine ky ?_
   exists 0,.inl [1:_:SqL.of U],0,d,vs,0,1,U,(),⟨0⟩,λb o e nb=>?_,?_,_,qg,?_
   .rw[qi nb];exact s3 _ _ (k2 _ _ e nb)
   .exact(ac.trans s3.tk).trans (Tk.updL U)
   .rw[al,Kk,A4 ad,uq];exact((O.mono s3.tk).mono (Tk.updL U)).append (L2.IsL.one (aE.mono (Tk.updL U)))
 .rintro σ H2 ⟨⟨u3,rfl⟩,k2,ac,vs,Z,O⟩;rw[ae,vW] at O;refine q2 _ _ ⟨0,d,vs,1,.inl [SqL.of Z:λr hr=>?_]⟩;have m3:=qf hr (¬vs);exact k r _ _ (λb o e=>m3 _ _ (k2 _ _ (aw _ _ e) (qk e hd))) qg (O.mono m3.tk)
def Pap.len (h:Pap qs R)(O:Qk qs):↑R<=60:=by
 have:=Ar h.nd (m:=qs.map (·.1)) λx U=>by
  erw[Ae.mp U,s,Z,rfl];erw[h.tr s Z,g,e1,_];exact(QB qs).gn _ g e1
 rw[uc,uc] at this;exact uY this O.2.2
abbrev ZZ:om Str:= ["zz"]
abbrev NS (s:Str×om D×D):Prop:=nD (stD s)=v_/\dp (stD s)<=40
def Sf:∀{R:Pp},(∀s>R,NS s)->nL (R.map stD)=v_/\dpL (R.map stD)<=40
 | [],_=>⟨1,by simp[dpL]⟩
 |s::r,h=>by
  erw[h s uh,h1,h2];obtain⟨O,Z⟩:=Sf (R:=r) λq U=>h q (ug _ U);exists ?_,?_
  .rw[uC];simp![nL,h1,O,Uj]
  .rw[uC];simp![dpL];omega
def NY (hq:Qk qs){s:Str×om D×D}(h:ST qs s):NS s:=by
 erw[h,g,U,e2,e3];erw[Mp (js hq U 302).1 (Q7 U),O,Z,a3,a4];rw[ZW,<-e2] at O Z;rw[<-e3] at a3 a4;unfold NS stD;simp![nD,dp] at O Z;exists by simp![nD,nL,O,a3,Uj]
 simp![dp,dpL];omega
def Abp {s:Str×om D×D}(h:IS s):NS s:=by
 erw[h,_,h2,h3,h4];unfold NS stD;rw[h2];exists by simp![nD,nL,h3,Uj]
 simp![dp,dpL];omega
def Mz (l:Pp):((dd l).map (·.1)).Nodup:=Cf l [] vQ
def MA {l:Pp}(h:(l.map (·.1)).Nodup):dd l=l:=Iv (f:=λs:Str×om D×D=>s.1) l [] h
def Ab0 (R S:Pp):dd (dd (R++S)++S)=dd (R++S):=by
 have e:dd (dd (R++S)++S)=ddA (λs:Str×om D×D=>s.1) (dd (dd (R++S))) S:=jD (dd (R++S)) [] S;rw[e,MA (Mz _)];exact NK S _ λx O=>JX _ _ _ (.inr (by rw[uq];exact uN _ (TN O)))
def My (X Y Z:Pp):dd (dd (X++Y)++Z)=dd (X++dd (Y++Z)):=by
 have e:dd (dd (X++Y)++Z)=ddA (λs:Str×om D×D=>s.1) (dd (dd (X++Y))) Z:=jD (dd (X++Y)) [] Z;have e2:dd (X++dd (Y++Z))=ddA (λs:Str×om D×D=>s.1) (dd X) (ddA (λs:Str×om D×D=>s.1) [] (Y++Z)):=jD X [] (dd (Y++Z));have e3:ddA (λs:Str×om D×D=>s.1) (dd X) []=dd X:=rfl;have O:dd (X++Y)=ddA (λs:Str×om D×D=>s.1) (dd X) Y:=jD X [] Y;rw[e,MA (Mz _),e2,Iw,e3,jD Y (dd X) Z,O]
def Bz {n:Str}(h:Dn qs n don):g0D n (qF qs n)=U_\/n>(nC don).map (·.1):=by
 have e:(nC don).map (·.1)=don.map (·.1):=by rw[<-KA,AD]
 rw[e];exact AH h
inductive MV (K:PySem.W.Frag):Sp
 |mk (q:Addr)(ns:List Int)(_:vs= [-q])(_:SqL K H q (ns.map V.int))(_:↑ns<=63)(_:∀H',Q (.bl v_) H')
def Abk:#[C,18,a.f_law,a.d_law,["script"],(MV K)]:=by
 have bR:=#[LR,T];have WO:=#[PF,T];have wl:=#[El,T];have qP:=#[JL,T];have kI:=#[LN,T,C];have Qj:=#[Pu,T];have aa:=#[Abm,T];have Wu:=#[Abj,T];have jY:=#[oN,T,C];have au:=#[LL,T,C];have ae:=#[L4,T,C];refine T.BV.F.ok Y4 () (λ_ _ _ s H vs Q E O h=>?_)
 erw[h,q,ns,rfl,hq,cr,k];have hs:=uE;exists 3,%[#[qE,(1),Y4.nd,#[qp,bR,O.mono (),T.ml,#v[pv 0]]],#[qE,(2),Y4.nd,#[zJ,T.M_Project,WO,O.mono (),T.m_Project,T.l9,qy,#v[#[Qg,qY,T.QG,vw,#v[pv 1]]]]],#[qE,2,(3),4,Y4.nd,rfl,Gk rfl,#[Qh,BC,#[xO,["pair"],(1),[],Sm,#[wY,pv 1],(λ_ _ _ _ _ _=>#[qM,(0),(show Vr (["pair"]:om Str) by decide+kernel)]),(λ_ _ _ _ _ _=>#[qC,#[Wf,1,K,rfl],pv 0])],#[QR,#v[ql]]],_,_],#[qE,2,(4),4,Y4.nd,rfl,Gk rfl,#[qp,wl,O.mono (),T.mH,#v[#[Qh,Yg,#[qA,#[sI,1,rfl],T.z_sum,boot_sum,#v[pv 0]],qh],qh]],_,_],#[Ym,#[yH,#v[qh]],#[qM,(5),Y4.nd],%[#[qE,(6),Y4.nd,#[qC,7,Qa,pv 3,#[qp,qP,O.mono (),T.ig,#v[pv 4,#[qA,qN,T.yR,uO,#v[pv 3]]]],(λ_ _=>rfl)]],#[qE,(7),Y4.nd,#[qC,7,Qa,pv 3,#[Qh,Z3,pv 5,#[qA,qN,T.yR,uO,#v[pv 3]]],(λ_ _=>rfl)]],#[qE,(8),Y4.nd,#[QR,#v[#[qp,kI,O.mono (),T.mt,#v[pv 2,pv 6]],#[qp,kI,O.mono (),T.mt,#v[pv 2,pv 7]]]]],#[qE,(9),Y4.nd,#[qp,Qj,O.mono (),T.ik,#v[#[qC,Qa,pv 8],#[qC,Qa,pv 8]]]],@qH _ _ _ _ _ _ _ _ #[XN,#[Qo,#[Qc,#[qA,#[qU,2,rfl],T.qR,vc,#v[pv 9,#[Q9,.ty "tuple",T.QG,vw]]]]],#[j8,#[qq,#[jX,O.units],pv 9,#[qp,aa,O.mono (),T.mI,#v[#[qC,Qa,pv 8],#[qC,Qa,pv 8]]],qw _]]].pt %[|#[qo,YA]] qt,#[qH,#[qq,zY,#[qp,jY,O.mono (),T.lE,#v[pv 2,pv 9]],qT,qw _],%[|#[qo,YA]],qt],#[Ym,#[wY,#[QR,#v[pv 6,pv 7]]],#[qM,(10),Y4.nd],%[|#[qH,#[qq,#[jX,O.units],#[qp,16,au,O.mono (),_,T.mY.m,T.mY.F.kp,T.mY.b,.nil,DY,#v[pv 2,pv 9,pv 10],_,_,_],#[qp,ae,O.mono (),T.mT,#v[pv 2,pv 10]],qw _],%[|#[qo,YA]],qt]]],@qH _ _ _ _ _ _ _ _ #[XN,#[qq,#[jX,O.units],#[qp,Qj,O.mono (),T.ik,#v[pv 9,#[qC,Qa,pv 8]]],pv 9,qw _],#[j8,#[qq,#[jX,O.units],#[qp,Qj,O.mono (),T.ik,#v[pv 9,#[qG,qd]]],pv 9,qw _]]].pt %[|#[qo,YA]] qt|#[qH,#[qq,#[jX,O.units],#[qp,Qj,O.mono (),T.ik,#v[#[qG,qd],pv 9]],pv 9,qw _],%[|#[qo,YA]],qt]]],#[Ym,#[yH,#v[qh]],#[qM,(5),Y4.nd],%[#[Bw,2,["k","pot","names"],(1),[4,3],(11),12,Y4.nd,rfl,GR rfl,IR (qj Lx) ["script","pairs","project","names","pot","turn","one","two","papers","found","name","odd","first"],rfl,#[yH,#v[qh]],(λ_ _ _ _ _ _=>#[qM,(0),(show Vr (["k","pot","names"]:om Str) by decide+kernel)]),(λ_ _ _ _ _ _=> @yf _),(λ_ _ _ _ _ _=>#[qp,Wu,O.mono (),T.lS,#v[pv 1,pv 2]]),_,_,_],#[qH,#[qq,#[jX,O.units],#[qp,Qj,O.mono (),T.ik,#v[#[qC,Qa,pv 11],#[qC,Qa,pv 11]]],#[qp,aa,O.mono (),T.mI,#v[#[qC,Qa,pv 11],#[qC,Qa,pv 11]]],qw _],%[|#[qo,YA]],qt],#[qE,(12),Y4.nd,#[qp,Qj,O.mono (),T.ik,#v[#[qp,Qj,O.mono (),T.ik,#v[#[qC,Qa,pv 11],#[qC,Qa,pv 11]]],#[qC,Qa,pv 11]]]]|#[qH,#[qq,#[jX,O.units],pv 12,#[qp,Qj,O.mono (),T.ik,#v[#[qC,Qa,pv 11],#[qp,Qj,O.mono (),T.ik,#v[#[qC,Qa,pv 11],#[qC,Qa,pv 11]]]]],qw _],%[|#[qo,YA]],qt]]]|#[qo,YA]]
 exists 8,N2,q2
 exists 0,q,ns,1,hq,λL ps us H1 cs s1 hL a3 hok cu=>q2 _ _ ?_;have hq:=Dr hq s1;exists 8,N3,q3
 exists 0,L,us,1,.inl [SqL.of hL:λt ht=>?_];have m1:=qf ht (¬us);intro x dx nx a4 bS;have m2:ic (upd H1 t (¬us)) (upd (upd (upd H1 t (¬us)) dx (.own x)) x (.ins a.qJ dx [])):=λb ob e=>by
  rwa[qi (qk e nx),qi (qk e a4)]
 have aI:=m1.trans m2
 exists x,dx,t,ps,us,1,qg,m2 _ _ qg,a3.mono aI.tk,hok,(),λqs H2 keep hP hT bT=>[1:q3 _ _ ?_]
 have s2:ic H1 H2:=λb ob e=>keep b ob (aI _ _ e) (qk (m1 _ _ e) nx);have a5:=s2 _ _ hL;have a6:=a3.mono s2.tk;have hq:=Dr hq s2;exists 8,N4,q4
 exists 0,L,1,[_:SqL.of a5],λA0 a7=>?_;refine AbA (tl:= []) a5 a6 () a7 (λp y H' R hp s' hy hR=>?_) λH3 s3 a8=>?_
 .erw[hy,tp,up,rfl,bU,w1,r1,rfl,[rfl,hz],_];exact⟨0,tp,_,_,0,1,SqT.of bU,qz (j:=0) rfl,hR _ _ (ic.refl _) [1:hz]⟩
 exists sml rfl,λl2 a9=>?_;have m4:=qf a9 (.lst [V.str "zz"])
 exists 5
 refine⟨A0,l2,_,0,1,m4 _ _ a8,qg,by rw[uc,uc];show _+1<=Vg;omega,λl3 bb=>q4 _ _ ?_⟩
 have m5:=m4.trans (qf bb (.lst ((ps.map (·.1)).map V.str++ [V.str "zz"])));obtain⟨zs,aE⟩:∃zs,zs=ps.map (·.1)++ZZ:=⟨0⟩;have e5:upd (upd H3 l2 (.lst [V.str "zz"])) l3 (.lst ((ps.map (·.1)).map V.str++ [V.str "zz"])) l3=u_ (.lst (zs.map V.str)):=by rw[qg,aE,uq];rfl
 generalize upd (upd H3 l2 (.lst [V.str "zz"])) l3 (.lst ((ps.map (·.1)).map V.str++ [V.str "zz"]))=H4 at m5 e5⊢;have bc:=s3.trans m5;have aw:∀z>zs,nm z=true:=λz hz=>by
  rw[aE] at hz;rcases Ac.mp hz with h|h
  .exact hok.1.1 z h
  .cases Ab.mp h
   decide+kernel
 have bV:0<↑zs:=by rw[aE,uF];show 0<_+1;omega
 have cv:↑zs<=9:=by rw[aE,uF,uc];show _+1<=9;omega
 have bd:=hP.same bc;have hq:=Dr hq bc;clear m1 m2 aI m4 m5 keep a8 a7 a9 bb nx a4 bS;exists 8,N5,q5
 exists 0,q,ns,1,hq,_,0,1,ns.sum+3,(80),1,(),(),λp H5 hp s5 P5=>q5 _ _ ?_
 have cw:=s5 _ _ e5;exists 8,N6,q6
 exists (8),1,(),()
 let J_:Nat->L2.St->Hp->Prop:=λi σ H'=>(∃u5 u6 u7 u8 u9 ad ah ak,σ= [u_ (-q),u_ (-L),u_ (-x),u_ (-l3),u_ (-p),u5,u6,u7,u8,u9,ad,ah,ak])/\mf H' p/\ic H4 H'
 refine JE (n:=8) J_ [⟨_,_,_,_,_,_,_,0⟩:P5:s5] ?_ ?_
 .rintro i σ Ha hi ⟨⟨u5,u6,u7,u8,u9,ad,ah,ak,rfl⟩,Pa,sa⟩;have bW:=sa _ _ e5;have cx:=bd.same sa;show ni _ _ _ _ Ha;exists 8,B1,b1
  exists 0,0,0,l3,0,.inl (SqL.of bW),p,(↑zs:Int),(by show [V.ref p,V.int (↑(zs.map V.str):Int)]=_;rw[uc]),Pa,(),(),λe Hb e0 e1 Pb Kb=>?_
  obtain⟨j,rfl,hj⟩:∃j:Nat,e=(j:Int)/\j<↑zs:=[e.toNat:():()]
  have sb:ic H4 Hb:=Kb.same sa hp;have aF:=sb _ _ e5
  exists l3,_,_,V.str zs[j],1,1,SqL.of aF,qz (by rw[uK,ui hj];rfl),b1 _ _ ?_
  have aJ:=aw zs[j] (uR hj);generalize zs[j]=n1 at aJ⊢;exists 8,B2,b2;obtain⟨j2,bX,bg⟩:∃j2:Nat,(0+(i:Int))%(↑(zs.map V.str):Int)=(j2:Int)/\j2<↑zs:=by
   rw[uc];have h1:=UX (0+(i:Int)) (b:=(↑zs:Int)) ()
   have h2:=Ux (0+(i:Int)) (b:=(↑zs:Int)) ()
   exact[((0+(i:Int))%(↑zs:Int)).toNat:():()]
  exists 0,0,0,l3,0,.inl (SqL.of aF),_,0,1,(by rw[uc];omega),l3,_,_,V.str zs[j2],1,1,SqL.of aF,(by rw[bX];exact qz (by rw[uK,ui bg];rfl)),b2 _ _ ?_
  have aK:=aw zs[j2] (uR bg);generalize zs[j2]=n2 at aK⊢;have aL:=bd.same sb;exists 8,B3,b3
  exists 0,0,x,n1,qs,1,aJ,aL,hT,λt1 al Hc bh sc h1 i1 D1=>?_
  exists 0,0,x,n2,qs,1,aK,aL.same sc,hT,λt2 ag Hd bo sd h2 i2 D2=>?_
  exists sml rfl,λlp bp=>b3 _ _ ?_;have m6:=qf bp (.lst [V.ref t1,V.ref t2]);have ax:upd Hd lp (.lst [V.ref t1,V.ref t2]) lp=u_ (.lst [V.ref t1,V.ref t2]):=qg;have h1:=m6 _ _ (sd _ _ h1);have h2:=m6 _ _ h2;have i1:=i1.mono (sd.trans m6).tk;have i2:=i2.mono m6.tk;have aM:=(sc.trans sd).trans m6;generalize upd Hd lp (.lst [V.ref t1,V.ref t2])=He at m6 ax h1 h2 i1 i2 aM⊢;have p1:=oC hT D1;have p2:=oC hT D2;have bq:=Bz D1;have bt:=Bz D2;have bu:=p1.len hT;have bv:=p2.len hT;generalize nC bh=R at i1 p1 bq bu;generalize nC bo=S at i2 p2 bt bv;exists 8,B4,b4
  exists 0,lp,_,_,0,1,SqL.of ax,qz (j:=0) rfl,0,lp,_,_,0,1,SqL.of ax,qz (j:=1) rfl,t1,t2,al,ag,R,S,1,h1,i1,h2,i2,(),(),λr vs Hf sf ay ir=>b4 _ _ ?_
  have pF:Pap qs (dd (R++S)):=p1.put p2;have aA:=pF.len hT;have U:=Sf λs hs=>NY hT (pF.tr s hs);erw[Pap.right hT pF,hB,hA];exists 8,B5,b5;have bw:PySem.W.kitOne K (.type "tuple") (.type "tuple")=u_ true:=by
   unfold PySem.W.kitOne;rw[A6 (by simp)]
  exists 0,-r,"tuple",_,v_,1,¬ay,bw,0,iL ?_;have bx:=aM.trans sf;have aN:=sf _ _ ax;have bY:=sf _ _ h1;have bA:=sf _ _ h2;have bZ:=i1.mono sf.tk;have bB:=i2.mono sf.tk;have aO:=aL.same bx;clear i1 i2 h1 h2 ax sf aM bp m6 sd sc
  exists 0,0,lp,_,_,0,1,SqL.of aN,qz (j:=0) rfl,0,lp,_,_,0,1,SqL.of aN,qz (j:=1) rfl,t1,t2,al,ag,R,S,1,bY,bZ,bA,bB,(),(),λr2 b9 Hg sg aP bC=>?_
  exists 5
  refine⟨_,_,⟨r,vs,1,sg _ _ ay,ir.mono sg.tk⟩,⟨r2,b9,1,aP,bC⟩,U.1,U.1,by have:=U.2;omega,0,?_⟩
  rw[(eqNL_iff U.1).mpr rfl];refine iL (b5 _ _ ?_);exists 8,B6,b6
  exists 0,0,x,r,vs,qs,_,v_,1,sg _ _ ay,ir.mono sg.tk,aO.same sg,hT,hB,λv Hh sh ca cb=>[1:0:?_];cases ca rfl;refine iZ (by simp) (b6 _ _ ?_)
  have cc:=sg.trans sh;clear cb bC aP sg sh;have aQ:∀n,n=n1\/n=n2->n>(lD (dd (R++S))).map (·.1)\/g0D n (qF qs n)=none:=λn hn=>by
   rw[KA];rcases hn with rfl|rfl
   .exact bq.symm.imp (λh=>JX _ _ _ (.inr (by rw[uq];exact vf _ h))) id
   .exact bt.symm.imp (λh=>JX _ _ _ (.inr (by rw[uq];exact uN _ h))) id
  exists 8,B7,b7
  exists 0,0,sml rfl,λl4 h4=>⟨l4,1,[_:SqL.of qg],?_⟩;have m7:=qf h4 (.lst [V.str n1,V.str n2]);have e7:upd Hh l4 (.lst [V.str n1,V.str n2]) l4=u_ (.lst [V.str n1,V.str n2]):=qg;have aR:=cc.trans m7;show∃W:Nat->Nat->L2.St->Hp->Prop,(∃m,W 0 m _ (upd Hh l4 (.lst [V.str n1,V.str n2])))/\_;generalize upd Hh l4 (.lst [V.str n1,V.str n2])=Hi at m7 e7 aR⊢
  let J2_:Nat->L2.St->Hp->Prop:=λ_ σ H'=>(∃ad,σ= [u_ (-q),u_ (-L),u_ (-x),u_ (-l3),u_ (-p),u_ (.int (0+(i:Int))),u_ (!n1),u_ (!n2),u_ (-lp),u_ (-r),ad,ah,ak])/\ic Hi H'
  refine B9 (xs:= [V.str n1,V.str n2]) J2_ [⟨0⟩:ic.refl _] (λ_ σ H' _ h=>SqL.of (h.2 _ _ e7)) ?_ ?_
  .rintro j' y σ Hj hy ⟨⟨ad,rfl⟩,sj⟩;obtain⟨n,bD,hn,rfl⟩:∃n,(n=n1\/n=n2)/\nm n=v_/\y=V.str n:=by
    have:=vg hy;simp![uI,uL,uS] at this;rcases this with rfl|rfl
    .exact⟨_,.inl rfl,aJ,1⟩
    .exact⟨_,.inr rfl,aK,1⟩
   have cy:=xS hn;erw[Ab6 hT n,kk,rr,ea,cz,cd,aP,_];have nl:nL (.str kk::rr)=true:=by simp![nL,nD,cd,Uj]
   have ac:=aR.trans sj
   exists 0,0,0,x,r,vs,n,qs,_,v_,1,ac _ _ ay,ir.mono ac.tk,aO.same ac,hT,hB,(),λ_ v Hk sk iF=>?_,λh=>A8 (hn.symm.trans h) R_
   rw[A6 rfl,(AaS hT hA n).1 (aQ n bD),ea] at iF
   exists 0,0,x,n,qs,1,hn,aO.same (ac.trans sk),hT,λv2 Hl sl i8 _=>?_;rw[ea] at i8
   exists _,_,iF.mono sl.tk,i8,nl,nl,(by simp![dpL,dp];omega),0
   rw[(eqNL_iff nl).mpr rfl];exact iL [⟨0⟩:(sj.trans sk).trans sl]
  .rintro σ Hj ⟨⟨ad,rfl⟩,sj⟩;refine b7 _ _ ?_;have ac:=aR.trans sj;have ap:=ac _ _ ay;have af:=ir.mono ac.tk;have bE:dd (dd (R++S)++S)=dd (R++S):=Ab0 R S;have bF:dd (dd (R++S)++ [])=dd (R++S):=by rw[v9];exact MA (Mz _)
   have bG:dd ([]++dd (R++S))=dd (R++S):=MA (Mz _);have aA:↑(dd (R++S))<=60:=aA;have U:nL ((dd (R++S)).map stD)=v_/\dpL ((dd (R++S)).map stD)<=40:=U;have af:L2.IsL Hj ((dd (R++S)).map stD) vs:=af;generalize dd (R++S)=F at bE bF bG aA U af;exists 8,B8,b8
   exists 0,0,lp,_,_,0,1,SqL.of (ac _ _ aN),qz (j:=1) rfl,r,t2,vs,ag,F,S,1,ap,af,ac _ _ bA,bB.mono ac.tk,(),(),λr3 ce Hk sk bH aS=>?_
   rw[bE] at aS
   exists 5
   refine⟨0,_,_,⟨r3,ce,1,bH,aS⟩,⟨r,vs,1,sk _ _ ap,af.mono sk.tk⟩,U.1,U.1,by have:=U.2;omega,0,?_⟩
   rw[(eqNL_iff U.1).mpr rfl];refine iL ?_
   exists 0,uQ _,λt0 h0=>?_;have m8:=sk.trans (qf h0 (.tup ([]:om V)));have e8:upd Hk t0 (.tup ([]:om V)) t0=u_ (-[]):=qg
   exists r,t0,vs,[],F,[],1,m8 _ _ ap,af.mono m8.tk,e8,1,(),uQ _,λr4 aB Hl sl bI aT=>?_
   rw[bF] at aT;have aU:=m8.trans sl
   exists 5
   refine⟨0,_,_,⟨r4,aB,1,bI,aT⟩,⟨r,vs,1,aU _ _ ap,af.mono aU.tk⟩,U.1,U.1,by have:=U.2;omega,0,?_⟩
   rw[(eqNL_iff U.1).mpr rfl];refine iL (b8 _ _ ?_);clear aS aT bH bI m8 e8 sk sl
   exists uQ _,λt5 h5=>?_;have m9:=aU.trans (qf h5 (.tup ([]:om V)));have e9:upd Hl t5 (.tup ([]:om V)) t5=u_ (-[]):=qg
   exists 0,t5,r,[],vs,[],F,1,e9,1,m9 _ _ ap,af.mono m9.tk,uQ _,(),λr5 aC Hm sm cf bJ=>?_
   rw[bG] at bJ;have aV:=m9.trans sm
   exists 5
   refine⟨0,_,_,⟨r5,aC,1,cf,bJ⟩,⟨r,vs,1,aV _ _ ap,af.mono aV.tk⟩,U.1,U.1,by have:=U.2;omega,0,?_⟩
   rw[(eqNL_iff U.1).mpr rfl];have bK:=(bx.trans ac).trans aV;exact iL [⟨_,_,_,_,_,_,_,0⟩:Pb.same bK:sb.trans bK]
 .rintro σ Ha ⟨⟨u5,u6,u7,u8,u9,ad,ah,ak,rfl⟩,Pa,sa⟩;refine q6 _ _ ?_;exists 8,N7,q7
  exists (6),1,(),()
  let J3_:Nat->L2.St->Hp->Prop:=λi σ H'=>(∃u5 u6 u7 u8 u9 ad ah ak,σ= [u_ (-q),u_ (-L),u_ (-x),u_ (-l3),u_ (-p),u5,u6,u7,u8,u9,ad,ah,ak])/\mf H' p/\ic H4 H'
  refine JE (n:=6) J3_ [⟨_,_,_,_,_,_,_,0⟩:Pa:sa] ?_ ?_
  .rintro i σ Hb hi ⟨⟨u5,u6,u7,u8,u9,ad,ah,ak,rfl⟩,Pb,sb⟩;have aF:=sb _ _ e5;show ni _ _ _ _ Hb;exists 8,B1,b1
   exists (3),1,(),(),λA1 aG=>?_
   have nA:A1≠p:=(Pb.free aG).symm;refine X2 (lo:=0) (n:=3) (tl:= [u_ (-p),u_ (-l3)]) (λj ys H'=>mf H' p/\ic H4 H'/\∃Rs:om Pp,↑Rs=j/\L2.IsL H' (Rs.map λR=>D.tup (R.map stD)) ys/\∀R>Rs,↑R<=6/\∀s>R,IS s) () ⟨Pb.same (qf aG _),sb.trans (qf aG _),[],1,1,λR hR=>by cases hR⟩ ?_ ?_
   .rintro j ys H' hj ⟨P',s',Rs,hl,aW,hO⟩ cg hy R hR
    exists 0,0,p,l3,zs,1,P',s' _ _ e5,aw,bV,(),λt us H8 R8 K8 P8 h8 i8 l8 o8=>?_
    have bL:=K8 _ _ cg nA;have bM:Tk H8 (upd H8 A1 (.lst (ys++ [V.ref t]))):=Tk.updL bL;refine hR _ H8 bL ⟨?_,λb o e=>?_,Rs++ [R8],by rw[uF,hl];rfl,?_,λR' ch=>?_⟩
    .erw[P8,y,ey,ci];exact⟨y,by rwa[qi nA.symm],ci⟩
    .rw[qi (qk (sb _ _ e) aG)];exact K8.same s' hp _ _ e
    .rw[uq];exact((aW.mono (P'.tk P8 K8)).mono bM).append (L2.IsL.one ((show Is H8 (.tup (R8.map stD)) (-t) from⟨t,us,1,h8,i8⟩).mono bM))
    .rcases Ac.mp ch with h|h
     .exact hO R' h
     .cases Ab.mp h;exact[l8:o8]
   rintro ys Hc ⟨Pc,sc,Rs,hl,aW,hO⟩ aq;obtain⟨X,Y,Z,rfl⟩:∃X Y Z,Rs= [X,Y,Z]:=by
    rcases Rs with _|⟨X,_|⟨Y,_|⟨Z,_|⟨_,_⟩⟩⟩⟩
    .cases hl
    .cases hl
    .cases hl
    .exact⟨X,Y,Z,1⟩
    .simp at hl
   obtain⟨lX,oX⟩:=hO X (by simp)
   obtain⟨lY,oY⟩:=hO Y (by simp)
   obtain⟨lZ,oZ⟩:=hO Z (by simp)
   erw[aW,v1,r1,rfl,[t1,al,rfl,h1,i1],v2,r2,rfl,[t2,ag,rfl,h2,i2],v3,r3,rfl,[t3,bN,rfl,h3,i3],cj];cases(show r3= [] from cj)
   refine b1 _ _ ?_;have bO:∀{l:Pp},(∀s>l,IS s)->nL ((dd l).map stD)=v_/\dpL ((dd l).map stD)<=40:=λ{l} h=>Sf λs hs=>Abp (by
    rcases zI _ _ _ hs with h0|h0
    .cases h0
    .exact h s h0)
   have aX:∀{l m:Pp},(∀s>l,IS s)->(∀s>m,IS s)->∀s>l++m,IS s:=λh k s hs=>(Ac.mp hs).elim (h s) (k s);have ck:∀{l:Pp},(∀s>l,IS s)->∀s>dd l,IS s:=λh s hs=>(zI _ _ _ hs).elim (λz=>by cases z) (h s)
   have aH:=bO (aX oX oY);have cm:=Ce (X++Y);have cn:=Ce (Y++Z);rw[uF] at cm cn;exists 8,B2,b2
   exists 0,A1,_,_,0,1,SqL.of aq,qz (j:=0) rfl,0,A1,_,_,0,1,SqL.of aq,qz (j:=1) rfl,t1,t2,al,ag,X,Y,1,h1,i1,h2,i2,(),(),λr4 aB Hd sd h4 i4=>?_
   have aY:=sd _ _ aq
   exists 0,A1,_,_,0,1,SqL.of aY,qz (j:=0) rfl,0,A1,_,_,0,1,SqL.of aY,qz (j:=1) rfl,t1,t2,al,ag,X,Y,1,sd _ _ h1,i1.mono sd.tk,sd _ _ h2,i2.mono sd.tk,(),(),λr5 aC He se h5 i5=>?_
   exists 5
   refine⟨_,_,⟨r4,aB,1,se _ _ h4,i4.mono se.tk⟩,⟨r5,aC,1,h5,i5⟩,aH.1,aH.1,by have:=aH.2;omega,0,?_⟩
   rw[(eqNL_iff aH.1).mpr rfl];refine iL (b2 _ _ ?_);have am:=sd.trans se;clear h4 i4 h5 i5 aY sd se;exists 8,B3,b3;have aZ:=am _ _ aq
   exists 0,A1,_,_,0,1,SqL.of aZ,qz (j:=0) rfl,0,A1,_,_,0,1,SqL.of aZ,qz (j:=1) rfl,t1,t2,al,ag,X,Y,1,am _ _ h1,i1.mono am.tk,am _ _ h2,i2.mono am.tk,(),(),λr4 aB Hf sf h4 i4=>?_
   have aD:=am.trans sf
   exists 0,A1,_,_,0,1,SqL.of (aD _ _ aq),qz (j:=2) rfl,r4,t3,aB,bN,_,Z,1,h4,i4,aD _ _ h3,i3.mono aD.tk,(),(),λr5 aC Hg sg h5 i5=>b3 _ _ ?_
   have ao:=aD.trans sg;have a1:=ao _ _ aq;clear h4 i4 aZ sf am aD sg
   exists 0,0,A1,_,_,0,1,SqL.of a1,qz (j:=0) rfl,0,A1,_,_,0,1,SqL.of a1,qz (j:=1) rfl,0,A1,_,_,0,1,SqL.of a1,qz (j:=2) rfl,t2,t3,ag,bN,Y,Z,1,ao _ _ h2,i2.mono ao.tk,ao _ _ h3,i3.mono ao.tk,(),(),λr6 cp Hh sh h6 i6=>?_
   have bP:=ao.trans sh
   exists t1,r6,al,cp,X,0,bP _ _ h1,i1.mono bP.tk,h6,i6,(),(),λr7 cq Hi si h7 i7=>?_
   rw[<-My] at i7;have a2:=sh.trans si;have U:=bO (aX (ck (aX oX oY)) oZ)
   exists 5
   refine⟨_,_,⟨r5,aC,1,a2 _ _ h5,i5.mono a2.tk⟩,⟨r7,cq,1,h7,i7⟩,U.1,U.1,by have:=U.2;omega,0,?_⟩
   rw[(eqNL_iff U.1).mpr rfl];have bQ:=ao.trans a2;exact iL [⟨_,_,_,_,_,_,_,0⟩:Pc.same bQ:sc.trans bQ]
  .rintro σ Hb _;exact q7 _ _ (k Hb)
end
def AcH {K:o0}{h:o9}{mg:Str->oq o6}(X:K.In h)(G:h.Ns Vz mg){U Z O aa f1 f2 f3 f4 f5 f6 f7 f8 f9 aU aV aW aX aY aZ a1 a2 a3 a4 a5 a6 a7 a8 a9 bb bc bd bg bh bo bp bq bt bu bv bw bx bA bB bC bD bE bF bG bH bI bJ bK bL bM bN bO bP bQ bR bS bT bU bV bW bX bY bZ b3 b4 b5 b6 b7 b8 b9 ca cb cc cd ce cf cg ch ci cj ck cm cn cp cq cr cs:o3}{t1 t2 t3 t4 t5 t6 t7 t8 t9 cu cv:Tok}
  (aK:#[K,"Machine"]=u_ (u_ (-U))) (aL:Cls K U) (aB:PySem.W.makesIn K U=v_/\PySem.W.keepIn K (-U)=v_)
  (aO:#[K,"Going"]=u_ (u_ (-Z))) (aP:Cls K Z) (aJ:PySem.W.makesIn K Z=v_/\PySem.W.keepIn K (-Z)=v_)
  (aD:#[K,"PlainOrder"]=u_ (u_ (-O))) (aE:Cls K O) (af:PySem.W.makesIn K O=v_/\PySem.W.keepIn K (-O)=v_)
  (aM:#[K,"Project"]=u_ (u_ (-aa))) (aN:Cls K aa) (aC:PySem.W.makesIn K aa=v_/\PySem.W.keepIn K (-aa)=v_)
  (h1:FZg K "is_text" WG f1)
  (h2:FZg K "is_tree" XT f2)
  (h3:FZg K "is_name" WH f3)
  (h4:FZg K "is_pair" WD f4)
  (h5:FZg K "is_row_of_names" Yb f5)
  (h6:FZg K "is_answer" xD f6)
  (h7:FZg K "part_of" wB f7)
  (h8:FZg K "pieces_of" Xj f8)
  (h9:FZg K "row_of" ZU f9)
  (h10:FZg K "read_lines" Jl aU)
  (h11:FZg K "rule_rows" Xo aV)
  (h12:FZg K "bad_line" zH aW)
  (h13:FZg K "is_rule" WA aX)
  (cw:FZg K "text_made" Xu aY)
  (cx:FZg K "self_made" xV aZ)
  (cy:FZg K "copy_made" Xq a1)
  (cz:FZg K "row_made" zw a2)
  (cA:FZg K "put_made" zK a3)
  (cB:FZg K "join_made" xL a4)
  (cC:FZg K "first_made" JO a5)
  (cD:FZg K "rest_made" Xp a6)
  (cE:FZg K "size_made" xM a7)
  (cF:FZg K "cut_made" zy a8)
  (cG:FZg K "glue_made" Xa a9)
  (cH:FZg K "is_jump_taken" YS bb)
  (cI:FZg K "asked_or_fault" Yr bc)
  (aQ:FZm K U "__init__" "Machine.__init__" ji bd)
  (cJ:FZm K U "now" "Machine.now" jH bg)
  (cK:FZm K U "answer" "Machine.answer" Yp bh)
  (cL:FZm K U "asked" "Machine.asked" YE bo)
  (cM:FZm K U "go_on" "Machine.go_on" YT bp)
  (cN:FZm K U "is_waiting" "Machine.is_waiting" ye bq)
  (cO:FZm K U "do_row" "Machine.do_row" Yo bt)
  (cP:FZm K U "hold" "Machine.hold" jg bu)
  (cQ:FZg K "asks_that_stand" yV bv)
  (cR:FZg K "does" DN bw)
  (aR:FZm K Z "__init__" "Going.__init__" JS bx)
  (cS:FZm K Z "begin" "Going.begin" jG bA)
  (cT:FZm K Z "look" "Going.look" JC bB)
  (cU:FZm K Z "wanted" "Going.wanted" jf bC)
  (cV:FZm K Z "take" "Going.take" JU bD)
  (cW:FZm K Z "full" "Going.full" Ju bE)
  (aS:FZm K O "__init__" "PlainOrder.__init__" y7 bF)
  (cX:FZm K O "begin_anew" "PlainOrder.begin_anew" QW bG)
  (cY:FZm K O "go_through" "PlainOrder.go_through" QU bH)
  (cZ:FZm K O "enter" "PlainOrder.enter" yE bI)
  (c0:FZm K O "settle" "PlainOrder.settle" yr bJ)
  (c1:FZm K O "runner" "PlainOrder.runner" yt bK)
  (c2:FZm K O "leave" "PlainOrder.leave" yP bL)
  (c3:FZm K O "go_on" "PlainOrder.go_on" yB bM)
  (c4:FZm K O "answer_yet" "PlainOrder.answer_yet" QS bN)
  (c5:FZg K "answer_at_once" Yt bO)
  (c6:FZg K "has_run" Wq bP)
  (c7:FZg K "answer_by" xJ bQ)
  (c8:FZg K "check_name" JY bR)
  (c9:FZg K "check_names" jZ bS)
  (da:FZg K "order_from" Jp bT)
  (de:FZg K "order_over" JF bU)
  (dh:FZg K "answer_of" Xm bV)
  (di:FZg K "paper_of" xb bW)
  (dj:FZg K "put_together" jl bX)
  (dk:FZg K "first_wrong" jK bY)
  (dl:FZg K "first_ends" Jv bZ)
  (dm:FZg K "wrong_word" Y3 b3)
  (dq:FZg K "is_right_answer" Ya b4)
  (dt:FZg K "is_full_run" jM b5)
  (dv:FZg K "is_run_of" xT b6)
  (dw:FZg K "shown" sZ b7)
  (dy:FZg K "is_source" Xh b8)
  (aT:FZm K aa "__init__" "Project.__init__" Yd b9)
  (dz:FZm K aa "sources" "Project.sources" jw ca)
  (dA:FZm K aa "source_of" "Project.source_of" yl cb)
  (dB:FZm K aa "looked_up" "Project.looked_up" QT cc)
  (dC:FZg K "longest_row" jP cd)
  (dD:FZg K "_law_cell_at" jC ce)
  (dE:FZg K "_law_pot" Wz cf)
  (dF:FZg K "_law_take" zN cg)
  (dG:FZg K "_law_word" zD ch)
  (dH:FZg K "_law_line" J5 ci)
  (dI:FZg K "_law_rule" J3 cj)
  (dJ:FZg K "_law_maker" Xn ck)
  (dL:FZg K "_law_leaf" J7 cm)
  (dM:FZg K "_law_source" JN cn)
  (dN:FZg K "_law_sources" jV cp)
  (dO:FZg K "_law_due" Wj cq)
  (dP:FZg K "_law_odd_paper" YF cr)
  (dQ:FZg K "law" Lx cs)
  (ax:#[K,U,"rows"])
  (ay:#[K,U,"rule"])
  (aF:#[K,U,"own"])
  (ao:#[K,U,"boxes"])
  (ap:#[K,U,"place"])
  (aA:#[K,U,"done"])
  (aq:#[K,U,"given"])
  (au:#[K,U,"there"])
  (aH:#[K,Z,"name"])
  (aG:#[K,Z,"order"])
  (aw:#[K,Z,"made_by"])
  (ak:#[K,Z,"rule_asks"])
  (am:#[K,Z,"rule_run"])
  (aI:#[K,Z,"end"])
  (ac:#[K,O,"given_project"])
  (ag:#[K,O,"stack"])
  (ad:#[K,O,"under_way"])
  (ae:#[K,O,"full_runs"])
  (ah:#[K,O,"found"])
  (al:#[K,aa,"by_name"])
  (g1:#[K,"MOST_SIGNS"]=u_ (u_ (.int 300 t1)))
  (g2:#[K,"MOST_PARTS"]=u_ (u_ (.int 40 t2)))
  (g3:#[K,"MOST_SIZE"]=u_ (u_ (.int 600 t3)))
  (g4:#[K,"MOST_DEPTH"]=u_ (u_ (.int 12 t4)))
  (g5:#[K,"MOST_NAME_SIGNS"]=u_ (u_ (.int 24 t5)))
  (g6:#[K,"LETTERS"]=u_ (u_ (.str "abcdefghijklmnopqrstuvwxyz" t6)))
  (g7:#[K,"NAME_SIGNS"]=u_ (u_ (.str "abcdefghijklmnopqrstuvwxyz0123456789./" t7)))
  (g8:#[K,"PERCENT"]=u_ (u_ (.int 37 t8)))
  (g9:#[K,"MOST_LINES"]=u_ (u_ (.int 40 t9)))
  (dR:#[K,"MOST_DONE"]=u_ (u_ (.int 300 cu)))
  (dS:#[K,"MOST_NAMES"]=u_ (u_ (.int 60 cv)))
  (zz:∀x>(["ord","len","isinstance","str","tuple","all","int","range","zip","dict","enumerate","sorted","abs","min","sum"]:om Str),PySem.W.nsIn K Vz x=u_ U_):∃a,Tx K mg a:=by
 exists 6,d1,F1,qZ,h1,["value"];exists 6,d2,F2,qZ,h2,["value"];exists 6,d3,F3,qZ,h3,["value"];exists 6,d4,F4,qZ,h4,["value"];exists 6,d5,F5,qZ,h5,["tree"];exists 6,d6,F6,qZ,h6,["ask","answer"];exists 6,d7,F7,qZ,h7,["kind","piece","count"];exists 6,d8,F8,qZ,h8,["line","form"];exists 6,d9,F9,qZ,h9,["line","count"];exists 6,dU,dV,qZ,h10,["value"];exists 6,dW,dX,qZ,h11,["tree"];exists 6,dY,dZ,qZ,h12,["tree"];exists 6,d0,ea,qZ,h13,["value"];exists 6,eb,ec,qZ,cw,["boxes","own","parts"];exists 6,ef,eg,qZ,cx,["boxes","own","parts"];exists 6,eh,ei,qZ,cy,["boxes","own","parts"];exists 6,ej,ek,qZ,cz,["boxes","own","parts"];exists 6,el,em,qZ,cA,["boxes","own","parts"];exists 6,eo,eq,qZ,cB,["boxes","own","parts"];exists 6,er,et,qZ,cC,["boxes","own","parts"];exists 6,eu,ey,qZ,cD,["boxes","own","parts"];exists 6,ez,eA,qZ,cE,["boxes","own","parts"];exists 6,eB,eC,qZ,cF,["boxes","own","parts"];exists 6,eD,eE,qZ,cG,["boxes","own","parts"];exists 6,eF,eG,qZ,cH,["boxes","word","parts"];exists 6,eH,eI,qZ,cI,["word","held"];obtain⟨eJ,eK⟩:=y8 aQ ["self","rule","own"] (by rfl');obtain⟨eL,eM⟩:=y8 cJ ["self"] (by rfl');obtain⟨eN,eO⟩:=y8 cK ["self","tree"] (by rfl');obtain⟨eP,eQ⟩:=y8 cL ["self"] (by rfl');obtain⟨eR,eS⟩:=y8 cM ["self"] (by rfl');obtain⟨eT,eU⟩:=y8 cN ["self"] (by rfl');obtain⟨eV,eW⟩:=y8 cO ["self","row"] (by rfl');obtain⟨eX,eY⟩:=y8 cP ["self","box","tree"] (by rfl');exists 6,eZ,e0,qZ,cQ,["machine","asks"];exists 6,e1,e2,qZ,cR,["rule","own","run"];obtain⟨e3,e4⟩:=y8 aR ["self","name","source","order"] (by rfl');obtain⟨e5,e6⟩:=y8 cS ["self","rule"] (by rfl');obtain⟨e7,e8⟩:=y8 cT ["self"] (by rfl');obtain⟨e9,fa⟩:=y8 cU ["self"] (by rfl');obtain⟨fb,fc⟩:=y8 cV ["self","answer"] (by rfl');obtain⟨fe,ff⟩:=y8 cW ["self"] (by rfl');obtain⟨fg,fh⟩:=y8 aS ["self","project"] (by rfl');obtain⟨fi,fj⟩:=y8 cX ["self","project"] (by rfl');obtain⟨fm,fo⟩:=y8 cY ["self","name"] (by rfl');obtain⟨fq,ft⟩:=y8 cZ ["self","name"] (by rfl');obtain⟨fu,fv⟩:=y8 c0 ["self","going"] (by rfl');obtain⟨fw,fx⟩:=y8 c1 ["self","rule","own"] (by rfl');obtain⟨fy,fz⟩:=y8 c2 ["self","going"] (by rfl');obtain⟨fA,fB⟩:=y8 c3 ["self","going"] (by rfl');obtain⟨fC,fD⟩:=y8 c4 ["self","name"] (by rfl');exists 6,fE,fF,qZ,c5,["source"];exists 6,fG,fH,qZ,c6,["source"];exists 6,fI,fJ,qZ,c7,["end"];exists 6,fK,fL,qZ,c8,["name"];exists 6,fM,fN,qZ,c9,["names"];exists 6,fO,fP,qZ,da,["project","name"];exists 6,fQ,fR,qZ,de,["project","names"];exists 6,fS,fT,qZ,dh,["project","name"];exists 6,fU,fV,qZ,di,["project","name"];exists 6,fW,fX,qZ,dj,["paper","other"];exists 6,fY,fZ,qZ,dk,["project","paper"];exists 6,f0,gb,qZ,dl,["paper"];exists 6,gc,ge,qZ,dm,["project","ends","earlier","step"];exists 6,gf,gg,qZ,dq,["project","earlier","ask","answer"];exists 6,gh,gj,qZ,dt,["source","name","asks","end"];exists 6,gk,gl,qZ,dv,["rule","own","asks","end"];exists 6,gm,gp,qZ,dw,["project","paper","name"];exists 6,gq,gr,qZ,dy,["value"];obtain⟨gu,gv⟩:=y8 aT ["self","sources"] (by rfl');obtain⟨gw,gx⟩:=y8 dz ["self"] (by rfl');obtain⟨gy,gz⟩:=y8 dA ["self","name"] (by rfl');obtain⟨gA,gB⟩:=y8 dB ["self","ask"] (by rfl');exists 6,gC,gD,qZ,dC,["names"];exists 6,gE,gF,qZ,dD,["script","k"];exists 6,gG,gH,qZ,dE,["cell","salt"];exists 6,gI,gJ,qZ,dF,["pot","many"];exists 6,gK,gL,qZ,dG,["pot","names"];exists 6,gM,gN,qZ,dH,["pot","names","many","k"];exists 6,gO,gP,qZ,dI,["pot","names"];exists 6,gQ,gR,qZ,dJ,["pot","names"];exists 6,gS,gT,qZ,dL,["pot","names"];exists 6,gU,gW,qZ,dM,["pot","names"];exists 6,gX,gY,qZ,dN,["script"];exists 6,gZ,hb,qZ,dO,["paper","other"];exists 6,hc,he,qZ,dP,["pot","names"];exists 6,hf,hg,qZ,dQ,["script"];have z:∀x>(["ord","len","isinstance","str","tuple","all","int","range","zip","dict","enumerate","sorted","abs","min","sum"]:om Str),mg x=none:=λx hx=>PySem.W.mg_none_of X G (zz x hx);simp![uI,uW,uS,forall_eq_or_imp,forall_eq] at z;erw[z,z1,z2,z3,z4,z5,z6,z7,z8,z9,hh,hj,hk,hl,ho,hp];exact[⟨f1,d1,f2,d2,f3,d3,f4,d4,f5,d5,f6,d6,f7,d7,f8,d8,f9,d9,aU,dU,aV,dW,aW,dY,aX,d0,aY,eb,aZ,ef,a1,eh,a2,ej,a3,el,a4,eo,a5,er,a6,eu,a7,ez,a8,eB,a9,eD,bb,eF,bc,eH,bd,eJ,bg,eL,bh,eN,bo,eP,bp,eR,bq,eT,bt,eV,bu,eX,bv,eZ,bw,e1,bx,e3,bA,e5,bB,e7,bC,e9,bD,fb,bE,fe,bF,fg,bG,fi,bH,fm,bI,fq,bJ,fu,bK,fw,bL,fy,bM,fA,bN,fC,bO,fE,bP,fG,bQ,fI,bR,fK,bS,fM,bT,fO,bU,fQ,bV,fS,bW,fU,bX,fW,bY,fY,bZ,f0,b3,gc,b4,gf,b5,gh,b6,gk,b7,gm,b8,gq,b9,gu,ca,gw,cb,gy,cc,gA,cd,gC,ce,gE,cf,gG,cg,gI,ch,gK,ci,gM,cj,gO,ck,gQ,cm,gS,cn,gU,cp,gX,cq,gZ,cr,hc,cs,hf,U,Z,O,aa⟩:⟨F1,F2,F3,F4,F5,F6,F7,F8,F9,dV,dX,dZ,ea,ec,eg,ei,ek,em,eq,et,ey,eA,eC,eE,eG,eI,eK,eM,eO,eQ,eS,eU,eW,eY,e0,e2,e4,e6,e8,fa,fc,ff,fh,fj,fo,ft,fv,fx,fz,fB,fD,fF,fH,fJ,fL,fN,fP,fR,fT,fV,fX,fZ,gb,ge,gg,gj,gl,gp,gr,gv,gx,gz,gB,gD,gF,gH,gJ,gL,gN,gP,gR,gT,gW,gY,hb,he,hg,aL,⟨aB.1,aQ.1,aQ.2.1,aB.2⟩,uU X G aK,ax,ay,aF,ao,ap,aA,aq,au,aP,⟨aJ.1,aR.1,aR.2.1,aJ.2⟩,uU X G aO,aH,aG,aw,ak,am,aI,aE,⟨af.1,aS.1,aS.2.1,af.2⟩,uU X G aD,ac,ag,ad,ae,ah,aN,⟨aC.1,aT.1,aT.2.1,aC.2⟩,uU X G aM,al,[_:uU X G g1],[_:uU X G g2],[_:uU X G g3],[_:uU X G g4],[_:uU X G g5],[_:uU X G g6],[_:uU X G g7],[_:uU X G g8],[_:uU X G g9],[_:uU X G dR],[_:uU X G dS],z1,z2,z3,z4,z5,z6,z7,z8,z9,hh,hj,hk,hl,ho,hp⟩]
variable {K:o0}{h:o9}{mg:Str->oq o6}{f:o3}{x:Str}
def mk1 (X:K.In h)(G:h.Ns Vz mg){O:o3}{y:Str}(z:∃m,PySem.W.nsIn K Vz y=u_ (u_ (-m))/\PySem.W.nsIn K O x=u_ (u_ (-m)))(e:mg y=u_ (-f)):PySem.W.nsIn K O x=u_ (u_ (-f)):=by
 erw[z,m,h1,h2];have:=(uU X G h1).symm.trans e;injection this with this
 injection this with this
 rw[<-this];exact h2
abbrev MKP:om (Str×Str):= [("text","text_made"),("self","self_made"),("copy","copy_made"),("row","row_made"),("put","put_made"),("join","join_made"),("first","first_made"),("rest","rest_made"),("size","size_made"),("cut","cut_made"),("glue","glue_made")]
abbrev AbG (e:GG):oq Str:=match e.key with
 | .str x _=>u_ x
 |_=>U_
variable {a:o3}{es:Array GG}{n:Nat}{z:Str}
def Kr (hl:K.lookup a=u_ ⟨.type "dict",U_,.dict es n,#[]⟩)(hk:es.toList.map AbG=FRM.map λx=>u_ x.1)(hz:xx z=U_):PySem.W.nsIn K a z=u_ none:=by
 have h1:∀e>es.toList,∃x t,e.key= .str x t/\x≠z:=by
  intro e U;have hm:AbG e>es.toList.map AbG:=Ae.mpr [e:U:1];rw[hk] at hm;erw[Ae.mp hm,x,Z,ex];have O:=Z2 hz x Z;unfold AbG at ex;split at ex
  .rename_i y t hy
   cases ex;exact⟨_,_,hy,O⟩
  .cases ex
 unfold PySem.W.nsIn;rw[hl]
 try dsimp only
 have f1:es.toList.find? (λe=>e.key.isStr z)=none:=by
  rw[Uv];intro e U;erw[h1 e U,x,t,Z,O];rw[Z];exact λq=>O (uA q)
 have f2:es.toList.any (·.refKey)=false:=by
  rw[T8];intro e U;erw[h1 e U,x,t,Z,O];unfold rV;rw[Z];exact ud
 rw[f1,f2]
 rfl
def Adr {w:oh}{K:o0}{h:o9}{mg:Str->oq o6}{a:Ad}(T:Tx K mg a)(X:K.In h)(G:h.Ns Vz mg){aB aA aF aM Z O U aW:o3}{eF eM:Array GG}{nF nM:Nat}
  (gB:#[K,"BOXES"]=u_ (u_ (-aB))) (gA:#[K,"ASKING"]=u_ (u_ (-aA))) (gF:#[K,"FORMS"]=u_ (u_ (-aF))) (gM:#[K,"MAKERS"]=u_ (u_ (-aM)))
  (lB:TZ K aB BX) (lA:TZ K aA ["ask","has","names"]) (lF:K.lookup aF=u_ ⟨.type "dict",U_,.dict eF nF,#[]⟩) (lM:K.lookup aM=u_ ⟨.type "dict",U_,.dict eM nM,#[]⟩)
  (kF:PySem.W.KeysLit w.params eF.toList) (kM:PySem.W.KeysLit w.params eM.toList) (zF:(aF==Vy)=Vc) (zM:(aM==Vy)=Vc)
  (fF:∀x>FRM,TZn K aF x.1 (x.2.map Kd.t)) (fM:∀p>MKP,∃m,PySem.W.nsIn K Vz p.2=u_ (u_ (-m))/\PySem.W.nsIn K aM p.1=u_ (u_ (-m))) (oM:∀z>Acf,PySem.W.nsIn K aM z=u_ U_)
  (kk:eF.toList.map AbG=FRM.map λx=>u_ x.1)
  (g1:#[K,"BadRule"]=u_ (u_ (-Z))) (b1:PySem.W.excIn K Z VE "ValueError.__new__"=v_)
  (g2:#[K,"BadName"]=u_ (u_ (-O))) (b2:PySem.W.excIn K O VE "ValueError.__new__"=v_)
  (g3:#[K,"BadAnswer"]=u_ (u_ (-U)))
  (e3:PySem.W.exmOne K (-U) (-U)=u_ v_)
  (gW:#[K,"WrightError"]=u_ (u_ (-aW)))
  (e2:PySem.W.exmOne K (-O) (-aW)=u_ v_) (x2:AwV.ExcCls K O):∃g,Fx K w mg g a:=by
 exists ⟨aB,aA,aF,aM,Z,O,U,aW⟩,⟨uU X G gB,uU X G gA,uU X G gF,uU X G gM,λH=>lB.sq (),λH=>lA.sq (),⟨zF,eF,nF,lF,kF⟩,λx hx=>?_,⟨zM,eM,nM,lM,kM⟩,mk1 X G (fM ("text","text_made") ()) T.lc.m,mk1 X G (fM ("self","self_made") ()) T.lh.m,mk1 X G (fM ("copy","copy_made") ()) T.lz.m,mk1 X G (fM ("row","row_made") ()) T.lK.m,mk1 X G (fM ("put","put_made") ()) T.lN.m,mk1 X G (fM ("join","join_made") ()) T.ll.m,mk1 X G (fM ("first","first_made") ()) T.iV.m,mk1 X G (fM ("rest","rest_made") ()) T.lj.m,mk1 X G (fM ("size","size_made") ()) T.lf.m,mk1 X G (fM ("cut","cut_made") ()) T.lQ.m,mk1 X G (fM ("glue","glue_made") ()) T.lr.m,oM,λz hz=>Kr lF kk hz,uU X G g1,b1,uU X G g2,b2,uU X G g3,e3,uU X G gW,e2,x2⟩
 erw[fF x hx,q,h1,h2];exact⟨q,h1,λH=>by rw[zV];exact h2.sq (by rw[uc];exact uY (BZ x hx) ())⟩
end K45
open PySem PySem.W PyProof.Rows L2
set_option maxRecDepth 100000 in
set_option maxHeartbeats 0 in
theorem PySem.Challenge.cw_askwright_k45_papers_put_together_holds : PySem.Challenge.rw_askwright_k45_papers_put_together.Holds := by
 w_on;o_law;k_head;(case hw=>w_witness2)
 k_fill
 refine L2.IX (l:=PySem.Challenge.rw_askwright_k45_papers_put_together) (n:=63) (k:=18) (x:="script") (CX:=L2.CX0) (sp:=K45.MV) rfl (by decide) rfl ⟨rfl,by decide,by decide⟩ (fun w h Y=>PySem.W.kIn_of Y) ?F ?S ?C
 case F=>
  intro w mg fa h KX G hmg
  have T:∃a,K45.Tx (L2.KOf KX) mg a:=by
   try dsimp only [L2.KOf]
   refine' K45.AcH KX G ..
   all_goals first|exact⟨by k_is,_,_,_,_,_,_,_,_,_,by k_is,by k_is,by k_is⟩|exact⟨by k_is,by k_is,_,_,_,_,_,_,_,_,_,by k_is,by k_is,by k_is⟩|(show _=_;k_is)|exact⟨by k_is,by k_is,by k_is,by k_is⟩|exact⟨by k_is,by k_is⟩|(intro x hx;simp only [uI,uW,uS] at hx;rcases hx with rfl|rfl|rfl|rfl|rfl|rfl|rfl|rfl|rfl|rfl|rfl|rfl|rfl|rfl|rfl<;>k_is)|skip
  erw[T,a,T]
  have C:∃g,K45.Fx (L2.KOf KX) w mg g a:=by
   try dsimp only [L2.KOf] at T⊢
   refine' K45.Adr T KX G (kF:= ?kF) (kM:= ?kM) (fF:= ?fF) (fM:= ?fM) (oM:= ?oM) (kk:= ?kk) (b1:= ?b1) (b2:= ?b2) (e3:= ?e3) (e2:= ?e2) (x2:= ?x2) ..
   all_goals try (first|(show _=u_ (u_ _);k_is)|(show _=u_ (Obj.mk _ _ _ _);k_is)|exact⟨_,_,_,_,by k_is,rfl⟩)
   (case kF=>(repeat (first|exact trivial|refine[⟨_,_,rfl,rfl⟩:?_])));(case kM=>(repeat (first|exact trivial|refine[⟨_,_,rfl,rfl⟩:?_])))
   case fF=>
    intro x hx
    unfold FRM at hx
    simp only [uI,uW,uS] at hx
    rcases hx with rfl|rfl|rfl|rfl|rfl|rfl|rfl|rfl|rfl|rfl|rfl|rfl|rfl|rfl|rfl|rfl|rfl|rfl|rfl|rfl<;>exact⟨_,by k_is,_,_,_,_,by k_is,rfl⟩
   case fM=>
    intro x hx
    unfold K45.MKP at hx
    simp only [uI,uW,uS] at hx
    rcases hx with rfl|rfl|rfl|rfl|rfl|rfl|rfl|rfl|rfl|rfl|rfl<;>exact⟨_,by k_is,by k_is⟩
   case oM=>
    intro x hx
    unfold K45.Acf at hx
    simp only [uI,uW,uS] at hx
    rcases hx with rfl|rfl|rfl|rfl|rfl|rfl|rfl|rfl|rfl<;>k_is
   (case kk=>rfl);(case b1=>k_exc);(case b2=>k_exc);(case e3=>kts_exm);(case e2=>kts_exm);(case x2=>exact⟨by k_is,by k_is,by k_is,by k_is,by k_is,by k_is,by k_is⟩)
   all_goals rfl
  erw[C,g,C]
  have e0:=hmg.symm.trans T.BV.m
  cases e0
  exact⟨_,T.BV.law (fun _ _ _ _ _ _ _=>rfl),(by erw[T.BV.F.ex,_,_,_,_,_,_,_,_,_,e,_];rw [e];rfl),fun base kb nb=>K45.Abk T C⟩
 case S=>exact fun w H a ns hl hO hS=>⟨a,ns,rfl,hS,hl,fun _=>rfl⟩
 case C=>exact fun _ _ _ _ z=>z
